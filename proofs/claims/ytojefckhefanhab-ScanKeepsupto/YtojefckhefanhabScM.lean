/- scan.Scanner: a set of texts in memory (own text of the verifier). -/
import Derived.Test.YtojefckhefanhabScL
import Derived.Maps.OwnSet
import Derived.Maps.Keyed
import Derived.StringKeys
namespace Go.Proofs.Ytojefckhefanhab
open Go.RowKit Go.Maps Go.WideMaps
namespace Sc

theorem undM : Try.prog.underlying 43 = some (.map 9 50) := by kernel_rfl
theorem lawS : Keyed Try.prog 9 := string_keyed Try.underlying9
theorem zeroU (w : World) : (zeroValue 50).run Try.prog w = .ok (.agg #[]) w := by kernel_rfl
/-- What stands at a text in a set: nothing to tell. -/
def rS : Value → Option (DataW Unit × List MemPlace)
  | .agg a => if a.size = 0 then some (.lit (.bool true), []) else none
  | _ => none
theorem rS_one {v : Value} {d : DataW Unit} {ps : List MemPlace} (h : rS v = some (d, ps)) : v = .agg #[] := by
  unfold rS at h
  split at h
  · rename_i a
    by_cases e : a.size = 0
    · rw [Array.eq_empty_of_size_eq_zero e]
    · rw [if_neg e] at h; cases h
  · cases h
/-- Block m is a set of at most N texts, those in S. -/
def SetM (W : World) (m N : Nat) (S : List (List UInt8)) : Prop := ∃ n D, n ≤ N ∧ W.ownsMap Try.prog 9 rS m n D ∧ ∀ h : List UInt8, Maps.has D (.string h) = true ↔ h ∈ S
theorem SetM.lt {W : World} {m N : Nat} {S : List (List UInt8)} (h : SetM W m N S) : m < W.heap.size := by obtain ⟨n, D, _, h, _⟩ := h; exact h.lt
theorem SetM.same {W W' : World} {m N : Nat} {S : List (List UInt8)} (h : SetM W m N S) (e : W'.heap[m]? = W.heap[m]?) : SetM W' m N S := by
  obtain ⟨n, D, hn, ⟨es, cl, h1, h2⟩, hs⟩ := h
  exact ⟨n, D, hn, ⟨es, cl, e.trans h1, h2⟩, hs⟩
theorem SetM.isMap {W : World} {m N : Nat} {S : List (List UInt8)} (h : SetM W m N S) : ∃ es cl, W.heap[m]? = some (.map es cl) := by
  obtain ⟨n, D, hn, ⟨es, cl, h1, h2⟩, hs⟩ := h
  exact ⟨es, cl, h1⟩
theorem SetM.made (w : World) : SetM (w.alloc (.map #[] 0)) w.heap.size 0 [] :=
  ⟨0, _, Nat.le_refl _, World.ownsMap_made w Try.prog 9 rS, fun h => by simp [has_eq]⟩
theorem SetM.look {W : World} {m N : Nat} {S : List (List UInt8)} (h : SetM W m N S) (s : ByteArray) (hs : s.size ≤ maxLen) : ∃ b, (Instr.lookup 43 (.map (some m)) (.string s) true).run Try.prog W = .ok (.tuple #[.agg #[], .bool b]) W ∧ (b = true ↔ s.data.toList ∈ S) := by
  obtain ⟨n, D, hn, ho, hm⟩ := h
  obtain ⟨v, ps, hr, hv⟩ := ho.look_ok lawS undM (zeroU W) (zd := .lit (.bool true)) (zp := []) rfl (keyOf_string_mk Try.underlying9 hs)
  obtain rfl := rS_one hv
  exact ⟨_, hr, hm _⟩
theorem SetM.del {W : World} {m N : Nat} {S : List (List UInt8)} (h : SetM W m N S) (s : ByteArray) (hs : s.size ≤ maxLen) (ty : TypeId) : ∃ W' S', (Builtin.delete_ #[43, 9] ty #[.map (some m), .string s]).run Try.prog W = .ok (.tuple #[]) W' ∧ SetM W' m N S' ∧ (∀ g, g ∈ S' ↔ g ∈ S ∧ g ≠ s.data.toList) ∧ W.mapTurned W' m := by
  obtain ⟨n, D, hn, ho, hm⟩ := h
  obtain ⟨W', hr, ho', ht⟩ := ho.drop lawS undM (keyOf_string_mk Try.underlying9 hs) ty
  refine ⟨W', S.filter (fun g => g ≠ s.data.toList), hr, ⟨n, _, hn, ho', fun g => ?_⟩, fun g => by simp, ht⟩
  by_cases e : g = s.data.toList
  · subst e
    rw [has_del_same]
    simp
  · rw [has_del_other (fun q => e (by injection q)), hm g]
    simp [e]
theorem SetM.put {W : World} {m N : Nat} {S : List (List UInt8)} (h : SetM W m N S) (hN : N < maxLen) (s : ByteArray) (hs : s.size ≤ maxLen) : ∃ W', (Instr.mapUpdate 43 (.map (some m)) (.string s) (.agg #[])).run Try.prog W = .ok () W' ∧ SetM W' m (N + 1) (s.data.toList :: S) ∧ W.mapTurned W' m := by
  obtain ⟨n, D, hn, ho, hm⟩ := h
  have hk := keyOf_string_mk Try.underlying9 hs
  obtain ⟨W', hr, ho', ht⟩ := ho.store (val := .agg #[]) lawS undM (by omega) hk (d := .lit (.bool true)) (ps := []) rfl
  refine ⟨W', hr, ⟨n + 1, _, by omega, ho', fun g => ?_⟩, ht⟩
  by_cases e : g = s.data.toList
  · subst e
    rw [has_put_same ho.isMap (lawS.key hk)]
    simp
  · rw [has_put_other (fun q => e (by injection q)), hm g]
    simp [e]

end Sc
end Go.Proofs.Ytojefckhefanhab
