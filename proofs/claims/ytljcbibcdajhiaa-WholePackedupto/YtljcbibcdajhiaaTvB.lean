/- The walk of a tree: node, walked. -/
import Derived.Test.YtljcbibcdajhiaaTvA
import Derived.Test.YtljcbibcdajhiaaJoC
import Derived.Deep.RegionLaw
import Derived.Deep.RegionWith
namespace Go.Proofs.Ytljcbibcdajhiaa
open Go.RowKit

mutual
def smT : Tr → Prop
  | .mk _ _ t ns ks => t.size ≤ 1048576 ∧ smL ns ks
def smL : List ByteArray → List Tr → Prop
  | s :: ns, T :: ks => s.size ≤ 1048576 ∧ smT T ∧ smL ns ks
  | _, _ => True
end
theorem smL_at (ns : List ByteArray) : ∀ (ks : List Tr) (i : Nat) (s : ByteArray) (T : Tr), smL ns ks → ns[i]? = some s → ks[i]? = some T → s.size ≤ 1048576 ∧ smT T := by
  induction ns with
  | nil => intro ks i s T _ h; simp at h
  | cons a ns ih =>
    intro ks i s T h0 h1 h2
    cases ks with
    | nil => simp at h2
    | cons K ks =>
      rw [smL] at h0
      cases i with
      | zero =>
        simp at h1 h2
        subst h1 h2
        exact ⟨h0.1, h0.2.1⟩
      | succ i => exact ih ks i s T h0.2.2 (by simpa using h1) (by simpa using h2)
theorem drop_at {α : Type} {l : List α} {i : Nat} {a : α} (h : l[i]? = some a) : l.drop i = a :: l.drop (i + 1) := by
  obtain ⟨hi, rfl⟩ := List.getElem?_eq_some_iff.1 h
  exact List.drop_eq_getElem_cons hi
theorem vL_at (ns : List ByteArray) (b : Int) (prev : Option ByteArray) (nms : List ByteArray) (ks : List Tr) (i : Nat) (s : ByteArray) (T : Tr) (hs : nms[i]? = some s) (hT : ks[i]? = some T) :
    vL ns b prev (nms.drop i) (ks.drop i) = if entO prev s b ≠ 0 then ⟨b, some (joinB (ns ++ [s]), entO prev s b)⟩
    else match (vT (ns ++ [s]) (b + ebP s) T).off with
      | none => vL ns (vT (ns ++ [s]) (b + ebP s) T).bytes (some s) (nms.drop (i + 1)) (ks.drop (i + 1))
      | some o => ⟨(vT (ns ++ [s]) (b + ebP s) T).bytes, some o⟩ := by
  rw [drop_at hs, drop_at hT, vL]
  rfl
theorem vL_end (ns : List ByteArray) (b : Int) (prev : Option ByteArray) (ks : List Tr) : vL ns b prev [] ks = ⟨b, none⟩ := by rw [vL]; simp
mutual
theorem vT_bd (ns : List ByteArray) (b : Int) : ∀ T : Tr, (vT ns b T).off = none → 0 ≤ b → b ≤ 1048576 → 0 ≤ (vT ns b T).bytes ∧ (vT ns b T).bytes ≤ 1048576
  | .mk k e t nms ks => fun h h0 h1 => by
    have hn := nbP_bd k e t
    rw [vT] at h ⊢
    split at h
    · cases h
    · rename_i h1
      rw [if_neg h1]
      split at h
      · cases h
      · rename_i h2
        rw [if_neg h2]
        split at h
        · cases h
        · rename_i h3
          rw [if_neg h3]
          exact vL_bd ns (b + nbP k e t) none nms ks h (by omega) (by omega)
theorem vL_bd (ns : List ByteArray) (b : Int) (prev : Option ByteArray) : ∀ (nms : List ByteArray) (ks : List Tr), (vL ns b prev nms ks).off = none → 0 ≤ b → b ≤ 1048576 → 0 ≤ (vL ns b prev nms ks).bytes ∧ (vL ns b prev nms ks).bytes ≤ 1048576
  | s :: nms, T :: ks => fun h h0 h1 => by
    rw [vL] at h ⊢
    split at h
    · cases h
    · rename_i h2
      rw [if_neg h2]
      have he := entO_ok prev s b (by omega)
      have hb := ebP_bd s
      cases hv : (vT (ns ++ [s]) (b + ebP s) T).off with
      | some o => rw [hv] at h; cases h
      | none =>
        rw [hv] at h
        have e1 := vT_bd (ns ++ [s]) (b + ebP s) T hv (by omega) (by omega)
        exact vL_bd ns (vT (ns ++ [s]) (b + ebP s) T).bytes (some s) nms ks h e1.1 e1.2
  | [], _ => fun _ h0 h1 => by rw [vL] <;> simp <;> omega
  | _ :: _, [] => fun _ h0 h1 => by rw [vL] <;> simp <;> omega
end

/-- Block K holds a node. -/
def NB (w : World) (K : Nat) (k : Int) (e : Bool) (t : ByteArray) (x : Option Addr) (n c : Nat) : Prop := w.heap[K]? = some (.cells #[.int .i64 k, .bool e, .string t, .slice x n c] 25 (0, 0))
theorem NB.new (w : World) (k : Int) (e : Bool) (t : ByteArray) (x : Option Addr) (n c : Nat) : NB (w.alloc (.cells #[.int .i64 k, .bool e, .string t, .slice x n c] 25)) w.heap.size k e t x n c := Array.getElem?_push_size
theorem NB.fr {g : Nat} {w w' : World} {K : Nat} {k : Int} {e : Bool} {t : ByteArray} {x : Option Addr} {n c : Nat} (h : NB w K k e t x n c) (F : Fr g w w') (hK : K ≠ g) : NB w' K k e t x n c := (F.mid K _ _ _ h (by decide) hK).trans h
theorem NB.c0 {w : World} {K : Nat} {k : Int} {e : Bool} {t : ByteArray} {x : Option Addr} {n c : Nat} (h : NB w K k e t x n c) : w.cell? ⟨K, 0, none⟩ = some (.int .i64 k) := by rw [Lib.cell_of_heap h]; rfl
theorem NB.c1 {w : World} {K : Nat} {k : Int} {e : Bool} {t : ByteArray} {x : Option Addr} {n c : Nat} (h : NB w K k e t x n c) : w.cell? ⟨K, 1, none⟩ = some (.bool e) := by rw [Lib.cell_of_heap h]; rfl
theorem NB.c2 {w : World} {K : Nat} {k : Int} {e : Bool} {t : ByteArray} {x : Option Addr} {n c : Nat} (h : NB w K k e t x n c) : w.cell? ⟨K, 2, none⟩ = some (.string t) := by rw [Lib.cell_of_heap h]; rfl
theorem NB.c3 {w : World} {K : Nat} {k : Int} {e : Bool} {t : ByteArray} {x : Option Addr} {n c : Nat} (h : NB w K k e t x n c) : w.cell? ⟨K, 3, none⟩ = some (.slice x n c) := by rw [Lib.cell_of_heap h]; rfl

/-- What node leaves. -/
def NdR (r : VR) (g : Nat) (ns : List ByteArray) (w : World) (e : Ending) (w' : World) : Prop := match r.off with
  | none => e = .returned (.tuple #[]) ∧ (∃ v', Wo w' g v' ns r.bytes) ∧ Fr g w w'
  | some o => e = .panicked [{ v := offV o.1 o.2, recovered := false }] ∧ Below g w w'
theorem NdR.bad {r : VR} {g : Nat} {ns : List ByteArray} {w w' : World} {p : ByteArray} {code : Int} (h : r.off = some (p, code)) (hb : Below g w w') : NdR r g ns w (.panicked [{ v := offV p code, recovered := false }]) w' := by unfold NdR; rw [h]; exact ⟨rfl, hb⟩
theorem NdR.fine {r : VR} {g : Nat} {ns : List ByteArray} {w w' : World} {v : Value} (h : r.off = none) (hw : Wo w' g v ns r.bytes) (hf : Fr g w w') : NdR r g ns w (.returned (.tuple #[])) w' := by unfold NdR; rw [h]; exact ⟨rfl, ⟨v, hw⟩, hf⟩
def NdAt (f : Nat) : Prop := ∀ (u : Value) (T : Tr) (g : Nat) (v : Value) (ns : List ByteArray) (b : Int) (w0 w : World), At w0 f u T → smT T → Below w0.heap.size w0 w → w0.heap.size ≤ g → Wo w g v ns b → ns.length ≤ 32 → (∀ s ∈ ns, s.size ≤ 1048576) → 0 ≤ b → b ≤ 1048576 →
  Calls Try.prog 34 #[.pointer (some ⟨g, 0, none⟩), u] w fun e w' => NdR (vT ns b T) g ns w e w'

/-- entry, where it gives up. -/
theorem entry_bad (g : Nat) (x : Option Addr) (c : Nat) (ns : List ByteArray) (b : Int) (q o m cy : Nat) (s' s : ByteArray) (w : World) (W : Wk w g x c ns b) (hx : ∀ q o, x = some ⟨q, o, none⟩ → q ≠ g) (hm : 1 ≤ m) (hm2 : m ≤ 1954687338211) (hq : q < w.heap.size) (hb0 : 0 ≤ b) (hb1 : b ≤ 1048576)
    (hs : w.cell? ⟨q, o + (m - 1) * 5, none⟩ = some (.string s)) (hp : 1 < m → w.cell? ⟨q, o + (m - 2) * 5, none⟩ = some (.string s')) (hsz : s.size ≤ 1048576) (hl : ns.length ≤ 64) (hj : ∀ s ∈ ns, s.size ≤ 1048576) (hc : entC m s' s b ≠ 0) :
    Calls Try.prog 51 #[.pointer (some ⟨g, 0, none⟩), .slice (some ⟨q, o, none⟩) m cy] w fun e w' => e = .panicked [{ v := offV (joinB ns) (entC m s' s b), recovered := false }] ∧ Below (min g w.heap.size) w w' := by
  unfold entC at hc ⊢
  by_cases h1 : chk s ≠ 0
  · rw [if_pos h1]
    exact (entry_name joinC g x c ns b q o m cy s w W hm hm2 hs hl hj h1).mono fun e w' h => ⟨h.1, h.2.mono (Nat.min_le_right _ _)⟩
  · rw [if_neg h1] at hc ⊢
    have h1' : chk s = 0 := by omega
    by_cases h2 : 1 < m ∧ 0 ≤ cmpB s' s
    · rw [if_pos h2]
      exact (entry_order joinC g x c ns b q o m cy s' s w W hm hm2 hq hs hp hl hj h1' h2).mono fun e w' h => ⟨h.1, h.2.mono (Nat.min_le_right _ _)⟩
    · rw [if_neg h2] at hc ⊢
      by_cases h3 : 1048576 < b + ebP s
      · rw [if_pos h3]
        exact entry_big joinC g x c ns b q o m cy s' s w W hx hm hm2 hq hb0 hb1 hs hp (by omega) hl hj h1' h2 h3
      · rw [if_neg h3] at hc; exact absurd rfl hc
theorem entC_ok {m : Nat} {s' s : ByteArray} {b : Int} (h : entC m s' s b = 0) : chk s = 0 ∧ ¬ (1 < m ∧ 0 ≤ cmpB s' s) ∧ b + ebP s ≤ 1048576 := by
  unfold entC at h
  split at h
  · rename_i h1; exact absurd h h1
  · rename_i h1
    split at h
    · cases h
    · rename_i h2
      split at h
      · cases h
      · rename_i h3
        exact ⟨by omega, h2, by omega⟩

end Go.Proofs.Ytljcbibcdajhiaa
