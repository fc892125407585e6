/- Slices that came in, opened; their bulk (own text of the verifier). -/
import Derived.Test.YtojefckhefanhaaSaF
import Derived.Test.YtojefckhefanhaaRows
import Derived.ProofKit
import Derived.OpenShut
import Derived.ChangeOld
import Derived.SizedLaws
import Derived.SliceStrings
namespace Go.Proofs.Ytojefckhefanhaa
open Go.ChangeShapes Go.WideShapes Go.ChangeAt Go.RowKit

theorem bulk_lits {H : Type} (k : IntKind) (zs : List Int) : Rows.uptoBulkAll (H := H) (lits k zs) = zs.length := by
  induction zs with
  | nil => rfl
  | cons z zs ih =>
    show Rows.uptoBulk (DataW.lit (.int k z)) + Rows.uptoBulkAll (lits k zs) = _
    rw [ih, List.length_cons]
    show 1 + zs.length = _
    omega

theorem open_isl {H : Type} {enc : TypeId × Value → H} {w : World} {held : Bool} (fuel : Nat) (z : Option Addr) (n c : Nat) (x : DataW H × List MemPlace) (h : DataW.trod enc Try.prog w 0 (fun _ => true) held fuel 41 [.slice z n c] = some x) (hb : Rows.uptoBulk x.1 ≤ 1048576) :
    ∃ f : Nat → Int, ISl w z n f ∧ n ≤ 1048576 := by
  rcases open_ints Try.underlying41 Try.underlying3 (by kernel_rfl) h with ⟨hcs, _⟩ | ⟨a, l, cp, zs, hcs, _, hl, hm, hz, hx, hcell, hwz⟩
  · simp at hcs
    obtain ⟨rfl, rfl, rfl⟩ := hcs
    exact ⟨fun _ => 0, fun k hk => absurd hk (by omega), Nat.zero_le _⟩
  · simp at hcs
    obtain ⟨rfl, rfl, rfl⟩ := hcs
    have hz' : zs.length = c := by simpa using hz
    subst hx
    refine ⟨fun k => zs.getD k 0, fun k hk => ⟨_, rfl, hcell k (by omega)⟩, ?_⟩
    have e1 : Rows.uptoBulk (H := H) (.slice (lits .i64 (zs.take n)) (lits .i64 (zs.drop n))) = Rows.uptoBulkAll (H := H) (lits .i64 (zs.take n)) + Rows.uptoBulkAll (H := H) (lits .i64 (zs.drop n)) + 1 := by simp only [Rows.uptoBulk]
    have hb' : Rows.uptoBulk (H := H) (.slice (lits .i64 (zs.take n)) (lits .i64 (zs.drop n))) ≤ 1048576 := hb
    rw [e1, bulk_lits, bulk_lits, List.length_take, List.length_drop] at hb'
    omega

theorem cellsT9 : Try.prog.cellsOf 9 = 1 := by kernel_rfl
theorem bulk_strs {H : Type} (l : List ByteArray) : Rows.uptoBulkAll (H := H) (strs l) = l.length + (l.map ByteArray.size).sum := by
  induction l with
  | nil => rfl
  | cons a l ih =>
    have e : Rows.uptoBulkAll (H := H) (strs (a :: l)) = a.data.toList.length + 1 + Rows.uptoBulkAll (H := H) (strs l) := rfl
    have e2 : a.data.toList.length = a.size := by rw [Array.length_toList]; rfl
    rw [e, e2, ih, List.length_cons, List.map_cons, List.sum_cons]
    omega
/-- A slice of these texts. -/
def KL (w : World) (x : Option Addr) (n : Nat) (L : List ByteArray) : Prop := n = L.length ∧ ∀ (j : Nat) (s : ByteArray), L[j]? = some s → ∃ a : Addr, x = some a ∧ a.block < w.heap.size ∧ w.cell? (a.add j) = some (.string s)

theorem open_keys {H : Type} {enc : TypeId × Value → H} {w : World} (fuel : Nat) (x : Option Addr) (n c : Nat) (d : DataW H) {ps : List MemPlace}
    (hf : DataW.trod enc Try.prog w 0 (fun _ => true) true fuel 22 (Value.slice x n c).cells.toList = some (d, ps)) (bk : Rows.uptoBulk d ≤ 1048576) :
    ∃ L : List ByteArray, KL w x n L ∧ L.length + (L.map ByteArray.size).sum ≤ 1048576 := by
  rcases open_strings Try.underlying22 Try.underlying9 cellsT9 hf with ⟨hcs, hx⟩ | ⟨a, l, c', ss, hcs, _, hl, hm, hlen, hx, hcell, _⟩
  · simp [Value.cells] at hcs
    obtain ⟨rfl, rfl, rfl⟩ := hcs
    exact ⟨[], ⟨rfl, fun j s hj => by cases hj⟩, by simp⟩
  · simp [Value.cells] at hcs
    obtain ⟨rfl, rfl, rfl⟩ := hcs
    simp only [if_true] at hlen
    simp at hx
    obtain ⟨rfl, _⟩ := hx
    have b1 := bulk_strs (H := H) (ss.take n)
    have b2 : Rows.uptoBulk (DataW.slice (strs (H := H) (ss.take n)) (strs (ss.drop n))) = Rows.uptoBulkAll (strs (H := H) (ss.take n)) + Rows.uptoBulkAll (strs (H := H) (ss.drop n)) + 1 := rfl
    rw [b2, b1] at bk
    refine ⟨ss.take n, ⟨by rw [List.length_take]; omega, fun j s hj => ?_⟩, by omega⟩
    have hjl : j < n := by
      have := (List.getElem?_eq_some_iff.1 hj).1
      rw [List.length_take] at this
      omega
    have hjs : j < ss.length := by omega
    have hs : ss.getD j ByteArray.empty = s := by
      rw [List.getElem?_take, if_pos hjl] at hj
      rw [List.getD_eq_getElem?_getD, hj]
      rfl
    have hc := hcell j hjs
    exact ⟨a, rfl, by have h9 := World.block_lt_of_cell? w (a.add j) hc; rw [show (a.add j).block = a.block by unfold Addr.add; split <;> rfl] at h9; exact h9, by rw [← hs]; exact hc⟩

end Go.Proofs.Ytojefckhefanhaa
