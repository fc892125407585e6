/- A slice of texts that came in, opened, with the bulk's bound. -/
import Derived.Test.YtbdnniaajiiimaaRkS
import Derived.Test.YtbdnniaajiiimaaRows
import Derived.ProofKit
import Derived.OpenShut
import Derived.ChangeOld
import Derived.SizedLaws
import Derived.SliceStrings
namespace Go.Proofs.Ytbdnniaajiiimaa
open Go.ChangeShapes Go.WideShapes Go.ChangeAt Go.RowKit

theorem cellsT9 : Try.prog.cellsOf 9 = 1 := by kernel_rfl
theorem bulk_strs {H : Type} (l : List ByteArray) : l.length ≤ Rows.uptoBulkAll (H := H) (strs l) ∧ ∀ s ∈ l, s.size ≤ Rows.uptoBulkAll (H := H) (strs l) := by
  induction l with
  | nil => exact ⟨Nat.zero_le _, fun s hs => by cases hs⟩
  | cons a l ih =>
    have e : Rows.uptoBulkAll (H := H) (strs (a :: l)) = a.data.toList.length + 1 + Rows.uptoBulkAll (H := H) (strs l) := rfl
    have e2 : a.data.toList.length = a.size := by rw [Array.length_toList]; rfl
    refine ⟨by rw [e, List.length_cons]; have := ih.1; omega, fun s hs => ?_⟩
    rw [e]
    rcases List.mem_cons.1 hs with rfl | hs
    · omega
    · have := ih.2 s hs; omega

theorem open_keys {H : Type} {enc : TypeId × Value → H} {w : World} (fuel : Nat) (x : Option Addr) (n c : Nat) (d : DataW H) {ps : List MemPlace}
    (hf : DataW.trod enc Try.prog w 0 (fun _ => true) true fuel 42 (Value.slice x n c).cells.toList = some (d, ps)) (bk : Rows.uptoBulk d ≤ 1048576) :
    ∃ f : Nat → ByteArray, TS.KSl w x n f ∧ n ≤ 1048576 ∧ ∀ i, i < n → (f i).size ≤ 1048576 := by
  rcases open_strings Try.underlying42 Try.underlying9 cellsT9 hf with ⟨hcs, hx⟩ | ⟨a, l, c', ss, hcs, _, hl, hm, hlen, hx, hcell, _⟩
  · simp [Value.cells] at hcs
    obtain ⟨rfl, rfl, rfl⟩ := hcs
    exact ⟨fun _ => ByteArray.empty, fun i hi => absurd hi (by omega), by omega, fun i hi => absurd hi (by omega)⟩
  · simp [Value.cells] at hcs
    obtain ⟨rfl, rfl, rfl⟩ := hcs
    simp only [if_true] at hlen
    simp at hx
    obtain ⟨rfl, _⟩ := hx
    have b1 := bulk_strs (H := H) (ss.take n)
    have b2 : Rows.uptoBulk (DataW.slice (strs (H := H) (ss.take n)) (strs (ss.drop n))) = Rows.uptoBulkAll (strs (H := H) (ss.take n)) + Rows.uptoBulkAll (strs (H := H) (ss.drop n)) + 1 := rfl
    rw [b2] at bk
    refine ⟨fun i => ss.getD i ByteArray.empty, fun i hi => ⟨a, rfl, hcell i (by omega)⟩, ?_, fun i hi => ?_⟩
    · have := b1.1
      rw [List.length_take] at this
      omega
    · have hmem : ss.getD i ByteArray.empty ∈ ss.take n := by
        rw [List.mem_take_iff_getElem]
        exact ⟨i, by omega, by simp [List.getD, show i < ss.length by omega]⟩
      have := b1.2 _ hmem
      show (ss.getD i ByteArray.empty).size ≤ 1048576
      omega

end Go.Proofs.Ytbdnniaajiiimaa
