/- A slice of texts that came in, opened, with the bound of all its bytes (own text of the verifier). -/
import Derived.Test.YthodlcmmagjboaaDoorSwX
import Derived.Test.YthodlcmmagjboaaDoorRows
import Derived.ProofKit
import Derived.OpenShut
import Derived.ChangeOld
import Derived.SizedLaws
import Derived.SliceStrings
namespace Go.Proofs.YthodlcmmagjboaaDoor
open Go.ChangeShapes Go.WideShapes Go.ChangeAt Go.RowKit

theorem cellsT9 : Tryd.prog.cellsOf 9 = 1 := by kernel_rfl
theorem bulk_strs {H : Type} (l : List ByteArray) : ((l.map fun s => s.data.toList).map List.length).sum + l.length ≤ Rows.uptoBulkAll (H := H) (strs l) := by
  induction l with
  | nil => exact Nat.le_refl _
  | cons a l ih =>
    have e : Rows.uptoBulkAll (H := H) (strs (a :: l)) = a.data.toList.length + 1 + Rows.uptoBulkAll (H := H) (strs l) := rfl
    rw [e]
    simp only [List.map_cons, List.sum_cons, List.length_cons]
    omega

theorem open_texts {H : Type} {enc : TypeId × Value → H} {w : World} (fuel : Nat) (x : Option Addr) (n c : Nat) (d : DataW H) {ps : List MemPlace}
    (hf : DataW.trod enc Tryd.prog w 0 (fun _ => true) true fuel 23 (Value.slice x n c).cells.toList = some (d, ps)) (bk : Rows.uptoBulk d ≤ 1048576) :
    ∃ L : List (List UInt8), L.length = n ∧ SIs w x L.length (fun j => nth L j) ∧ (L.map List.length).sum + L.length ≤ 1048576 := by
  rcases open_strings Tryd.underlying23 Tryd.underlying9 cellsT9 hf with ⟨hcs, hx⟩ | ⟨a, l, c', ss, hcs, _, hl, hm, hlen, hx, hcell, _⟩
  · simp [Value.cells] at hcs
    obtain ⟨rfl, rfl, rfl⟩ := hcs
    exact ⟨[], rfl, fun i hi => absurd hi (by simp), by simp⟩
  · simp [Value.cells] at hcs
    obtain ⟨rfl, rfl, rfl⟩ := hcs
    simp only [if_true] at hlen
    simp at hx
    obtain ⟨rfl, _⟩ := hx
    have b1 := bulk_strs (H := H) (ss.take n)
    have b2 : Rows.uptoBulk (DataW.slice (strs (H := H) (ss.take n)) (strs (ss.drop n))) = Rows.uptoBulkAll (strs (H := H) (ss.take n)) + Rows.uptoBulkAll (strs (H := H) (ss.drop n)) + 1 := rfl
    rw [b2] at bk
    have hn : ((ss.take n).map fun s => s.data.toList).length = n := by rw [List.length_map, List.length_take]; omega
    refine ⟨(ss.take n).map fun s => s.data.toList, hn, fun i hi => ⟨a, rfl, ?_⟩, ?_⟩
    · rw [hn] at hi
      have hi2 : i < ss.length := by omega
      rw [hcell i (by omega)]
      congr 2
      show ss.getD i ByteArray.empty = nth _ i
      unfold nth
      rw [List.getD_eq_getElem?_getD, List.getD_eq_getElem?_getD, List.getElem?_map, List.getElem?_take_of_lt hi, List.getElem?_eq_getElem hi2]
      simp [ba_list]
    · have h9 : ((ss.take n).map fun s => s.data.toList).length = (ss.take n).length := by rw [List.length_map]
      rw [h9]
      omega

end Go.Proofs.YthodlcmmagjboaaDoor
