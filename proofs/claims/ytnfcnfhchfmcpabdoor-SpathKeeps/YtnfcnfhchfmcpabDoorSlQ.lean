/- A slice of texts that came in, opened. -/
import Derived.Test.YtnfcnfhchfmcpabDoorPtR
import Derived.ProofKit
import Derived.OpenShut
import Derived.ChangeOld
import Derived.SizedLaws
import Derived.SliceStrings
namespace Go.Proofs.YtnfcnfhchfmcpabDoor
open Go.ChangeShapes Go.WideShapes Go.ChangeAt Go.RowKit

theorem cellsT : Tryd.prog.cellsOf 9 = 1 := by kernel_rfl
theorem bytesT : Tryd.prog.bytesOf 9 = 16 := by kernel_rfl

theorem open_slist {H : Type} {enc : TypeId × Value → H} {w : World} {r : Reach} {b0 : Nat} {v : Value} {d : DataW H} {ps : List MemPlace}
    (hval : Value.okWide Tryd.prog w r b0 22 v) (hd : DataW.Trod enc Tryd.prog w 0 (fun _ => true) true 22 v d ps) :
    ∃ (x : Option Addr) (n c : Nat) (f : Nat → ByteArray), v = .slice x n c ∧ SIs w x n f ∧ n ≤ c ∧ (n = 0 ∧ d = .nil ∨ ∃ ss : List ByteArray, d = .slice (strs (ss.take n)) (strs (ss.drop n)) ∧ ss.length = c ∧ ∀ i, i < n → f i = ss.getD i ByteArray.empty) := by
  obtain ⟨x, n, c, rfl⟩ := okWide_slice Tryd.underlying22 hval
  obtain ⟨fuel, hf⟩ := hd
  rcases open_strings Tryd.underlying22 Tryd.underlying9 cellsT hf with ⟨hcs, hx⟩ | ⟨a, l, c', ss, hcs, _, hl, hm, hlen, hx, hcell, _⟩
  · simp [Value.cells] at hcs
    obtain ⟨rfl, rfl, rfl⟩ := hcs
    simp at hx
    exact ⟨none, 0, 0, fun _ => ByteArray.empty, rfl, fun i hi => absurd hi (by omega), Nat.le_refl _, Or.inl ⟨rfl, hx.1⟩⟩
  · simp [Value.cells] at hcs
    obtain ⟨rfl, rfl, rfl⟩ := hcs
    simp only [if_true] at hlen
    simp at hx
    exact ⟨some a, n, c, fun i => ss.getD i ByteArray.empty, rfl, fun i hi => ⟨a, rfl, hcell i (by omega)⟩, hl, Or.inr ⟨ss, hx.1, hlen, fun _ _ => rfl⟩⟩

theorem sized_slist {H : Type} {ts : List TypeId} {ds : List (DataW H)} {d : DataW H} {n c j : Nat} {f : Nat → ByteArray} (h : (DataW.weightsEach Tryd.prog ts ds).all (· ≤ reachBytes) = true) (ht : ts[j]? = some 22) (hd : ds[j]? = some d)
    (hnc : n ≤ c) (hx : n = 0 ∧ d = .nil ∨ ∃ ss : List ByteArray, d = .slice (strs (ss.take n)) (strs (ss.drop n)) ∧ ss.length = c ∧ ∀ i, i < n → f i = ss.getD i ByteArray.empty) :
    n ≤ 8796093021952 ∧ ∀ i, i < n → (f i).size ≤ 140737488351232 := by
  rcases hx with ⟨rfl, _⟩ | ⟨ss, rfl, hl, hf⟩
  · exact ⟨by decide, fun i hi => absurd hi (by omega)⟩
  · refine ⟨?_, fun i hi => ?_⟩
    · have := sized_slice h ht hd Tryd.underlying22
      rw [bytesT] at this
      simp [strs, reachBytes] at this
      omega
    · have hmem : DataW.lit (H := H) (.string (f i).data.toList) ∈ strs (H := H) (ss.take n) := by
        unfold strs
        rw [List.mem_map]
        refine ⟨f i, ?_, rfl⟩
        rw [hf i hi, List.mem_take_iff_getElem]
        exact ⟨i, by omega, by simp [List.getD, show i < ss.length by omega]⟩
      have key : ∀ (l : List (DataW H)) (y : List UInt8), DataW.lit (.string y) ∈ l → y.length ∈ DataW.weightsAll Tryd.prog 9 l := by
        intro l y hy
        induction l with
        | nil => cases hy
        | cons a l ih =>
          simp only [DataW.weightsAll, List.mem_append]
          rcases List.mem_cons.1 hy with e | e
          · left; rw [← e]; simp [DataW.weights]
          · right; exact ih e
      have hw := List.all_eq_true.1 h _ (DataW.weights_mem_each ht hd (f i).data.toList.length (by
        simp only [DataW.weights, Tryd.underlying22, List.mem_cons, List.mem_append]
        right; left; exact key _ _ hmem))
      rw [Lib.size_eq]
      have hw2 : (f i).data.toList.length ≤ reachBytes := of_decide_eq_true hw
      unfold reachBytes at hw2
      omega

end Go.Proofs.YtnfcnfhchfmcpabDoor
