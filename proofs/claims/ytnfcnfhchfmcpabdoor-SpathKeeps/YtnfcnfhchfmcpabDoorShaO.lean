/- An array of numbers among a law's arguments: what its value is. -/
import Derived.Test.YtnfcnfhchfmcpabDoorShaM
import Derived.WalkKit
import Derived.ProofKit
import Derived.OpenShut
namespace Go.Proofs.YtnfcnfhchfmcpabDoor
open Go.ChangeShapes Go.WideShapes Go.ChangeAt Go.RowKit
theorem wf_zero (k : IntKind) : (Lit.int k 0).wf = true := by cases k <;> rfl
theorem open_cs {H : Type} {enc : TypeId × Value → H} {P : Program} {w : World} {base b0 : Nat} {spare : Nat → Bool} {held : Bool} {r : Reach} {t e : TypeId} {n : Nat} {k : IntKind} {v : Value} {d : DataW H} {p : List MemPlace}
    (hu : P.underlying t = some (.array n e)) (he : P.underlying e = some (.int k)) (hce : P.cellsOf e = 1) (hct : P.cellsOf t = n) (hv : Value.okWide P w r b0 t v) (h : DataW.Trod enc P w base spare held t v d p) :
    ∃ f : Nat → Int, v = .agg (cs k n f) ∧ ∀ j, (Lit.int k (f j)).wf = true := by
  have hv' := hv
  simp only [Value.okWide, hu] at hv'
  obtain ⟨C, rfl, hsz, _⟩ := hv'
  obtain ⟨fuel, hf⟩ := h
  obtain ⟨xs, m, _, _, _, hlen, hall⟩ := DataW.trod_array hu hf
  have hel : ∀ i, i < n → ∃ z, C[i]? = some (.int k z) ∧ (Lit.int k z).wf = true := fun i hi => by
    have h1 := hall i hi
    rw [List.getElem?_eq_getElem (by omega)] at h1
    obtain ⟨z, hz, _, hw⟩ := DataW.trod_int he h1
    rw [hce, Nat.mul_one] at hz
    have h2 : (C.toList.drop i).take 1 = [.int k z] := by simpa [Value.cells] using hz
    have hil : i < C.toList.length := by simp; omega
    rw [List.drop_eq_getElem_cons hil] at h2
    simp at h2
    exact ⟨z, by rw [Array.getElem?_eq_getElem (by simpa using hil), h2], hw⟩
  refine ⟨fun i => match C[i]? with | some (.int _ z) => z | _ => 0, ?_, fun j => ?_⟩
  · congr 1
    apply Array.ext
    · rw [cs_size]; omega
    · intro i h1 h2
      obtain ⟨z, hz, _⟩ := hel i (by omega)
      have hg := cs_get k n (fun i => match C[i]? with | some (.int _ z) => z | _ => 0) i (by omega)
      rw [Array.getElem?_eq_getElem h2] at hg
      rw [Array.getElem?_eq_getElem h1] at hz
      have e1 := Option.some.inj hg
      have e2 := Option.some.inj hz
      rw [e1, e2]
      simp only [Array.getElem?_eq_getElem h1, e2]
  · by_cases hj : j < n
    · obtain ⟨z, hz, hw⟩ := hel j hj
      simp only [hz]
      exact hw
    · have hn : C[j]? = none := Array.getElem?_eq_none (by omega)
      simp only [hn]
      exact wf_zero k
#print axioms open_cs
end Go.Proofs.YtnfcnfhchfmcpabDoor
