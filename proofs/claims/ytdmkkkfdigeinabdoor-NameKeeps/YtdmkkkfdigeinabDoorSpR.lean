/- The document's Split, walked. -/
import Derived.Test.YtdmkkkfdigeinabDoorApS
namespace Go.Proofs.YtdmkkkfdigeinabDoor
open Go.RowKit

/-- Where the document's Split stands: running, or done. -/
def RSt (p : ByteArray) (D : List ByteArray) (f j : Nat) : Prop :=
  (D.length ≤ 31 ∧ f ≤ j ∧ j ≤ p.size ∧ (∀ t, f ≤ t → t < j → bt p t ≠ 47) ∧ pathF p = scan (pcs p (31 - D.length) f) D.length f ∧ pcs p 31 0 = D ++ pcs p (31 - D.length) f) ∨
  (j = p.size + 1 ∧ D.length ≤ 32 ∧ f ≤ p.size + 1 ∧ pathF p = (0, 0) ∧ pcs p 31 0 = D)
theorem RSt.go {p : ByteArray} {D : List ByteArray} {f j : Nat} (h : RSt p D f j) (hj : j < p.size) (hb : bt p j ≠ 47) : RSt p D f (j + 1) := by
  rcases h with ⟨h1, h2, h3, h4, h5, h6⟩ | ⟨h1, _⟩
  · refine Or.inl ⟨h1, by omega, by omega, fun t t1 t2 => ?_, h5, h6⟩
    by_cases e : t = j
    · rw [e]; exact hb
    · exact h4 t t1 (by omega)
  · omega
theorem RSt.at {p : ByteArray} {D : List ByteArray} {f j : Nat} (h : RSt p D f j) (hj : j ≤ p.size) (hb : j < p.size → bt p j = 47) :
    D.length ≤ 31 ∧ f ≤ j ∧ nx p f = j ∧ (D.length = 31 → pathF p = (61, (f : Int))) ∧ (D.length < 31 → chk (p.extract f j) ≠ 0 → pathF p = (chk (p.extract f j), (f : Int))) ∧ (D.length < 31 → chk (p.extract f j) = 0 → RSt p (D ++ [p.extract f j]) (j + 1) (j + 1)) := by
  rcases h with ⟨h1, h2, h3, h4, h5, h6⟩ | ⟨h1, _⟩
  · have hn : nx p f = j := nx_is p f j h2 h3 h4 hb
    refine ⟨h1, h2, hn, fun e => ?_, fun e hc => ?_, fun e hc => ?_⟩
    · rw [h5, e, Nat.sub_self]; exact scan_deep _ _ _ _ (by omega)
    · rw [h5]
      by_cases hl : j = p.size
      · rw [pcs_last p _ f (by omega), ← hl]; exact scan_bad _ _ _ _ e hc
      · rw [show 31 - D.length = (31 - (D.length + 1)) + 1 by omega, pcs_more p _ f (by omega), hn]; exact scan_bad _ _ _ _ e hc
    · by_cases hl : j = p.size
      · rw [pcs_last p _ f (by omega), ← hl] at h5 h6
        rw [scan_good _ _ _ _ e hc] at h5
        exact Or.inr ⟨by omega, by simp; omega, by omega, h5, h6⟩
      · rw [show 31 - D.length = (31 - (D.length + 1)) + 1 by omega, pcs_more p _ f (by omega), hn] at h5 h6
        rw [scan_good _ _ _ _ e hc, ext_size2 p f j h2 h3, show f + (j - f + 1) = j + 1 by omega] at h5
        refine Or.inl ⟨by simp; omega, Nat.le_refl _, by omega, fun t t1 t2 => by omega, ?_, ?_⟩
        · rw [List.length_append, List.length_singleton]; exact h5
        · rw [List.length_append, List.length_singleton, h6]; simp
  · omega

end Go.Proofs.YtdmkkkfdigeinabDoor
