/- The document's CheckLabel, walked; spath.Parse and the document's. -/
import Derived.Test.YtjhbfkckkinfjaaDoorPtB
namespace Go.Proofs.YtjhbfkckkinfjaaDoor
open Go.RowKit

/-- Is c one of t's bytes? -/
def amB (t : ByteArray) (c : Int) : Bool := (List.range t.size).any (fun k => bt t k == c)
theorem amB_iff (t : ByteArray) (c : Int) : amB t c = true ↔ ∃ k, k < t.size ∧ bt t k = c := by
  unfold amB
  rw [List.any_eq_true]
  constructor
  · rintro ⟨k, hk, e⟩; exact ⟨k, List.mem_range.1 hk, by simpa using e⟩
  · rintro ⟨k, hk, e⟩; exact ⟨k, List.mem_range.2 hk, by simpa using e⟩

/-- The document's alphabet of labels. -/
def alp : ByteArray := ⟨#[48, 49, 50, 51, 52, 53, 54, 55, 56, 57, 65, 66, 67, 68, 69, 70, 71, 72, 73, 74, 75, 76, 77, 78, 79, 80, 81, 82, 83, 84, 85, 86, 87, 88, 89, 90, 97, 98, 99, 100, 101, 102, 103, 104, 105, 106, 107, 108, 109, 110, 111, 112, 113, 114, 115, 116, 117, 118, 119, 120, 121, 122, 43, 45, 95, 63, 61, 46]⟩
theorem alp_lab : ∀ n : Nat, n < 256 → amB alp (n : Int) = labC (n : Int) := by decide +kernel
theorem alp_is (c : Int) (h : 0 ≤ c ∧ c < 256) : amB alp c = labC c := by
  obtain ⟨n, rfl⟩ : ∃ n : Nat, c = n := ⟨c.toNat, by omega⟩
  exact alp_lab n (by omega)
theorem alp_size : alp.size = 68 := rfl

end Go.Proofs.YtjhbfkckkinfjaaDoor
