/- The document's CheckRefs and the law SpathChecks, walked. -/
import Derived.Test.YtjhbfkckkinfjaaDoorPtR
namespace Go.Proofs.YtjhbfkckkinfjaaDoor
open Go.RowKit

theorem less_nil (s : ByteArray) (h : 46 ≤ s.size) : Op.bytesLess [] s.toList = true := by
  rw [Lib.toList_data]
  cases e : s.data.toList with
  | nil => rw [Lib.size_eq, e] at h; simp at h
  | cons _ _ => rfl

/-- The text ahead of place k. -/
def ahead (f : Nat → ByteArray) (k : Nat) : ByteArray := if k = 0 then ⟨#[]⟩ else f (k - 1)
theorem less_ahead (f : Nat → ByteArray) (k : Nat) (h : prC (f k) = 0) : (0 < k → Op.bytesLess (f (k - 1)).toList (f k).toList = true) ↔ Op.bytesLess (ahead f k).toList (f k).toList = true := by
  unfold ahead
  by_cases h0 : k = 0
  · subst h0
    rw [if_pos rfl]
    have := less_nil (f 0) (prC_size h)
    have e : (ByteArray.toList ⟨#[]⟩) = [] := by decide +kernel
    rw [e]
    exact ⟨fun _ => this, fun _ h => absurd h (by omega)⟩
  · rw [if_neg h0]
    exact ⟨fun h => h (by omega), fun h _ => h⟩

end Go.Proofs.YtjhbfkckkinfjaaDoor
