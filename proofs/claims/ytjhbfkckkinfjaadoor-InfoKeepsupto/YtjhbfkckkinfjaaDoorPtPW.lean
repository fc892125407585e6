/- awake and the law SpathParses, walked. -/
import Derived.Test.YtjhbfkckkinfjaaDoorPtF
namespace Go.Proofs.YtjhbfkckkinfjaaDoor
open Go.RowKit

def exA : ByteArray := ⟨#[47, 100, 101, 112, 111, 116, 47, 115, 116, 111, 114, 101, 47, 48, 49, 50, 51, 52, 53, 54, 55, 56, 57, 97, 98, 99, 100, 102, 103, 104, 105, 106, 107, 108, 109, 110, 112, 113, 114, 115, 118, 119, 120, 121, 122, 45, 97, 46, 98]⟩
def exB : ByteArray := ⟨#[47, 100, 101, 112, 111, 116, 47, 115, 116, 111, 114, 101, 47, 48, 49, 50, 51, 52, 53, 54, 55, 56, 57, 97, 98, 99, 100, 102, 103, 104, 105, 106, 107, 108, 109, 110, 112, 113, 114, 115, 118, 119, 120, 121, 122, 45]⟩
theorem exA_C : prC exA = 0 := by decide +kernel
theorem exA_H : prH exA = lts := by decide +kernel
theorem exA_L : prL exA = ⟨#[97, 46, 98]⟩ := by decide +kernel
theorem exB_C : prC exB = 130 := by decide +kernel
theorem exB_H : prH exB = ⟨#[]⟩ := by decide +kernel
theorem exB_L : prL exB = ⟨#[]⟩ := by decide +kernel

theorem prC_vals (p : ByteArray) : 0 ≤ prC p ∧ prC p ≤ 132 := by
  unfold prC
  split
  · split
    · rcases lab_cases (pLab p) with ⟨_, h⟩ | ⟨_, h⟩ <;> rw [h] <;> decide
    · decide
  · decide

end Go.Proofs.YtjhbfkckkinfjaaDoor
