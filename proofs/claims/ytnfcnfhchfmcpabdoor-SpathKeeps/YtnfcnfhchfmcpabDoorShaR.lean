/- What the reference's words, constants, step and Block answer. -/
import Derived.Test.YtnfcnfhchfmcpabDoorShaB
namespace Go.Proofs.YtnfcnfhchfmcpabDoor
open Go.RowKit
/-- Word k while m of its bytes are in. -/
def prt (b : Nat → Int) (k : Nat) : Nat → Int
  | 0 => 0
  | m + 1 => prt b k m * 256 + b (4 * k + m)
theorem prt_w (b : Nat → Int) (hb : ∀ j, 0 ≤ b j ∧ b j < 256) (k : Nat) : 0 ≤ prt b k 3 ∧ prt b k 3 < 16777216 ∧ 0 ≤ prt b k 2 ∧ prt b k 2 < 65536 ∧ 0 ≤ prt b k 1 ∧ prt b k 1 < 256 := by
  have h0 := hb (4 * k + 0)
  have h1 := hb (4 * k + 1)
  have h2 := hb (4 * k + 2)
  simp only [prt]
  omega
theorem prt_bd (b : Nat → Int) (hb : ∀ j, 0 ≤ b j ∧ b j < 256) (k m : Nat) (h : m < 4) : 0 ≤ prt b k m ∧ prt b k m < 16777216 := by
  have := prt_w b hb k
  rcases (show m = 0 ∨ m = 1 ∨ m = 2 ∨ m = 3 from by omega) with rfl | rfl | rfl | rfl
  · exact ⟨by simp [prt], by simp [prt]⟩
  all_goals omega
theorem prt_word (b : Nat → Int) (k : Nat) : prt b k 4 = wd b k := by
  simp only [prt, wd, Nat.add_zero]
  omega

end Go.Proofs.YtnfcnfhchfmcpabDoor
