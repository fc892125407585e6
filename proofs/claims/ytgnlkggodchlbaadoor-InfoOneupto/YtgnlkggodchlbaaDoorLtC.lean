/- What the document's own Base32 answers: as the program's. -/
import Derived.Test.YtgnlkggodchlbaaDoorLtB
namespace Go.Proofs.YtgnlkggodchlbaaDoor
open Go.RowKit

theorem bitF_bd (s : ByteArray) (j : Nat) : 0 ≤ bitF s j ∧ bitF s j < 2 := by unfold bitF; omega

theorem bitF_zero (s : ByteArray) (j : Nat) (h : 8 * s.size ≤ j) : bitF s j = 0 := by
  unfold bitF bt
  rw [dif_neg (by omega)]
  simp

theorem bitF_two (s : ByteArray) (q m : Nat) (hm : m < 16) : bitF s (8 * q + m) = (bt s q + 256 * bt s (q + 1)) / 2 ^ m % 2 := by
  unfold bitF
  have h0 := bt_bd s q
  have h1 := bt_bd s (q + 1)
  by_cases h : m < 8
  · rw [show (8 * q + m) / 8 = q from by omega, show (8 * q + m) % 8 = m from by omega]
    generalize bt s q = a at h0 ⊢
    generalize bt s (q + 1) = b at h1 ⊢
    rcases (show m = 0 ∨ m = 1 ∨ m = 2 ∨ m = 3 ∨ m = 4 ∨ m = 5 ∨ m = 6 ∨ m = 7 from by omega) with rfl | rfl | rfl | rfl | rfl | rfl | rfl | rfl
    all_goals omega
  · rw [show (8 * q + m) / 8 = q + 1 from by omega, show (8 * q + m) % 8 = m - 8 from by omega]
    generalize bt s q = a at h0 ⊢
    generalize bt s (q + 1) = b at h1 ⊢
    rcases (show m = 8 ∨ m = 9 ∨ m = 10 ∨ m = 11 ∨ m = 12 ∨ m = 13 ∨ m = 14 ∨ m = 15 from by omega) with rfl | rfl | rfl | rfl | rfl | rfl | rfl | rfl
    all_goals simp only [Nat.reduceSub]
    all_goals omega

/-- The letter's value when c of its five bits have been taken, the highest first. -/
def accF (s : ByteArray) (at_ : Nat) : Nat → Int
  | 0 => 0
  | c + 1 => accF s at_ c * 2 + bitF s (at_ + (4 - c))

theorem accF_bd (s : ByteArray) (at_ c : Nat) (h : c ≤ 5) : 0 ≤ accF s at_ c ∧ accF s at_ c < 32 := by
  have h0 := bitF_bd s (at_ + 4)
  have h1 := bitF_bd s (at_ + 3)
  have h2 := bitF_bd s (at_ + 2)
  have h3 := bitF_bd s (at_ + 1)
  have h4 := bitF_bd s (at_ + 0)
  rcases (show c = 0 ∨ c = 1 ∨ c = 2 ∨ c = 3 ∨ c = 4 ∨ c = 5 from by omega) with rfl | rfl | rfl | rfl | rfl | rfl
  all_goals simp only [accF, Nat.reduceSub]
  all_goals omega

theorem accF_fb (s : ByteArray) (k : Nat) : accF s k 5 = fb s k := by
  have e : ∀ j, j < 5 → bitF s (k + j) = (bt s (k / 8) + 256 * bt s (k / 8 + 1)) / 2 ^ (k % 8 + j) % 2 := fun j hj => by
    rw [← bitF_two s (k / 8) (k % 8 + j) (by omega)]
    congr 1
    omega
  simp only [accF, Nat.reduceSub]
  rw [e 0 (by omega), e 1 (by omega), e 2 (by omega), e 3 (by omega), e 4 (by omega)]
  unfold fb
  have h0 := bt_bd s (k / 8)
  have h1 := bt_bd s (k / 8 + 1)
  generalize bt s (k / 8) + 256 * bt s (k / 8 + 1) = X
  have hr : k % 8 < 8 := Nat.mod_lt _ (by omega)
  generalize k % 8 = r at hr ⊢
  rcases (show r = 0 ∨ r = 1 ∨ r = 2 ∨ r = 3 ∨ r = 4 ∨ r = 5 ∨ r = 6 ∨ r = 7 from by omega) with rfl | rfl | rfl | rfl | rfl | rfl | rfl | rfl
  all_goals simp only [Nat.reduceAdd]
  all_goals omega

end Go.Proofs.YtgnlkggodchlbaaDoor
