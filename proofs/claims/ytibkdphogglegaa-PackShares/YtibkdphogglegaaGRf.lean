/- The document's ToInt, walked. -/
import Derived.Test.YtibkdphogglegaaGRe
namespace Go.Proofs.Ytibkdphogglegaa
open Go.RowKit

/-- O times 2^E without its fraction. -/
def trOE (O E : Int) : Int := O / 2 ^ (-E).toNat * 2 ^ E.toNat
/-- The integer that is told, and the error. -/
def outN (s : Bool) (tr : Int) : Int := if s = true then (if 9223372036854775808 < tr then 0 else -tr) else (if 9223372036854775808 ≤ tr then 0 else tr)
def outE (s : Bool) (tr : Int) : Int := if s = true then (if 9223372036854775808 < tr then 1 else 0) else (if 9223372036854775808 ≤ tr then 1 else 0)

theorem div_pow_succ_int (m : Int) (k : Nat) : m / 2 ^ k / 2 = m / 2 ^ (k + 1) := by
  rw [Int.ediv_ediv_of_nonneg (Int.le_of_lt (pow_pos_int k)), Int.pow_succ]

theorem div_zero_later (m : Int) (k j : Nat) (h : m / 2 ^ k = 0) (hj : k ≤ j) : m / 2 ^ j = 0 := by
  obtain ⟨d, rfl⟩ : ∃ d, j = k + d := ⟨j - k, by omega⟩
  rw [Int.pow_add, ← Int.ediv_ediv_of_nonneg (Int.le_of_lt (pow_pos_int k)), h, Int.zero_ediv]

/-- What ToInt tells of a number of magnitude M at place P. -/
def ToIntR (M P : Int) (s : Bool) (r : Ending) : Prop := ∃ (O : Int) (t : Nat), O % 2 = 1 ∧ 0 < O ∧ O * 2 ^ t = M ∧ r = .returned (.tuple #[.int .i64 (outN s (trOE O (P + t))), .int .i64 (outE s (trOE O (P + t)))])

theorem out_big (s : Bool) (tr : Int) (h : 9223372036854775808 < tr) : outN s tr = 0 ∧ outE s tr = 1 := by
  unfold outN outE
  cases s <;> simp <;> omega

theorem tr_two (G : Int) (k n : Nat) (hG : 0 ≤ G) (h : k < n) : G * 2 ^ k * 2 ≤ G * 2 ^ n := by
  obtain ⟨d, rfl⟩ : ∃ d, n = k + 1 + d := ⟨n - k - 1, by omega⟩
  rw [Int.pow_add, Int.pow_succ]
  have h1 := pow_pos_int d
  have h2 : 0 ≤ G * (2 ^ k * 2) := Int.mul_nonneg hG (by have := pow_pos_int k; omega)
  have h3 : G * (2 ^ k * 2) * 1 ≤ G * (2 ^ k * 2) * 2 ^ d := Int.mul_le_mul_of_nonneg_left (by omega) h2
  have e1 : G * 2 ^ k * 2 = G * (2 ^ k * 2) := Int.mul_assoc _ _ _
  have e2 : G * (2 ^ k * 2 * 2 ^ d) = G * (2 ^ k * 2) * 2 ^ d := (Int.mul_assoc _ _ _).symm
  rw [e1, e2]
  omega

theorem wz : wrap64 (wrap64 (-wrap64 (IntKind.u64.wrap (-1))) - 1) = 0 := by
  rw [IntKind.wrap_u64]
  simp only [wrap64]
  omega

end Go.Proofs.Ytibkdphogglegaa
