/- The document's Near, walked. -/
import Derived.Test.YtibkdphogglegaaGRb
namespace Go.Proofs.Ytibkdphogglegaa
open Go.RowKit

theorem cut_bd (m : Nat) (e : Int) (hm : m ≤ 18446744073709551615) (he0 : -1300 ≤ e) (he1 : e ≤ 1100) : -2200 ≤ cutOf m e ∧ cutOf m e ≤ 226 ∧ -1074 ≤ e + cutOf m e ∧ e + cutOf m e ≤ 1111 := by
  have hbl : bl m ≤ 64 := bl_le m 64 (by omega)
  unfold cutOf; omega

/-- Lifted to the place of the last digit. -/
theorem lift_bd (m j : Nat) (e : Int) (h : (j : Int) ≤ -cutOf m e) : m * 2 ^ j < 2 ^ 53 := by
  have h1 := bl_lt m
  have h2 : bl m + j ≤ 53 := by unfold cutOf at h; omega
  have h3 : m * 2 ^ j < 2 ^ bl m * 2 ^ j := Nat.mul_lt_mul_of_pos_right h1 (Nat.two_pow_pos j)
  rw [← Nat.pow_add] at h3
  exact Nat.lt_of_lt_of_le h3 (Nat.pow_le_pow_right (by decide) h2)

/-- What is kept when all is cut. -/
def keptF (m : Nat) (r : Bool) (c : Nat) : Nat := m / 2 ^ c + (hbF m c && (rsF m r c || decide (m / 2 ^ c % 2 = 1))).toNat

theorem near_pure (s : Bool) (m : Nat) (e : Int) (r : Bool) (hm : m ≠ 0) (hr : r = true → 0 < cutOf m e) :
    Ieee.double.nearest s (2 * m + r.toNat) (e - 1) = asm s (keptF (m * 2 ^ (-cutOf m e).toNat) r (cutOf m e).toNat) (e + cutOf m e) := by
  by_cases hc : 0 < cutOf m e
  · rw [nearest_cut s m e r hm hc, kept_eq m r _ (by omega), show (-cutOf m e).toNat = 0 by omega, Nat.pow_zero, Nat.mul_one]
    rfl
  · have hr' : r = false := by cases r; rfl; exact absurd (hr rfl) hc
    subst hr'
    rw [show 2 * m + false.toNat = 2 * m from rfl, nearest_two, nearest_exact s m e hm (by omega), show (cutOf m e).toNat = 0 by omega]
    unfold keptF hbF
    simp

/-- What is kept has 53 digits at most (or is the next power of two), and 53 where the place is above the least. -/
theorem keptF_bd (m : Nat) (e : Int) (r : Bool) (hm : m ≠ 0) : keptF (m * 2 ^ (-cutOf m e).toNat) r (cutOf m e).toNat ≤ 2 ^ 53 ∧ (m * 2 ^ (-cutOf m e).toNat) / 2 ^ (cutOf m e).toNat < 2 ^ 53 ∧ (-1074 < e + cutOf m e → 2 ^ 52 ≤ (m * 2 ^ (-cutOf m e).toNat) / 2 ^ (cutOf m e).toNat) := by
  have h1 := bl_lt m
  have hq : (m * 2 ^ (-cutOf m e).toNat) / 2 ^ (cutOf m e).toNat < 2 ^ 53 := by
    rw [Nat.div_lt_iff_lt_mul (Nat.two_pow_pos _)]
    by_cases hc : 0 < cutOf m e
    · rw [show (-cutOf m e).toNat = 0 by omega, Nat.pow_zero, Nat.mul_one, ← Nat.pow_add]
      exact Nat.lt_of_lt_of_le h1 (Nat.pow_le_pow_right (by decide) (by unfold cutOf at hc ⊢; omega))
    · rw [show (cutOf m e).toNat = 0 by omega, Nat.pow_zero, Nat.mul_one]
      exact lift_bd m _ e (by omega)
  refine ⟨?_, hq, ?_⟩
  · unfold keptF
    have := Bool.toNat_le (hbF (m * 2 ^ (-cutOf m e).toNat) (cutOf m e).toNat && (rsF (m * 2 ^ (-cutOf m e).toNat) r (cutOf m e).toNat || decide ((m * 2 ^ (-cutOf m e).toNat) / 2 ^ (cutOf m e).toNat % 2 = 1)))
    omega
  · intro hl
    have hcc : cutOf m e = (bl m : Int) - 53 := by unfold cutOf at hl ⊢; omega
    have hlow : 2 ^ (bl m - 1) ≤ m := by
      unfold bl; rw [if_neg hm]; exact Nat.log2_self_le hm
    rw [Nat.le_div_iff_mul_le (Nat.two_pow_pos _), ← Nat.pow_add]
    have hb1 : 1 ≤ bl m := by unfold bl; rw [if_neg hm]; omega
    by_cases hc : 0 < cutOf m e
    · rw [show (-cutOf m e).toNat = 0 by omega, Nat.pow_zero, Nat.mul_one]
      exact Nat.le_trans (Nat.pow_le_pow_right (by decide) (by omega)) hlow
    · have h3 : 2 ^ (bl m - 1) * 2 ^ (-cutOf m e).toNat ≤ m * 2 ^ (-cutOf m e).toNat := Nat.mul_le_mul_right _ hlow
      rw [← Nat.pow_add] at h3
      exact Nat.le_trans (Nat.pow_le_pow_right (by decide) (by omega)) h3

end Go.Proofs.Ytibkdphogglegaa
