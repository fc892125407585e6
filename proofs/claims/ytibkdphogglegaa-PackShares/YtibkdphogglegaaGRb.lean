/- The document's length, size and Near, walked. -/
import Derived.Test.YtibkdphogglegaaRows
import Derived.Test.YtibkdphogglegaaGRa
import Derived.WalkKit
import Derived.WalkSpells
import Derived.WalkLawsBesides
namespace Go.Proofs.Ytibkdphogglegaa
open Go.RowKit

theorem div_pow_succ (m k : Nat) : m / 2 ^ k / 2 = m / 2 ^ (k + 1) := by rw [Nat.div_div_eq_div_mul, Nat.pow_succ]

set_option maxHeartbeats 400000 in
theorem length_any (m : Nat) (w : World) (hm : m ≤ 18446744073709551615) :
    Calls Try.prog 11 #[.int .u64 m] w fun e w' => e = .returned (.int .i64 (bl m)) ∧ w' = w := by
  have hbl : bl m ≤ 64 := bl_le m 64 (by omega)
  have h1 := bl_lt m
  have B1 : Hid (m < 2 ^ bl m) := h1
  clear h1
  go_enter Try.func11, Try.ntmps11
  go_wp2
  go_loop [0, 3] (fun x i => ∃ k : Nat, k ≤ bl m ∧ x = .int .u64 ((m / 2 ^ k : Nat) : Int) ∧ i = .int .i64 k) (fun _ i => bl m - (intOf i).toNat)
  case atStart => exact ⟨0, by omega, by simp, rfl⟩
  case round =>
    obtain ⟨k, hk, rfl, rfl⟩ := hrel
    have D : Hid (m / 2 ^ k / 2 = m / 2 ^ (k + 1)) := div_pow_succ m k
    have hle : m / 2 ^ k ≤ 18446744073709551615 := Nat.le_trans (Nat.div_le_self _ _) hm
    by_cases hz : m / 2 ^ k = 0
    · have hkk : Hid (bl m = k) := by
        have : m < 2 ^ k := by
          rcases Nat.div_eq_zero_iff.mp hz with h | h
          · have := Nat.two_pow_pos k; omega
          · exact h
        have := bl_le m k this
        unfold Hid; omega
      rw [hz]
      clear hz hle D
      go_wp2
      go_ret
      exact ⟨by rw [hkk.out]; rfl, rfl⟩
    · have hlt : k < bl m := by
        apply Nat.lt_of_not_le
        intro h
        apply hz
        apply Nat.div_eq_of_lt
        exact Nat.lt_of_lt_of_le B1.out (Nat.pow_le_pow_right (by decide) h)
      generalize m / 2 ^ k = q at *
      go_wp2
      go_round
      case rel =>
        refine ⟨k + 1, by omega, ?_, by go_num⟩
        rw [← D.out]; go_num
      case measure => simp [intOf]; omega

/-- The digit that was cut last, behind i cuts. -/
def hbF (m : Nat) : Nat → Bool
  | 0 => false
  | i + 1 => decide (m / 2 ^ i % 2 = 1)
/-- Whether something lies below it. -/
def rsF (m : Nat) (r : Bool) : Nat → Bool
  | 0 => r
  | i + 1 => r || decide (m % 2 ^ i ≠ 0)

theorem hbF_step (m i : Nat) : hbF m (i + 1) = (m / 2 ^ i % 2 == 1) := by
  unfold hbF
  rw [Bool.eq_iff_iff]; simp

theorem rsF_step (m : Nat) (r : Bool) (i : Nat) : rsF m r (i + 1) = (hbF m i || rsF m r i) := by
  cases i with
  | zero => simp [rsF, hbF, Nat.mod_one]
  | succ i =>
    have h := Nat.mod_pow_succ (x := m) (b := 2) (k := i)
    have hp := Nat.two_pow_pos i
    simp only [rsF, hbF]
    rw [h]
    rcases Nat.mod_two_eq_zero_or_one (m / 2 ^ i) with k | k
    · simp [k]
    · simp only [k]
      simp
      try omega

theorem kept_eq (m : Nat) (r : Bool) (c : Nat) (hc : 0 < c) : rnd (2 * m + r.toNat) (2 ^ (c + 1)) = m / 2 ^ c + (hbF m c && (rsF m r c || decide (m / 2 ^ c % 2 = 1))).toNat := by
  obtain ⟨d, rfl⟩ : ∃ d, c = d + 1 := ⟨c - 1, by omega⟩
  have h := rnd_digits m (2 ^ d) r (Nat.two_pow_pos d)
  rw [show 4 * 2 ^ d = 2 ^ (d + 1 + 1) by rw [Nat.pow_succ, Nat.pow_succ]; omega, show 2 * 2 ^ d = 2 ^ (d + 1) by rw [Nat.pow_succ]; omega] at h
  rw [h]
  rfl

theorem word_bd (s : Bool) (r : Nat) : Ieee.double.word s r = (if s then 9223372036854775808 else 0) + r := by
  unfold Ieee.Format.word
  cases s <;> simp
  rfl

/-- The word as the document's Near puts it together. -/
theorem asm_low (s : Bool) (kept : Nat) (hk : kept < 4503599627370496) : asm s kept (-1074) = (if s then 9223372036854775808 else 0) + kept := by
  unfold asm
  rw [word_bd, show ((-1074 : Int) + 1074).toNat = 0 by decide, dI, Nat.min_eq_left (by omega)]
  omega
theorem asm_high (s : Bool) (kept : Nat) (last : Int) (hk : 4503599627370496 ≤ kept) (h : 972 ≤ last) : asm s kept last = (if s then 9223372036854775808 else 0) + 9218868437227405312 := by
  unfold asm
  rw [word_bd, dI, Nat.min_eq_right (by omega)]
theorem asm_mid (s : Bool) (kept : Nat) (last : Int) (hl : -1074 ≤ last) (hk : kept < 9007199254740992) (h : last < 972) : asm s kept last = (if s then 9223372036854775808 else 0) + ((last + 1074).toNat * 4503599627370496 + kept) := by
  unfold asm
  rw [word_bd, dI, Nat.min_eq_left (by omega)]
theorem asm_carry (s : Bool) (last : Int) (hl : -1074 ≤ last) : asm s 9007199254740992 last = asm s 4503599627370496 (last + 1) := by
  unfold asm
  have h1 : (last + 1074).toNat * 2 ^ 52 + 9007199254740992 = (last + 1 + 1074).toNat * 2 ^ 52 + 4503599627370496 := by omega
  rw [h1]

end Go.Proofs.Ytibkdphogglegaa
