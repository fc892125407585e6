/- Bits of words: masks, the lowest digit, and the words that gauge.Parts passes through. -/
import Derived.Test.YtjlbbnjcdickgacDoorGV
import Derived.Laws.Bits64b
set_option maxRecDepth 4000
namespace Go.Proofs.YtjlbbnjcdickgacDoor
open Go.RowKit

theorem bits_andNot_nat (a c : Nat) (ha : a < 18446744073709551616) (hc : c < 18446744073709551616) : bits .andNot .u64 (a : Int) (c : Int) = ((a &&& (18446744073709551615 - c) : Nat) : Int) := by
  have hx : a &&& (18446744073709551615 - c) < 2 ^ 64 := Nat.and_lt_two_pow _ (by omega)
  have h1 : (BitVec.ofInt 64 (a : Int)).toNat = a := by
    rw [BitVec.ofInt_natCast, BitVec.toNat_ofNat]; exact Nat.mod_eq_of_lt (by omega)
  have h2 : (~~~(BitVec.ofInt 64 (c : Int))).toNat = 18446744073709551615 - c := by
    rw [BitVec.toNat_not, BitVec.ofInt_natCast, BitVec.toNat_ofNat, Nat.mod_eq_of_lt (by omega)]
  show IntKind.u64.wrap ((BitVec.ofInt 64 (a : Int) &&& ~~~(BitVec.ofInt 64 (c : Int))).toNat : Int) = _
  rw [BitVec.toNat_and, h1, h2, IntKind.wrap_u64]
  omega

theorem mask_sign (a : Nat) (ha : a < 18446744073709551616) : bits .andNot .u64 (a : Int) 9223372036854775808 = ((a % 9223372036854775808 : Nat) : Int) := by
  have h := bits_andNot_nat a 9223372036854775808 ha (by decide)
  rw [show ((9223372036854775808 : Nat) : Int) = 9223372036854775808 from rfl] at h
  rw [h, show 18446744073709551615 - 9223372036854775808 = 2 ^ 63 - 1 by decide, Nat.and_two_pow_sub_one_eq_mod]

theorem testBit_63 (a : Nat) (ha : a < 18446744073709551616) : a &&& 2 ^ 63 = a / 9223372036854775808 * 9223372036854775808 := by
  have hb : a.testBit 63 = decide (a / 9223372036854775808 = 1) := by
    rw [Nat.testBit_eq_decide_div_mod_eq, show (2 : Nat) ^ 63 = 9223372036854775808 by decide, Bool.eq_iff_iff]
    simp; omega
  apply Nat.eq_of_testBit_eq
  intro i
  rw [Nat.testBit_and, Nat.testBit_two_pow]
  rcases (show a / 9223372036854775808 = 0 ∨ a / 9223372036854775808 = 1 by omega) with h | h
  · rw [h, Nat.zero_mul, Nat.zero_testBit]
    by_cases hi : 63 = i
    · subst hi; rw [hb, h]; rfl
    · simp [hi]
  · rw [h, Nat.one_mul, show 9223372036854775808 = 2 ^ 63 by decide, Nat.testBit_two_pow]
    by_cases hi : 63 = i
    · subst hi; rw [hb, h]; rfl
    · simp [hi]

theorem mask_exp (a : Nat) (ha : a < 18446744073709551616) : bits .andNot .u64 (a : Int) 9218868437227405312 = ((a / 9223372036854775808 * 9223372036854775808 + a % 4503599627370496 : Nat) : Int) := by
  have h := bits_andNot_nat a 9218868437227405312 ha (by decide)
  rw [show ((9218868437227405312 : Nat) : Int) = 9218868437227405312 from rfl] at h
  rw [h, show 18446744073709551615 - 9218868437227405312 = 2 ^ 63 ||| (2 ^ 52 - 1) by decide, Nat.and_or_distrib_left, Nat.and_two_pow_sub_one_eq_mod, testBit_63 a ha]
  have := Nat.two_pow_add_eq_or_of_lt (i := 63) (b := a % 2 ^ 52) (by omega) (a / 9223372036854775808)
  rw [show a / 9223372036854775808 * 9223372036854775808 = 2 ^ 63 * (a / 9223372036854775808) by omega, ← this]

theorem or_exp (s f : Nat) (hs : s < 2) (hf : f < 4503599627370496) : bits .or .u64 ((s * 9223372036854775808 + f : Nat) : Int) 4602678819172646912 = ((s * 9223372036854775808 + 4602678819172646912 + f : Nat) : Int) := by
  have h := bits_or_u64_nat (s * 9223372036854775808 + f) 4602678819172646912 (by omega) (by decide)
  rw [show ((4602678819172646912 : Nat) : Int) = 4602678819172646912 from rfl] at h
  rw [h]
  have e1 : s * 9223372036854775808 + f = 2 ^ 63 * s ||| f := by rw [← Nat.two_pow_add_eq_or_of_lt (by omega)]; omega
  have e2 : f ||| 4602678819172646912 = 2 ^ 52 * 1022 + f := by rw [Nat.or_comm, show 4602678819172646912 = 2 ^ 52 * 1022 by decide, ← Nat.two_pow_add_eq_or_of_lt (by omega)]
  rw [e1, Nat.or_assoc, e2, ← Nat.two_pow_add_eq_or_of_lt (by omega)]
  congr 1
  omega

theorem and_2047 (a : Nat) (ha : a < 18446744073709551616) : bits .and .u64 (a : Int) 2047 = ((a % 2048 : Nat) : Int) := by
  have h := bits_and_u64_nat a 2047 ha (by decide)
  rw [show ((2047 : Nat) : Int) = 2047 from rfl] at h
  rw [h, show 2047 = 2 ^ 11 - 1 by decide, Nat.and_two_pow_sub_one_eq_mod]

/-- A number and what makes it a power of two have no digit in common but the lowest. -/
theorem compl_and (m q : Nat) (h : q < 2 ^ m) : q &&& (2 ^ m - 1 - q) = 0 := by
  apply Nat.eq_of_testBit_eq
  intro i
  rw [Nat.testBit_and, Nat.zero_testBit, show 2 ^ m - 1 - q = 2 ^ m - (q + 1) by omega, Nat.testBit_two_pow_sub_succ h]
  cases q.testBit i <;> simp

theorem odd_and (n q : Nat) (h : 2 * q + 1 < 2 ^ (n + 1)) : (2 * q + 1) &&& (2 ^ (n + 1) - (2 * q + 1)) = 1 := by
  have hq : q < 2 ^ n := by rw [Nat.pow_succ] at h; omega
  have e : 2 ^ (n + 1) - (2 * q + 1) = 2 * (2 ^ n - 1 - q) + 1 := by rw [Nat.pow_succ] at h ⊢; omega
  rw [e]
  have h1 : (2 * q + 1) &&& (2 * (2 ^ n - 1 - q) + 1) = 2 * (q &&& (2 ^ n - 1 - q)) + 1 := by
    apply Nat.eq_of_testBit_eq
    intro i
    rw [Nat.testBit_and]
    cases i with
    | zero => simp [Nat.testBit_zero]
    | succ i =>
      simp only [Nat.testBit_succ]
      rw [show (2 * q + 1) / 2 = q by omega, show (2 * (2 ^ n - 1 - q) + 1) / 2 = 2 ^ n - 1 - q by omega, show (2 * (q &&& (2 ^ n - 1 - q)) + 1) / 2 = q &&& (2 ^ n - 1 - q) by omega, Nat.testBit_and]
  rw [h1, compl_and n q hq]

theorem low_bit (o t : Nat) (ho : o % 2 = 1) (h : o * 2 ^ t < 2 ^ 64) : (o * 2 ^ t) &&& (2 ^ 64 - o * 2 ^ t) = 2 ^ t := by
  have ht : t < 64 := by
    apply Nat.lt_of_not_le
    intro h2
    have := Nat.pow_le_pow_right (show 0 < 2 by decide) h2
    have h3 : 1 * 2 ^ t ≤ o * 2 ^ t := Nat.mul_le_mul_right _ (by omega)
    omega
  obtain ⟨n, hn⟩ : ∃ n, 64 = t + (n + 1) := ⟨63 - t, by omega⟩
  have e1 : 2 ^ 64 = 2 ^ t * 2 ^ (n + 1) := by rw [← Nat.pow_add, ← hn]
  have ho2 : o < 2 ^ (n + 1) := by
    rw [e1, Nat.mul_comm] at h
    exact Nat.lt_of_mul_lt_mul_left h
  have e2 : 2 ^ 64 - o * 2 ^ t = (2 ^ (n + 1) - o) * 2 ^ t := by rw [e1, Nat.sub_mul, Nat.mul_comm (2 ^ t)]
  rw [e2, ← Nat.shiftLeft_eq, ← Nat.shiftLeft_eq, ← Nat.shiftLeft_and_distrib]
  obtain ⟨q, rfl⟩ : ∃ q, o = 2 * q + 1 := ⟨o / 2, by omega⟩
  rw [odd_and n q ho2, Nat.shiftLeft_eq, Nat.one_mul]

theorem neg_u64 (x : Nat) (h0 : 0 < x) (h : x < 2 ^ 64) : IntKind.u64.wrap (-(x : Int)) = ((2 ^ 64 - x : Nat) : Int) := by
  rw [IntKind.wrap_u64]; omega

end Go.Proofs.YtjlbbnjcdickgacDoor
