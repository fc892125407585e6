/- math.Copysign and math.Ldexp within the range, walked. -/
import Derived.Test.YtjlbbnjcdickgabDoorPPd
set_option maxRecDepth 4000
namespace Go.Proofs.YtjlbbnjcdickgabDoor
open Go.RowKit

theorem or_sign (r s : Nat) (hr : r < 9223372036854775808) (hs : s < 2) : bits .or .u64 (r : Int) ((s * 9223372036854775808 : Nat) : Int) = ((s * 9223372036854775808 + r : Nat) : Int) := by
  rw [bits_or_u64_nat r (s * 9223372036854775808) (by omega) (by omega)]
  congr 1
  rw [Nat.or_comm, show s * 9223372036854775808 = 2 ^ 63 * s by omega, ← Nat.two_pow_add_eq_or_of_lt (by omega)]

theorem and_sign (a : Nat) (ha : a < 18446744073709551616) : bits .and .u64 (a : Int) 9223372036854775808 = ((a / 9223372036854775808 * 9223372036854775808 : Nat) : Int) := by
  have h := bits_and_u64_nat a 9223372036854775808 ha (by decide)
  rw [show ((9223372036854775808 : Nat) : Int) = 9223372036854775808 from rfl] at h
  rw [h, show 9223372036854775808 = 2 ^ 63 by decide, testBit_63 a ha]

set_option maxHeartbeats 400000 in
theorem copysign_any (x y : Int) (w : World) (x0 : 0 ≤ x) (x1 : x ≤ 18446744073709551615) (y0 : 0 ≤ y) (y1 : y ≤ 18446744073709551615) :
    Calls Tryd.prog 24 #[.float .f64 x.toNat, .float .f64 y.toNat] w fun e w' => e = .returned (.float .f64 (y / 9223372036854775808 * 9223372036854775808 + x % 9223372036854775808).toNat) ∧ w' = w := by
  have b1 := bits_int x x0
  have b2 := bits_int y y0
  have h1 : bits .andNot .u64 x 9223372036854775808 = x % 9223372036854775808 := by
    have := mask_sign x.toNat (by omega)
    rw [Int.toNat_of_nonneg x0] at this
    rw [this]; omega
  have h2 : bits .and .u64 y 9223372036854775808 = y / 9223372036854775808 * 9223372036854775808 := by
    have := and_sign y.toNat (by omega)
    rw [Int.toNat_of_nonneg y0] at this
    rw [this]; omega
  have h3 : bits .or .u64 (x % 9223372036854775808) (y / 9223372036854775808 * 9223372036854775808) = y / 9223372036854775808 * 9223372036854775808 + x % 9223372036854775808 := by
    have := or_sign (x % 9223372036854775808).toNat (y / 9223372036854775808).toNat (by omega) (by omega)
    rw [show (((x % 9223372036854775808).toNat : Nat) : Int) = x % 9223372036854775808 by omega, show (((y / 9223372036854775808).toNat * 9223372036854775808 : Nat) : Int) = y / 9223372036854775808 * 9223372036854775808 by omega] at this
    rw [this]; omega
  have f1 := from_run (y / 9223372036854775808 * 9223372036854775808 + x % 9223372036854775808)
  generalize (y / 9223372036854775808 * 9223372036854775808 + x % 9223372036854775808).toNat = R at *
  generalize y / 9223372036854775808 * 9223372036854775808 + x % 9223372036854775808 = r at *
  generalize x.toNat = X at *
  generalize y.toNat = Y at *
  generalize x % 9223372036854775808 = a at *
  generalize y / 9223372036854775808 * 9223372036854775808 = b at *
  go_enter Tryd.func24, Tryd.ntmps24
  go_wp2
  go_ret
  exact ⟨rfl, rfl⟩

theorem nearest_shift (s : Bool) (m : Nat) (e : Int) (k : Nat) : Ieee.double.nearest s (2 ^ k * m) (e - k) = Ieee.double.nearest s m e := by
  induction k with
  | zero => simp
  | succ k ih =>
    rw [← ih, ← nearest_two s (2 ^ k * m) (e - k)]
    rw [Nat.pow_succ, show 2 ^ k * 2 * m = 2 * (2 ^ k * m) by rw [Nat.mul_comm (2 ^ k) 2, Nat.mul_assoc], show e - ((k + 1 : Nat) : Int) = e - (k : Int) - 1 by omega]

theorem and_i64 (a : Nat) (ha : a < 2048) : bits .and .i64 (a : Int) 2047 = (a : Int) := by
  have h1 : (BitVec.ofInt 64 (a : Int)).toNat = a := by
    rw [BitVec.ofInt_natCast, BitVec.toNat_ofNat]; exact Nat.mod_eq_of_lt (by omega)
  have h2 : (BitVec.ofInt 64 (2047 : Int)).toNat = 2047 := by decide
  show IntKind.i64.wrap ((BitVec.ofInt 64 (a : Int) &&& BitVec.ofInt 64 (2047 : Int)).toNat : Int) = _
  rw [BitVec.toNat_and, h1, h2, show 2047 = 2 ^ 11 - 1 by decide, Nat.and_two_pow_sub_one_eq_mod, Nat.mod_eq_of_lt (by omega)]
  rw [IntKind.wrap_i64]; omega

theorem or_field (f E : Nat) (hf : f < 4503599627370496) (hE : E < 2048) : bits .or .u64 (f : Int) ((E * 4503599627370496 : Nat) : Int) = ((E * 4503599627370496 + f : Nat) : Int) := by
  rw [bits_or_u64_nat f (E * 4503599627370496) (by omega) (by omega)]
  congr 1
  rw [Nat.or_comm, show E * 4503599627370496 = 2 ^ 52 * E by omega, ← Nat.two_pow_add_eq_or_of_lt (by omega)]

/-- A word of a full fraction, times a power of two. -/
theorem mul_pow (z c : Int) (j : Nat) (z0 : 0 ≤ z) (z1 : z ≤ 18446744073709551615) (ze : exF z ≠ 2047) (zs : sgF z = false) (hc : Ieee.double.read c.toNat = .number false 4503599627370496 (-52 - j)) :
    floatBits .mul .f64 c.toNat z.toNat = some (Ieee.double.nearest false (mgF z).toNat (plF z - j)) := by
  have hr := read_num z z0 z1 ze
  rw [zs] at hr
  show Ieee.double.mul c.toNat z.toNat = _
  unfold Ieee.Format.mul
  rw [hr, hc]
  show some (Ieee.double.nearest (false ^^ false) (4503599627370496 * (mgF z).toNat) (-52 - (j : Int) + plF z)) = _
  rw [Bool.xor_false, show (4503599627370496 : Nat) = 2 ^ 52 by decide, show -52 - (j : Int) + plF z = (plF z - j) - (52 : Nat) by omega, nearest_shift]

end Go.Proofs.YtjlbbnjcdickgabDoor
