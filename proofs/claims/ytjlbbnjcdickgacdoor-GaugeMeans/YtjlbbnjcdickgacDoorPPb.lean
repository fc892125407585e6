/- math.Abs, IsInf, normalize, frexp and bits.TrailingZeros64 at every number, walked. -/
import Derived.Test.YtjlbbnjcdickgacDoorPPa
import Derived.Test.YtjlbbnjcdickgacDoorAW
namespace Go.Proofs.YtjlbbnjcdickgacDoor
open Go.RowKit

theorem bits_int (x : Int) (h0 : 0 ≤ x) (w : World) : (callFunc 12 #[.float .f64 x.toNat]).run Tryd.prog w = .ok (.value (.int .u64 x)) w := by
  rw [bits_run, Int.toNat_of_nonneg h0]

set_option maxHeartbeats 400000 in
theorem abs_any (x : Int) (w : World) (h0 : 0 ≤ x) (h1 : x ≤ 18446744073709551615) :
    Calls Tryd.prog 28 #[.float .f64 x.toNat] w fun e w' => e = .returned (.float .f64 (x % 9223372036854775808).toNat) ∧ w' = w := by
  have b1 := bits_int x h0
  have f1 := from_run (x % 9223372036854775808)
  have ha : bits .andNot .u64 x 9223372036854775808 = x % 9223372036854775808 := by
    have := mask_sign x.toNat (by omega)
    rw [Int.toNat_of_nonneg h0] at this
    rw [this]; omega
  generalize x.toNat = X at *
  generalize (x % 9223372036854775808).toNat = Y at *
  go_enter Tryd.func28, Tryd.ntmps28
  go_wp2
  go_ret
  exact ⟨rfl, rfl⟩

/-- The fields hang on what lies below the sign. -/
theorem exF_low (x : Int) : exF x = exF (x % 9223372036854775808) := by unfold exF; omega
theorem frF_low (x : Int) : frF x = frF (x % 9223372036854775808) := by unfold frF; omega
theorem mgF_low (x : Int) : mgF x = mgF (x % 9223372036854775808) := by unfold mgF; rw [← exF_low, ← frF_low]
theorem plF_low (x : Int) : plF x = plF (x % 9223372036854775808) := by unfold plF; rw [← exF_low]

theorem pow_mono_int (a b : Nat) (h : a ≤ b) : (2 : Int) ^ a ≤ 2 ^ b := by
  obtain ⟨d, rfl⟩ : ∃ d, b = a + d := ⟨b - a, by omega⟩
  rw [Int.pow_add]
  have := pow_pos_int d
  have := pow_pos_int a
  have h2 : (2 : Int) ^ a * 1 ≤ 2 ^ a * 2 ^ d := Int.mul_le_mul_of_nonneg_left (by omega) (by omega)
  omega

/-- The place of the greatest number, in units of the least. -/
def u45 : Nat := 2045
theorem size_max : fnan Ieee.double 9218868437227405311 = false ∧ fside Ieee.double 9218868437227405311 = 0 ∧ fsize Ieee.double 9218868437227405311 = 9007199254740991 * 2 ^ u45 := by decide +kernel

theorem notinf (x : Int) (h0 : 0 ≤ x) (h1 : x ≤ 18446744073709551615) (he : exF x ≠ 2047) : (FloatKind.f64.format.order x.toNat 9218868437227405311 == some .gt) = false := by
  obtain ⟨a1, a2, a3⟩ := size_num x h0 h1 he
  obtain ⟨b1, b2, b3⟩ := size_max
  have be := exF_bd x
  have hm : 0 ≤ mgF x ∧ mgF x ≤ 9007199254740991 := by have := frF_bd x; unfold mgF; split <;> omega
  have hp : plF x ≤ 971 := by unfold plF; split <;> omega
  have p1 := pow_mono_int (plF x + 1074).toNat u45 (by unfold u45; omega)
  have p2 := pow_pos_int (plF x + 1074).toNat
  have e1 : mgF x * 2 ^ (plF x + 1074).toNat ≤ mgF x * 2 ^ u45 := Int.mul_le_mul_of_nonneg_left p1 hm.1
  have e2 : mgF x * 2 ^ u45 ≤ 9007199254740991 * 2 ^ u45 := Int.mul_le_mul_of_nonneg_right hm.2 (by omega)
  have e3 : 0 ≤ mgF x * 2 ^ (plF x + 1074).toNat := Int.mul_nonneg hm.1 (by omega)
  rw [Bool.eq_false_iff]
  intro h
  rw [show FloatKind.f64.format = Ieee.double from rfl, fgt_iff, a1, a2, a3, b1, b2, b3] at h
  obtain ⟨_, _, h | ⟨_, h⟩⟩ := h
  · omega
  · generalize mgF x * 2 ^ (plF x + 1074).toNat = X at *
    generalize 9007199254740991 * (2 : Int) ^ u45 = Y at *
    generalize sgF x = sg at h
    cases sg <;> simp at h <;> omega

theorem neg_word (x : Int) (h0 : 0 ≤ x) (h1 : x ≤ 18446744073709551615) : ∃ y : Int, 0 ≤ y ∧ y ≤ 18446744073709551615 ∧ exF y = exF x ∧ Op.negFloat .f64 x.toNat = y.toNat := by
  have e : Op.negFloat .f64 x.toNat = x.toNat ^^^ 2 ^ 63 := rfl
  have hl : x.toNat ^^^ 2 ^ 63 < 2 ^ 64 := Nat.xor_lt_two_pow (by omega) (by decide)
  have hm : (x.toNat ^^^ 2 ^ 63) % 2 ^ 63 = x.toNat % 2 ^ 63 := by rw [Nat.xor_mod_two_pow, Nat.mod_self, Nat.xor_zero]
  refine ⟨((x.toNat ^^^ 2 ^ 63 : Nat) : Int), by omega, by omega, ?_, by rw [e, Int.toNat_natCast]⟩
  rw [exF_low x, exF_low]
  congr 1
  omega

set_option maxHeartbeats 400000 in
theorem isinf_num (x k : Int) (w : World) (h0 : 0 ≤ x) (h1 : x ≤ 18446744073709551615) (he : exF x ≠ 2047) (hk : k = 1 ∨ k = 0 ∨ k = -1) :
    Calls Tryd.prog 21 #[.float .f64 x.toNat, .int .i64 k] w fun e w' => e = .returned (.bool false) ∧ w' = w := by
  have g1 := notinf x h0 h1 he
  have g0 := notinf (x % 9223372036854775808) (by omega) (by omega) (by rw [← exF_low]; exact he)
  obtain ⟨y, hy0, hy1, hye, hyn⟩ := neg_word x h0 h1
  have g2 := notinf y hy0 hy1 (by rw [hye]; exact he)
  have ng : ∀ w : World, (Op.unary .neg (.float .f64 x.toNat)).run Tryd.prog w = .ok (.float .f64 y.toNat) w := fun w => by rw [← hyn]; rfl
  have AB := fun w => abs_any x w h0 h1
  clear hyn hye
  generalize x.toNat = X at *
  generalize (x % 9223372036854775808).toNat = Z at *
  generalize y.toNat = Y at *
  rcases hk with rfl | rfl | rfl
  · clear AB
    go_enter Tryd.func21, Tryd.ntmps21
    go_wp2
    go_ret
    exact ⟨rfl, rfl⟩
  · go_enter Tryd.func21, Tryd.ntmps21
    go_wp2_with fail
    refine (AB _).mono ?_
    rintro r w1 ⟨rfl, rfl⟩
    clear AB
    go_wp2
    go_ret
    exact ⟨rfl, rfl⟩
  · clear AB
    go_enter Tryd.func21, Tryd.ntmps21
    go_wp2
    go_ret
    exact ⟨rfl, rfl⟩

theorem dt_tz : ∀ t : Nat, t < 64 → dt.getD (2 ^ t * 285870213051353865 % 18446744073709551616 / 288230376151711744) 0 = (t : Int) := by decide +kernel

set_option maxHeartbeats 400000 in
theorem tz_any (o t : Nat) (w : World) (ho : o % 2 = 1) (h : o * 2 ^ t < 2 ^ 64) (hd : DT w) :
    Calls Tryd.prog 23 #[.int .u64 ((o * 2 ^ t : Nat) : Int)] w fun e w' => e = .returned (.int .i64 t) ∧ w' = w := by
  have ht : t < 64 := by
    apply Nat.lt_of_not_le
    intro h2
    have := Nat.pow_le_pow_right (show 0 < 2 by decide) h2
    have h3 : 1 * 2 ^ t ≤ o * 2 ^ t := Nat.mul_le_mul_right _ (by omega)
    omega
  have hp : 0 < o * 2 ^ t := Nat.mul_pos (by omega) (Nat.two_pow_pos t)
  have hw := neg_u64 (o * 2 ^ t) hp h
  have hb : bits .and .u64 ((o * 2 ^ t : Nat) : Int) ((2 ^ 64 - o * 2 ^ t : Nat) : Int) = ((2 ^ t : Nat) : Int) := by
    rw [bits_and_u64_nat _ _ (by omega) (by omega), low_bit o t ho h]
  have hdt := dt_tz t ht
  obtain ⟨ix, hix⟩ : ∃ ix, 2 ^ t * 285870213051353865 % 18446744073709551616 / 288230376151711744 = ix := ⟨_, rfl⟩
  have hi64 : ix < 64 := by omega
  have c := hd ix hi64
  rw [hix] at hdt
  rw [hdt] at c
  have hm : IntKind.u64.wrap (((2 ^ t : Nat) : Int) * 285870213051353865) = ((2 ^ t * 285870213051353865 % 18446744073709551616 : Nat) : Int) := by
    rw [IntKind.wrap_u64]; omega
  have hs : ((2 ^ t * 285870213051353865 % 18446744073709551616 : Nat) : Int) / 288230376151711744 = (ix : Int) := by omega
  have hne : ¬ ((o * 2 ^ t : Nat) : Int) = 0 := by omega
  generalize ((o * 2 ^ t : Nat) : Int) = X at *
  generalize ((2 ^ 64 - o * 2 ^ t : Nat) : Int) = Y at *
  generalize ((2 ^ t * 285870213051353865 % 18446744073709551616 : Nat) : Int) = Z at *
  generalize ((2 ^ t : Nat) : Int) = U at *
  clear hd hix hdt h ho hp
  go_enter Tryd.func23, Tryd.ntmps23
  go_wp2
  go_ret
  exact ⟨rfl, rfl⟩

/-- The word that normalize makes of a number below the normal ones. -/
def lg (x : Int) : Nat := (mgF x).toNat.log2
def nyW (x : Int) : Int := if exF x = 0 then (if sgF x = true then 9223372036854775808 else 0) + ((lg x : Int) * 4503599627370496 + mgF x * 2 ^ (52 - lg x)) else x
def nyK (x : Int) : Int := if exF x = 0 then -52 else 0

theorem ny_normal (x : Int) (h : exF x ≠ 0) : nyW x = x ∧ nyK x = 0 := by unfold nyW nyK; rw [if_neg h, if_neg h]; exact ⟨rfl, rfl⟩

theorem lg_bd (x : Int) (h : exF x = 0) (hm : mgF x ≠ 0) : lg x ≤ 51 ∧ 4503599627370496 ≤ mgF x * 2 ^ (52 - lg x) ∧ mgF x * 2 ^ (52 - lg x) < 9007199254740992 := by
  have hf := frF_bd x
  have hmf : mgF x = frF x := by unfold mgF; rw [if_pos h]
  have hm0 : (mgF x).toNat ≠ 0 := by omega
  have h1 : 2 ^ lg x ≤ (mgF x).toNat := Nat.log2_self_le hm0
  have h2 : (mgF x).toNat < 2 ^ (lg x + 1) := Nat.lt_log2_self
  have h3 : lg x ≤ 51 := by
    apply Nat.le_of_not_lt
    intro h4
    have := Nat.pow_le_pow_right (show 0 < 2 by decide) (show 52 ≤ lg x from h4)
    omega
  have e1 : 2 ^ lg x * 2 ^ (52 - lg x) = 4503599627370496 := by rw [← Nat.pow_add, show lg x + (52 - lg x) = 52 by omega]
  have e2 : 2 ^ (lg x + 1) * 2 ^ (52 - lg x) = 9007199254740992 := by rw [← Nat.pow_add, show lg x + 1 + (52 - lg x) = 53 by omega]
  have p := Nat.two_pow_pos (52 - lg x)
  have g1 : 2 ^ lg x * 2 ^ (52 - lg x) ≤ (mgF x).toNat * 2 ^ (52 - lg x) := Nat.mul_le_mul_right _ h1
  have g2 : (mgF x).toNat * 2 ^ (52 - lg x) < 2 ^ (lg x + 1) * 2 ^ (52 - lg x) := Nat.mul_lt_mul_of_pos_right h2 p
  have ec : mgF x * 2 ^ (52 - lg x) = (((mgF x).toNat * 2 ^ (52 - lg x) : Nat) : Int) := by
    rw [Int.natCast_mul, Int.natCast_pow, Int.toNat_of_nonneg (by omega)]; rfl
  rw [ec]
  omega

theorem ny_sub (x : Int) (h : exF x = 0) (hm : mgF x ≠ 0) : 0 ≤ nyW x ∧ nyW x ≤ 18446744073709551615 ∧ exF (nyW x) = lg x + 1 ∧ sgF (nyW x) = sgF x ∧ mgF (nyW x) = mgF x * 2 ^ (52 - lg x) ∧ nyK x = -52 := by
  obtain ⟨b1, b2, b3⟩ := lg_bd x h hm
  unfold nyK
  rw [if_pos h]
  have hw : nyW x = (if sgF x = true then 9223372036854775808 else 0) + ((lg x : Int) * 4503599627370496 + mgF x * 2 ^ (52 - lg x)) := by unfold nyW; rw [if_pos h]
  rw [hw]
  generalize mgF x * 2 ^ (52 - lg x) = c at *
  generalize lg x = l at *
  clear hw
  generalize sgF x = s
  unfold mgF sgF frF exF
  cases s
  · simp only [Bool.false_eq_true, if_false]
    refine ⟨by omega, by omega, by omega, ?_, ?_, trivial⟩
    · rw [beq_eq_false_iff_ne]; omega
    · rw [if_neg (by omega)]; omega
  · simp only [if_true]
    refine ⟨by omega, by omega, by omega, ?_, ?_, trivial⟩
    · rw [beq_iff_eq]; omega
    · rw [if_neg (by omega)]; omega

theorem wd_int (s : Bool) (r : Nat) : ((Ieee.double.word s r : Nat) : Int) = (if s = true then 9223372036854775808 else 0) + (r : Int) := by
  cases s
  · simp [Ieee.Format.word]
  · show ((9223372036854775808 + r : Nat) : Int) = _
    simp

/-- A number below the normal ones, times 2^52. -/
theorem mul_sub (x : Int) (h0 : 0 ≤ x) (h1 : x ≤ 18446744073709551615) (h : exF x = 0) (hm : mgF x ≠ 0) : floatBits .mul .f64 x.toNat 4841369599423283200 = some (nyW x).toNat := by
  obtain ⟨b1, b2, b3⟩ := lg_bd x h hm
  have hf := frF_bd x
  have hmf : mgF x = frF x := by unfold mgF; rw [if_pos h]
  have hp : plF x = -1074 := by unfold plF; rw [if_pos h]; rfl
  have hr := read_num x h0 h1 (by rw [h]; decide)
  have hc : Ieee.double.read 4841369599423283200 = .number false 4503599627370496 0 := by decide +kernel
  show Ieee.double.mul x.toNat 4841369599423283200 = _
  unfold Ieee.Format.mul
  rw [hr, hc]
  show some (Ieee.double.nearest (sgF x ^^ false) ((mgF x).toNat * 4503599627370496) (plF x + 0)) = _
  rw [Bool.xor_false, hp, nearest_eq _ _ _ _ (by omega)]
  have hR : rungOf Ieee.double ((mgF x).toNat * 4503599627370496) (-1074 + 0) = lg x * 4503599627370496 + (mgF x * 2 ^ (52 - lg x)).toNat := by
    apply rung_exact _ _ (by omega)
    rw [dL, show ((-1074 : Int) + 0 - -1074).toNat = 0 by decide, show ((-1074 : Int) - (-1074 + 0)).toNat = 0 by decide, Nat.pow_zero, Nat.mul_one, Nat.mul_one]
    rw [show (4503599627370496 : Nat) = Ieee.double.binade from rfl, V_up Ieee.double.binade (lg x) _ dBpos (by rw [dB]; omega) (by rw [dB]; omega), dB]
    have ec : (mgF x * 2 ^ (52 - lg x)).toNat = (mgF x).toNat * 2 ^ (52 - lg x) := by
      have : mgF x * 2 ^ (52 - lg x) = (((mgF x).toNat * 2 ^ (52 - lg x) : Nat) : Int) := by
        rw [Int.natCast_mul, Int.natCast_pow, Int.toNat_of_nonneg (by omega)]; rfl
      rw [this, Int.toNat_natCast]
    rw [ec, Nat.mul_assoc, ← Nat.pow_add, show 52 - lg x + lg x = 52 by omega]
  rw [hR, dI, Nat.min_eq_left (by omega)]
  congr 1
  have := wd_int (sgF x) (lg x * 4503599627370496 + (mgF x * 2 ^ (52 - lg x)).toNat)
  have hw : nyW x = (if sgF x = true then 9223372036854775808 else 0) + ((lg x : Int) * 4503599627370496 + mgF x * 2 ^ (52 - lg x)) := by unfold nyW; rw [if_pos h]
  rw [hw]
  have e2 : ((lg x * 4503599627370496 + (mgF x * 2 ^ (52 - lg x)).toNat : Nat) : Int) = (lg x : Int) * 4503599627370496 + mgF x * 2 ^ (52 - lg x) := by
    rw [Int.natCast_add, Int.natCast_mul, Int.toNat_of_nonneg (by omega)]; rfl
  rw [e2] at this
  rw [← this, Int.toNat_natCast]

set_option maxHeartbeats 400000 in
theorem norm_num (x : Int) (w : World) (h0 : 0 ≤ x) (h1 : x ≤ 18446744073709551615) (he : exF x ≠ 2047) (hm : mgF x ≠ 0) :
    Calls Tryd.prog 33 #[.float .f64 x.toNat] w fun e w' => e = .returned (.tuple #[.float .f64 (nyW x).toNat, .int .i64 (nyK x)]) ∧ w' = w := by
  have AB := fun w => abs_any x w h0 h1
  have be := exF_bd x
  have g1 : (FloatKind.f64.format.order (x % 9223372036854775808).toNat 4503599627370496 == some .lt) = decide (exF x = 0) := by
    rw [show FloatKind.f64.format = Ieee.double from rfl, order_lt _ _ (by rw [dI]; unfold exF at he be; omega) (by decide), Bool.eq_iff_iff, decide_eq_true_iff, decide_eq_true_iff]
    unfold exF; omega
  by_cases hz : exF x = 0
  · have hmul : ∀ w : World, (binOp .mul 24 (.float .f64 x.toNat) (.float .f64 4841369599423283200)).run Tryd.prog w = .ok (.float .f64 (nyW x).toNat) w := fun w => run_float_arith w .mul 24 .f64 _ _ _ (mul_sub x h0 h1 hz hm)
    have hk : Hid (nyK x = -52) := (ny_sub x hz hm).2.2.2.2.2
    rw [decide_eq_true hz] at g1
    clear hz he hm be
    generalize (x % 9223372036854775808).toNat = Z at *
    generalize (nyW x).toNat = Y at *
    generalize x.toNat = X at *
    go_enter Tryd.func33, Tryd.ntmps33
    go_wp2_with fail
    refine (AB _).mono ?_
    rintro r w1 ⟨rfl, rfl⟩
    clear AB
    go_wp2
    go_ret2
    exact ⟨by rw [hk.out]; rfl, rfl⟩
  · obtain ⟨hn1, hn2⟩ := ny_normal x hz
    rw [hn1, hn2]
    rw [decide_eq_false hz] at g1
    clear hz he hm be hn1 hn2
    generalize (x % 9223372036854775808).toNat = Z at *
    generalize x.toNat = X at *
    go_enter Tryd.func33, Tryd.ntmps33
    go_wp2_with fail
    refine (AB _).mono ?_
    rintro r w1 ⟨rfl, rfl⟩
    clear AB
    go_wp2
    go_ret2
    exact ⟨rfl, rfl⟩

end Go.Proofs.YtjlbbnjcdickgacDoor
