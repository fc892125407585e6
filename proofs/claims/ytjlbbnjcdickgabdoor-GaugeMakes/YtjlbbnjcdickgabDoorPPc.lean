/- math.Frexp and gauge.Parts at every word, walked. -/
import Derived.Test.YtjlbbnjcdickgabDoorPPb
namespace Go.Proofs.YtjlbbnjcdickgabDoor
open Go.RowKit

/-- normalize's word has the number's sign and a full fraction. -/
theorem ny_facts (x : Int) (h0 : 0 ≤ x) (h1 : x ≤ 18446744073709551615) (he : exF x ≠ 2047) (hm : mgF x ≠ 0) :
    0 ≤ nyW x ∧ nyW x ≤ 18446744073709551615 ∧ exF (nyW x) ≠ 0 ∧ exF (nyW x) ≠ 2047 ∧ sgF (nyW x) = sgF x := by
  by_cases hz : exF x = 0
  · obtain ⟨a, b, c, d, _, _⟩ := ny_sub x hz hm
    have := (lg_bd x hz hm).1
    exact ⟨a, b, by omega, by omega, d⟩
  · obtain ⟨a, _⟩ := ny_normal x hz
    rw [a]
    exact ⟨h0, h1, hz, he, rfl⟩

/-- frexp's word and exponent. -/
def fxW (x : Int) : Int := (if sgF x = true then 9223372036854775808 else 0) + 4602678819172646912 + frF (nyW x)
def fxE (x : Int) : Int := nyK x + (exF (nyW x) - 1022)

theorem nn_num (x : Int) (h0 : 0 ≤ x) (h1 : x ≤ 18446744073709551615) (he : exF x ≠ 2047) : nn x.toNat = false := (size_num x h0 h1 he).1

theorem zero_num (x : Int) (h0 : 0 ≤ x) (h1 : x ≤ 18446744073709551615) (he : exF x ≠ 2047) : (FloatKind.f64.format.order x.toNat 0 == some .eq) = decide (mgF x = 0) := by
  obtain ⟨a1, a2, a3⟩ := size_num x h0 h1 he
  have hc : fnan Ieee.double 0 = false ∧ fside Ieee.double 0 = 0 ∧ fsize Ieee.double 0 = 0 := by decide +kernel
  have p := pow_pos_int (plF x + 1074).toNat
  rw [show FloatKind.f64.format = Ieee.double from rfl, Bool.eq_iff_iff, feq_iff, a1, a2, a3, hc.1, hc.2.1, hc.2.2, decide_eq_true_iff]
  constructor
  · rintro ⟨_, _, _, h⟩
    rcases Int.mul_eq_zero.mp h with h | h
    · split at h <;> omega
    · rcases Int.mul_eq_zero.mp h with h | h
      · exact h
      · omega
  · intro h; rw [h]; simp

set_option maxHeartbeats 1000000 in
theorem frexp_num (x : Int) (w : World) (h0 : 0 ≤ x) (h1 : x ≤ 18446744073709551615) (he : exF x ≠ 2047) (hm : mgF x ≠ 0) :
    Calls Tryd.prog 30 #[.float .f64 x.toNat] w fun e w' => e = .returned (.tuple #[.float .f64 (fxW x).toNat, .int .i64 (fxE x)]) ∧ w' = w := by
  obtain ⟨y0, y1, yz, ye, ys⟩ := ny_facts x h0 h1 he hm
  have z := zero_num x h0 h1 he
  rw [decide_eq_false hm] at z
  have hn : Hid (nn x.toNat = false) := nn_num x h0 h1 he
  have I := fun w => isinf_num x 0 w h0 h1 he (by simp)
  have N := fun w => norm_num x w h0 h1 he hm
  have b1 := bits_int (nyW x) y0
  have f1 := from_run (fxW x)
  have m1 : bits .and .u64 (nyW x / 4503599627370496) 2047 = exF (nyW x) := by
    have := and_2047 (nyW x / 4503599627370496).toNat (by omega)
    rw [Int.toNat_of_nonneg (by omega)] at this
    rw [this]; unfold exF; omega
  have hs2 : (if sgF x = true then (9223372036854775808 : Int) else 0) = nyW x / 9223372036854775808 * 9223372036854775808 := by
    rw [← ys]; unfold sgF
    rcases (show nyW x / 9223372036854775808 = 0 ∨ nyW x / 9223372036854775808 = 1 by omega) with h | h <;> rw [h] <;> rfl
  have m2 : bits .andNot .u64 (nyW x) 9218868437227405312 = nyW x / 9223372036854775808 * 9223372036854775808 + frF (nyW x) := by
    have := mask_exp (nyW x).toNat (by omega)
    rw [Int.toNat_of_nonneg y0] at this
    rw [this]; unfold frF; omega
  have m3 : bits .or .u64 (nyW x / 9223372036854775808 * 9223372036854775808 + frF (nyW x)) 4602678819172646912 = fxW x := by
    have bf := frF_bd (nyW x)
    have := or_exp (nyW x / 9223372036854775808).toNat (frF (nyW x)).toNat (by omega) (by omega)
    rw [show (((nyW x / 9223372036854775808).toNat * 9223372036854775808 + (frF (nyW x)).toNat : Nat) : Int) = nyW x / 9223372036854775808 * 9223372036854775808 + frF (nyW x) by omega] at this
    rw [this]; unfold fxW; rw [hs2]; omega
  have be := exF_bd (nyW x)
  have bk : -52 ≤ nyK x ∧ nyK x ≤ 0 := by unfold nyK; split <;> omega
  have hE : Hid (fxE x = nyK x + (exF (nyW x) - 1022)) := rfl
  clear hs2 ys yz ye he hm
  generalize fxE x = FE at *
  generalize fxW x = FW at *
  generalize FW.toNat = FX at *
  generalize nyW x / 9223372036854775808 * 9223372036854775808 + frF (nyW x) = U at *
  generalize exF (nyW x) = EX at *
  generalize (nyW x).toNat = YX at *
  generalize nyK x = K at *
  generalize nyW x = Y at *
  generalize x.toNat = X at *
  go_enter Tryd.func30, Tryd.ntmps30
  go_wp2_with fail
  refine (I _).mono ?_
  rintro r w1 ⟨rfl, rfl⟩
  clear I
  go_wp2_with fail
  refine (isnan_any _ _).mono ?_
  rintro r w1 ⟨rfl, rfl⟩
  rw [hn.out]
  go_wp2_with fail
  refine (N _).mono ?_
  rintro r w1 ⟨rfl, rfl⟩
  clear N
  go_wp2
  rw [show K + (EX - 1023 + 1) = FE by rw [hE.out]; omega]
  go_ret2
  exact ⟨rfl, rfl⟩

set_option maxHeartbeats 400000 in
theorem Frexp_num (x : Int) (w : World) (h0 : 0 ≤ x) (h1 : x ≤ 18446744073709551615) (he : exF x ≠ 2047) (hm : mgF x ≠ 0) :
    Calls Tryd.prog 19 #[.float .f64 x.toNat] w fun e w' => e = .returned (.tuple #[.float .f64 (fxW x).toNat, .int .i64 (fxE x)]) ∧ w' = w := by
  have FX := fun w => frexp_num x w h0 h1 he hm
  generalize x.toNat = X at *
  generalize (fxW x).toNat = Y at *
  generalize fxE x = E at *
  go_enter Tryd.func19, Tryd.ntmps19
  go_wp2_with fail
  refine (FX _).mono ?_
  rintro r w1 ⟨rfl, rfl⟩
  clear FX
  go_wp2
  go_ret2
  exact ⟨rfl, rfl⟩

theorem odd_part (m : Nat) (h : 0 < m) : ∃ o t : Nat, o % 2 = 1 ∧ o * 2 ^ t = m := by
  induction m using Nat.strongRecOn with
  | _ m ih =>
    by_cases hp : m % 2 = 1
    · exact ⟨m, 0, hp, by simp⟩
    · obtain ⟨o, t, ho, ht⟩ := ih (m / 2) (by omega) (by omega)
      exact ⟨o, t + 1, ho, by rw [Nat.pow_succ, ← Nat.mul_assoc, ht]; omega⟩

theorem odd_unique (o p : Int) (t u : Nat) (ho : o % 2 = 1) (hp : p % 2 = 1) (h : o * 2 ^ t = p * 2 ^ u) : o = p ∧ t = u := by
  have key : ∀ (a b : Int) (i j : Nat), a % 2 = 1 → i < j → a * 2 ^ i = b * 2 ^ j → False := by
    intro a b i j ha hij h
    obtain ⟨d, rfl⟩ : ∃ d, j = i + (d + 1) := ⟨j - i - 1, by omega⟩
    rw [Int.pow_add, Int.mul_comm ((2 : Int) ^ i), ← Int.mul_assoc] at h
    have := Int.eq_of_mul_eq_mul_right (by have := pow_pos_int i; omega) h
    rw [Int.pow_succ, ← Int.mul_assoc] at this
    omega
  rcases Nat.lt_trichotomy t u with h1 | h1 | h1
  · exact (key o p t u ho h1 h).elim
  · subst h1
    exact ⟨Int.eq_of_mul_eq_mul_right (by have := pow_pos_int t; omega) h, rfl⟩
  · exact (key p o u t hp h1 h.symm).elim

theorem PartsR_unique {M P : Int} {s : Bool} {r r' : Ending} (h : PartsR M P s r) (h' : PartsR M P s r') : r = r' := by
  obtain ⟨o, t, ho, _, hM, _, rfl⟩ := h
  obtain ⟨p, u, hp, _, hM', _, rfl⟩ := h'
  obtain ⟨rfl, rfl⟩ := odd_unique o p t u ho hp (by rw [hM, hM'])
  rfl

/-- The full fraction. -/
def M53 (x : Int) : Int := frF (nyW x) + 4503599627370496

theorem fx_fields (x : Int) : 0 ≤ fxW x ∧ fxW x ≤ 18446744073709551615 ∧ exF (fxW x) = 1022 ∧ sgF (fxW x) = sgF x ∧ mgF (fxW x) = M53 x ∧ plF (fxW x) = -53 := by
  have bf := frF_bd (nyW x)
  unfold M53
  have hw : fxW x = (if sgF x = true then 9223372036854775808 else 0) + 4602678819172646912 + frF (nyW x) := rfl
  rw [hw]
  generalize frF (nyW x) = f at *
  generalize sgF x = s
  have he : exF ((if s = true then 9223372036854775808 else 0) + 4602678819172646912 + f) = 1022 := by
    unfold exF; cases s
    · simp only [Bool.false_eq_true, if_false]; omega
    · simp only [if_true]; omega
  refine ⟨?_, ?_, he, ?_, ?_, ?_⟩
  · cases s
    · simp only [Bool.false_eq_true, if_false]; omega
    · simp only [if_true]; omega
  · cases s
    · simp only [Bool.false_eq_true, if_false]; omega
    · simp only [if_true]; omega
  · unfold sgF
    cases s
    · simp only [Bool.false_eq_true, if_false]; rw [beq_eq_false_iff_ne]; omega
    · simp only [if_true]; rw [beq_iff_eq]; omega
  · unfold mgF; rw [he, if_neg (by decide)]; unfold frF
    cases s
    · simp only [Bool.false_eq_true, if_false]; omega
    · simp only [if_true]; omega
  · unfold plF; rw [he]; rfl

/-- The places between. -/
def t22 : Nat := 1022

/-- The full fraction as a number: the word, and the integer. -/
theorem mul_full (x : Int) : ∃ v : Nat, floatBits .mul .f64 (fxW x).toNat 4845873199050653696 = some v ∧ floatToIntVal .f64 v .i64 = some (if sgF x = true then -M53 x else M53 x) := by
  obtain ⟨z0, z1, ze, zs, zm, zp⟩ := fx_fields x
  have bm : 4503599627370496 ≤ M53 x ∧ M53 x < 9007199254740992 := by have := frF_bd (nyW x); unfold M53; omega
  have hr := read_num (fxW x) z0 z1 (by rw [ze]; decide)
  rw [zs, zm, zp] at hr
  have hc : Ieee.double.read 4845873199050653696 = .number false 4503599627370496 1 := by decide +kernel
  have hR : rungOf Ieee.double ((M53 x).toNat * 4503599627370496) (-53 + 1) = 1074 * 4503599627370496 + (M53 x).toNat := by
    apply rung_exact _ _ (by omega)
    rw [dL, show ((-53 : Int) + 1 - -1074).toNat = t22 by decide, show ((-1074 : Int) - (-53 + 1)).toNat = 0 by decide, Nat.pow_zero, Nat.mul_one]
    rw [show (4503599627370496 : Nat) = Ieee.double.binade from rfl, V_up Ieee.double.binade 1074 _ dBpos (by rw [dB]; omega) (by rw [dB]; omega), dB, Nat.mul_assoc, ← Nat.pow_add, show 52 + t22 = 1074 from rfl]
  refine ⟨Ieee.double.word (sgF x) (1074 * 4503599627370496 + (M53 x).toNat), ?_, ?_⟩
  · show Ieee.double.mul (fxW x).toNat 4845873199050653696 = _
    unfold Ieee.Format.mul
    rw [hr, hc]
    show some (Ieee.double.nearest (sgF x ^^ false) ((M53 x).toNat * 4503599627370496) (-53 + 1)) = _
    rw [Bool.xor_false, nearest_eq _ _ _ _ (by omega), hR, dI, Nat.min_eq_left (by omega)]
  · have hv := wd_int (sgF x) (1074 * 4503599627370496 + (M53 x).toNat)
    generalize hV : Ieee.double.word (sgF x) (1074 * 4503599627370496 + (M53 x).toNat) = v at *
    have e0 : ((1074 * 4503599627370496 + (M53 x).toNat : Nat) : Int) = 1074 * 4503599627370496 + M53 x := by omega
    rw [e0] at hv
    generalize M53 x = m at *
    generalize sgF x = s at *
    have vx : exF (v : Int) = 1075 := by
      rw [hv]; unfold exF; cases s
      · simp only [Bool.false_eq_true, if_false]; omega
      · simp only [if_true]; omega
    have vs : sgF (v : Int) = s := by
      rw [hv]; unfold sgF; cases s
      · simp only [Bool.false_eq_true, if_false]; rw [beq_eq_false_iff_ne]; omega
      · simp only [if_true]; rw [beq_iff_eq]; omega
    have vm : mgF (v : Int) = m := by
      unfold mgF; rw [vx, if_neg (by decide)]; unfold frF; rw [hv]; cases s
      · simp only [Bool.false_eq_true, if_false]; omega
      · simp only [if_true]; omega
    have vp : plF (v : Int) = 0 := by unfold plF; rw [vx]; rfl
    have v1 : (v : Int) ≤ 18446744073709551615 := by
      rw [hv]; cases s
      · simp only [Bool.false_eq_true, if_false]; omega
      · simp only [if_true]; omega
    have hr2 := read_num (v : Int) (by omega) v1 (by rw [vx]; decide)
    rw [vs, vm, vp, Int.toNat_natCast] at hr2
    unfold floatToIntVal
    rw [show FloatKind.f64.decode v = Ieee.double.read v from rfl, hr2, toInt_num]
    have ht : trOE ((m.toNat : Nat) : Int) 0 = m := by unfold trOE; simp; omega
    rw [ht]
    have hlo : IntKind.i64.min = -9223372036854775808 := rfl
    have hhi : IntKind.i64.max = 9223372036854775807 := rfl
    simp only
    rw [if_pos]
    rw [hlo, hhi]
    cases s <;> simp <;> omega

end Go.Proofs.YtjlbbnjcdickgabDoor
