/- gauge.Make at every m and e, walked. -/
import Derived.Test.YtjlbbnjcdickgabDoorMMd
import Derived.Test.YtjlbbnjcdickgabDoorMMl
set_option maxRecDepth 4000
namespace Go.Proofs.YtjlbbnjcdickgabDoor
open Go.RowKit Ieee

set_option maxHeartbeats 400000 in
theorem ldexp_nil (e : Int) (w : World) :
    Calls Tryd.prog 32 #[.float .f64 0, .int .i64 e] w fun r w' => r = .returned (.float .f64 0) ∧ w' = w := by
  have z : (FloatKind.f64.format.order 0 0 == some .eq) = true := by decide +kernel
  go_enter Tryd.func32, Tryd.ntmps32
  go_wp2
  go_ret
  exact ⟨rfl, rfl⟩

set_option maxHeartbeats 400000 in
theorem Ldexp_nil (e : Int) (w : World) :
    Calls Tryd.prog 25 #[.float .f64 0, .int .i64 e] w fun r w' => r = .returned (.float .f64 0) ∧ w' = w := by
  go_enter Tryd.func25, Tryd.ntmps25
  go_wp2_with fail
  refine (ldexp_nil _ _).mono ?_
  rintro r w1 ⟨rfl, rfl⟩
  go_wp2
  go_ret
  exact ⟨rfl, rfl⟩

theorem nearest_nil (s : Bool) (e : Int) : double.nearest s 0 e = double.word s 0 := by unfold Format.nearest; rw [if_pos rfl]

/-- How low the place of an integer's word is. -/
theorem place_low (N : Nat) (hN : N < 2 ^ 64) (k : Nat) (hk : 2 ^ k ≤ N) : (k : Int) - 53 < plF (flR N : Nat) := by
  obtain ⟨fe, fs, fv⟩ := flR_fields' N hN
  have h1 := flR_mono hk
  rw [flR_pow] at h1
  have h2 := V_mono double.binade dBpos h1
  rw [show k + 1023 = (k + 1022) + 1 by omega, V_pow] at h2
  have bf := frF_bd (flR N : Nat)
  have hmb : mgF (flR N : Nat) < 9007199254740992 := by unfold mgF; split <;> omega
  have hp : -1074 ≤ plF (flR N : Nat) := by have := exF_bd (flR N : Nat); unfold plF; split <;> omega
  have q1 : mgF (flR N : Nat) * 2 ^ (plF (flR N : Nat) + 1074).toNat < 9007199254740992 * 2 ^ (plF (flR N : Nat) + 1074).toNat := Int.mul_lt_mul_of_pos_right hmb (pow_pos_int _)
  rw [fv, show (9007199254740992 : Int) = 2 ^ 53 by decide, ← Int.pow_add] at q1
  have q2 : (2 : Int) ^ (52 + (k + 1022)) ≤ (V double.binade (flR N) : Nat) := by
    have : ((2 ^ (52 + (k + 1022)) : Nat) : Int) ≤ ((V double.binade (flR N) : Nat) : Int) := Int.ofNat_le.mpr h2
    rw [Int.natCast_pow] at this
    exact this
  have q3 := pow_lt_imp _ _ (Int.lt_of_le_of_lt q2 q1)
  omega

theorem ldx (S : Nat) (E : Int) (w : World) (hS : S < 2 ^ 64) (hE : E ≤ 1024) (hc : S ≠ 0 → -1075 ≤ E + plF (flR S : Nat) + 52) :
    Calls Tryd.prog 25 #[.float .f64 (flR S), .int .i64 E] w fun r w' => r = .returned (.float .f64 (double.nearest false (mgF (flR S : Nat)).toNat (plF (flR S : Nat) + E))) ∧ w' = w := by
  by_cases h0 : S = 0
  · subst h0
    rw [show flR 0 = 0 from rfl, show (mgF ((0 : Nat) : Int)).toNat = 0 by decide, nearest_nil]
    exact Ldexp_nil E w
  · exact Ldexp_int S E w hS h0 (hc h0) hE

theorem lift_zero (S : Nat) (h : S = 0) (E : Int) : double.nearest false (mgF (flR S : Nat)).toNat (plF (flR S : Nat) + E) = double.nearest false S E := by
  subst h
  rw [show flR 0 = 0 from rfl, show (mgF ((0 : Nat) : Int)).toNat = 0 by decide, nearest_nil, nearest_nil]

/-- What stays where nothing is dropped. -/
theorem stay_eq (N : Nat) (E : Int) (hN : N < 2 ^ 64) (hc : -1074 - E ≤ (bl N : Int) - 53 ∨ -1074 - E ≤ 0) (h0 : -1174 ≤ E) (h1 : E ≤ 1024) :
    double.nearest false (mgF (flR N : Nat)).toNat (plF (flR N : Nat) + E) = double.nearest false N E := by
  by_cases hz : N = 0
  · exact lift_zero N hz E
  · exact twice N E hz hN hc h0 h1

theorem low_word (R : Nat) (hR : R ≤ 2 ^ 52) : double.nearest false R (-1074) = R := by
  by_cases hz : R = 0
  · subst hz; rw [nearest_nil, word_f]
  · have : rungOf double R (-1074) = R := by
      apply rung_exact R (-1074) hz
      rw [dL, show ((-1074 : Int) - -1074).toNat = 0 by decide, dB, V_low (2 ^ 52) R (by omega) (by decide)]
    rw [nearest_eq _ _ _ _ hz, this, dI, word_f]
    omega

/-- What is left where the last digits are dropped. -/
theorem dropped_eq (N : Nat) (E : Int) (hN : N < 2 ^ 64) (hd : 0 < -1074 - E) (hb : (bl N : Int) - (-1074 - E) < 53) :
    rnd N (2 ^ (-1074 - E).toNat) ≤ 2 ^ 52 ∧ double.nearest false (mgF (flR (rnd N (2 ^ (-1074 - E).toNat)) : Nat)).toNat (plF (flR (rnd N (2 ^ (-1074 - E).toNat)) : Nat) + -1074) = double.nearest false N E := by
  obtain ⟨d, hdd⟩ : ∃ d : Nat, (-1074 - E).toNat = d := ⟨_, rfl⟩
  have hle : rnd N (2 ^ d) ≤ 2 ^ 52 := by
    rw [rnd_le _ _ _ (Nat.two_pow_pos d)]
    left
    have h1 := bl_lt N
    have h2 := Nat.pow_le_pow_right (show 0 < 2 by decide) (show bl N ≤ 52 + d by omega)
    rw [Nat.pow_add] at h2
    have h3 := Nat.two_pow_pos d
    generalize 2 ^ d = g at *
    omega
  rw [hdd]
  refine ⟨hle, ?_⟩
  rw [stay_eq _ (-1074) (by omega) (Or.inr (by decide)) (by decide) (by decide), low_word _ hle]
  by_cases hz : N = 0
  · subst hz
    have : rnd 0 (2 ^ d) = 0 := by
      have : rnd 0 (2 ^ d) ≤ 0 := by rw [rnd_le _ _ _ (Nat.two_pow_pos d)]; left; have := Nat.two_pow_pos d; omega
      omega
    rw [this, nearest_nil, word_f]
  · have hr := rung_least N E hz hd hb
    rw [hdd] at hr
    rw [nearest_eq _ _ _ _ hz, hr, dI, word_f]
    omega

theorem nearest_lt (N : Nat) (e : Int) : double.nearest false N e ≤ 2047 * 2 ^ 52 := by
  by_cases hz : N = 0
  · subst hz; rw [nearest_nil, word_f]; omega
  · rw [nearest_eq _ _ _ _ hz, word_f, dI]; omega

theorem nearest_sign (s : Bool) (N : Nat) (e : Int) : double.nearest s N e = (if s = true then 9223372036854775808 else 0) + double.nearest false N e := by
  by_cases hz : N = 0
  · subst hz; rw [nearest_nil, nearest_nil]; cases s <;> rfl
  · rw [nearest_eq _ _ _ _ hz, nearest_eq _ _ _ _ hz]
    cases s
    · rw [w_false, if_neg (by decide), Nat.zero_add]
    · rw [w_true, w_false, if_pos rfl]

/-- The sign laid on. -/
theorem sign_on (m e : Int) (h0 : -9223372036854775808 ≤ m) (h1 : m ≤ 9223372036854775807) :
    ((ofW m : Int) / 9223372036854775808 * 9223372036854775808 + (double.nearest false m.natAbs e : Int) % 9223372036854775808).toNat = double.nearest (decide (m < 0)) m.natAbs e := by
  have a := ofW_eq m h0 h1
  have b := nearest_lt m.natAbs e
  have c := flR_lt m.natAbs (by omega)
  rw [nearest_sign (decide (m < 0))]
  by_cases hm : m < 0
  · rw [decide_eq_true hm, if_pos rfl]
    rw [if_pos hm] at a
    omega
  · rw [decide_eq_false hm, if_neg (by decide)]
    rw [if_neg hm] at a
    omega

theorem float_of (S : Nat) (hS : S < 2 ^ 64) : floatOfInt .f64 (S : Int) = flR S := by
  show double.nearest (decide ((S : Int) < 0)) (S : Int).natAbs 0 = _
  rw [decide_eq_false (by omega), show (S : Int).natAbs = S by omega, nearest_int S hS]

end Go.Proofs.YtjlbbnjcdickgabDoor
