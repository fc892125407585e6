/- gauge.Parts at every word, walked. -/
import Derived.Test.YtjlbbnjcdickgabDoorPPc
namespace Go.Proofs.YtjlbbnjcdickgabDoor
open Go.RowKit

/-- The parts of the full fraction are those of the number. -/
theorem parts_back (x o : Int) (t : Nat) (hm : mgF x ≠ 0) (ho : o % 2 = 1) (ho0 : 0 < o) (ht : t ≤ 53) (h : o * 2 ^ t = M53 x) :
    PartsR (mgF x) (plF x) (sgF x) (.returned (.tuple #[.int .i64 (if sgF x = true then -o else o), .int .i64 (fxE x - 53 + t), .int .i64 0])) := by
  by_cases hz : exF x = 0
  · obtain ⟨_, _, ye, _, ym, yk⟩ := ny_sub x hz hm
    obtain ⟨l1, _, _⟩ := lg_bd x hz hm
    have hM : M53 x = mgF x * 2 ^ (52 - lg x) := by
      rw [← ym]; unfold M53 mgF; rw [if_neg (by omega)]
    rw [hM] at h
    have hge : 52 - lg x ≤ t := by
      apply Nat.le_of_not_lt
      intro hlt
      obtain ⟨d, hd⟩ : ∃ d, 52 - lg x = t + (d + 1) := ⟨52 - lg x - t - 1, by omega⟩
      rw [hd, Int.pow_add, Int.mul_comm ((2 : Int) ^ t), ← Int.mul_assoc] at h
      have := Int.eq_of_mul_eq_mul_right (by have := pow_pos_int t; omega) h
      rw [Int.pow_succ, ← Int.mul_assoc] at this
      omega
    obtain ⟨u, hu⟩ : ∃ u, t = u + (52 - lg x) := ⟨t - (52 - lg x), by omega⟩
    have hu2 : o * 2 ^ u = mgF x := by
      rw [hu, Int.pow_add, ← Int.mul_assoc] at h
      exact Int.eq_of_mul_eq_mul_right (by have := pow_pos_int (52 - lg x); omega) h
    refine ⟨o, u, ho, ho0, hu2, by omega, ?_⟩
    have hp : plF x = -1074 := by unfold plF; rw [if_pos hz]; rfl
    have hfe : fxE x = -52 + ((lg x : Int) + 1 - 1022) := by unfold fxE; rw [yk, ye]
    rw [hp, hfe, show -52 + ((lg x : Int) + 1 - 1022) - 53 + (t : Int) = -1074 + (u : Int) by omega]
  · obtain ⟨yw, yk⟩ := ny_normal x hz
    refine ⟨o, t, ho, ho0, ?_, ht, ?_⟩
    · rw [h]; unfold M53 mgF; rw [yw, if_neg hz]
    · have hp : plF x = exF x - 1075 := by unfold plF; rw [if_neg hz]
      have hfe : fxE x = exF x - 1022 := by unfold fxE; rw [yk, yw]; omega
      rw [hp, hfe, show exF x - 1022 - 53 + (t : Int) = exF x - 1075 + (t : Int) by omega]

theorem shr_exact (o : Int) (t : Nat) : o * 2 ^ t / 2 ^ t = o := Int.mul_ediv_cancel _ (by have := pow_pos_int t; omega)
theorem shr_neg (o : Int) (t : Nat) : -(o * 2 ^ t) / 2 ^ t = -o := by rw [← Int.neg_mul]; exact shr_exact _ _

set_option maxHeartbeats 1000000 in
theorem parts_num (x : Int) (w : World) (h0 : 0 ≤ x) (h1 : x ≤ 18446744073709551615) (he : exF x ≠ 2047) (hm : mgF x ≠ 0) (hd : DT w) :
    Calls Tryd.prog 7 #[.float .f64 x.toNat] w fun r w' => PartsR (mgF x) (plF x) (sgF x) r ∧ w' = w := by
  have bm : 4503599627370496 ≤ M53 x ∧ M53 x < 9007199254740992 := by have := frF_bd (nyW x); unfold M53; omega
  have bE : -3000 ≤ fxE x ∧ fxE x ≤ 3000 := by have := exF_bd (nyW x); unfold fxE nyK; split <;> omega
  obtain ⟨o, t, ho, hot⟩ := odd_part (M53 x).toNat (by omega)
  have ho0 : 0 < o := by omega
  have hM : (o : Int) * 2 ^ t = M53 x := by
    have : ((o * 2 ^ t : Nat) : Int) = ((M53 x).toNat : Nat) := by rw [hot]
    rw [Int.natCast_mul, Int.natCast_pow] at this
    rw [show ((2 : Nat) : Int) = 2 from rfl] at this
    rw [this]; omega
  have ht := k_bd (o : Int) t (by omega) (by rw [hM]; omega)
  have FIN : Hid (PartsR (mgF x) (plF x) (sgF x) (.returned (.tuple #[.int .i64 (if sgF x = true then -(o : Int) else o), .int .i64 (fxE x - 53 + t), .int .i64 0]))) := parts_back x o t hm (by omega) (by omega) (by omega) hM
  have HD : Hid (DT w) := hd
  obtain ⟨v, v1, v2⟩ := mul_full x
  have z := zero_num x h0 h1 he
  rw [decide_eq_false hm] at z
  have hn : Hid (nn x.toNat = false) := nn_num x h0 h1 he
  have I1 := fun w => isinf_num x 1 w h0 h1 he (by simp)
  have I2 := fun w => isinf_num x (-1) w h0 h1 he (by simp)
  have FX := fun w => Frexp_num x w h0 h1 he hm
  have hmul : ∀ w : World, (binOp .mul 27 (.float .f64 (fxW x).toNat) (.float .f64 4845873199050653696)).run Tryd.prog w = .ok (.float .f64 v) w := fun w => run_float_arith w .mul 27 .f64 _ _ _ v1
  have hcv := fv v _ v2
  have T1 := fun w hd => tz_any o t w ho (by rw [hot]; omega) hd
  have T2 := fun w hd => tz_any (2 ^ (64 - t) - o) t w (by
      have : 2 ^ (64 - t) % 2 = 0 := by
        obtain ⟨d, hdd⟩ : ∃ d, 64 - t = d + 1 := ⟨63 - t, by omega⟩
        rw [hdd, Nat.pow_succ]; omega
      have : o * 1 ≤ o * 2 ^ t := Nat.mul_le_mul_left _ (Nat.two_pow_pos t)
      have : 2 ^ 11 ≤ 2 ^ (64 - t) := Nat.pow_le_pow_right (by decide) (by omega)
      have hlt : o < 2 ^ (64 - t) := by
        have e64 : 2 ^ 64 = 2 ^ (64 - t) * 2 ^ t := by rw [← Nat.pow_add, show 64 - t + t = 64 by omega]
        apply Nat.lt_of_mul_lt_mul_right (a := 2 ^ t)
        rw [← e64, hot]; omega
      omega) (by
      rw [Nat.sub_mul, ← Nat.pow_add, show 64 - t + t = 64 by omega, hot]; omega) hd
  have e2 : (((2 ^ (64 - t) - o) * 2 ^ t : Nat) : Int) = 18446744073709551616 - M53 x := by
    rw [Nat.sub_mul, ← Nat.pow_add, show 64 - t + t = 64 by omega, hot]; omega
  have e1 : ((o * 2 ^ t : Nat) : Int) = M53 x := by rw [hot]; omega
  rw [e1] at T1
  rw [e2] at T2
  have S1 : Hid (M53 x / 2 ^ t = o) := by unfold Hid; rw [← hM]; exact shr_exact _ _
  have S2 : Hid (-M53 x / 2 ^ t = -(o : Int)) := by unfold Hid; rw [← hM]; exact shr_neg _ _
  clear hd v1 v2 he hm hM hot e1 e2 ho
  generalize mgF x = MM at *
  generalize plF x = PP at *
  generalize M53 x = m at *
  generalize fxE x = FE at *
  generalize (fxW x).toNat = FW at *
  generalize sgF x = s at *
  generalize x.toNat = X at *
  cases s
  all_goals
    simp only [Bool.false_eq_true, if_false, if_true] at hcv FIN
    go_enter Tryd.func7, Tryd.ntmps7
    go_wp2_with fail
    refine (isnan_any _ _).mono ?_
    rintro r w1 ⟨rfl, rfl⟩
    rw [hn.out]
    go_wp2_with fail
    refine (I1 _).mono ?_
    rintro r w1 ⟨rfl, rfl⟩
    clear I1
    go_wp2_with fail
    refine (I2 _).mono ?_
    rintro r w1 ⟨rfl, rfl⟩
    clear I2
    go_wp2_with fail
    refine (FX _).mono ?_
    rintro r w1 ⟨rfl, rfl⟩
    clear FX
    go_wp2_with fail
  · refine (T1 _ HD.out).mono ?_
    rintro r w1 ⟨rfl, rfl⟩
    clear T1 T2
    go_wp2
    rw [S1.out]
    go_ret3
    exact ⟨FIN.out, rfl⟩
  · rw [show IntKind.u64.wrap (-m) = 18446744073709551616 - m by rw [IntKind.wrap_u64]; omega]
    refine (T2 _ HD.out).mono ?_
    rintro r w1 ⟨rfl, rfl⟩
    clear T1 T2
    go_wp2
    rw [S2.out]
    go_ret3
    exact ⟨FIN.out, rfl⟩

set_option maxHeartbeats 400000 in
theorem parts_zero (x : Int) (w : World) (h0 : 0 ≤ x) (h1 : x ≤ 18446744073709551615) (he : exF x ≠ 2047) (hm : mgF x = 0) :
    Calls Tryd.prog 7 #[.float .f64 x.toNat] w fun r w' => r = .returned (.tuple #[.int .i64 0, .int .i64 0, .int .i64 0]) ∧ w' = w := by
  have z := zero_num x h0 h1 he
  rw [decide_eq_true hm] at z
  have hn : Hid (nn x.toNat = false) := nn_num x h0 h1 he
  have I1 := fun w => isinf_num x 1 w h0 h1 he (by simp)
  have I2 := fun w => isinf_num x (-1) w h0 h1 he (by simp)
  clear he hm
  generalize x.toNat = X at *
  go_enter Tryd.func7, Tryd.ntmps7
  go_wp2_with fail
  refine (isnan_any _ _).mono ?_
  rintro r w1 ⟨rfl, rfl⟩
  rw [hn.out]
  go_wp2_with fail
  refine (I1 _).mono ?_
  rintro r w1 ⟨rfl, rfl⟩
  clear I1
  go_wp2_with fail
  refine (I2 _).mono ?_
  rintro r w1 ⟨rfl, rfl⟩
  clear I2
  go_wp2
  go_ret3
  exact ⟨rfl, rfl⟩

set_option maxHeartbeats 400000 in
theorem isinf_pos (k : Int) (w : World) (hk : k = 1 ∨ k = -1) :
    Calls Tryd.prog 18 #[.float .f64 9218868437227405312, .int .i64 k] w fun e w' => e = .returned (.bool (decide (k = 1))) ∧ w' = w := by
  have g1 : (FloatKind.f64.format.order 9218868437227405312 9218868437227405311 == some .gt) = true := by decide +kernel
  have g2 : (FloatKind.f64.format.order 18442240474082181120 9218868437227405311 == some .gt) = false := by decide +kernel
  have ng : ∀ w : World, (Op.unary .neg (.float .f64 9218868437227405312)).run Tryd.prog w = .ok (.float .f64 18442240474082181120) w := fun w => rfl
  rcases hk with rfl | rfl
  all_goals
    go_enter Tryd.func18, Tryd.ntmps18
    go_wp2
    go_ret
    exact ⟨rfl, rfl⟩

set_option maxHeartbeats 400000 in
theorem isinf_neg (k : Int) (w : World) (hk : k = 1 ∨ k = -1) :
    Calls Tryd.prog 18 #[.float .f64 18442240474082181120, .int .i64 k] w fun e w' => e = .returned (.bool (decide (k = -1))) ∧ w' = w := by
  have g1 : (FloatKind.f64.format.order 9218868437227405312 9218868437227405311 == some .gt) = true := by decide +kernel
  have g2 : (FloatKind.f64.format.order 18442240474082181120 9218868437227405311 == some .gt) = false := by decide +kernel
  have ng : ∀ w : World, (Op.unary .neg (.float .f64 18442240474082181120)).run Tryd.prog w = .ok (.float .f64 9218868437227405312) w := fun w => rfl
  rcases hk with rfl | rfl
  all_goals
    go_enter Tryd.func18, Tryd.ntmps18
    go_wp2
    go_ret
    exact ⟨rfl, rfl⟩

set_option maxHeartbeats 400000 in
theorem parts_odd (x : Int) (w : World) (h0 : 0 ≤ x) (h1 : x ≤ 18446744073709551615) (he : exF x = 2047) :
    Calls Tryd.prog 7 #[.float .f64 x.toNat] w fun r w' => r = .returned (.tuple #[.int .i64 0, .int .i64 0, .int .i64 (if frF x = 0 then (if sgF x then 2 else 1) else 3)]) ∧ w' = w := by
  by_cases hf : frF x = 0
  · rw [if_pos hf]
    have hx : x = 9218868437227405312 ∨ x = 18442240474082181120 := by unfold exF at he; unfold frF at hf; omega
    have n1 : Hid (nn 9218868437227405312 = false) := by show _ = _; decide +kernel
    have n2 : Hid (nn 18442240474082181120 = false) := by show _ = _; decide +kernel
    rcases hx with rfl | rfl
    · rw [show sgF 9218868437227405312 = false from rfl, show (9218868437227405312 : Int).toNat = 9218868437227405312 from rfl]
      clear he hf h0 h1
      go_enter Tryd.func7, Tryd.ntmps7
      go_wp2_with fail
      refine (isnan_any _ _).mono ?_
      rintro r w1 ⟨rfl, rfl⟩
      rw [n1.out]
      go_wp2_with fail
      refine (isinf_pos 1 _ (by simp)).mono ?_
      rintro r w1 ⟨rfl, rfl⟩
      go_wp2
      go_ret3
      exact ⟨rfl, rfl⟩
    · rw [show sgF 18442240474082181120 = true from rfl, show (18442240474082181120 : Int).toNat = 18442240474082181120 from rfl]
      clear he hf h0 h1
      go_enter Tryd.func7, Tryd.ntmps7
      go_wp2_with fail
      refine (isnan_any _ _).mono ?_
      rintro r w1 ⟨rfl, rfl⟩
      rw [n2.out]
      go_wp2_with fail
      refine (isinf_neg 1 _ (by simp)).mono ?_
      rintro r w1 ⟨rfl, rfl⟩
      go_wp2_with fail
      refine (isinf_neg (-1) _ (by simp)).mono ?_
      rintro r w1 ⟨rfl, rfl⟩
      go_wp2
      go_ret3
      exact ⟨rfl, rfl⟩
  · rw [if_neg hf]
    have hnn : Hid (nn x.toNat = true) := read_nan x h0 h1 he hf
    generalize x.toNat = X at *
    clear he hf
    go_enter Tryd.func7, Tryd.ntmps7
    go_wp2_with fail
    refine (isnan_any _ _).mono ?_
    rintro r w1 ⟨rfl, rfl⟩
    rw [hnn.out]
    go_wp2
    go_ret3
    exact ⟨rfl, rfl⟩

end Go.Proofs.YtjlbbnjcdickgabDoor
