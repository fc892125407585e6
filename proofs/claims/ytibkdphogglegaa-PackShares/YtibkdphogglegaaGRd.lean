/- The document's Near, walked. -/
import Derived.Test.YtibkdphogglegaaGRc
namespace Go.Proofs.Ytibkdphogglegaa
open Go.RowKit

theorem w_true (r : Nat) : Ieee.double.word true r = 9223372036854775808 + r := rfl
theorem w_false (r : Nat) : Ieee.double.word false r = r := rfl

set_option maxHeartbeats 400000 in
theorem near_zero (s : Bool) (e : Int) (w : World) :
    Calls Try.prog 10 #[.bool s, .int .u64 0, .int .i64 e, .bool false] w fun x w' => x = .returned (.int .u64 (Ieee.double.nearest s 0 (e - 1))) ∧ w' = w := by
  have hz : Hid (Ieee.double.nearest s 0 (e - 1) = Ieee.double.word s 0) := by unfold Hid Ieee.Format.nearest; rw [if_pos rfl]
  cases s
  all_goals
    go_enter Try.func10, Try.ntmps10
    go_wp2
    go_ret
    exact ⟨by rw [hz.out]; rfl, rfl⟩

set_option maxHeartbeats 400000 in
theorem near_high (s : Bool) (m : Nat) (e : Int) (r : Bool) (w : World) (hm0 : 0 < m) (he : 1100 < e) :
    Calls Try.prog 10 #[.bool s, .int .u64 m, .int .i64 e, .bool r] w fun x w' => x = .returned (.int .u64 (Ieee.double.nearest s (2 * m + r.toNat) (e - 1))) ∧ w' = w := by
  have hz : Hid (Ieee.double.nearest s (2 * m + r.toNat) (e - 1) = Ieee.double.word s Ieee.double.infRung) := nearest_high _ _ _ (by omega) (by omega)
  have hmz : ¬ (m : Int) = 0 := by omega
  cases s
  all_goals
    go_enter Try.func10, Try.ntmps10
    go_wp2
    go_ret
    exact ⟨by rw [hz.out]; rfl, rfl⟩

set_option maxHeartbeats 400000 in
theorem near_low (s : Bool) (m : Nat) (e : Int) (r : Bool) (w : World) (hm0 : 0 < m) (hm : m ≤ 18446744073709551615) (he : e < -1300) :
    Calls Try.prog 10 #[.bool s, .int .u64 m, .int .i64 e, .bool r] w fun x w' => x = .returned (.int .u64 (Ieee.double.nearest s (2 * m + r.toNat) (e - 1))) ∧ w' = w := by
  have hz : Hid (Ieee.double.nearest s (2 * m + r.toNat) (e - 1) = Ieee.double.word s 0) := nearest_low _ _ _ (by have := Bool.toNat_le r; omega) (by omega)
  have hmz : ¬ (m : Int) = 0 := by omega
  cases s
  all_goals
    go_enter Try.func10, Try.ntmps10
    go_wp2
    go_ret
    exact ⟨by rw [hz.out]; rfl, rfl⟩

set_option maxHeartbeats 4000000 in
theorem near_main (s : Bool) (m : Nat) (e : Int) (r : Bool) (w : World) (hm0 : 0 < m) (hm : m ≤ 18446744073709551615) (he0 : -1300 ≤ e) (he1 : e ≤ 1100) (hr : r = true → 2 ^ 53 ≤ m) :
    Calls Try.prog 10 #[.bool s, .int .u64 m, .int .i64 e, .bool r] w fun x w' => x = .returned (.int .u64 (Ieee.double.nearest s (2 * m + r.toNat) (e - 1))) ∧ w' = w := by
  have hmz : ¬ (m : Int) = 0 := by omega
  have hr2 : r = true → 0 < cutOf m e := by
    intro h
    have h1 := hr h
    have h2 : 53 < bl m := by
      apply Nat.lt_of_not_le
      intro h3
      have := bl_lt m
      have := Nat.pow_le_pow_right (show 0 < 2 by decide) h3
      omega
    unfold cutOf; omega
  have FIN : Hid (Ieee.double.nearest s (2 * m + r.toNat) (e - 1) = asm s (keptF (m * 2 ^ (-cutOf m e).toNat) r (cutOf m e).toNat) (e + cutOf m e)) := near_pure s m e r (by omega) hr2
  have BD := keptF_bd m e r (by omega)
  have BD' : Hid _ := BD
  have CB := cut_bd m e hm he0 he1
  have hbl : bl m ≤ 64 := bl_le m 64 (by omega)
  have LB : ∀ j : Nat, (j : Int) ≤ -cutOf m e → Hid (m * 2 ^ j < 2 ^ 53) := fun j h => lift_bd m j e h
  have CM : Hid (cutOf m e = max ((bl m : Int) - 53) (-1074 - e)) := rfl
  generalize hcc : cutOf m e = c at *
  clear BD hr hr2 hcc
  have P1 : ∀ j : Nat, Hid (m * 2 ^ j * 2 = m * 2 ^ (j + 1)) := fun j => by unfold Hid; rw [Nat.pow_succ, Nat.mul_assoc]
  by_cases hlow : (bl m : Int) - 53 < -1074 - e
  all_goals cases s
  all_goals
    go_enter Try.func10, Try.ntmps10
    go_wp2_with fail
    refine (length_any m _ hm).mono ?_
    rintro x w1 ⟨rfl, rfl⟩
    go_wp2_with fail
    first | rw [show (-1074 : Int) - e = c by have := CM.out; omega] | rw [show (bl m : Int) - 53 = c by have := CM.out; omega]
    clear CM hlow
  all_goals
    go_loop [1, 2, 11] (fun a b d => ∃ j : Nat, (j : Int) ≤ max 0 (-c) ∧ a = .int .u64 ((m * 2 ^ j : Nat) : Int) ∧ b = .int .i64 (e - j) ∧ d = .int .i64 (c + j)) (fun _ _ d => (-(intOf d)).toNat)
    case atStart => exact ⟨0, by omega, by simp, by simp, by simp⟩
    case round =>
      obtain ⟨j, hj, rfl, rfl, rfl⟩ := hrel
      by_cases hneg : c + j < 0
      · have p1 := P1 j
        have lb := (LB (j + 1) (by omega)).out
        rw [← p1.out] at lb
        generalize m * 2 ^ j = q at *
        go_wp2
        go_round
        case rel =>
          refine ⟨j + 1, by omega, ?_, by go_num, by go_num⟩
          rw [← p1.out]; go_num
        case measure => simp [intOf]; omega
      · have hj2 : j = (-c).toNat := by omega
        have hc2 : c + j = (c.toNat : Int) := by omega
        rw [hc2]
        have m64 : Hid (m * 2 ^ j ≤ 18446744073709551615) := by
          unfold Hid
          by_cases h0 : c ≤ 0
          · have := (LB j (by omega)).out; omega
          · have : j = 0 := by omega
            rw [this]; simpa using hm
        have EL : Hid (e - (j : Int) + (c.toNat : Int) = e + c) := by unfold Hid; omega
        have ej : -2500 ≤ e - (j : Int) ∧ e - (j : Int) ≤ 1100 := by omega
        rw [← hj2] at FIN BD'
        have hcn : c.toNat ≤ 226 := by omega
        have BD := BD'.out
        have hec : -1074 ≤ e + c ∧ e + c ≤ 1111 := by omega
        clear LB P1 hj hneg hc2 hj2 CB BD'
        generalize m * 2 ^ j = q at *
        generalize e - (j : Int) = e1 at *
        generalize c.toNat = C at *
        generalize e + c = lst at *
        go_wp2_with fail
        go_loop [1, 2, 3, 12, 13] (fun a b rs hf x => ∃ i : Nat, i ≤ C ∧ a = .int .u64 ((q / 2 ^ i : Nat) : Int) ∧ b = .int .i64 (e1 + i) ∧ rs = .bool (rsF q r i) ∧ hf = .bool (hbF q i) ∧ x = .int .i64 i) (fun _ _ _ _ x => C - (intOf x).toNat)
        case atStart => exact ⟨0, by omega, by simp, by simp, rfl, rfl, rfl⟩
        case round =>
          obtain ⟨i, hi, rfl, rfl, rfl, rfl, rfl⟩ := hrel
          have q64 : q / 2 ^ i ≤ 18446744073709551615 := Nat.le_trans (Nat.div_le_self _ _) m64.out
          by_cases hlt : i < C
          · have D : Hid (q / 2 ^ i / 2 = q / 2 ^ (i + 1)) := div_pow_succ q i
            have S1 : Hid (rsF q r (i + 1) = (hbF q i || rsF q r i)) := rsF_step q r i
            have S2 : Hid (hbF q (i + 1) = (q / 2 ^ i % 2 == 1)) := hbF_step q i
            clear BD FIN
            generalize q / 2 ^ i = t at *
            generalize rsF q r i = R at *
            generalize hbF q i = H at *
            cases H
            · go_wp2
              go_round
              case rel =>
                refine ⟨i + 1, by omega, by rw [← D.out]; go_num, by go_num, by rw [S1.out]; rfl, ?_, by go_num⟩
                rw [S2.out]
                congr 1
                rw [Bool.eq_iff_iff]; simp; omega
              case measure => simp [intOf]; omega
            · go_wp2
              go_round
              case rel =>
                refine ⟨i + 1, by omega, by rw [← D.out]; go_num, by go_num, by rw [S1.out]; rfl, ?_, by go_num⟩
                rw [S2.out]
                congr 1
                rw [Bool.eq_iff_iff]; simp; omega
              case measure => simp [intOf]; omega
          · have hiC : i = C := by omega
            rw [← hiC] at FIN BD EL
            have hge : ¬ ((i : Int) < (C : Int)) := by omega
            clear hiC hlt hi
            rw [EL.out]
            have KE : keptF q r i = q / 2 ^ i + (hbF q i && (rsF q r i || decide (q / 2 ^ i % 2 = 1))).toNat := rfl
            clear EL hcn m64 q64 ej
            generalize q / 2 ^ i = t at *
            generalize rsF q r i = R at *
            generalize hbF q i = H at *
            obtain ⟨T, hT⟩ : ∃ T : Int, (t : Int) = T := ⟨_, rfl⟩
            rw [hT]
            have HT : Hid ((t : Int) = T) := hT
            have hT0 : 0 ≤ T := by omega
            have cs : (H = false ∧ keptF q r i = t) ∨ (H = true ∧ R = true ∧ keptF q r i = t + 1) ∨ (H = true ∧ R = false ∧ t % 2 = 1 ∧ keptF q r i = t + 1) ∨ (H = true ∧ R = false ∧ ¬ t % 2 = 1 ∧ keptF q r i = t) := by
              rw [KE]
              by_cases hp : t % 2 = 1 <;> cases H <;> cases R <;> simp [hp]
            clear KE
            generalize keptF q r i = kp at *
            rcases cs with ⟨rfl, rfl⟩ | ⟨rfl, rfl, rfl⟩ | ⟨rfl, rfl, hp, rfl⟩ | ⟨rfl, rfl, hp, rfl⟩
            rotate_left 2
            · have hp2 : (T % 2 == 1) = true := by simp; omega
              clear hp
              rcases (show (T < 4503599627370495 ∧ lst = -1074) ∨ (4503599627370495 ≤ T ∧ T ≤ 4503599627370495 ∧ lst = -1074) ∨ (4503599627370496 ≤ T ∧ T < 9007199254740991 ∧ lst < 972) ∨ (4503599627370496 ≤ T ∧ T < 9007199254740991 ∧ 972 ≤ lst) ∨ (9007199254740991 ≤ T ∧ T ≤ 9007199254740991 ∧ lst < 971) ∨ (9007199254740991 ≤ T ∧ T ≤ 9007199254740991 ∧ lst = 971) ∨ (9007199254740991 ≤ T ∧ T ≤ 9007199254740991 ∧ 972 ≤ lst) by omega) with ⟨ht, rfl⟩ | ⟨ht, hu, rfl⟩ | ⟨ht, hu, hl⟩ | ⟨ht, hu, hl⟩ | ⟨ht, hu, hl⟩ | ⟨ht, hu, rfl⟩ | ⟨ht, hu, hl⟩
              all_goals
                have q1 : (T == 9007199254740992) = false := by simp; omega
                first
                  | have q2 : (T + 1 == 9007199254740992) = false := by simp; omega
                  | have q2 : (T + 1 == 9007199254740992) = true := by simp; omega
              all_goals clear BD hT
              all_goals go_wp2
              all_goals
                go_ret
                refine ⟨?_, rfl⟩
                obtain rfl := HT.out
                rw [FIN.out]
                refine congrArg (fun x => Ending.returned (Value.int .u64 x)) ?_
              all_goals
                first
                  | rw [asm_low _ _ (by omega)]
                  | rw [asm_mid _ _ _ (by omega) (by omega) (by omega)]
                  | rw [asm_high _ _ _ (by omega) (by omega)]
                  | (rw [show t + 1 = 9007199254740992 by omega, asm_carry _ _ (by omega)]
                     first
                      | rw [asm_mid _ _ _ (by omega) (by omega) (by omega)]
                      | rw [asm_high _ _ _ (by omega) (by omega)])
              all_goals
                simp only [Bool.false_eq_true, if_false, if_true]
                omega
            · have hp2 : (T % 2 == 1) = false := by simp; omega
              clear hp
              rcases (show (T < 4503599627370495 ∧ lst = -1074) ∨ (4503599627370495 ≤ T ∧ T ≤ 4503599627370495 ∧ lst = -1074) ∨ (4503599627370496 ≤ T ∧ T < 9007199254740991 ∧ lst < 972) ∨ (4503599627370496 ≤ T ∧ T < 9007199254740991 ∧ 972 ≤ lst) ∨ (9007199254740991 ≤ T ∧ T ≤ 9007199254740991 ∧ lst < 971) ∨ (9007199254740991 ≤ T ∧ T ≤ 9007199254740991 ∧ lst = 971) ∨ (9007199254740991 ≤ T ∧ T ≤ 9007199254740991 ∧ 972 ≤ lst) by omega) with ⟨ht, rfl⟩ | ⟨ht, hu, rfl⟩ | ⟨ht, hu, hl⟩ | ⟨ht, hu, hl⟩ | ⟨ht, hu, hl⟩ | ⟨ht, hu, rfl⟩ | ⟨ht, hu, hl⟩
              all_goals
                have q1 : (T == 9007199254740992) = false := by simp; omega
                first
                  | have q2 : (T + 1 == 9007199254740992) = false := by simp; omega
                  | have q2 : (T + 1 == 9007199254740992) = true := by simp; omega
              all_goals clear BD hT
              all_goals go_wp2
              all_goals
                go_ret
                refine ⟨?_, rfl⟩
                obtain rfl := HT.out
                rw [FIN.out]
                refine congrArg (fun x => Ending.returned (Value.int .u64 x)) ?_
              all_goals
                first
                  | rw [asm_low _ _ (by omega)]
                  | rw [asm_mid _ _ _ (by omega) (by omega) (by omega)]
                  | rw [asm_high _ _ _ (by omega) (by omega)]
                  | (rw [show t + 1 = 9007199254740992 by omega, asm_carry _ _ (by omega)]
                     first
                      | rw [asm_mid _ _ _ (by omega) (by omega) (by omega)]
                      | rw [asm_high _ _ _ (by omega) (by omega)])
              all_goals
                simp only [Bool.false_eq_true, if_false, if_true]
                omega
            · rcases (show (T < 4503599627370495 ∧ lst = -1074) ∨ (4503599627370495 ≤ T ∧ T ≤ 4503599627370495 ∧ lst = -1074) ∨ (4503599627370496 ≤ T ∧ T < 9007199254740991 ∧ lst < 972) ∨ (4503599627370496 ≤ T ∧ T < 9007199254740991 ∧ 972 ≤ lst) ∨ (9007199254740991 ≤ T ∧ T ≤ 9007199254740991 ∧ lst < 971) ∨ (9007199254740991 ≤ T ∧ T ≤ 9007199254740991 ∧ lst = 971) ∨ (9007199254740991 ≤ T ∧ T ≤ 9007199254740991 ∧ 972 ≤ lst) by omega) with ⟨ht, rfl⟩ | ⟨ht, hu, rfl⟩ | ⟨ht, hu, hl⟩ | ⟨ht, hu, hl⟩ | ⟨ht, hu, hl⟩ | ⟨ht, hu, rfl⟩ | ⟨ht, hu, hl⟩
              all_goals
                have q1 : (T == 9007199254740992) = false := by simp; omega
                first
                  | have q2 : (T + 1 == 9007199254740992) = false := by simp; omega
                  | have q2 : (T + 1 == 9007199254740992) = true := by simp; omega
              all_goals clear BD hT
              all_goals go_wp2
              all_goals
                go_ret
                refine ⟨?_, rfl⟩
                obtain rfl := HT.out
                rw [FIN.out]
                refine congrArg (fun x => Ending.returned (Value.int .u64 x)) ?_
              all_goals
                first
                  | rw [asm_low _ _ (by omega)]
                  | rw [asm_mid _ _ _ (by omega) (by omega) (by omega)]
                  | rw [asm_high _ _ _ (by omega) (by omega)]
                  | (rw [show t + 1 = 9007199254740992 by omega, asm_carry _ _ (by omega)]
                     first
                      | rw [asm_mid _ _ _ (by omega) (by omega) (by omega)]
                      | rw [asm_high _ _ _ (by omega) (by omega)])
              all_goals
                simp only [Bool.false_eq_true, if_false, if_true]
                omega
            · rcases (show (T < 4503599627370495 ∧ lst = -1074) ∨ (4503599627370495 ≤ T ∧ T ≤ 4503599627370495 ∧ lst = -1074) ∨ (4503599627370496 ≤ T ∧ T < 9007199254740991 ∧ lst < 972) ∨ (4503599627370496 ≤ T ∧ T < 9007199254740991 ∧ 972 ≤ lst) ∨ (9007199254740991 ≤ T ∧ T ≤ 9007199254740991 ∧ lst < 971) ∨ (9007199254740991 ≤ T ∧ T ≤ 9007199254740991 ∧ lst = 971) ∨ (9007199254740991 ≤ T ∧ T ≤ 9007199254740991 ∧ 972 ≤ lst) by omega) with ⟨ht, rfl⟩ | ⟨ht, hu, rfl⟩ | ⟨ht, hu, hl⟩ | ⟨ht, hu, hl⟩ | ⟨ht, hu, hl⟩ | ⟨ht, hu, rfl⟩ | ⟨ht, hu, hl⟩
              all_goals
                have q1 : (T == 9007199254740992) = false := by simp; omega
                first
                  | have q2 : (T + 1 == 9007199254740992) = false := by simp; omega
                  | have q2 : (T + 1 == 9007199254740992) = true := by simp; omega
              all_goals clear BD hT
              all_goals go_wp2
              all_goals
                go_ret
                refine ⟨?_, rfl⟩
                obtain rfl := HT.out
                rw [FIN.out]
                refine congrArg (fun x => Ending.returned (Value.int .u64 x)) ?_
              all_goals
                first
                  | rw [asm_low _ _ (by omega)]
                  | rw [asm_mid _ _ _ (by omega) (by omega) (by omega)]
                  | rw [asm_high _ _ _ (by omega) (by omega)]
                  | (rw [show t + 1 = 9007199254740992 by omega, asm_carry _ _ (by omega)]
                     first
                      | rw [asm_mid _ _ _ (by omega) (by omega) (by omega)]
                      | rw [asm_high _ _ _ (by omega) (by omega)])
              all_goals
                simp only [Bool.false_eq_true, if_false, if_true]
                omega

end Go.Proofs.Ytibkdphogglegaa
