/- The document's Share, walked. -/
import Derived.Test.YtibkdphogglegaaGXa
import Derived.Test.YtibkdphogglegaaGRd
namespace Go.Proofs.Ytibkdphogglegaa
open Go.RowKit

theorem near_any (s : Bool) (m : Nat) (e : Int) (r : Bool) (w : World) (hm : m ≤ 18446744073709551615) (hr : r = true → 2 ^ 53 ≤ m) :
    Calls Try.prog 10 #[.bool s, .int .u64 m, .int .i64 e, .bool r] w fun x w' => x = .returned (.int .u64 (Ieee.double.nearest s (2 * m + r.toNat) (e - 1))) ∧ w' = w := by
  by_cases h0 : m = 0
  · subst h0
    have : r = false := by cases r; rfl; exact absurd (hr rfl) (by decide)
    subst this
    exact near_zero s e w
  · by_cases h1 : 1100 < e
    · exact near_high s m e r w (by omega) h1
    · by_cases h2 : e < -1300
      · exact near_low s m e r w (by omega) hm h2
      · exact near_main s m e r w (by omega) hm (by omega) (by omega) hr

theorem near_int (p : Nat) (hp : p < 2 ^ 64) : Ieee.double.nearest false (2 * p + false.toNat) (0 - 1) = flR p := by
  rw [show 2 * p + false.toNat = 2 * p from rfl, nearest_two, nearest_int p hp]

theorem kk_bd (a b Q R : Int) (k : Nat) (ha : 1 ≤ a) (hb : b < 9007199254740992) (hR0 : 0 ≤ R) (hR : R < b) (hQ : Q < 36028797018963968) (h : Q * b + R = a * 2 ^ k) : k ≤ 107 := by
  apply Nat.le_of_not_lt
  intro hk
  have h1 : (2 : Int) ^ 108 ≤ 2 ^ k := by
    obtain ⟨d, rfl⟩ : ∃ d, k = 108 + d := ⟨k - 108, by omega⟩
    rw [Int.pow_add]
    have := pow_pos_int d
    have h2 : (2 : Int) ^ 108 * 1 ≤ 2 ^ 108 * 2 ^ d := Int.mul_le_mul_of_nonneg_left (by omega) (by decide)
    omega
  have h2 : 1 * (2 : Int) ^ k ≤ a * 2 ^ k := Int.mul_le_mul_of_nonneg_right ha (Int.le_of_lt (pow_pos_int k))
  have h3 : (Q + 1) * b ≤ 36028797018963968 * b := Int.mul_le_mul_of_nonneg_right (by omega) (by omega)
  have h4 : (Q + 1) * b = Q * b + b := by rw [Int.add_mul, Int.one_mul]
  have h5 : (2 : Int) ^ 108 = 324518553658426726783156020576256 := by decide
  omega

theorem dm (a b Q R : Int) (k : Nat) (ha : 0 ≤ a) (hb : 0 < b) (hQ : 0 ≤ Q) (hR0 : 0 ≤ R) (hR : R < b) (h : Q * b + R = a * 2 ^ k) : a.toNat * 2 ^ k / b.toNat = Q.toNat ∧ a.toNat * 2 ^ k % b.toNat = R.toNat := by
  have e : a.toNat * 2 ^ k = Q.toNat * b.toNat + R.toNat := by
    have : ((a.toNat * 2 ^ k : Nat) : Int) = ((Q.toNat * b.toNat + R.toNat : Nat) : Int) := by
      rw [Int.natCast_mul, Int.natCast_pow, Int.natCast_add, Int.natCast_mul, Int.toNat_of_nonneg ha, Int.toNat_of_nonneg (Int.le_of_lt hb), Int.toNat_of_nonneg hQ, Int.toNat_of_nonneg hR0, h]
      rfl
    exact Int.ofNat_inj.mp this
  rw [e]
  have hb' : 0 < b.toNat := by omega
  constructor
  · rw [Nat.add_comm, Nat.add_mul_div_right _ _ hb', Nat.div_eq_of_lt (by omega)]; omega
  · rw [Nat.add_comm, Nat.add_mul_mod_self_right, Nat.mod_eq_of_lt (by omega)]

set_option maxHeartbeats 400000 in
theorem rshare_zero (p : Int) (w : World) :
    Calls Try.prog 8 #[.int .u64 p, .int .u64 0] w fun e w' => e = .returned (.tuple #[.int .u64 0, .int .i64 41]) ∧ w' = w := by
  go_enter Try.func8, Try.ntmps8
  go_wp2
  go_ret2
  exact ⟨rfl, rfl⟩

/-- The parts of an integer's word. -/
theorem fl_parts (p : Nat) (hp : p < 2 ^ 64) (hp0 : p ≠ 0) (w : World) : Calls Try.prog 9 #[.int .u64 (flR p : Nat)] w fun r w' => (∃ (o i : Int), 0 < o ∧ o < 9007199254740992 ∧ -1074 ≤ i ∧ i ≤ 1100 ∧ o.toNat * 2 ^ (i + 1074).toNat = V Ieee.double.binade (flR p) ∧ r = .returned (.tuple #[.int .i64 o, .int .i64 i, .int .i64 0])) ∧ w' = w := by
  obtain ⟨he, hs, hV⟩ := flR_fields p hp
  have hl := flR_lt p hp
  have h1 := V_flR_one_le p hp0
  have hm : mgF (flR p : Nat) ≠ 0 := by
    intro h
    rw [h, Int.zero_mul] at hV
    have := Nat.two_pow_pos tt
    omega
  have PB : -1074 ≤ plF (flR p : Nat) ∧ plF (flR p : Nat) ≤ 973 := by have := exF_bd (flR p : Nat); unfold plF; split <;> omega
  have MB : mgF (flR p : Nat) < 9007199254740992 := by have := frF_bd (flR p : Nat); unfold mgF; split <;> omega
  refine (rparts_num (flR p : Nat) w (by omega) (by omega) he hm).mono ?_
  rintro r w1 ⟨⟨o, t, _, ho0, hM, ht, rfl⟩, rfl⟩
  refine ⟨⟨o, plF (flR p : Nat) + t, ho0, ?_, by omega, by omega, ?_, ?_⟩, rfl⟩
  · have := F_le o _ t ho0 hM; omega
  · have : ((o.toNat * 2 ^ (plF (flR p : Nat) + (t : Int) + 1074).toNat : Nat) : Int) = (V Ieee.double.binade (flR p) : Nat) := by
      rw [← hV, ← hM, Int.natCast_mul, Int.natCast_pow, Int.toNat_of_nonneg (by omega), show (plF (flR p : Nat) + (t : Int) + 1074).toNat = t + (plF (flR p : Nat) + 1074).toNat by omega, Int.pow_add, Int.mul_assoc]
      rfl
    exact Int.ofNat_inj.mp this
  · rw [hs]; rfl

set_option maxHeartbeats 2000000 in
theorem rshare_some (p n : Nat) (w : World) (hp : p < 2 ^ 64) (hn : n < 2 ^ 64) (hn0 : n ≠ 0) :
    Calls Try.prog 8 #[.int .u64 p, .int .u64 n] w fun e w' => e = .returned (.tuple #[.int .u64 (shW p n), .int .i64 0]) ∧ w' = w := by
  have hnz : ¬ (n : Int) = 0 := by omega
  have N1 : Hid (Ieee.double.nearest false (2 * p + false.toNat) (0 - 1) = flR p) := near_int p hp
  have N2 : Hid (Ieee.double.nearest false (2 * n + false.toNat) (0 - 1) = flR n) := near_int n hn
  have RP2 := fun w => fl_parts n hn hn0 w
  by_cases hp0 : p = 0
  · subst hp0
    have z1 : Hid (shW 0 n = 0) := (shW_zero 0 n (by decide) hn hn0).mpr rfl
    have z2 : Hid (flR 0 = 0) := rfl
    go_enter Try.func8, Try.ntmps8
    go_wp2_with fail
    refine (near_any false 0 0 false _ (by omega) (fun h => by cases h)).mono ?_
    rintro r w1 ⟨rfl, rfl⟩
    rw [N1.out, z2.out]
    go_wp2_with fail
    refine (rparts_zero 0 _ (by omega) (by omega) rfl rfl).mono ?_
    rintro r w2 ⟨rfl, rfl⟩
    go_wp2_with fail
    refine (near_any false n 0 false _ (by omega) (fun h => by cases h)).mono ?_
    rintro r w1 ⟨rfl, rfl⟩
    rw [N2.out]
    go_wp2_with fail
    refine (RP2 _).mono ?_
    rintro r w1 ⟨⟨b, j, hb0, hb1, hj0, hj1, _, rfl⟩, rfl⟩
    clear RP2
    go_wp2
    go_ret2
    exact ⟨by rw [z1.out]; rfl, rfl⟩
  · have RP1 := fun w => fl_parts p hp hp0 w
    have SW := share_word p n hp hn hp0 hn0
    have SW' : Hid _ := SW
    clear SW
    go_enter Try.func8, Try.ntmps8
    go_wp2_with fail
    refine (near_any false p 0 false _ (by omega) (fun h => by cases h)).mono ?_
    rintro r w1 ⟨rfl, rfl⟩
    rw [N1.out]
    go_wp2_with fail
    refine (RP1 _).mono ?_
    rintro r w1 ⟨⟨a, i, ha0, ha1, hi0, hi1, hA, rfl⟩, rfl⟩
    have HA : Hid (a.toNat * 2 ^ (i + 1074).toNat = V Ieee.double.binade (flR p)) := hA
    clear RP1 hA
    go_wp2_with fail
    refine (near_any false n 0 false _ (by omega) (fun h => by cases h)).mono ?_
    rintro r w1 ⟨rfl, rfl⟩
    rw [N2.out]
    go_wp2_with fail
    refine (RP2 _).mono ?_
    rintro r w1 ⟨⟨b, j, hb0, hb1, hj0, hj1, hC, rfl⟩, rfl⟩
    have HC : Hid (b.toNat * 2 ^ (j + 1074).toNat = V Ieee.double.binade (flR n)) := hC
    clear RP2 hC
    have haz : ¬ a = 0 := by omega
    have hbz : ¬ b = 0 := by omega
    have hdm : Hid (a / b * b + a % b = a * 2 ^ 0) := by unfold Hid; rw [Int.pow_zero, Int.mul_one, Int.mul_comm]; exact Int.mul_ediv_add_emod a b
    have hq0 : 0 ≤ a / b := Int.ediv_nonneg (by omega) (by omega)
    have hq1 : a / b ≤ a := Int.ediv_le_self _ (by omega)
    have hr0 : 0 ≤ a % b := Int.emod_nonneg _ hbz
    have hr1 : a % b < b := Int.emod_lt_of_pos _ hb0
    go_wp2_with fail
    go_loop [12, 13, 14] (fun x y z => ∃ (Q R : Int) (k : Nat), x = .int .i64 Q ∧ y = .int .i64 R ∧ z = .int .i64 (i - j - k) ∧ 0 ≤ Q ∧ Q < 72057594037927937 ∧ 0 ≤ R ∧ R < b ∧ k ≤ 108 ∧ Hid (Q * b + R = a * 2 ^ k)) (fun _ _ z => (intOf z - (i - j - 200)).toNat)
    case atStart => exact ⟨_, _, 0, rfl, rfl, by simp, hq0, by omega, hr0, hr1, by omega, hdm⟩
    case round =>
      clear hdm hq0 hq1 hr0 hr1
      obtain ⟨Q, R, k, rfl, rfl, rfl, hQ0, hQ1, hR0, hR1, hk, HD⟩ := hrel
      by_cases hlt : Q < 36028797018963968
      · have kb := kk_bd a b Q R k (by omega) hb1 hR0 hR1 hlt HD.out
        by_cases hge : b ≤ R * 2
        · have D : Hid ((Q * 2 + 1) * b + (R * 2 - b) = a * 2 ^ (k + 1)) := by
            unfold Hid
            rw [Int.pow_succ, ← Int.mul_assoc, ← HD.out, Int.add_mul, Int.add_mul, Int.one_mul, Int.mul_assoc, Int.mul_comm 2 b, ← Int.mul_assoc]
            omega
          go_wp2
          go_round
          case rel => exact ⟨Q * 2 + 1, R * 2 - b, k + 1, by go_num, by go_num, by go_num, by omega, by omega, by omega, by omega, by omega, D⟩
          case measure => simp [intOf]; omega
        · have D : Hid ((Q * 2) * b + R * 2 = a * 2 ^ (k + 1)) := by
            unfold Hid
            rw [Int.pow_succ, ← Int.mul_assoc, ← HD.out, Int.add_mul, Int.mul_assoc, Int.mul_comm 2 b, ← Int.mul_assoc]
          go_wp2
          go_round
          case rel => exact ⟨Q * 2, R * 2, k + 1, by go_num, by go_num, by go_num, by omega, by omega, by omega, by omega, by omega, D⟩
          case measure => simp [intOf]; omega
      · have DM := dm a b Q R k (by omega) hb0 hQ0 hR0 hR1 HD.out
        have SWF : Hid (Ieee.double.nearest false (2 * Q.toNat + (decide (0 < R)).toNat) (i - j - k - 1) = shW p n) := by
          unfold Hid
          rw [← SW'.out a.toNat b.toNat k i j (by omega) hi0 hj0 HA.out HC.out (by rw [DM.1]; omega), DM.1, DM.2]
          congr 3
          rw [Bool.eq_iff_iff]; simp <;> omega
        clear DM SW' HA HC HD
        go_wp2_with fail
        have QN := near_any false Q.toNat (i - j - k) (decide (0 < R)) w1 (by omega) (by intro _; omega)
        rw [show ((Q.toNat : Nat) : Int) = Q by omega] at QN
        refine QN.mono ?_
        rintro r w2 ⟨rfl, rfl⟩
        rw [SWF.out]
        clear QN
        go_wp2
        go_ret2
        exact ⟨rfl, rfl⟩

end Go.Proofs.Ytibkdphogglegaa
