/- The document's ToInt, walked. -/
import Derived.Test.YtjlbbnjcdickgabDoorGRe
namespace Go.Proofs.YtjlbbnjcdickgabDoor
open Go.RowKit

/-- O times 2^E without its fraction. -/
def trOE (O E : Int) : Int := O / 2 ^ (-E).toNat * 2 ^ E.toNat
/-- The integer that is told, and the error. -/
def outN (s : Bool) (tr : Int) : Int := if s = true then (if 9223372036854775808 < tr then 0 else -tr) else (if 9223372036854775808 ≤ tr then 0 else tr)
def outE (s : Bool) (tr : Int) : Int := if s = true then (if 9223372036854775808 < tr then 1 else 0) else (if 9223372036854775808 ≤ tr then 1 else 0)

theorem div_pow_succ_int (m : Int) (k : Nat) : m / 2 ^ k / 2 = m / 2 ^ (k + 1) := by
  rw [Int.ediv_ediv_of_nonneg (Int.le_of_lt (pow_pos_int k)), Int.pow_succ]

theorem div_zero_later (m : Int) (k j : Nat) (h : m / 2 ^ k = 0) (hj : k ≤ j) : m / 2 ^ j = 0 := by
  obtain ⟨d, rfl⟩ : ∃ d, j = k + d := ⟨j - k, by omega⟩
  rw [Int.pow_add, ← Int.ediv_ediv_of_nonneg (Int.le_of_lt (pow_pos_int k)), h, Int.zero_ediv]

/-- What ToInt tells of a number of magnitude M at place P. -/
def ToIntR (M P : Int) (s : Bool) (r : Ending) : Prop := ∃ (O : Int) (t : Nat), O % 2 = 1 ∧ 0 < O ∧ O * 2 ^ t = M ∧ r = .returned (.tuple #[.int .i64 (outN s (trOE O (P + t))), .int .i64 (outE s (trOE O (P + t)))])

theorem out_big (s : Bool) (tr : Int) (h : 9223372036854775808 < tr) : outN s tr = 0 ∧ outE s tr = 1 := by
  unfold outN outE
  cases s <;> simp <;> omega

theorem tr_two (G : Int) (k n : Nat) (hG : 0 ≤ G) (h : k < n) : G * 2 ^ k * 2 ≤ G * 2 ^ n := by
  obtain ⟨d, rfl⟩ : ∃ d, n = k + 1 + d := ⟨n - k - 1, by omega⟩
  rw [Int.pow_add, Int.pow_succ]
  have h1 := pow_pos_int d
  have h2 : 0 ≤ G * (2 ^ k * 2) := Int.mul_nonneg hG (by have := pow_pos_int k; omega)
  have h3 : G * (2 ^ k * 2) * 1 ≤ G * (2 ^ k * 2) * 2 ^ d := Int.mul_le_mul_of_nonneg_left (by omega) h2
  have e1 : G * 2 ^ k * 2 = G * (2 ^ k * 2) := Int.mul_assoc _ _ _
  have e2 : G * (2 ^ k * 2 * 2 ^ d) = G * (2 ^ k * 2) * 2 ^ d := (Int.mul_assoc _ _ _).symm
  rw [e1, e2]
  omega

theorem wz : wrap64 (wrap64 (-wrap64 (IntKind.u64.wrap (-1))) - 1) = 0 := by
  rw [IntKind.wrap_u64]
  simp only [wrap64]
  omega

set_option maxHeartbeats 2000000 in
theorem rtoint_num (x : Int) (w : World) (h0 : 0 ≤ x) (h1 : x ≤ 18446744073709551615) (he : exF x ≠ 2047) (hm : mgF x ≠ 0) :
    Calls Tryd.prog 14 #[.int .u64 x] w fun r w' => ToIntR (mgF x) (plF x) (sgF x) r ∧ w' = w := by
  have PB : -1074 ≤ plF x ∧ plF x ≤ 973 := by have := exF_bd x; unfold plF; split <;> omega
  have MB : 0 < mgF x ∧ mgF x < 9007199254740992 := by have := exF_bd x; have := frF_bd x; unfold mgF at hm ⊢; split at hm <;> (split <;> omega)
  have RP := fun w => rparts_num x w h0 h1 he hm
  clear he hm
  generalize mgF x = M0 at *
  generalize plF x = P0 at *
  generalize sgF x = s at *
  go_enter Tryd.func14, Tryd.ntmps14
  go_wp2_with fail
  refine (RP _).mono ?_
  rintro r w1 ⟨⟨O, t, ho, ho0, hM, ht, rfl⟩, rfl⟩
  clear RP
  have Ob := F_le O M0 t ho0 hM
  have O53 : O < 9007199254740992 := by omega
  have EB : -1074 ≤ P0 + (t : Int) ∧ P0 + (t : Int) ≤ 1026 := by omega
  have TR : Hid (trOE O (P0 + (t : Int)) = O / 2 ^ (-(P0 + (t : Int))).toNat * 2 ^ (P0 + (t : Int)).toNat) := rfl
  have FIN : ∀ (T : Int), Hid (trOE O (P0 + (t : Int)) = T) → Hid (∀ (n e : Int), outN s T = n → outE s T = e → ToIntR M0 P0 s (.returned (.tuple #[.int .i64 n, .int .i64 e]))) := fun T hT n e hn he => ⟨O, t, ho, ho0, hM, by rw [hT.out, hn, he]⟩
  have HO : Hid (O % 2 = 1) := ho
  have HM : Hid (O * 2 ^ t = M0) := hM
  clear ho hM PB MB Ob h0 h1
  generalize P0 + (t : Int) = E at *
  generalize trOE O E = tr at *
  cases s
  all_goals
    go_wp2_with fail
    refine (size_any _ _ (by omega) (by omega)).mono ?_
    rintro r w2 ⟨rfl, rfl⟩
    first | rw [show ((-O).natAbs : Int) = O by omega] | rw [show (O.natAbs : Int) = O by omega]
    go_wp2_with fail
    go_loop [7, 8] (fun a b => ∃ (G : Int) (k : Nat), a = .int .u64 G ∧ b = .int .i64 (E + k) ∧ 0 ≤ G ∧ G ≤ O ∧ Hid (G = O / 2 ^ k) ∧ (k = 0 ∨ E + k ≤ 0)) (fun _ b => (-(intOf b)).toNat)
    case atStart => exact ⟨O, 0, rfl, by simp, by omega, by omega, by unfold Hid; simp, .inl rfl⟩
    case round =>
      obtain ⟨G, k, rfl, rfl, hG0, hGO, HG, hk⟩ := hrel
      by_cases hst : E + k < 0 ∧ 0 < G
      · have D : Hid (G / 2 = O / 2 ^ (k + 1)) := by unfold Hid; rw [HG.out]; exact div_pow_succ_int O k
        have hs1 := hst.1
        have hs2 := hst.2
        clear hst hk FIN TR
        go_wp2
        go_round
        case rel => exact ⟨G / 2, k + 1, by go_num, by go_num, by omega, by omega, D, .inr (by omega)⟩
        case measure => simp [intOf]; omega
      · have HA : Hid (O / 2 ^ (-E).toNat = G) := by
          unfold Hid
          by_cases h : E + k < 0
          · have hz : G = 0 := by omega
            rw [hz]
            exact div_zero_later O k _ (by rw [← HG.out]; exact hz) (by omega)
          · rw [HG.out, show (-E).toNat = k by omega]
        have TR2 : Hid (tr = G * 2 ^ E.toNat) := by unfold Hid; rw [TR.out, HA.out]
        have hc : ¬ (E + k < 0) ∨ (E + k < 0 ∧ ¬ 0 < G) := by omega
        clear hst hk HG HA TR
        rcases hc with hc | hc
        all_goals go_wp2_with fail
        all_goals
          go_loop [7, 9] (fun a b => ∃ (T : Int) (k : Nat), a = .int .u64 T ∧ b = .int .i64 (E - k) ∧ 0 ≤ T ∧ T ≤ 18446744073709551615 ∧ Hid (T = G * 2 ^ k) ∧ (k : Int) ≤ max 0 E) (fun _ b => (intOf b).toNat)
          case atStart => exact ⟨G, 0, rfl, by simp, by omega, by omega, by unfold Hid; simp, by omega⟩
          case round =>
            obtain ⟨T, j, rfl, rfl, hT0, hT1, HT, hj⟩ := hrel
            by_cases hp : 0 < E - j ∧ 0 < T
            · try (exfalso; omega)
              all_goals
                have hp1 := hp.1
                have hp2 := hp.2
                have T2 := tr_two G j E.toNat hG0 (by omega)
                rw [← TR2.out, ← HT.out] at T2
                clear hp
                by_cases hb : 9223372036854775808 ≤ T
                · have OB : Hid (9223372036854775808 < tr) := by unfold Hid; omega
                  clear T2
                  go_wp2
                  go_ret2
                  exact ⟨(FIN tr rfl).out _ _ (out_big _ tr OB.out).1 (out_big _ tr OB.out).2, rfl⟩
                · have D : Hid (T * 2 = G * 2 ^ (j + 1)) := by unfold Hid; rw [HT.out, Int.pow_succ, Int.mul_assoc]
                  clear FIN TR2 T2
                  go_wp2
                  go_round
                  case rel => exact ⟨T * 2, j + 1, by go_num, by go_num, by omega, by omega, D, by omega⟩
                  case measure => simp [intOf]; omega
            · have HE : Hid (tr = T) := by
                unfold Hid
                rw [TR2.out]
                by_cases h : 0 < E - j
                · have hz : T = 0 := by omega
                  have hG : G = 0 := by
                    have := HT.out
                    rw [hz] at this
                    rcases Int.mul_eq_zero.mp this.symm with h | h
                    · exact h
                    · have := pow_pos_int j; omega
                  rw [hG, hz, Int.zero_mul]
                · rw [HT.out, show E.toNat = j by omega]
              have F := FIN T HE
              have hc2 : ¬ (0 < E - j) ∨ (0 < E - j ∧ ¬ 0 < T) := by omega
              clear hp FIN TR2 HE HT hj
              rcases hc2 with hc2 | hc2
              all_goals
                rcases (show T = 0 ∨ (0 < T ∧ T < 9223372036854775808) ∨ (9223372036854775808 ≤ T ∧ T ≤ 9223372036854775808) ∨ 9223372036854775808 < T by omega) with hv | hv | hv | hv
              all_goals try (exfalso; omega)
              all_goals go_wp2
              all_goals
                go_ret2
                refine ⟨F.out _ _ ?_ ?_, rfl⟩
              all_goals
                simp [outN, outE]
                try first | omega | (rw [wz, hv]; rfl)

end Go.Proofs.YtjlbbnjcdickgabDoor
