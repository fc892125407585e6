/- The document's Parts, walked. -/
import Derived.Test.YtibkdphogglegaaGRb
namespace Go.Proofs.Ytibkdphogglegaa
open Go.RowKit

/-- The exponent field, the fraction field and the sign of a word. -/
def exF (x : Int) : Int := x / 4503599627370496 % 2048
def frF (x : Int) : Int := x % 4503599627370496
def sgF (x : Int) : Bool := x / 9223372036854775808 == 1
/-- The magnitude and the place of a number's word. -/
def mgF (x : Int) : Int := if exF x = 0 then frF x else frF x + 4503599627370496
def plF (x : Int) : Int := (if exF x = 0 then 1 else exF x) - 1075

theorem exF_bd (x : Int) : 0 ≤ exF x ∧ exF x < 2048 := by unfold exF; omega
theorem frF_bd (x : Int) : 0 ≤ frF x ∧ frF x < 4503599627370496 := by unfold frF; omega

set_option maxHeartbeats 400000 in
theorem rparts_odd (x : Int) (w : World) (h0 : 0 ≤ x) (h1 : x ≤ 18446744073709551615) (he : exF x = 2047) :
    Calls Try.prog 9 #[.int .u64 x] w fun r w' => r = .returned (.tuple #[.int .i64 0, .int .i64 0, .int .i64 (if frF x = 0 then (if sgF x then 2 else 1) else 3)]) ∧ w' = w := by
  have bf := frF_bd x
  have bf' : 0 ≤ x % 4503599627370496 ∧ x % 4503599627370496 < 4503599627370496 := bf
  have E : x / 4503599627370496 % 2048 = 2047 := he
  clear he
  by_cases hf : frF x = 0
  · rw [if_pos hf]
    have hf2 : x % 4503599627370496 = 0 := hf
    cases hs : sgF x
    all_goals
      have hs2 : (x / 9223372036854775808 == 1) = _ := hs
      clear hf hs bf bf'
      go_enter Try.func9, Try.ntmps9
      go_wp2
      go_ret3
      exact ⟨rfl, rfl⟩
  · rw [if_neg hf]
    have hf2 : ¬ x % 4503599627370496 = 0 := hf
    clear hf bf
    go_enter Try.func9, Try.ntmps9
    go_wp2
    all_goals
      go_ret3
      exact ⟨rfl, rfl⟩

set_option maxHeartbeats 400000 in
theorem rparts_zero (x : Int) (w : World) (h0 : 0 ≤ x) (h1 : x ≤ 18446744073709551615) (he : exF x = 0) (hf : frF x = 0) :
    Calls Try.prog 9 #[.int .u64 x] w fun r w' => r = .returned (.tuple #[.int .i64 0, .int .i64 0, .int .i64 0]) ∧ w' = w := by
  have E : x / 4503599627370496 % 2048 = 0 := he
  have F : x % 4503599627370496 = 0 := hf
  clear he hf
  go_enter Try.func9, Try.ntmps9
  go_wp2
  all_goals
    go_ret3
    exact ⟨rfl, rfl⟩

theorem pow_pos_int (k : Nat) : (0 : Int) < 2 ^ k := Int.pow_pos (by decide)

/-- The parts of a number of magnitude M at place P: odd, the place raised. -/
def PartsR (M P : Int) (s : Bool) (r : Ending) : Prop := ∃ (o : Int) (t : Nat), o % 2 = 1 ∧ 0 < o ∧ o * 2 ^ t = M ∧ t ≤ 53 ∧ r = .returned (.tuple #[.int .i64 (if s then -o else o), .int .i64 (P + t), .int .i64 0])

theorem k_bd (F : Int) (k : Nat) (hF : 0 < F) (h : F * 2 ^ k < 9007199254740992) : k ≤ 52 := by
  apply Nat.le_of_not_lt
  intro hk
  have h1 : (2 : Int) ^ 53 ≤ 2 ^ k := by
    obtain ⟨d, rfl⟩ : ∃ d, k = 53 + d := ⟨k - 53, by omega⟩
    rw [Int.pow_add]
    have := pow_pos_int d
    have h2 : (2 : Int) ^ 53 * 1 ≤ 2 ^ 53 * 2 ^ d := Int.mul_le_mul_of_nonneg_left (by omega) (by decide)
    omega
  have h3 : 1 * 2 ^ k ≤ F * 2 ^ k := Int.mul_le_mul_of_nonneg_right (by omega) (Int.le_of_lt (pow_pos_int k))
  have h4 : (2 : Int) ^ 53 = 9007199254740992 := by decide
  omega

theorem F_le (F M : Int) (k : Nat) (hF : 0 < F) (h : F * 2 ^ k = M) : F ≤ M := by
  have := pow_pos_int k
  have h3 : F * 1 ≤ F * 2 ^ k := Int.mul_le_mul_of_nonneg_left (by omega) (by omega)
  omega

theorem half_step (F M : Int) (k : Nat) (hp : F % 2 = 0) (h : F * 2 ^ k = M) : F / 2 * 2 ^ (k + 1) = M := by
  rw [Int.pow_succ, ← h]
  obtain ⟨g, rfl⟩ : ∃ g, F = 2 * g := ⟨F / 2, by omega⟩
  rw [show 2 * g / 2 = g by omega]
  grind

set_option maxHeartbeats 1000000 in
theorem rparts_num (x : Int) (w : World) (h0 : 0 ≤ x) (h1 : x ≤ 18446744073709551615) (he : exF x ≠ 2047) (hm : mgF x ≠ 0) :
    Calls Try.prog 9 #[.int .u64 x] w fun r w' => PartsR (mgF x) (plF x) (sgF x) r ∧ w' = w := by
  have be := exF_bd x
  have bf := frF_bd x
  have E : x / 4503599627370496 % 2048 = exF x := rfl
  have F : x % 4503599627370496 = frF x := rfl
  have S : (x / 9223372036854775808 == 1) = sgF x := rfl
  have MB : 0 < mgF x ∧ mgF x < 9007199254740992 := by unfold mgF at hm ⊢; split at hm <;> (split <;> omega)
  have PB : -1074 ≤ plF x ∧ plF x ≤ 973 := by unfold plF; split <;> omega
  have MD : Hid (mgF x = if exF x = 0 then frF x else frF x + 4503599627370496) := rfl
  have PD : Hid (plF x = (if exF x = 0 then 1 else exF x) - 1075) := rfl
  generalize mgF x = M0 at *
  generalize plF x = P0 at *
  generalize exF x = ex at *
  generalize frF x = f at *
  generalize sgF x = s at *
  have hL : ∃ V : Int × Int, V = (M0, P0) := ⟨_, rfl⟩
  by_cases hz : ex = 0
  · have m0 : f = M0 := by rw [MD.out, if_pos hz]
    have p0 : (1 : Int) - 1075 = P0 := by rw [PD.out, if_pos hz]
    have hfz : ¬ f = 0 := by omega
    clear MD PD
    subst hz m0 p0
    go_enter Try.func9, Try.ntmps9
    go_wp2_with fail
    go_loop [5, 6] (fun a b => ∃ (F : Int) (k : Nat), a = .int .i64 F ∧ b = .int .i64 (-1074 + k) ∧ 0 < F ∧ Hid (F * 2 ^ k = f)) (fun a _ => (intOf a).toNat)
    case atStart => exact ⟨_, 0, rfl, by simp, by omega, by unfold Hid; simp⟩
    case round =>
      obtain ⟨F, k, rfl, rfl, hF, HM⟩ := hrel
      have kb := k_bd F k hF (by have := HM.out; omega)
      have Fb := F_le F _ k hF HM.out
      by_cases hp : F % 2 = 0
      · go_wp2
        go_round
        case rel => exact ⟨F / 2, k + 1, by go_num, by go_num, by omega, half_step F _ k hp HM.out⟩
        case measure => simp [intOf]; omega
      · have hp1 : Hid (F % 2 = 1) := by unfold Hid; omega
        cases s
        all_goals
          go_wp2
          go_ret3
          exact ⟨⟨F, k, hp1.out, hF, HM.out, by omega, rfl⟩, rfl⟩
  · have m0 : f + 4503599627370496 = M0 := by rw [MD.out, if_neg hz]
    have p0 : ex - 1075 = P0 := by rw [PD.out, if_neg hz]
    have hfz : ¬ f + 4503599627370496 = 0 := by omega
    clear MD PD
    subst m0 p0
    go_enter Try.func9, Try.ntmps9
    go_wp2_with fail
    go_loop [5, 6] (fun a b => ∃ (F : Int) (k : Nat), a = .int .i64 F ∧ b = .int .i64 (ex - 1075 + k) ∧ 0 < F ∧ Hid (F * 2 ^ k = f + 4503599627370496)) (fun a _ => (intOf a).toNat)
    case atStart => exact ⟨_, 0, rfl, by simp, by omega, by unfold Hid; simp⟩
    case round =>
      obtain ⟨F, k, rfl, rfl, hF, HM⟩ := hrel
      have kb := k_bd F k hF (by have := HM.out; omega)
      have Fb := F_le F _ k hF HM.out
      by_cases hp : F % 2 = 0
      · go_wp2
        go_round
        case rel => exact ⟨F / 2, k + 1, by go_num, by go_num, by omega, half_step F _ k hp HM.out⟩
        case measure => simp [intOf]; omega
      · have hp1 : Hid (F % 2 = 1) := by unfold Hid; omega
        cases s
        all_goals
          go_wp2
          go_ret3
          exact ⟨⟨F, k, hp1.out, hF, HM.out, by omega, rfl⟩, rfl⟩

end Go.Proofs.Ytibkdphogglegaa
