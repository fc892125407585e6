/- gauge.Make, walked: the calls' answers under names. -/
import Derived.Test.YtjlbbnjcdickgabDoorMMe
set_option maxRecDepth 4000
namespace Go.Proofs.YtjlbbnjcdickgabDoor
open Go.RowKit Ieee

/-- The four ways of the clamped exponent and the digits dropped. -/
theorem make_ways (m e : Int) (h0 : -9223372036854775808 ≤ m) (h1 : m ≤ 9223372036854775807) (E : Int) (hE : E = min (max e (-1174)) 1024) :
    (∀ w, Calls Tryd.prog 24 #[.float .f64 (double.nearest false m.natAbs e), .float .f64 (ofW m)] w fun r w' => r = .returned (.float .f64 (double.nearest (decide (m < 0)) m.natAbs e)) ∧ w' = w) ∧
    ((-1074 - E ≤ (bl m.natAbs : Int) - 53 ∨ -1074 - E ≤ 0) → ∀ w, Calls Tryd.prog 25 #[.float .f64 (flR m.natAbs), .int .i64 E] w fun r w' => r = .returned (.float .f64 (double.nearest false m.natAbs e)) ∧ w' = w) ∧
    (0 < -1074 - E → (bl m.natAbs : Int) - (-1074 - E) < 53 → ∃ R : Nat, R ≤ 4503599627370496 ∧ (∀ w, Calls Tryd.prog 23 #[.int .u64 (m.natAbs : Int), .int .i64 (-1074 - E)] w fun r w' => r = .returned (.int .u64 (R : Int)) ∧ w' = w) ∧
      ∀ w, Calls Tryd.prog 25 #[.float .f64 (flR R), .int .i64 (-1074)] w fun r w' => r = .returned (.float .f64 (double.nearest false m.natAbs e)) ∧ w' = w) := by
  have hN : m.natAbs < 2 ^ 64 := by omega
  have hcl := nearest_clamp false m.natAbs e (by omega)
  rw [← hE] at hcl
  refine ⟨?_, ?_, ?_⟩
  · intro w
    have so := sign_on m e h0 h1
    have b := nearest_lt m.natAbs e
    have c := flR_lt m.natAbs hN
    have a := ofW_eq m h0 h1
    have := copysign_any (double.nearest false m.natAbs e : Nat) (ofW m : Nat) w (by omega) (by omega) (by omega) (by split at a <;> omega)
    rw [so, Int.toNat_natCast, Int.toNat_natCast] at this
    exact this
  · intro hc w
    have := ldx m.natAbs E w hN (by omega) (fun hz => by
      by_cases hd : -1074 - E ≤ 0
      · have := place_low m.natAbs hN 0 (by omega)
        omega
      · have hb : 53 + (-1074 - E) ≤ (bl m.natAbs : Int) := by omega
        have hl : 2 ^ 53 ≤ m.natAbs := by
          have h2 : 2 ^ (bl m.natAbs - 1) ≤ m.natAbs := by unfold bl; rw [if_neg hz]; exact Nat.log2_self_le hz
          have := Nat.pow_le_pow_right (show 0 < 2 by decide) (show 53 ≤ bl m.natAbs - 1 by omega)
          omega
        have h64 := bl_le m.natAbs 64 hN
        have := place_low m.natAbs hN 53 hl
        omega)
    rw [stay_eq m.natAbs E hN hc (by omega) (by omega), hcl] at this
    exact this
  · intro hd hb
    obtain ⟨k1, k2⟩ := dropped_eq m.natAbs E hN hd hb
    refine ⟨rnd m.natAbs (2 ^ (-1074 - E).toNat), k1, ?_, ?_⟩
    · intro w
      have := dropped_any m.natAbs (-1074 - E).toNat w hN (by omega) (by omega)
      rw [Int.toNat_of_nonneg (by omega)] at this
      exact this
    · intro w
      have := ldx (rnd m.natAbs (2 ^ (-1074 - E).toNat)) (-1074) w (by omega) (by decide) (fun hz => by
        have := place_low (rnd m.natAbs (2 ^ (-1074 - E).toNat)) (by omega) 0 (by omega)
        omega)
      rw [k2, hcl] at this
      exact this

end Go.Proofs.YtjlbbnjcdickgabDoor
