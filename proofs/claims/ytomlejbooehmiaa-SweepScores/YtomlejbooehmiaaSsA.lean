/- The law SweepScores, walked. -/
import Derived.Test.YtomlejbooehmiaaGN
import Derived.Laws.FloatArith
namespace Go.Proofs.Ytomlejbooehmiaa
open Go.RowKit
open Ieee (Format Datum)

theorem fl_of (n : Int) (h0 : 0 ≤ n) (h1 : n ≤ 18446744073709551615) : floatOfInt .f64 n = flR n.toNat := by
  show Ieee.double.nearest (n < 0) n.natAbs 0 = _
  have e1 : (decide (n < 0)) = false := by simp; omega
  have e2 : n.natAbs = n.toNat := by omega
  rw [e1, e2, nearest_int _ (by omega)]

/-- One. -/
def one : Nat := 4607182418800017408
theorem read_one : Ieee.double.read one = .number false (2 ^ 52) (-52) := by decide +kernel

/-- A number that is not below nought, and one: a word above nought. -/
theorem add_one (X : Nat) (hX : X < Ieee.double.infRung) : ∃ r, Ieee.double.add X one = some r ∧ 0 < r ∧ r ≤ Ieee.double.infRung := by
  obtain ⟨m, i, e1, hi, v1⟩ := read_low Ieee.double _ hX
  unfold Ieee.Format.add
  rw [e1, read_one]
  unfold Ieee.Datum.sum
  dsimp only
  have es : ∀ m u, Ieee.signed false m u = ((m * 2 ^ u : Nat) : Int) := fun m u => by
    unfold Ieee.signed
    rw [if_neg (by decide), Nat.shiftLeft_eq]
  rw [es, es]
  generalize hb : min i (-52) = b
  generalize ha : m * 2 ^ (i - b).toNat = A
  generalize hc : 2 ^ 52 * 2 ^ (-52 - b).toNat = C
  have hC : 0 < C := by rw [← hc]; exact Nat.mul_pos (Nat.two_pow_pos _) (Nat.two_pow_pos _)
  have hT : (A : Int) + (C : Int) = ((A + C : Nat) : Int) := by omega
  rw [hT, if_neg (by omega), show decide (((A + C : Nat) : Int) < 0) = false by simp; omega, Int.natAbs_natCast, Option.map_some]
  generalize hD : A + C = D
  have hD0 : D ≠ 0 := by omega
  unfold Ieee.Format.write
  dsimp only
  rw [nearest_eq _ _ _ _ hD0]
  refine ⟨_, rfl, ?_, ?_⟩
  · rw [show ∀ r, Ieee.double.word false r = r from fun r => rfl]
    have hb1 : Ieee.double.leastPlace ≤ b := by rw [dL] at hi ⊢; omega
    have h1 : ¬ rungOf Ieee.double D b ≤ 0 := by
      rw [rung_le Ieee.double (by decide) D b hD0 0]
      have h2 : M Ieee.double.binade 0 = 1 := by
        unfold M
        rw [V_low _ 0 (by omega) dBpos, V_low _ 1 (by rw [dB]; omega) dBpos]
      rw [h2, show (Ieee.double.leastPlace - b).toNat = 0 by omega]
      have h3 : 0 < D * 2 ^ (b - Ieee.double.leastPlace).toNat := Nat.mul_pos (by omega) (Nat.two_pow_pos _)
      omega
    have h4 : 0 < Ieee.double.infRung := by decide
    exact Nat.lt_min.mpr ⟨Nat.pos_of_ne_zero (fun h => h1 (Nat.le_of_eq h)), h4⟩
  · rw [show ∀ r, Ieee.double.word false r = r from fun r => rfl]
    exact Nat.min_le_right _ _

/-- A number that is not below nought, by a word above nought. -/
theorem div_pos (X r : Nat) (hX : X < Ieee.double.infRung) (h0 : 0 < r) (h1 : r ≤ Ieee.double.infRung) : ∃ q, Ieee.double.div X r = some q := by
  obtain ⟨m, i, e1, hi, v1⟩ := read_low Ieee.double _ hX
  unfold Ieee.Format.div
  rw [e1]
  by_cases h : r = Ieee.double.infRung
  · have e2 : Ieee.double.read r = .infinity false := by rw [h]; decide +kernel
    rw [e2]
    unfold Ieee.Datum.quotient
    exact ⟨_, rfl⟩
  · obtain ⟨n, j, e2, hj, v2⟩ := read_low Ieee.double r (by omega)
    rw [e2]
    unfold Ieee.Datum.quotient
    dsimp only
    have hn : n ≠ 0 := by
      rintro rfl
      rw [Nat.zero_mul] at v2
      have := V_strict Ieee.double.binade dBpos h0
      omega
    rw [if_neg hn]
    exact ⟨_, rfl⟩

/-- What Score leaves: some word, the same on both sides. -/
theorem scores (s u : Int) (hs0 : -9223372036854775808 ≤ s) (hs : s ≤ 9223372036854775807) (hu0 : -9223372036854775808 ≤ u) (hu : u ≤ 9223372036854775807) :
    ∃ r q : Nat, (∀ w : World, (binOp .add 22 (.float .f64 (floatOfInt .f64 (max u 0))) (.float .f64 4607182418800017408)).run Try.prog w = .ok (.float .f64 r) w) ∧
      (∀ w : World, (binOp .quo 22 (.float .f64 (floatOfInt .f64 (max s 0))) (.float .f64 r)).run Try.prog w = .ok (.float .f64 q) w) := by
  have fu := fl_of (max u 0) (by omega) (by omega)
  have fs := fl_of (max s 0) (by omega) (by omega)
  have lu : flR (max u 0).toNat < Ieee.double.infRung := by have := flR_lt (max u 0).toNat (by omega); rw [dI]; omega
  have ls : flR (max s 0).toNat < Ieee.double.infRung := by have := flR_lt (max s 0).toNat (by omega); rw [dI]; omega
  obtain ⟨r, a1, r0, r1⟩ := add_one _ lu
  obtain ⟨q, d1⟩ := div_pos _ r ls r0 r1
  refine ⟨r, q, fun w => ?_, fun w => ?_⟩
  · rw [fu]; exact run_float_arith w .add 22 .f64 _ _ _ a1
  · rw [fs]; exact run_float_arith w .quo 22 .f64 _ _ _ d1
end Go.Proofs.Ytomlejbooehmiaa
