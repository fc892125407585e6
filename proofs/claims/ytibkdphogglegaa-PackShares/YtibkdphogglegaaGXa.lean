/- The document's Share finds the same word. -/
import Derived.Test.YtibkdphogglegaaGT
set_option maxRecDepth 4000
namespace Go.Proofs.Ytibkdphogglegaa
open Ieee

theorem rung_quo_any (f : Format) (hf : 1 ≤ f.fractionBits) (hL : f.leastPlace ≤ 0) (m n more : Nat) (i j : Int) (hn : n ≠ 0) (hi : f.leastPlace ≤ i) (hj : f.leastPlace ≤ j) (hbig : 2 * f.binade ≤ m * 2 ^ more / n) (K : Nat) :
    rungOf f (2 * (m * 2 ^ more / n) + (m * 2 ^ more % n != 0).toNat) (i - j - (more : Nat) - 1) ≤ K ↔
      2 * (m * 2 ^ (i - f.leastPlace).toNat) * 2 ^ (-f.leastPlace).toNat < M f.binade K * (n * 2 ^ (j - f.leastPlace).toNat) ∨ 2 * (m * 2 ^ (i - f.leastPlace).toNat) * 2 ^ (-f.leastPlace).toNat = M f.binade K * (n * 2 ^ (j - f.leastPlace).toNat) ∧ K % 2 = 0 := by
  have hn' : 0 < n := by omega
  rw [rung_sticky f hf _ n hn' hbig]
  generalize f.leastPlace = L at *
  generalize hv : (i - j - (more : Int) - 1 - L).toNat = v
  generalize hu : (L - (i - j - (more : Int) - 1)).toNat = u
  generalize ha : (i - L).toNat = a
  generalize hb : (j - L).toNat = b
  generalize hc : (-L).toNat = c
  have hsum : 2 + more + v + b = 1 + a + c + u := by omega
  have hp : 4 * 2 ^ more * 2 ^ v * 2 ^ b = 2 * 2 ^ a * 2 ^ c * 2 ^ u := by
    have h1 : 4 * 2 ^ more * 2 ^ v * 2 ^ b = 2 ^ (2 + more + v + b) := by rw [Nat.pow_add, Nat.pow_add, Nat.pow_add]
    have h2 : 2 * 2 ^ a * 2 ^ c * 2 ^ u = 2 ^ (1 + a + c + u) := by rw [Nat.pow_add, Nat.pow_add, Nat.pow_add]
    rw [h1, h2, hsum]
  have pb := Nat.two_pow_pos b
  have pu := Nat.two_pow_pos u
  have k1 : 4 * (m * 2 ^ more) * 2 ^ v * 2 ^ b = 2 * (m * 2 ^ a) * 2 ^ c * 2 ^ u := by
    have : 4 * (m * 2 ^ more) * 2 ^ v * 2 ^ b = m * (4 * 2 ^ more * 2 ^ v * 2 ^ b) := by grind
    rw [this, hp]; grind
  have k2 : M f.binade K * 2 ^ u * n * 2 ^ b = M f.binade K * (n * 2 ^ b) * 2 ^ u := by grind
  have l1 : 4 * (m * 2 ^ more) * 2 ^ v < M f.binade K * 2 ^ u * n ↔ 2 * (m * 2 ^ a) * 2 ^ c < M f.binade K * (n * 2 ^ b) := by
    rw [← Nat.mul_lt_mul_right pb, k1, k2, Nat.mul_lt_mul_right pu]
  have l2 : 4 * (m * 2 ^ more) * 2 ^ v = M f.binade K * 2 ^ u * n ↔ 2 * (m * 2 ^ a) * 2 ^ c = M f.binade K * (n * 2 ^ b) := by
    rw [← Nat.mul_right_cancel_iff pb, k1, k2, Nat.mul_right_cancel_iff pu]
  rw [l1, l2]

/-- The nearest to the quotient, however far it is worked out. -/
theorem share_word (p w : Nat) (hp : p < 2 ^ 64) (hw : w < 2 ^ 64) (hp0 : p ≠ 0) (hw0 : w ≠ 0) (o n k : Nat) (i j : Int) (hn : n ≠ 0) (hi : -1074 ≤ i) (hj : -1074 ≤ j)
    (hA : o * 2 ^ (i + 1074).toNat = V double.binade (flR p)) (hC : n * 2 ^ (j + 1074).toNat = V double.binade (flR w)) (hbig : 2 ^ 53 ≤ o * 2 ^ k / n) :
    double.nearest false (2 * (o * 2 ^ k / n) + (o * 2 ^ k % n != 0).toNat) (i - j - k - 1) = shW p w := by
  obtain ⟨R, h1, _, k1⟩ := div_fl p w hp hw hw0
  have k1 := k1 hp0
  unfold shW
  rw [h1, nearest_eq _ _ _ _ (by omega)]
  show double.word false _ = min R _
  rw [show ∀ r, double.word false r = r from fun r => rfl]
  have e : ∀ K, rungOf double (2 * (o * 2 ^ k / n) + (o * 2 ^ k % n != 0).toNat) (i - j - k - 1) ≤ K ↔ R ≤ K := by
    intro K
    rw [rung_quo_any double (by decide) (by decide) o n k i j hn (by rw [dL]; exact hi) (by rw [dL]; exact hj) (by rw [dB]; omega) K, k1 K]
    rw [dL, show (i - -1074) = i + 1074 by omega, show (j - -1074) = j + 1074 by omega, hA, hC, show (-(-1074 : Int)).toNat = tt by decide]
  rw [Nat.le_antisymm ((e _).mpr (Nat.le_refl _)) ((e _).mp (Nat.le_refl _))]

/-- The fields of an integer's word. -/
theorem flR_fields (p : Nat) (hp : p < 2 ^ 64) : exF (flR p : Nat) ≠ 2047 ∧ sgF (flR p : Nat) = false ∧ mgF (flR p : Nat) * 2 ^ (plF (flR p : Nat) + 1074).toNat = V double.binade (flR p) := by
  have h1 := flR_lt p hp
  have hx0 : (0 : Int) ≤ (flR p : Nat) := by omega
  have hx1 : ((flR p : Nat) : Int) ≤ 18446744073709551615 := by omega
  have he : exF (flR p : Nat) ≠ 2047 := by unfold exF; omega
  have hs : sgF (flR p : Nat) = false := by unfold sgF; simp; omega
  refine ⟨he, hs, ?_⟩
  have hr := read_num (flR p : Nat) hx0 hx1 he
  rw [Int.toNat_natCast, hs] at hr
  obtain ⟨m, i, e, hi, v⟩ := read_low double (flR p) (by rw [dI]; omega)
  rw [e] at hr
  injection hr with _ hm hi2
  have hm0 : 0 ≤ mgF (flR p : Nat) := by have := frF_bd (flR p : Nat); unfold mgF; split <;> omega
  rw [← v, hm, hi2, dL]
  rw [show plF (flR p : Nat) - -1074 = plF (flR p : Nat) + 1074 by omega]
  rw [Int.natCast_mul, Int.natCast_pow, show (((mgF (flR p : Nat)).toNat : Nat) : Int) = mgF (flR p : Nat) by omega]
  rfl

end Go.Proofs.Ytibkdphogglegaa
