/- Integers as float64: how far they go, and in what order they stand. -/
import Derived.Test.YtjlbbnjcdickgabDoorPPd
set_option maxRecDepth 4000
namespace Go.Proofs.YtjlbbnjcdickgabDoor
open Ieee

theorem word_f (r : Nat) : double.word false r = r := rfl

theorem rnd_near (n g : Nat) (hg : 0 < g) : 2 * n ≤ 2 * (rnd n g * g) + g ∧ 2 * (rnd n g * g) ≤ 2 * n + g := by
  have hn : n = g * (n / g) + n % g := (Nat.div_add_mod n g).symm
  have hr : n % g < g := Nat.mod_lt _ hg
  unfold rnd
  generalize n / g = q at *
  generalize n % g = r at *
  have e : (q + 1) * g = q * g + g := by rw [Nat.add_mul, Nat.one_mul]
  have e2 : g * q = q * g := Nat.mul_comm _ _
  by_cases h1 : g < 2 * r
  · simp only [h1, decide_true, Bool.true_or, Bool.toNat_true]
    omega
  · by_cases h2 : g = 2 * r
    · rcases Nat.mod_two_eq_zero_or_one q with k | k
      · simp only [h1, k, decide_false, Bool.false_or]
        rw [show (g == 2 * r && (0 == 1)) = false by simp]
        simp only [Bool.toNat_false, Nat.add_zero]
        omega
      · simp only [h1, k, decide_false, Bool.false_or]
        rw [show (g == 2 * r && (1 == 1)) = true by simp [h2]]
        simp only [Bool.toNat_true]
        omega
    · simp only [h1, decide_false, Bool.false_or]
      rw [show (g == 2 * r && (q % 2 == 1)) = false by simp [h2]]
      simp only [Bool.toNat_false, Nat.add_zero]
      omega

/-- The value of an integer's word is an integer, and near. -/
theorem flR_value (N : Nat) (h : N ≤ 9223372036854775808) : ∃ T : Nat, V double.binade (flR N) = T * 2 ^ tt ∧ T ≤ N + N / 9007199254740992 ∧ N ≤ T + N / 9007199254740992 := by
  by_cases h0 : N = 0
  · subst h0
    exact ⟨0, by unfold flR V; rw [if_pos rfl, if_pos dBpos, Nat.zero_mul], by omega, by omega⟩
  · have hb1 := bl_lt N
    have hbl : bl N ≤ 64 := bl_le N 64 (by omega)
    have hb0 : 1 ≤ bl N := by unfold bl; rw [if_neg h0]; omega
    have hlow : 2 ^ (bl N - 1) ≤ N := by unfold bl; rw [if_neg h0]; exact Nat.log2_self_le h0
    have hcut : cutOf N 0 = (bl N : Int) - 53 := by unfold cutOf; omega
    have hn := nearest_int N (by omega)
    by_cases hc : cutOf N 0 ≤ 0
    · refine ⟨N, ?_, by omega, by omega⟩
      rw [nearest_exact false N 0 h0 hc] at hn
      unfold asm at hn
      obtain ⟨d, hd⟩ : ∃ d : Nat, (-cutOf N 0).toNat = d := ⟨_, rfl⟩
      obtain ⟨e, he⟩ : ∃ e : Nat, (0 + cutOf N 0 + 1074).toNat = e := ⟨_, rfl⟩
      have k1 : N * 2 ^ d < 2 ^ 53 := by
        have := Nat.mul_lt_mul_of_pos_right hb1 (Nat.two_pow_pos d)
        rw [← Nat.pow_add, show bl N + d = 53 by omega] at this
        exact this
      have k2 : 2 ^ 52 ≤ N * 2 ^ d := by
        have := Nat.mul_le_mul_right (2 ^ d) hlow
        rw [← Nat.pow_add, show bl N - 1 + d = 52 by omega] at this
        exact this
      rw [hd, he, dI, Nat.min_eq_left (by omega)] at hn
      rw [word_f] at hn
      rw [← hn, ← dB, V_up double.binade e _ dBpos (by rw [dB]; omega) (by rw [dB]; omega), Nat.mul_assoc, ← Nat.pow_add, show d + e = tt by unfold tt; omega]
    · rw [← nearest_two] at hn
      have hn2 := nearest_cut false N 0 false h0 (by omega)
      rw [show 2 * N + false.toNat = 2 * N from rfl] at hn2
      rw [hn2, rnd_two] at hn
      unfold asm at hn
      obtain ⟨c, hcc⟩ : ∃ c : Nat, (cutOf N 0).toNat = c := ⟨_, rfl⟩
      obtain ⟨e, he⟩ : ∃ e : Nat, (0 + cutOf N 0 + 1074).toNat = e := ⟨_, rfl⟩
      rw [hcc, he] at hn
      have hN2 := rnd_near N (2 ^ c) (Nat.two_pow_pos c)
      have u1 : N < 9007199254740992 * 2 ^ c := by
        rw [show 9007199254740992 = 2 ^ 53 by decide, ← Nat.pow_add, show 53 + c = bl N by omega]; exact hb1
      have u2 : 4503599627370496 * 2 ^ c ≤ N := by
        rw [show 4503599627370496 = 2 ^ 52 by decide, ← Nat.pow_add, show 52 + c = bl N - 1 by omega]; exact hlow
      have ug := Nat.two_pow_pos c
      have k1 : rnd N (2 ^ c) ≤ 9007199254740992 := by
        rw [rnd_le _ _ _ ug]
        left
        clear hn hn2 hN2 hb1 hlow
        generalize 2 ^ c = g at *
        omega
      have k2 : 4503599627370496 ≤ rnd N (2 ^ c) := Nat.le_trans ((Nat.le_div_iff_mul_le ug).mpr u2) (Nat.le_add_right _ _)
      have hle : e * 2 ^ 52 + rnd N (2 ^ c) ≤ 2047 * 2 ^ 52 := by clear hn hn2 hN2; omega
      rw [dI, Nat.min_eq_left hle] at hn
      rw [word_f] at hn
      have hfar : 2 ^ (c - 1) ≤ N / 9007199254740992 := by
        rw [Nat.le_div_iff_mul_le (by decide), show 9007199254740992 = 2 ^ 53 by decide, ← Nat.pow_add, show c - 1 + 53 = bl N - 1 by omega]
        exact hlow
      have h2c : 2 ^ c = 2 * 2 ^ (c - 1) := by
        obtain ⟨d, hd⟩ : ∃ d, c = d + 1 := ⟨c - 1, by omega⟩
        rw [hd, Nat.pow_succ, Nat.add_sub_cancel]; omega
      clear hn2 hb1 hlow u1 u2
      refine ⟨rnd N (2 ^ c) * 2 ^ c, ?_, by clear hn; generalize 2 ^ (c - 1) = g at *; generalize rnd N (2 ^ c) * 2 ^ c = T at *; omega, by clear hn; generalize 2 ^ (c - 1) = g at *; generalize rnd N (2 ^ c) * 2 ^ c = T at *; omega⟩
      rw [← hn, ← dB, V_up double.binade e _ dBpos (by rw [dB]; omega) (by rw [dB]; omega), Nat.mul_assoc, ← Nat.pow_add, show e = c + tt by unfold tt; omega]

theorem flR_top : flR 9223372036854775296 = 4890909195324358656 ∧ flR 9223372036854775295 = 4890909195324358655 ∧ flR 9223372036854775808 = 4890909195324358656 := by decide +kernel

theorem V_top : V double.binade 4890909195324358656 = 9223372036854775808 * 2 ^ tt := by
  have := V_pow 1085
  rw [show (1085 + 1) * 2 ^ 52 = 4890909195324358656 by decide] at this
  rw [this, show 52 + 1085 = 63 + tt from rfl, Nat.pow_add]

/-- The value, as an integer. -/
theorem flR_int (N : Nat) (h : N ≤ 9223372036854775808) : ∃ T : Nat, V double.binade (flR N) = T * 2 ^ tt ∧ T ≤ N + N / 9007199254740992 ∧ N ≤ T + N / 9007199254740992 ∧ T ≤ 9223372036854775808 ∧ (N ≤ 9223372036854775295 → T < 9223372036854775808) ∧ (9223372036854775296 ≤ N → T = 9223372036854775808) ∧ (N = 0 ↔ T = 0) := by
  obtain ⟨T, hT, h1, h2⟩ := flR_value N h
  have pt := Nat.two_pow_pos tt
  have m1 := V_mono double.binade dBpos (flR_mono h)
  rw [flR_top.2.2, V_top, hT] at m1
  have hle : T ≤ 9223372036854775808 := Nat.le_of_mul_le_mul_right m1 pt
  refine ⟨T, hT, h1, h2, hle, fun hl => ?_, fun hl => ?_, ?_⟩
  · have m2 := flR_mono hl
    rw [flR_top.2.1] at m2
    have m3 := V_strict double.binade dBpos (show flR N < 4890909195324358656 by omega)
    rw [V_top, hT] at m3
    exact Nat.lt_of_mul_lt_mul_right m3
  · have m2 := V_mono double.binade dBpos (flR_mono hl)
    rw [flR_top.1, V_top, hT] at m2
    have := Nat.le_of_mul_le_mul_right m2 pt
    omega
  · constructor
    · rintro rfl; omega
    · rintro rfl
      apply Classical.byContradiction
      intro h0
      have := V_flR_one_le N h0
      rw [hT, Nat.zero_mul] at this
      omega

end Go.Proofs.YtjlbbnjcdickgabDoor
