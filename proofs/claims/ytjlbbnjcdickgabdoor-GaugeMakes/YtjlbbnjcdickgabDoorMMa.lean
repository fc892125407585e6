/- Rounded once: what gauge.Make works out is the nearest. -/
import Derived.Test.YtjlbbnjcdickgabDoorMKc
import Derived.Test.YtjlbbnjcdickgabDoorGRg
set_option maxRecDepth 4000
namespace Go.Proofs.YtjlbbnjcdickgabDoor
open Ieee

theorem nearest_deep (s : Bool) (m : Nat) (e : Int) (hm : m < 2 ^ 66) (he : e ≤ -1174) : double.nearest s m e = double.word s 0 := by
  by_cases h0 : m = 0
  · subst h0; unfold Format.nearest; rw [if_pos rfl]
  rw [nearest_eq _ _ _ _ h0]
  congr 1
  have h1 : rungOf double m e ≤ 0 := by
    rw [rung_le double (by decide) _ _ h0, dL, dB]
    left
    have e1 : (e - -1074).toNat = 0 := by omega
    obtain ⟨j, hj⟩ : ∃ j : Nat, (-1074 - e).toNat = 68 + j := ⟨(-1074 - e).toNat - 68, by omega⟩
    have hM : M (2 ^ 52) 0 = 1 := by decide
    rw [e1, hj, hM, Nat.pow_zero, Nat.mul_one, Nat.one_mul, Nat.pow_add]
    have : 2 ^ 68 * 1 ≤ 2 ^ 68 * 2 ^ j := Nat.mul_le_mul_left _ (Nat.two_pow_pos j)
    omega
  omega

/-- Beyond the bounds nothing changes. -/
theorem nearest_clamp (s : Bool) (m : Nat) (e : Int) (hm : m < 2 ^ 66) : double.nearest s m (min (max e (-1174)) 1024) = double.nearest s m e := by
  by_cases h0 : m = 0
  · subst h0; unfold Format.nearest; rw [if_pos rfl, if_pos rfl]
  by_cases h1 : e < -1174
  · rw [show min (max e (-1174)) 1024 = -1174 by omega, nearest_deep s m (-1174) hm (by omega), nearest_deep s m e hm (by omega)]
  · by_cases h2 : 1024 < e
    · rw [show min (max e (-1174)) 1024 = 1024 by omega, nearest_high s m 1024 h0 (by omega), nearest_high s m e h0 (by omega)]
    · rw [show min (max e (-1174)) 1024 = e by omega]

/-- Where the last digit is the least: the digits below are dropped. -/
theorem rung_least (N : Nat) (e : Int) (h0 : N ≠ 0) (hd : 0 < -1074 - e) (hb : (bl N : Int) - (-1074 - e) < 53) : rungOf double N e = rnd N (2 ^ (-1074 - e).toNat) := by
  unfold rungOf
  have hl : max (e + N.log2 - double.fractionBits) double.leastPlace = -1074 := by
    rw [dL, show double.fractionBits = 52 from rfl]
    unfold bl at hb; rw [if_neg h0] at hb; omega
  rw [hl, dL, show ((-1074 : Int) - -1074).toNat = 0 by decide, show (e - -1074).toNat = 0 by omega, Nat.zero_mul, Nat.zero_add, Nat.shiftLeft_zero]

/-- Elsewhere rounding to 53 digits first does no harm. -/
theorem twice (N : Nat) (e : Int) (h0 : N ≠ 0) (hN : N < 2 ^ 64) (hc : -1074 - e ≤ (bl N : Int) - 53 ∨ -1074 - e ≤ 0) (he : -1174 ≤ e) (he1 : e ≤ 1024) :
    double.nearest false (mgF (flR N : Nat)).toNat (plF (flR N : Nat) + e) = double.nearest false N e := by
  obtain ⟨fe, fs, fv⟩ := flR_fields' N hN
  have bf := frF_bd (flR N : Nat)
  have be := exF_bd (flR N : Nat)
  have hm0 : 0 ≤ mgF (flR N : Nat) := by unfold mgF; split <;> omega
  have hp : -1074 ≤ plF (flR N : Nat) := by unfold plF; split <;> omega
  have hb1 := bl_lt N
  have hb0 : 1 ≤ bl N := by unfold bl; rw [if_neg h0]; omega
  have hbl : bl N ≤ 64 := bl_le N 64 hN
  have hn := nearest_int N hN
  -- by a number of the same value
  have same : ∀ (k : Nat) (q : Int), 0 ≤ q → V double.binade (flR N) = k * 2 ^ (q + 1074).toNat → double.nearest false (mgF (flR N : Nat)).toNat (plF (flR N : Nat) + e) = double.nearest false k (q + e) := by
    intro k q hq hk
    apply nearest_same false _ _ _ _ 2248 (by omega) (by omega)
    have hh : ((((mgF (flR N : Nat)).toNat * 2 ^ (plF (flR N : Nat) + e + ((2248 : Nat) : Int)).toNat : Nat)) : Int) = ((k * 2 ^ (q + e + ((2248 : Nat) : Int)).toNat : Nat) : Int) := by
      rw [Int.natCast_mul, Int.natCast_mul, Int.natCast_pow, Int.natCast_pow, Int.toNat_of_nonneg hm0]
      rw [show (plF (flR N : Nat) + e + ((2248 : Nat) : Int)).toNat = (plF (flR N : Nat) + 1074).toNat + (e + 1174).toNat by omega, show (q + e + ((2248 : Nat) : Int)).toNat = (q + 1074).toNat + (e + 1174).toNat by omega]
      rw [Int.pow_add, Int.pow_add, ← Int.mul_assoc, ← Int.mul_assoc, show ((2 : Nat) : Int) = 2 from rfl, fv, hk, Int.natCast_mul, Int.natCast_pow]
      rfl
    exact Int.ofNat_inj.mp hh
  by_cases hcut : cutOf N 0 ≤ 0
  · have : V double.binade (flR N) = N * 2 ^ ((0 : Int) + 1074).toNat := by
      obtain ⟨T, hV, t1, t2⟩ := flR_value N (by
        have h53 : bl N ≤ 53 := by unfold cutOf at hcut; omega
        have := Nat.pow_le_pow_right (show 0 < 2 by decide) h53
        omega)
      have h53 : N < 9007199254740992 := by
        have h53 : bl N ≤ 53 := by unfold cutOf at hcut; omega
        have := Nat.pow_le_pow_right (show 0 < 2 by decide) h53
        omega
      have hz : N / 9007199254740992 = 0 := Nat.div_eq_of_lt h53
      have hT : T = N := by omega
      rw [hV, hT, show ((0 : Int) + 1074).toNat = tt by decide]
    have := same N 0 (by omega) this
    rw [this]; congr 1; omega
  · rw [← nearest_two] at hn
    have hn2 := nearest_cut false N 0 false h0 (by omega)
    rw [show 2 * N + false.toNat = 2 * N from rfl] at hn2
    rw [hn2, rnd_two] at hn
    unfold asm at hn
    have hcN : cutOf N 0 = (bl N : Int) - 53 := by unfold cutOf; omega
    obtain ⟨c, hcc⟩ : ∃ c : Nat, (cutOf N 0).toNat = c := ⟨_, rfl⟩
    obtain ⟨d, hd⟩ : ∃ d : Nat, (0 + cutOf N 0 + 1074).toNat = d := ⟨_, rfl⟩
    rw [hcc, hd] at hn
    have hlow : 2 ^ (bl N - 1) ≤ N := by unfold bl; rw [if_neg h0]; exact Nat.log2_self_le h0
    have ug := Nat.two_pow_pos c
    have u1 : N < 9007199254740992 * 2 ^ c := by
      rw [show 9007199254740992 = 2 ^ 53 by decide, ← Nat.pow_add, show 53 + c = bl N by omega]; exact hb1
    have u2 : 4503599627370496 * 2 ^ c ≤ N := by
      rw [show 4503599627370496 = 2 ^ 52 by decide, ← Nat.pow_add, show 52 + c = bl N - 1 by omega]; exact hlow
    have k1 : rnd N (2 ^ c) ≤ 9007199254740992 := by
      rw [rnd_le _ _ _ ug]
      left
      clear hn hn2 hb1 hlow same
      generalize 2 ^ c = g at *
      omega
    have k2 : 4503599627370496 ≤ rnd N (2 ^ c) := Nat.le_trans ((Nat.le_div_iff_mul_le ug).mpr u2) (Nat.le_add_right _ _)
    have hle : d * 2 ^ 52 + rnd N (2 ^ c) ≤ 2047 * 2 ^ 52 := by clear hn hn2 same; omega
    rw [dI, Nat.min_eq_left hle, word_f] at hn
    have hV : V double.binade (flR N) = rnd N (2 ^ c) * 2 ^ ((c : Int) + 1074).toNat := by
      rw [← hn, ← dB, V_up double.binade d _ dBpos (by rw [dB]; clear hn hn2 same; omega) (by rw [dB]; clear hn hn2 same; omega), show ((c : Int) + 1074).toNat = d by omega]
    rw [same (rnd N (2 ^ c)) c (by omega) hV]
    have hc1 : (bl N : Int) - 53 = c := by omega
    have hce : cutOf N e = c := by unfold cutOf; omega
    have hN2 := nearest_cut false N e false h0 (by omega)
    rw [show 2 * N + false.toNat = 2 * N from rfl, nearest_two, rnd_two, hce, Int.toNat_natCast] at hN2
    rw [hN2]
    clear hN2 same hV hn hn2 hle
    generalize rnd N (2 ^ c) = k at *
    have hz : ∀ (j : Nat) (q : Int), 4503599627370496 ≤ j → j < 9007199254740992 → -1074 ≤ q → double.nearest false j q = asm false j q := by
      intro j q a b hq
      have hb53 : bl j = 53 := by
        have l1 := bl_le j 53 (by omega)
        have l2 := bl_lt j
        apply Nat.le_antisymm l1
        apply Nat.le_of_not_lt
        intro h
        have := Nat.pow_le_pow_right (show 0 < 2 by decide) (show bl j ≤ 52 by omega)
        omega
      have hc0 : cutOf j q = 0 := by unfold cutOf; rw [hb53]; omega
      rw [nearest_exact false j q (by omega) (by omega), hc0]
      simp
    by_cases hk : k = 9007199254740992
    · subst hk
      have := nearest_two false 4503599627370496 ((c : Int) + e + 1)
      rw [show (c : Int) + e + 1 - 1 = (c : Int) + e by omega, show 2 * 4503599627370496 = 9007199254740992 by decide] at this
      rw [this, hz _ _ (by omega) (by omega) (by omega), show e + (c : Int) = (c : Int) + e by omega, asm_carry _ _ (by omega)]
    · rw [hz k _ k2 (by omega) (by omega), show e + (c : Int) = (c : Int) + e by omega]

end Go.Proofs.YtjlbbnjcdickgabDoor
