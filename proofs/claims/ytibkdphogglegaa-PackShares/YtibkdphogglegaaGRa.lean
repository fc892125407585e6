/- What the document's Near gathers, bit by bit, is the nearest word. -/
import Derived.Test.YtibkdphogglegaaFlS
set_option maxRecDepth 4000
namespace Go.Proofs.Ytibkdphogglegaa
open Ieee

theorem rnd_two (m c : Nat) : rnd (2 * m) (2 ^ (c + 1)) = rnd m (2 ^ c) := by
  have h : ∀ k, rnd (2 * m) (2 ^ (c + 1)) ≤ k ↔ rnd m (2 ^ c) ≤ k := by
    intro k
    rw [rnd_le _ _ _ (Nat.two_pow_pos _), rnd_le _ _ _ (Nat.two_pow_pos _), Nat.pow_succ]
    rw [show (2 * k + 1) * (2 ^ c * 2) = 2 * ((2 * k + 1) * 2 ^ c) by grind]
    omega
  exact Nat.le_antisymm ((h _).mpr (Nat.le_refl _)) ((h _).mp (Nat.le_refl _))

theorem digits_aux (H d t q : Nat) (r : Bool) (hd : d < 2) (ht : t < H) : (decide (4 * H < 2 * (2 * (H * d + t) + r.toNat)) || (4 * H == 2 * (2 * (H * d + t) + r.toNat) && q % 2 == 1)) = (decide (d = 1) && (r || decide (t ≠ 0) || decide (q % 2 = 1))) := by
  rcases (show d = 0 ∨ d = 1 by omega) with rfl | rfl
  · have h1 : ¬ 4 * H < 2 * (2 * (H * 0 + t) + r.toNat) := by have := Bool.toNat_le r; omega
    have h2 : ¬ 4 * H = 2 * (2 * (H * 0 + t) + r.toNat) := by have := Bool.toNat_le r; omega
    have h3 : (4 * H == 2 * (2 * (H * 0 + t) + r.toNat)) = false := by simpa using h2
    rw [decide_eq_false h1, h3]; simp
  · by_cases hz : 2 * t + r.toNat = 0
    · have ht0 : t = 0 := by omega
      have hr0 : r = false := by cases r <;> simp at hz ⊢
      subst ht0 hr0
      have h1 : ¬ 4 * H < 2 * (2 * (H * 1 + 0) + false.toNat) := by simp; omega
      have h2 : 4 * H = 2 * (2 * (H * 1 + 0) + false.toNat) := by simp; omega
      have h3 : (4 * H == 2 * (2 * (H * 1 + 0) + false.toNat)) = true := by simpa using h2
      rw [decide_eq_false h1, h3]
      rcases Nat.mod_two_eq_zero_or_one q with k | k <;> simp [k]
    · have h1 : 4 * H < 2 * (2 * (H * 1 + t) + r.toNat) := by omega
      rw [decide_eq_true h1]
      have h4 : (r || decide (t ≠ 0)) = true := by
        cases r
        · have : t ≠ 0 := by simp at hz; omega
          simp [this]
        · rfl
      simp only [Bool.true_or, decide_true, Bool.true_and, h4]

/-- The digit above H, and what lies below it. -/
theorem rnd_digits (m H : Nat) (r : Bool) (hH : 0 < H) : rnd (2 * m + r.toNat) (4 * H) = m / (2 * H) + (decide (m / H % 2 = 1) && (r || decide (m % H ≠ 0) || decide (m / (2 * H) % 2 = 1))).toNat := by
  have h1 : m % (2 * H) = H * (m / H % 2) + m % H := by
    rw [Nat.mul_comm 2 H, Nat.mod_mul]; omega
  have hr := Nat.mod_lt m hH
  have hm2 := Nat.mod_lt (m / H) (show 0 < 2 by decide)
  have hb : r.toNat ≤ 1 := Bool.toNat_le _
  have hmod : (2 * m + r.toNat) % (4 * H) = 2 * (m % (2 * H)) + r.toNat := by
    have e1 := Nat.div_add_mod m (2 * H)
    have e2 := Nat.mod_lt m (show 0 < 2 * H by omega)
    have : 2 * m + r.toNat = (2 * (m % (2 * H)) + r.toNat) + (4 * H) * (m / (2 * H)) := by
      rw [show 4 * H * (m / (2 * H)) = 2 * (2 * H * (m / (2 * H))) by grind]; omega
    rw [this, Nat.add_mul_mod_self_left, Nat.mod_eq_of_lt (by omega)]
  have hdiv : (2 * m + r.toNat) / (4 * H) = m / (2 * H) := by
    have e1 := Nat.div_add_mod m (2 * H)
    have e2 := Nat.mod_lt m (show 0 < 2 * H by omega)
    have : 2 * m + r.toNat = (2 * (m % (2 * H)) + r.toNat) + (4 * H) * (m / (2 * H)) := by
      rw [show 4 * H * (m / (2 * H)) = 2 * (2 * H * (m / (2 * H))) by grind]; omega
    rw [this, Nat.add_mul_div_left _ _ (by omega), Nat.div_eq_of_lt (by omega)]; omega
  unfold rnd
  rw [hmod, hdiv, h1]
  rw [digits_aux H (m / H % 2) (m % H) (m / (2 * H)) r hm2 hr]

/-- The bits of a number. -/
def bl (m : Nat) : Nat := if m = 0 then 0 else m.log2 + 1

theorem bl_lt (m : Nat) : m < 2 ^ bl m := by
  unfold bl; split
  · omega
  · exact Nat.lt_log2_self

theorem bl_le (m k : Nat) (h : m < 2 ^ k) : bl m ≤ k := by
  unfold bl; split
  · omega
  · rename_i h0
    have := (Nat.log2_lt h0).mpr h
    omega

/-- What is dropped of a number, in bits; below nought: what is lacking. -/
def cutOf (m : Nat) (e : Int) : Int := max ((bl m : Int) - 53) (-1074 - e)

theorem last_eq (m : Nat) (e : Int) (hm : m ≠ 0) : max (e + m.log2 - double.fractionBits) double.leastPlace = e + cutOf m e := by
  unfold cutOf bl
  rw [if_neg hm, dL, show double.fractionBits = 52 from rfl]
  omega

/-- The digits that are kept, and their place, put together. -/
def asm (s : Bool) (kept : Nat) (last : Int) : Nat := double.word s (min ((last + 1074).toNat * 2 ^ 52 + kept) double.infRung)

theorem nearest_exact (s : Bool) (m : Nat) (e : Int) (hm : m ≠ 0) (hc : cutOf m e ≤ 0) : double.nearest s m e = asm s (m * 2 ^ (-cutOf m e).toNat) (e + cutOf m e) := by
  rw [nearest_eq _ _ _ _ hm]
  unfold rungOf asm
  rw [last_eq m e hm, dL, dB]
  have e1 : (e + cutOf m e - e).toNat = 0 := by omega
  have e2 : (e - (e + cutOf m e)).toNat = (-cutOf m e).toNat := by omega
  have e3 : (e + cutOf m e - -1074).toNat = (e + cutOf m e + 1074).toNat := by omega
  have e4 : ∀ n, rnd n (2 ^ 0) = n := by intro n; unfold rnd; simp [Nat.mod_one]
  rw [e1, e2, e3, Nat.shiftLeft_eq, e4]

theorem log2_two (m : Nat) (b : Bool) (hm : m ≠ 0) : (2 * m + b.toNat).log2 = m.log2 + 1 := by
  have h1 := Nat.log2_self_le hm
  have h2 : m < 2 ^ (m.log2 + 1) := Nat.lt_log2_self
  have hb : b.toNat ≤ 1 := Bool.toNat_le _
  have h3 : 2 ^ (m.log2 + 1) ≤ 2 * m + b.toNat := by rw [Nat.pow_succ]; omega
  have h4 : 2 * m + b.toNat < 2 ^ (m.log2 + 1 + 1) := by rw [Nat.pow_succ]; omega
  have h0 : 2 * m + b.toNat ≠ 0 := by omega
  have a1 := (Nat.le_log2 h0).mpr h3
  have a2 := (Nat.log2_lt h0).mpr h4
  omega

theorem nearest_cut (s : Bool) (m : Nat) (e : Int) (r : Bool) (hm : m ≠ 0) (hc : 0 < cutOf m e) : double.nearest s (2 * m + r.toNat) (e - 1) = asm s (rnd (2 * m + r.toNat) (2 ^ ((cutOf m e).toNat + 1))) (e + cutOf m e) := by
  have h0 : 2 * m + r.toNat ≠ 0 := by omega
  rw [nearest_eq _ _ _ _ h0]
  unfold rungOf asm
  have hl : max (e - 1 + ((2 * m + r.toNat).log2 : Nat) - double.fractionBits) double.leastPlace = e + cutOf m e := by
    rw [log2_two m r hm, ← last_eq m e hm]
    congr 1
    omega
  rw [hl, dL, dB]
  have e1 : (e + cutOf m e - (e - 1)).toNat = (cutOf m e).toNat + 1 := by omega
  have e2 : (e - 1 - (e + cutOf m e)).toNat = 0 := by omega
  have e3 : (e + cutOf m e - -1074).toNat = (e + cutOf m e + 1074).toNat := by omega
  rw [e1, e2, e3, Nat.shiftLeft_eq, Nat.pow_zero, Nat.mul_one]

theorem nearest_two (s : Bool) (m : Nat) (e : Int) : double.nearest s (2 * m) (e - 1) = double.nearest s m e := by
  by_cases hm : m = 0
  · subst hm; unfold Format.nearest; rw [if_pos (by omega), if_pos rfl]
  · have h0 : 2 * m ≠ 0 := by omega
    rw [nearest_eq _ _ _ _ h0, nearest_eq _ _ _ _ hm]
    have hu : ∀ K, rungOf double (2 * m) (e - 1) ≤ K ↔ rungOf double m e ≤ K := by
      intro K
      rw [rung_le double (by decide) _ _ h0, rung_le double (by decide) _ _ hm]
      generalize double.leastPlace = L
      by_cases h : L ≤ e - 1
      · have a1 : (e - L).toNat = (e - 1 - L).toNat + 1 := by omega
        have a2 : (L - (e - 1)).toNat = 0 := by omega
        have a3 : (L - e).toNat = 0 := by omega
        rw [a1, a2, a3, Nat.pow_succ]
        rw [show 2 * m * 2 ^ (e - 1 - L).toNat = m * (2 ^ (e - 1 - L).toNat * 2) by grind]
      · have a1 : (e - L).toNat = 0 := by omega
        have a2 : (L - (e - 1)).toNat = (L - e).toNat + 1 := by omega
        have a3 : (e - 1 - L).toNat = 0 := by omega
        rw [a1, a2, a3, Nat.pow_succ, Nat.pow_zero]
        rw [show M double.binade K * (2 ^ (L - e).toNat * 2) = 2 * (M double.binade K * 2 ^ (L - e).toNat) by grind]
        omega
    rw [Nat.le_antisymm ((hu _).mpr (Nat.le_refl _)) ((hu _).mp (Nat.le_refl _))]

/-- The place of the greatest power of two. -/
def t98 : Nat := 2098

/-- Where the place is 1024 or above every number but nought is infinite. -/
theorem nearest_high (s : Bool) (m : Nat) (e : Int) (hm : m ≠ 0) (he : 1024 ≤ e) : double.nearest s m e = double.word s double.infRung := by
  rw [nearest_eq _ _ _ _ hm]
  congr 1
  apply Nat.min_eq_right
  apply Nat.le_of_not_lt
  intro h
  have h1 : rungOf double m e ≤ double.infRung - 1 := by omega
  rw [rung_le double (by decide) _ _ hm, dL, dB, dI] at h1
  have e1 : (-1074 - e).toNat = 0 := by omega
  obtain ⟨j, hj⟩ : ∃ j : Nat, (e - -1074).toNat = t98 + j := ⟨(e - -1074).toNat - t98, by unfold t98; omega⟩
  rw [e1, hj, Nat.pow_zero, Nat.mul_one] at h1
  have h2 : M (2 ^ 52) (2047 * 2 ^ 52 - 1) ≤ 2 * V (2 ^ 52) (2047 * 2 ^ 52) := by
    have := V_lt_succ (2 ^ 52) (2047 * 2 ^ 52 - 1) (by decide)
    unfold M
    rw [show 2047 * 2 ^ 52 - 1 + 1 = 2047 * 2 ^ 52 by decide] at this ⊢
    omega
  have h3 := V_pow 2046
  rw [dB, show 2046 + 1 = 2047 from rfl, show 52 + 2046 = t98 from rfl] at h3
  rw [h3] at h2
  have h4 : m * 2 ^ (t98 + j) = m * 2 ^ j * 2 ^ t98 := by rw [Nat.pow_add]; grind
  have h5 : 1 * 2 ^ t98 ≤ m * 2 ^ j * 2 ^ t98 := Nat.mul_le_mul_right _ (Nat.mul_pos (by omega) (Nat.two_pow_pos _))
  rw [h4] at h1
  generalize m * 2 ^ j * 2 ^ t98 = X at *
  generalize (2 : Nat) ^ 2098 = Y at *
  generalize M (2 ^ 52) (2047 * 2 ^ 52 - 1) = Z at *
  have hodd : (2047 * 2 ^ 52 - 1) % 2 = 1 := by decide
  rw [hodd] at h1
  omega

/-- Where the place is below -1300 every number of 66 bits is nought. -/
theorem nearest_low (s : Bool) (m : Nat) (e : Int) (hm : m < 2 ^ 66) (he : e < -1300) : double.nearest s m e = double.word s 0 := by
  by_cases h0 : m = 0
  · subst h0; rfl
  rw [nearest_eq _ _ _ _ h0]
  congr 1
  have h1 : rungOf double m e ≤ 0 := by
    rw [rung_le double (by decide) _ _ h0, dL, dB]
    left
    have e1 : (e - -1074).toNat = 0 := by omega
    obtain ⟨j, hj⟩ : ∃ j : Nat, (-1074 - e).toNat = 68 + j := ⟨(-1074 - e).toNat - 68, by omega⟩
    have hM : M (2 ^ 52) 0 = 1 := by decide
    rw [e1, hj, hM, Nat.pow_zero, Nat.mul_one, Nat.one_mul, Nat.pow_add]
    have : 2 ^ 68 * 1 ≤ 2 ^ 68 * 2 ^ j := Nat.mul_le_mul_left _ (Nat.two_pow_pos j)
    omega
  omega

end Go.Proofs.Ytibkdphogglegaa
