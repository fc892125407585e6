/- Integers as float64 and their quotients: the order of what comes out. -/
import Derived.Test.YtomlejbooehmiaaFl
set_option maxRecDepth 4000
namespace Go.Proofs.Ytomlejbooehmiaa
open Ieee

/-- The places below the point. -/
def tt : Nat := 1074

theorem dB : double.binade = 2 ^ 52 := rfl
theorem dL : double.leastPlace = -1074 := by decide
theorem dI : double.infRung = 2047 * 2 ^ 52 := by decide
theorem dBpos : 0 < double.binade := Nat.two_pow_pos _

theorem rung_exact (mag : Nat) (place : Int) (hm : mag ≠ 0) (K : Nat) (h : mag * 2 ^ (place - double.leastPlace).toNat = V double.binade K * 2 ^ (double.leastPlace - place).toNat) : rungOf double mag place = K := by
  have hu := Nat.two_pow_pos (double.leastPlace - place).toNat
  apply Nat.le_antisymm
  · rw [rung_le double (by decide) mag place hm K]
    left
    rw [h]
    have h1 := V_lt_succ double.binade K dBpos
    have h2 : 2 * V double.binade K < M double.binade K := by unfold M; omega
    have h3 := Nat.mul_lt_mul_of_pos_right h2 hu
    rw [Nat.mul_assoc] at h3
    exact h3
  · rcases Nat.eq_zero_or_pos K with h0 | h0
    · omega
    · obtain ⟨J, rfl⟩ : ∃ J, K = J + 1 := ⟨K - 1, by omega⟩
      apply Nat.lt_of_not_le
      rw [rung_le double (by decide) mag place hm J]
      rw [h]
      have h1 := V_lt_succ double.binade J dBpos
      have h2 : M double.binade J < 2 * V double.binade (J + 1) := by unfold M; omega
      have h3 := Nat.mul_lt_mul_of_pos_right h2 hu
      rw [Nat.mul_assoc 2] at h3
      omega

/-- The rung of an integer. -/
def flR (n : Nat) : Nat := if n = 0 then 0 else rungOf double n 0

theorem flR_le (n K : Nat) (hn : n ≠ 0) : flR n ≤ K ↔ 2 * (n * 2 ^ tt) < M double.binade K ∨ 2 * (n * 2 ^ tt) = M double.binade K ∧ K % 2 = 0 := by
  unfold flR
  rw [if_neg hn, rung_le double (by decide) n 0 hn K, dL]
  rw [show ((0 : Int) - -1074).toNat = tt by decide, show ((-1074 : Int) - 0).toNat = 0 by decide, Nat.pow_zero, Nat.mul_one]

theorem flR_mono {a b : Nat} (h : a ≤ b) : flR a ≤ flR b := by
  by_cases ha : a = 0
  · subst ha; unfold flR; simp
  · have hb : b ≠ 0 := by omega
    rw [flR_le a _ ha]
    have h1 := (flR_le b (flR b) hb).mp (Nat.le_refl _)
    have h2 : a * 2 ^ tt ≤ b * 2 ^ tt := Nat.mul_le_mul_right _ h
    generalize 2 ^ tt = Z at *
    omega

theorem V_pow (e : Nat) : V double.binade ((e + 1) * 2 ^ 52) = 2 ^ (52 + e) := by
  have := V_up double.binade e double.binade dBpos (by omega) (Nat.le_refl _)
  rw [Nat.add_mul, Nat.one_mul, Nat.pow_add]
  exact this

theorem flR_pow (e : Nat) : flR (2 ^ e) = (e + 1023) * 2 ^ 52 := by
  unfold flR
  have h0 : 2 ^ e ≠ 0 := Nat.pos_iff_ne_zero.mp (Nat.two_pow_pos e)
  rw [if_neg h0]
  apply rung_exact _ _ h0
  rw [show e + 1023 = (e + 1022) + 1 by omega, V_pow, dL]
  rw [show ((0 : Int) - -1074).toNat = tt by decide, show ((-1074 : Int) - 0).toNat = 0 by decide, Nat.pow_zero, Nat.mul_one, ← Nat.pow_add]
  congr 1; unfold tt; omega

theorem flR_lt (n : Nat) (h : n < 2 ^ 64) : flR n ≤ 1087 * 2 ^ 52 := by
  have := flR_mono (Nat.le_of_lt h)
  rw [flR_pow] at this
  exact this

theorem V_flR_one_le (n : Nat) (h : n ≠ 0) : 2 ^ tt ≤ V double.binade (flR n) := by
  have h1 := flR_mono (show 2 ^ 0 ≤ n by omega)
  rw [flR_pow] at h1
  have h2 := V_mono double.binade dBpos h1
  rw [show 0 + 1023 = 1022 + 1 by omega, V_pow, show 52 + 1022 = tt by decide] at h2
  exact h2

theorem V_flR_le (n : Nat) (h : n < 2 ^ 64) : V double.binade (flR n) ≤ 2 ^ (tt + 64) := by
  have h1 := flR_lt n h
  have h2 := V_mono double.binade dBpos h1
  rw [show 1087 = 1086 + 1 by omega, V_pow, show 52 + 1086 = tt + 64 by decide] at h2
  exact h2

theorem nearest_int (n : Nat) (h : n < 2 ^ 64) : double.nearest false n 0 = flR n := by
  by_cases h0 : n = 0
  · subst h0; unfold flR; rfl
  · rw [nearest_eq double false n 0 h0]
    unfold flR
    rw [if_neg h0]
    have h1 := flR_lt n h
    unfold flR at h1
    rw [if_neg h0] at h1
    rw [Nat.min_eq_left (by rw [dI]; omega)]
    rfl

theorem word_false (r : Nat) : double.word (false ^^ false) r = r := rfl

/-- The word of the quotient of two integers as float64. -/
theorem div_fl (p w : Nat) (hp : p < 2 ^ 64) (hw : w < 2 ^ 64) (hw0 : w ≠ 0) : ∃ R, double.div (flR p) (flR w) = some (min R double.infRung) ∧
    (p = 0 → R = 0) ∧ (p ≠ 0 → ∀ K, R ≤ K ↔ 2 * V double.binade (flR p) * 2 ^ tt < M double.binade K * V double.binade (flR w) ∨ 2 * V double.binade (flR p) * 2 ^ tt = M double.binade K * V double.binade (flR w) ∧ K % 2 = 0) := by
  have lp : flR p < double.infRung := by rw [dI]; have := flR_lt p hp; omega
  have lw : flR w < double.infRung := by rw [dI]; have := flR_lt w hw; omega
  obtain ⟨m, i, e1, hi, v1⟩ := read_low double _ lp
  obtain ⟨n, j, e2, hj, v2⟩ := read_low double _ lw
  have hn : n ≠ 0 := by
    rintro rfl
    rw [Nat.zero_mul] at v2
    have := V_flR_one_le w hw0
    have := Nat.two_pow_pos tt
    omega
  unfold Format.div
  rw [e1, e2]
  unfold Datum.quotient
  dsimp only
  rw [if_neg hn]
  by_cases hp0 : p = 0
  · refine ⟨0, ?_, fun _ => rfl, fun h => absurd hp0 h⟩
    subst hp0
    have hm : m = 0 := by
      have h1 : V double.binade (flR 0) = 0 := by unfold flR V; rw [if_pos rfl, if_pos dBpos]
      rw [h1] at v1
      rcases Nat.mul_eq_zero.mp v1 with h | h
      · exact h
      · have := Nat.two_pow_pos (i - double.leastPlace).toNat; omega
    subst hm
    rw [Nat.zero_shiftLeft, Nat.zero_div, Nat.zero_mod, Option.map_some]
    unfold Format.write
    dsimp only
    rw [show 2 * 0 + ((0 : Nat) != 0).toNat = 0 by decide]
    unfold Format.nearest
    rw [if_pos rfl, Nat.zero_min, word_false]
  · have hm : m ≠ 0 := by
      rintro rfl
      rw [Nat.zero_mul] at v1
      have := V_flR_one_le p hp0
      have := Nat.two_pow_pos tt
      omega
    have hbig := dividend_big (double.fractionBits + 2) m n hm hn (by omega)
    have hb2 : 0 < 2 ^ (double.fractionBits + 2 - 1) := Nat.two_pow_pos _
    refine ⟨rungOf double (2 * (m <<< (double.fractionBits + 2 + n.log2 - m.log2) / n) + (m <<< (double.fractionBits + 2 + n.log2 - m.log2) % n != 0).toNat) (i - j - (double.fractionBits + 2 + n.log2 - m.log2 : Nat) - 1), ?_, fun h => absurd h hp0, fun _ K => ?_⟩
    · generalize hq : 2 * (m <<< (double.fractionBits + 2 + n.log2 - m.log2) / n) + (m <<< (double.fractionBits + 2 + n.log2 - m.log2) % n != 0).toNat = q
      have hq0 : q ≠ 0 := by omega
      rw [Option.map_some]
      unfold Format.write
      dsimp only
      rw [nearest_eq _ _ _ _ hq0, word_false]
    · rw [rung_quo double (by decide) (by decide) m n i j hm hn hi hj K, v1, v2]
      rw [show (-double.leastPlace).toNat = tt by decide]

/-- The share's word. -/
def shW (p w : Nat) : Nat := (double.div (flR p) (flR w)).getD 0

theorem shW_some (p w : Nat) (hp : p < 2 ^ 64) (hw : w < 2 ^ 64) (hw0 : w ≠ 0) : double.div (flR p) (flR w) = some (shW p w) := by
  obtain ⟨R, h, _⟩ := div_fl p w hp hw hw0
  unfold shW; rw [h]; rfl

theorem shW_le (p w : Nat) (hp : p < 2 ^ 64) (hw : w < 2 ^ 64) (hw0 : w ≠ 0) : shW p w ≤ double.infRung := by
  obtain ⟨R, h, _⟩ := div_fl p w hp hw hw0
  unfold shW; rw [h]; exact Nat.min_le_right _ _

theorem shW_mono {p q w : Nat} (h : p ≤ q) (hq : q < 2 ^ 64) (hw : w < 2 ^ 64) (hw0 : w ≠ 0) : shW p w ≤ shW q w := by
  obtain ⟨R, h1, z1, k1⟩ := div_fl p w (by omega) hw hw0
  obtain ⟨S, h2, z2, k2⟩ := div_fl q w hq hw hw0
  unfold shW; rw [h1, h2]
  show min R _ ≤ min S _
  have : R ≤ S := by
    by_cases hp0 : p = 0
    · rw [z1 hp0]; omega
    · have hq0 : q ≠ 0 := by omega
      rw [k1 hp0 S]
      have h3 := (k2 hq0 S).mp (Nat.le_refl _)
      have h4 := V_mono double.binade dBpos (flR_mono h)
      have h5 : 2 * V double.binade (flR p) * 2 ^ tt ≤ 2 * V double.binade (flR q) * 2 ^ tt := Nat.mul_le_mul_right _ (by omega)
      omega
  omega

theorem shW_zero (p w : Nat) (hp : p < 2 ^ 64) (hw : w < 2 ^ 64) (hw0 : w ≠ 0) : shW p w = 0 ↔ p = 0 := by
  obtain ⟨R, h1, z1, k1⟩ := div_fl p w hp hw hw0
  unfold shW; rw [h1]
  show min R _ = 0 ↔ _
  have hI : 0 < double.infRung := by decide
  constructor
  · intro h
    by_cases hp0 : p = 0
    · exact hp0
    · exfalso
      have hR : R ≤ 0 := by omega
      rw [k1 hp0 0] at hR
      have hM : M double.binade 0 = 1 := by
        unfold M
        rw [V_low _ 0 (by omega) dBpos, V_low _ 1 (by have := dBpos; omega) dBpos]
      rw [hM] at hR
      have a1 := V_flR_one_le p hp0
      have a2 := V_flR_le w hw
      have a3 : 2 * 2 ^ tt * 2 ^ tt ≤ 2 * V double.binade (flR p) * 2 ^ tt := Nat.mul_le_mul_right _ (by omega)
      have a4 : 2 ^ (tt + 64) < 2 * 2 ^ tt * 2 ^ tt := by
        rw [show 2 * 2 ^ tt * 2 ^ tt = 2 ^ (1 + tt + tt) by rw [Nat.pow_add, Nat.pow_add]]
        exact Nat.pow_lt_pow_right (by decide) (by unfold tt; omega)
      have a5 := Nat.lt_of_lt_of_le a4 a3
      generalize 2 * V double.binade (flR p) * 2 ^ tt = X at *
      generalize 2 ^ (tt + 64) = Y at *
      generalize V double.binade (flR w) = C at *
      clear a4 a3 a1
      omega
  · intro h; rw [z1 h]; omega

theorem shW_one (p w : Nat) (h : p ≤ w) (hw : w < 2 ^ 64) (hw0 : w ≠ 0) : shW p w ≤ 1023 * 2 ^ 52 := by
  obtain ⟨R, h1, z1, k1⟩ := div_fl p w (by omega) hw hw0
  unfold shW; rw [h1]
  show min R _ ≤ _
  have : R ≤ 1023 * 2 ^ 52 := by
    by_cases hp0 : p = 0
    · rw [z1 hp0]; omega
    · rw [k1 hp0]
      left
      have hM : 2 * 2 ^ tt < M double.binade (1023 * 2 ^ 52) := by
        have a1 := V_lt_succ double.binade (1023 * 2 ^ 52) dBpos
        have a2 := V_pow 1022
        rw [show 1022 + 1 = 1023 by omega, show 52 + 1022 = tt by decide] at a2
        unfold M
        rw [a2] at a1 ⊢
        omega
      have a3 := V_mono double.binade dBpos (flR_mono h)
      have a4 := V_flR_one_le w hw0
      generalize V double.binade (flR p) = A at *
      generalize V double.binade (flR w) = C at *
      generalize M double.binade (1023 * 2 ^ 52) = N at *
      have a5 := Nat.two_pow_pos tt
      generalize 2 ^ tt = Z at *
      have b1 : 2 * A * Z ≤ 2 * C * Z := Nat.mul_le_mul_right _ (by omega)
      have b2 : 2 * Z * C < N * C := Nat.mul_lt_mul_of_pos_right hM (by omega)
      grind
  omega

theorem shW_whole (w : Nat) (hw : w < 2 ^ 64) (hw0 : w ≠ 0) : shW w w = 1023 * 2 ^ 52 := by
  apply Nat.le_antisymm (shW_one w w (Nat.le_refl _) hw hw0)
  obtain ⟨R, h1, z1, k1⟩ := div_fl w w hw hw hw0
  unfold shW; rw [h1]
  show _ ≤ min R _
  have hI : 1023 * 2 ^ 52 ≤ double.infRung := by decide
  have : 1023 * 2 ^ 52 - 1 < R := by
    apply Nat.lt_of_not_le
    rw [k1 hw0]
    have hM : M double.binade (1023 * 2 ^ 52 - 1) < 2 * 2 ^ tt := by
      have a1 := V_lt_succ double.binade (1023 * 2 ^ 52 - 1) dBpos
      have a2 := V_pow 1022
      rw [show 1022 + 1 = 1023 by omega, show 52 + 1022 = tt by decide] at a2
      unfold M
      rw [show 1023 * 2 ^ 52 - 1 + 1 = 1023 * 2 ^ 52 by omega, a2] at a1 ⊢
      omega
    have a4 := V_flR_one_le w hw0
    generalize V double.binade (flR w) = C at *
    generalize M double.binade (1023 * 2 ^ 52 - 1) = N at *
    have a5 := Nat.two_pow_pos tt
    generalize 2 ^ tt = Z at *
    have b2 : N * C < 2 * Z * C := Nat.mul_lt_mul_of_pos_right hM (by omega)
    have b3 : 2 * Z * C = 2 * C * Z := by grind
    omega
  omega

theorem rung_nan (r : Nat) (h : r ≤ double.infRung) : fnan double r = false ∧ fside double r = (if r = double.infRung then 1 else 0) ∧ (r < double.infRung → fsize double r = (V double.binade r : Int)) ∧ (r = double.infRung → fsize double r = 0) := by
  rcases Nat.lt_or_eq_of_le h with h | h
  · obtain ⟨m, i, e, hi, v⟩ := read_low double r h
    have hne : r ≠ double.infRung := by omega
    unfold fnan fside fsize
    rw [e, if_neg hne]
    refine ⟨rfl, rfl, fun _ => ?_, fun h => absurd h hne⟩
    show signed false m _ = _
    unfold signed
    rw [← v, Nat.shiftLeft_eq]
    rfl
  · subst h
    have e : double.read double.infRung = .infinity false := by decide
    unfold fnan fside fsize
    rw [e, if_pos rfl]
    exact ⟨rfl, rfl, fun h => absurd h (Nat.lt_irrefl _), fun _ => rfl⟩

theorem order_lt (r s : Nat) (hr : r ≤ double.infRung) (hs : s ≤ double.infRung) : (double.order r s == some .lt) = decide (r < s) := by
  rw [Bool.eq_iff_iff, flt_iff, decide_eq_true_iff]
  obtain ⟨a1, a2, a3, a4⟩ := rung_nan r hr
  obtain ⟨b1, b2, b3, b4⟩ := rung_nan s hs
  rw [a1, a2, b1, b2]
  rcases Nat.lt_or_eq_of_le hr with h | h <;> rcases Nat.lt_or_eq_of_le hs with k | k
  · rw [if_neg (by omega), if_neg (by omega), a3 h, b3 k]
    constructor
    · rintro ⟨_, _, h2 | ⟨_, h2⟩⟩
      · omega
      · apply Nat.lt_of_not_le
        intro h3
        have := V_mono double.binade dBpos h3
        omega
    · intro h2
      have := V_strict double.binade dBpos h2
      exact ⟨rfl, rfl, Or.inr ⟨rfl, by omega⟩⟩
  · rw [if_neg (by omega), if_pos k]
    simp; omega
  · rw [if_pos h, if_neg (by omega)]
    simp; omega
  · rw [if_pos h, if_pos k, a4 h, b4 k]
    simp; omega

theorem order_gt (r s : Nat) (hr : r ≤ double.infRung) (hs : s ≤ double.infRung) : (double.order r s == some .gt) = decide (s < r) := by
  rw [← order_lt s r hs hr, Bool.eq_iff_iff, flt_iff, fgt_iff]
  constructor
  · rintro ⟨a, b, h⟩; exact ⟨b, a, by omega⟩
  · rintro ⟨a, b, h⟩; exact ⟨b, a, by omega⟩

theorem order_eq (r s : Nat) (hr : r ≤ double.infRung) (hs : s ≤ double.infRung) : (double.order r s == some .eq) = decide (r = s) := by
  rw [Bool.eq_iff_iff, feq_iff, decide_eq_true_iff]
  obtain ⟨a1, a2, a3, a4⟩ := rung_nan r hr
  obtain ⟨b1, b2, b3, b4⟩ := rung_nan s hs
  have l1 := order_lt r s hr hs
  have l2 := order_lt s r hs hr
  rw [Bool.eq_iff_iff, flt_iff, decide_eq_true_iff] at l1 l2
  constructor
  · rintro ⟨_, _, h1, h2⟩
    have n1 : ¬ r < s := by intro h; have := l1.mpr h; omega
    have n2 : ¬ s < r := by intro h; have := l2.mpr h; omega
    omega
  · rintro rfl
    exact ⟨a1, a1, rfl, rfl⟩

end Go.Proofs.Ytomlejbooehmiaa
