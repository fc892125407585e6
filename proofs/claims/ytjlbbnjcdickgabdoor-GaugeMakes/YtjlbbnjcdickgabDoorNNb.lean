/- Integers as float64: the words' fields, their order, their integers. -/
import Derived.Test.YtjlbbnjcdickgabDoorNNa
set_option maxRecDepth 4000
namespace Go.Proofs.YtjlbbnjcdickgabDoor
open Ieee

/-- The word of an integer. -/
def ofW (n : Int) : Nat := double.nearest (decide (n < 0)) n.natAbs 0

theorem ofW_eq (n : Int) (h0 : -9223372036854775808 ≤ n) (h1 : n ≤ 9223372036854775807) : ((ofW n : Nat) : Int) = (if n < 0 then 9223372036854775808 else 0) + (flR n.natAbs : Int) := by
  unfold ofW
  have hn := nearest_int n.natAbs (by omega)
  by_cases hz : n.natAbs = 0
  · have : n = 0 := by omega
    subst this
    rw [if_neg (by decide), show decide ((0 : Int) < 0) = false from rfl, hn]; omega
  · rw [nearest_eq _ _ _ _ hz] at hn ⊢
    rw [word_f] at hn
    rw [hn, wd_int]
    by_cases h : n < 0
    · rw [decide_eq_true h, if_pos rfl, if_pos h]
    · rw [decide_eq_false h, if_neg (by decide), if_neg h]

theorem tr_of (M P T : Int) (hP : -1074 ≤ P) (h : M * 2 ^ (P + 1074).toNat = T * 2 ^ tt) : trOE M P = T := by
  have pt := pow_pos_int tt
  unfold trOE
  by_cases hp : 0 ≤ P
  · rw [show (-P).toNat = 0 by omega, Int.pow_zero, Int.ediv_one]
    rw [show (P + 1074).toNat = P.toNat + tt by unfold tt; omega, Int.pow_add, ← Int.mul_assoc] at h
    exact Int.eq_of_mul_eq_mul_right (by omega) h
  · rw [show P.toNat = 0 by omega, Int.pow_zero, Int.mul_one]
    obtain ⟨d, hd⟩ : ∃ d : Nat, (-P).toNat = d := ⟨_, rfl⟩
    obtain ⟨e, he⟩ : ∃ e : Nat, (P + 1074).toNat = e := ⟨_, rfl⟩
    rw [he, show tt = d + e by unfold tt; omega, Int.pow_add, ← Int.mul_assoc] at h
    have := Int.eq_of_mul_eq_mul_right (by have := pow_pos_int e; omega) h
    rw [hd, this]
    exact Int.mul_ediv_cancel _ (by have := pow_pos_int d; omega)

/-- The fields of an integer's word. -/
theorem flR_fields' (p : Nat) (hp : p < 2 ^ 64) : exF (flR p : Nat) ≠ 2047 ∧ sgF (flR p : Nat) = false ∧ mgF (flR p : Nat) * 2 ^ (plF (flR p : Nat) + 1074).toNat = V Ieee.double.binade (flR p) := by
  have h1 := flR_lt p hp
  have hx0 : (0 : Int) ≤ (flR p : Nat) := by omega
  have hx1 : ((flR p : Nat) : Int) ≤ 18446744073709551615 := by omega
  have he : exF (flR p : Nat) ≠ 2047 := by unfold exF; omega
  have hs : sgF (flR p : Nat) = false := by unfold sgF; simp; omega
  refine ⟨he, hs, ?_⟩
  have hr := read_num (flR p : Nat) hx0 hx1 he
  rw [Int.toNat_natCast, hs] at hr
  obtain ⟨m, i, e, hi, v⟩ := read_low Ieee.double (flR p) (by rw [dI]; omega)
  rw [e] at hr
  injection hr with _ hm hi2
  have hm0 : 0 ≤ mgF (flR p : Nat) := by have := frF_bd (flR p : Nat); unfold mgF; split <;> omega
  rw [← v, hm, hi2, dL]
  rw [show plF (flR p : Nat) - -1074 = plF (flR p : Nat) + 1074 by omega]
  rw [Int.natCast_mul, Int.natCast_pow, show (((mgF (flR p : Nat)).toNat : Nat) : Int) = mgF (flR p : Nat) by omega]
  rfl

/-- What is to be known of an integer's word. -/
theorem ofW_facts (n : Int) (h0 : -9223372036854775808 ≤ n) (h1 : n ≤ 9223372036854775807) : ∃ (x T : Int), x = (ofW n : Int) ∧ 0 ≤ x ∧ x ≤ 18446744073709551615 ∧ exF x ≠ 2047 ∧ sgF x = decide (n < 0) ∧
    mgF x * 2 ^ (plF x + 1074).toNat = T * 2 ^ tt ∧ trOE (mgF x) (plF x) = T ∧ (V double.binade (flR n.natAbs) : Int) = T * 2 ^ tt ∧ 0 ≤ T ∧ T ≤ 9223372036854775808 ∧ T ≤ (n.natAbs : Int) + n.natAbs / 9007199254740992 ∧ (n.natAbs : Int) ≤ T + n.natAbs / 9007199254740992 ∧
    (n.natAbs ≤ 9223372036854775295 → T < 9223372036854775808) ∧ (9223372036854775296 ≤ n.natAbs → T = 9223372036854775808) ∧ (n = 0 ↔ T = 0) ∧ (mgF x = 0 ↔ n = 0) := by
  obtain ⟨T, hV, t1, t2, t3, t4, t5, t6⟩ := flR_int n.natAbs (by omega)
  obtain ⟨fe, fs, fv⟩ := flR_fields' n.natAbs (by omega)
  have hl := flR_lt n.natAbs (by omega)
  have hw := ofW_eq n h0 h1
  have hmod : ((ofW n : Nat) : Int) % 9223372036854775808 = (flR n.natAbs : Int) := by rw [hw]; split <;> omega
  have ex : exF (ofW n : Int) = exF (flR n.natAbs : Int) := by rw [exF_low, hmod]
  have mx : mgF (ofW n : Int) = mgF (flR n.natAbs : Int) := by rw [mgF_low, hmod]
  have px : plF (ofW n : Int) = plF (flR n.natAbs : Int) := by rw [plF_low, hmod]
  have hP : -1074 ≤ plF (flR n.natAbs : Int) := by have := exF_bd (flR n.natAbs : Int); unfold plF; split <;> omega
  have hv : mgF (flR n.natAbs : Int) * 2 ^ (plF (flR n.natAbs : Int) + 1074).toNat = (T : Int) * 2 ^ tt := by
    rw [fv, hV, Int.natCast_mul, Int.natCast_pow]; rfl
  refine ⟨_, (T : Int), rfl, by omega, ?_, ?_, ?_, ?_, ?_, ?_, by omega, by omega, by omega, by omega, ?_, ?_, by omega, ?_⟩
  · rw [hw]; split <;> omega
  · rw [ex]; exact fe
  · unfold sgF; rw [hw]
    by_cases h : n < 0
    · rw [if_pos h, decide_eq_true h, beq_iff_eq]; omega
    · rw [if_neg h, decide_eq_false h, beq_eq_false_iff_ne]; omega
  · rw [mx, px]; exact hv
  · rw [mx, px]; exact tr_of _ _ _ hP hv
  · rw [hV, Int.natCast_mul, Int.natCast_pow]; rfl
  · intro h; have := t4 h; omega
  · intro h; have := t5 h; omega
  · rw [mx]
    have p1 := pow_pos_int (plF (flR n.natAbs : Int) + 1074).toNat
    have p2 := pow_pos_int tt
    constructor
    · intro h
      rw [h, Int.zero_mul] at hv
      rcases Int.mul_eq_zero.mp hv.symm with h | h
      · omega
      · omega
    · intro h
      have hT : T = 0 := by omega
      rw [hT] at hv
      rw [show ((0 : Nat) : Int) * 2 ^ tt = 0 by simp] at hv
      rcases Int.mul_eq_zero.mp hv with h | h
      · exact h
      · omega

/-- The order of two integers' words. -/
theorem ofW_order (n k : Int) (hn0 : -9223372036854775808 ≤ n) (hn1 : n ≤ 9223372036854775807) (hk0 : -9223372036854775808 ≤ k) (hk1 : k ≤ 9223372036854775807) (h : n ≤ k) : (double.order (ofW k) (ofW n) == some .lt) = false := by
  obtain ⟨x, T, hx, x0, x1, xe, xs, xv, _, xV, T0, _⟩ := ofW_facts n hn0 hn1
  obtain ⟨y, S, hy, y0, y1, ye, ys, yv, _, yV, S0, _⟩ := ofW_facts k hk0 hk1
  obtain ⟨a1, a2, a3⟩ := size_num x x0 x1 xe
  obtain ⟨b1, b2, b3⟩ := size_num y y0 y1 ye
  rw [xs, xv, ← xV] at a3
  rw [ys, yv, ← yV] at b3
  rw [hx, Int.toNat_natCast] at a1 a2 a3
  rw [hy, Int.toNat_natCast] at b1 b2 b3
  rw [Bool.eq_false_iff]
  intro hl
  rw [flt_iff, a1, a2, a3, b1, b2, b3] at hl
  obtain ⟨_, _, hl | ⟨_, hl⟩⟩ := hl
  · omega
  · by_cases c1 : n < 0
    · by_cases c2 : k < 0
      · have m := V_mono double.binade dBpos (flR_mono (show k.natAbs ≤ n.natAbs by omega))
        rw [decide_eq_true c1, decide_eq_true c2] at hl
        simp only [if_true] at hl
        omega
      · rw [decide_eq_true c1, decide_eq_false c2] at hl
        simp at hl
        omega
    · have c2 : ¬ k < 0 := by omega
      have m := V_mono double.binade dBpos (flR_mono (show n.natAbs ≤ k.natAbs by omega))
      rw [decide_eq_false c1, decide_eq_false c2] at hl
      simp only [Bool.false_eq_true, if_false] at hl
      omega

end Go.Proofs.YtjlbbnjcdickgabDoor
