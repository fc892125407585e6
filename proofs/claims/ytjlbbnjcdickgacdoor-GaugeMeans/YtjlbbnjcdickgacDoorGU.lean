/- gauge.ToInt, walked: the same as the document's. -/
import Derived.Test.YtjlbbnjcdickgacDoorGT
import Derived.Test.YtjlbbnjcdickgacDoorGN
namespace Go.Proofs.YtjlbbnjcdickgacDoor
open Go.RowKit

theorem in_num (x : Int) (h0 : 0 ≤ x) (h1 : x ≤ 18446744073709551615) (he : exF x ≠ 2047) :
    (FloatKind.f64.format.order x.toNat 14114281232179134464 == some .lt) = (sgF x && decide (9223372036854775808 < trOE (mgF x) (plF x))) ∧
    (FloatKind.f64.format.order x.toNat 4890909195324358656 == some .gt || FloatKind.f64.format.order x.toNat 4890909195324358656 == some .eq) = (!sgF x && decide (9223372036854775808 ≤ trOE (mgF x) (plF x))) := by
  obtain ⟨a1, a2, a3⟩ := size_num x h0 h1 he
  obtain ⟨b1, b2, b3⟩ := size_hi
  obtain ⟨c1, c2, c3⟩ := size_lo
  have be := exF_bd x
  have hm : 0 ≤ mgF x ∧ mgF x < 9007199254740992 := by have := frF_bd x; unfold mgF; split <;> omega
  have hp : -1074 ≤ plF x := by unfold plF; split <;> omega
  obtain ⟨t1, t2⟩ := tr_iff (mgF x) (plF x) hm.1 hm.2 hp
  have pu := pow_pos_int u63
  have hz : 0 ≤ mgF x * 2 ^ (plF x + 1074).toNat := Int.mul_nonneg hm.1 (Int.le_of_lt (pow_pos_int _))
  rw [show FloatKind.f64.format = Ieee.double from rfl]
  constructor
  · rw [Bool.eq_iff_iff, flt_iff, a1, a2, a3, c1, c2, c3]
    simp only [Bool.and_eq_true, decide_eq_true_iff, ← t2]
    generalize mgF x * 2 ^ (plF x + 1074).toNat = X at *
    generalize (2 : Int) ^ u63 = U at *
    cases sgF x <;> simp <;> omega
  · rw [Bool.eq_iff_iff, Bool.or_eq_true, fgt_iff, feq_iff, a1, a2, a3, b1, b2, b3]
    simp only [Bool.and_eq_true, decide_eq_true_iff, ← t1]
    generalize mgF x * 2 ^ (plF x + 1074).toNat = X at *
    generalize (2 : Int) ^ u63 = U at *
    cases sgF x <;> simp <;> omega

theorem tr_nonneg (M P : Int) (h : 0 ≤ M) : 0 ≤ trOE M P := Int.mul_nonneg (Int.ediv_nonneg h (Int.le_of_lt (pow_pos_int _))) (Int.le_of_lt (pow_pos_int _))

set_option maxHeartbeats 1000000 in
theorem toint_num (x : Int) (w : World) (h0 : 0 ≤ x) (h1 : x ≤ 18446744073709551615) (he : exF x ≠ 2047) :
    Calls Tryd.prog 19 #[.float .f64 x.toNat] w fun r w' => r = .returned (.tuple #[.int .i64 (outN (sgF x) (trOE (mgF x) (plF x))), .int .i64 (outE (sgF x) (trOE (mgF x) (plF x)))]) ∧ w' = w := by
  obtain ⟨a1, a2⟩ := in_num x h0 h1 he
  have hm : 0 ≤ mgF x := by have := frF_bd x; unfold mgF; split <;> omega
  have hnn : Hid (nn x.toNat = false) := (size_num x h0 h1 he).1
  have hr : Ieee.double.read x.toNat = .number (sgF x) (mgF x).toNat (plF x) := read_num x h0 h1 he
  have hc : (FloatKind.f64.decode x.toNat).toInt .zero = some (if sgF x then -(trOE (mgF x) (plF x)) else trOE (mgF x) (plF x)) := by
    show (Ieee.double.read x.toNat).toInt .zero = _
    rw [hr, toInt_num, show ((mgF x).toNat : Int) = mgF x by omega]
  have ht := tr_nonneg (mgF x) (plF x) hm
  clear he hr hm
  generalize trOE (mgF x) (plF x) = tr at *
  generalize sgF x = s at *
  generalize x.toNat = X at *
  have HN : Hid ((FloatKind.f64.decode X).toInt .zero = some (if s then -tr else tr)) := hc
  clear hc h0 h1
  by_cases hout : (s = true ∧ 9223372036854775808 < tr) ∨ (s = false ∧ 9223372036854775808 ≤ tr)
  · have ho : outN s tr = 0 ∧ outE s tr = 1 := by
      unfold outN outE
      rcases hout with ⟨rfl, h⟩ | ⟨rfl, h⟩
      · simp; omega
      · simp; omega
    have O1 : Hid (outN s tr = 0) := ho.1
    have O2 : Hid (outE s tr = 1) := ho.2
    clear ho
    rcases hout with ⟨rfl, h⟩ | ⟨rfl, h⟩
    all_goals
      simp only [h, decide_true, Bool.true_and, Bool.false_and, Bool.not_true, Bool.not_false] at a1 a2
      go_enter Tryd.func19, Tryd.ntmps19
      go_wp2_with fail
      refine (isnan_any _ _).mono ?_
      rintro r w1 ⟨rfl, rfl⟩
      rw [hnn.out]
      go_wp2_with fail
      go_ret2
      exact ⟨by rw [O1.out, O2.out]; rfl, rfl⟩
  · have hb1 : (s && decide (9223372036854775808 < tr)) = false := by cases s <;> simp at hout ⊢; omega
    have hb2 : (!s && decide (9223372036854775808 ≤ tr)) = false := by cases s <;> simp at hout ⊢; omega
    rw [hb1] at a1
    rw [hb2] at a2
    have O1 : Hid (outN s tr = if s = true then -tr else tr) := by unfold Hid outN; cases s <;> simp at hout ⊢ <;> omega
    have O2 : Hid (outE s tr = 0) := by unfold Hid outE; cases s <;> simp at hout ⊢ <;> omega
    have hv : floatToIntVal .f64 X .i64 = some (if s = true then -tr else tr) := by
      unfold floatToIntVal
      rw [HN.out]
      have hlo : IntKind.i64.min = -9223372036854775808 := rfl
      have hhi : IntKind.i64.max = 9223372036854775807 := rfl
      simp only
      rw [if_pos]
      rw [hlo, hhi]
      cases s <;> simp at hout ⊢ <;> omega
    have hcv : ∀ w : World, (convert 24 2 (.float .f64 X)).run Tryd.prog w = .ok (.int .i64 (if s = true then -tr else tr)) w := fun w =>
      run_convert_float_int w 24 2 .f64 .i64 X _ (by rw [Tryd.underlying24]; rfl) Tryd.underlying2 hv
    clear hout hb1 hb2 hv HN
    generalize (if s = true then -tr else tr) = res at *
    go_enter Tryd.func19, Tryd.ntmps19
    go_wp2_with fail
    refine (isnan_any _ _).mono ?_
    rintro r w1 ⟨rfl, rfl⟩
    rw [hnn.out]
    go_wp2_with fail
    go_ret2
    exact ⟨by rw [O1.out, O2.out]; rfl, rfl⟩

end Go.Proofs.YtjlbbnjcdickgacDoor
