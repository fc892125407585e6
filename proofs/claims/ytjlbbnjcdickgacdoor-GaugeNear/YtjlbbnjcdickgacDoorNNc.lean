/- The law GaugeNear, walked. -/
import Derived.Test.YtjlbbnjcdickgacDoorNNb
namespace Go.Proofs.YtjlbbnjcdickgacDoor
open Go.RowKit

set_option maxHeartbeats 400000 in
theorem ofint_any (n : Int) (w : World) :
    Calls Tryd.prog 18 #[.int .i64 n] w fun e w' => e = .returned (.float .f64 (ofW n)) ∧ w' = w := by
  have h : floatOfInt .f64 n = ofW n := rfl
  go_enter Tryd.func18, Tryd.ntmps18
  go_wp2
  go_ret
  exact ⟨rfl, rfl⟩

/-- What the walk wants to know: the parts, the integer, the error. -/
theorem near_facts (n : Int) (w : World) (h0 : -9223372036854775808 ≤ n) (h1 : n ≤ 9223372036854775807) (hd : DT w) : ∃ (m e B E : Int), e ≤ 63 ∧ -3000 ≤ e ∧ (9223372036854775295 < n → E = 1 ∧ m = 1 ∧ e = 63) ∧ (n ≤ 9223372036854775295 → E = 0 ∧ (n < 0 → B < 0) ∧ (0 ≤ n → 0 ≤ B)) ∧ -9223372036854775808 ≤ B ∧ B ≤ 9223372036854775807 ∧
    (n ≤ 9223372036854775295 → B - n ≤ (n.natAbs : Int) / 9007199254740992 ∧ n - B ≤ (n.natAbs : Int) / 9007199254740992) ∧
    Calls Tryd.prog 16 #[.float .f64 (ofW n)] w (fun r w' => r = .returned (.tuple #[.int .i64 m, .int .i64 e, .int .i64 0]) ∧ w' = w) ∧
    Calls Tryd.prog 19 #[.float .f64 (ofW n)] w (fun r w' => r = .returned (.tuple #[.int .i64 B, .int .i64 E]) ∧ w' = w) := by
  obtain ⟨x, T, hx, x0, x1, xe, xs, xv, xt, xV, T0, T1, T2, T3, T4, T5, T6, T7⟩ := ofW_facts n h0 h1
  have hX : x.toNat = ofW n := by rw [hx, Int.toNat_natCast]
  have TI := toint_any x w x0 x1
  rw [hX] at TI
  have e1 : tsN x = outN (decide (n < 0)) T := by unfold tsN; rw [if_neg xe, xs, xt]
  have e2 : tsE x = outE (decide (n < 0)) T := by unfold tsE; rw [if_neg xe, xs, xt]
  rw [e1, e2] at TI
  have hout : outN (decide (n < 0)) T = (if n < 0 then -T else if n ≤ 9223372036854775295 then T else 0) ∧ outE (decide (n < 0)) T = (if n ≤ 9223372036854775295 then 0 else 1) := by
    by_cases hn : n < 0
    · have ht : ¬ 9223372036854775808 < T := by omega
      have hb : n ≤ 9223372036854775295 := by omega
      simp [outN, outE, hn, ht, hb]
    · by_cases hb : n ≤ 9223372036854775295
      · have ht : ¬ 9223372036854775808 ≤ T := by have := T4 (by omega); omega
        simp [outN, outE, hn, ht, hb]
      · have ht : 9223372036854775808 ≤ T := by have := T5 (by omega); omega
        simp [outN, outE, hn, ht, hb]
  rw [hout.1, hout.2] at TI
  by_cases hz : n = 0
  · have PZ := parts_zero x w x0 x1 xe (T7.mpr hz)
    rw [hX] at PZ
    refine ⟨0, 0, _, _, by omega, by omega, by omega, ?_, ?_, ?_, ?_, PZ, TI⟩
    · intro h; rw [if_pos h]; refine ⟨rfl, by omega, fun _ => ?_⟩; rw [if_neg (by omega), if_pos h]; omega
    · split
      · omega
      · split <;> omega
    · split
      · omega
      · split <;> omega
    · intro h; rw [if_neg (by omega), if_pos h]; omega
  · have hm : mgF x ≠ 0 := fun h => hz (T7.mp h)
    have PN := parts_num x w x0 x1 xe hm hd
    rw [hX] at PN
    have PB : -1074 ≤ plF x ∧ plF x ≤ 973 := by have := exF_bd x; unfold plF; split <;> omega
    obtain ⟨o, t, ho, hot⟩ := odd_part (mgF x).toNat (by
      have : 0 ≤ mgF x := by have := frF_bd x; unfold mgF; split <;> omega
      omega)
    have hm0 : 0 ≤ mgF x := by have := frF_bd x; unfold mgF; split <;> omega
    have hM : (o : Int) * 2 ^ t = mgF x := by
      have : ((o * 2 ^ t : Nat) : Int) = ((mgF x).toNat : Nat) := by rw [hot]
      rw [Int.natCast_mul, Int.natCast_pow, show ((2 : Nat) : Int) = 2 from rfl] at this
      rw [this]; omega
    have hv : (o : Int) * 2 ^ (plF x + t + 1074).toNat = T * 2 ^ tt := by
      rw [← xv, ← hM, Int.mul_assoc, ← Int.pow_add, show (plF x + (t : Int) + 1074).toNat = t + (plF x + 1074).toNat by omega]
    have he63 : plF x + t ≤ 63 := by
      apply Int.le_of_not_gt
      intro hgt
      have p1 := pow_mono_int (64 + tt) (plF x + t + 1074).toNat (by unfold tt; omega)
      have p2 : 1 * (2 : Int) ^ (plF x + t + 1074).toNat ≤ (o : Int) * 2 ^ (plF x + t + 1074).toNat := Int.mul_le_mul_of_nonneg_right (by omega) (Int.le_of_lt (pow_pos_int _))
      have p3 : T * 2 ^ tt ≤ 9223372036854775808 * 2 ^ tt := Int.mul_le_mul_of_nonneg_right T1 (Int.le_of_lt (pow_pos_int _))
      have p4 := pow_pos_int tt
      rw [Int.pow_add, show (2 : Int) ^ 64 = 18446744073709551616 by decide] at p1
      rw [hv] at p2
      generalize (2 : Int) ^ tt = Z at *
      generalize (2 : Int) ^ (plF x + t + 1074).toNat = Y at *
      omega
    have hbig : 9223372036854775295 < n → (o : Int) = 1 ∧ plF x + t = 63 := by
      intro hn
      have hT := T5 (by omega)
      rw [hT, show (9223372036854775808 : Int) * 2 ^ tt = 1 * 2 ^ (63 + tt) by rw [Int.pow_add, Int.one_mul, show (2 : Int) ^ 63 = 9223372036854775808 by decide]] at hv
      obtain ⟨a, b⟩ := odd_unique _ _ _ _ (by omega) (by decide) hv
      exact ⟨a, by unfold tt at b; omega⟩
    have PE : Calls Tryd.prog 16 #[.float .f64 (ofW n)] w (fun r w' => r = .returned (.tuple #[.int .i64 (if sgF x then -(o : Int) else o), .int .i64 (plF x + t), .int .i64 0]) ∧ w' = w) := by
      refine PN.mono ?_
      rintro r w1 ⟨⟨p, u, hp, _, hM2, _, rfl⟩, rfl⟩
      obtain ⟨rfl, rfl⟩ := odd_unique _ _ _ _ (show (o : Int) % 2 = 1 by omega) hp (by rw [hM, hM2])
      exact ⟨rfl, rfl⟩
    refine ⟨_, _, _, _, he63, by omega, ?_, ?_, ?_, ?_, ?_, PE, TI⟩
    · intro hn
      obtain ⟨a, b⟩ := hbig hn
      refine ⟨by rw [if_neg (by omega)], ?_, b⟩
      rw [xs, decide_eq_false (by omega), if_neg (by decide)]; exact a
    · intro h
      rw [if_pos h]
      refine ⟨rfl, fun hn => ?_, fun hn => ?_⟩
      · rw [if_pos hn]
        have : T ≠ 0 := fun h => hz (T6.mpr h)
        omega
      · rw [if_neg (by omega), if_pos h]; omega
    · split
      · omega
      · split <;> omega
    · split
      · omega
      · split
        · have := T4 (by omega); omega
        · omega
    · intro h
      by_cases hn : n < 0
      · rw [if_pos hn]; omega
      · rw [if_neg hn, if_pos h]; omega

set_option maxHeartbeats 2000000 in
theorem near_walk (n k : Int) (w : World) (hn0 : -9223372036854775808 ≤ n) (hn1 : n ≤ 9223372036854775807) (hk0 : -9223372036854775808 ≤ k) (hk1 : k ≤ 9223372036854775807) (h : DT w) :
    Calls Tryd.prog 5 #[.int .i64 n, .int .i64 k] w fun e w' => e = .returned (.bool true) ∧ Below w.heap.size w w' := by
  have HD : Hid (DT w) := h
  obtain ⟨m, e, B, E, he1, he2, hA, hB, hB0, hB1, hF, PA, TI⟩ := near_facts n w hn0 hn1 h
  have o1 : n ≤ k → (FloatKind.f64.format.order (ofW k) (ofW n) == some .lt) = false := fun h => ofW_order n k hn0 hn1 hk0 hk1 h
  have o2 : k ≤ n → (FloatKind.f64.format.order (ofW n) (ofW k) == some .lt) = false := fun h => ofW_order k n hk0 hk1 hn0 hn1 h
  have AW := awake_any w h
  clear h
  have OF := fun (n : Int) (w : World) => ofint_any n w
  have On := OF n
  have Ok := OF k
  clear OF
  generalize ofW n = X at *
  generalize ofW k = Y at *
  have F : ∃ F : Int, (n.natAbs : Int) / 9007199254740992 = F := ⟨_, rfl⟩
  obtain ⟨F, hFF⟩ := F
  rw [hFF] at hF
  have HFF : Hid ((n.natAbs : Int) / 9007199254740992 = F) := hFF
  clear hFF
  have tri : (n ≤ k ∧ ¬ k ≤ n) ∨ (n ≤ k ∧ k ≤ n) ∨ (¬ n ≤ k ∧ k ≤ n) := by omega
  rcases tri with ⟨c1, c2⟩ | ⟨c1, c2⟩ | ⟨c1, c2⟩
  rotate_left 2
  · have q2 := o2 c2
    clear o1 o2
    by_cases hb : 9223372036854775295 < n
    · obtain ⟨rfl, rfl, rfl⟩ := hA hb
      clear hA hB hF he1 he2
      go_enter Tryd.func5, Tryd.ntmps5
      go_wp2_with fail
      refine AW.mono ?_
      rintro r w1 ⟨rfl, rfl⟩
      go_wp2_with fail
      refine (On _).mono ?_
      rintro r w1 ⟨rfl, rfl⟩
      go_wp2_with fail
      refine (Ok _).mono ?_
      rintro r w1 ⟨rfl, rfl⟩
      go_wp2_with fail
      refine PA.mono ?_
      rintro r w1 ⟨rfl, rfl⟩
      go_wp2_with fail
      refine TI.mono ?_
      rintro r w1 ⟨rfl, rfl⟩
      clear AW On Ok PA TI
      go_wp2
      go_ret
      exact ⟨rfl, Below.refl _ _⟩
    · obtain ⟨rfl, hs1, hs2⟩ := hB (by omega)
      obtain ⟨f1, f2⟩ := hF (by omega)
      clear hA hB hF
      have hbb : n ≤ 9223372036854775295 := by omega
      have hs3 : (n < 0 ∧ B < 0) ∨ (¬ n < 0 ∧ 0 ≤ B) := by omega
      clear hs1 hs2
      rcases hs3 with ⟨hn, hs⟩ | ⟨hn, hs⟩
      all_goals
        go_enter Tryd.func5, Tryd.ntmps5
        go_wp2_with fail
        refine AW.mono ?_
        rintro r w1 ⟨rfl, rfl⟩
        go_wp2_with fail
        refine (On _).mono ?_
        rintro r w1 ⟨rfl, rfl⟩
        go_wp2_with fail
        refine (Ok _).mono ?_
        rintro r w1 ⟨rfl, rfl⟩
        go_wp2_with fail
        refine PA.mono ?_
        rintro r w1 ⟨rfl, rfl⟩
        go_wp2_with fail
        refine TI.mono ?_
        rintro r w1 ⟨rfl, rfl⟩
        clear AW On Ok PA TI
        go_wp2
      all_goals
        go_ret
        refine ⟨congrArg (fun b => Ending.returned (Value.bool b)) (decide_eq_true ?_), Below.refl _ _⟩
        have hff := HFF.out
        try simp only [IntKind.wrap_u64]
        omega
  · have q1 := o1 c1
    clear o1 o2
    by_cases hb : 9223372036854775295 < n
    · obtain ⟨rfl, rfl, rfl⟩ := hA hb
      clear hA hB hF he1 he2
      go_enter Tryd.func5, Tryd.ntmps5
      go_wp2_with fail
      refine AW.mono ?_
      rintro r w1 ⟨rfl, rfl⟩
      go_wp2_with fail
      refine (On _).mono ?_
      rintro r w1 ⟨rfl, rfl⟩
      go_wp2_with fail
      refine (Ok _).mono ?_
      rintro r w1 ⟨rfl, rfl⟩
      go_wp2_with fail
      refine PA.mono ?_
      rintro r w1 ⟨rfl, rfl⟩
      go_wp2_with fail
      refine TI.mono ?_
      rintro r w1 ⟨rfl, rfl⟩
      clear AW On Ok PA TI
      go_wp2
      go_ret
      exact ⟨rfl, Below.refl _ _⟩
    · obtain ⟨rfl, hs1, hs2⟩ := hB (by omega)
      obtain ⟨f1, f2⟩ := hF (by omega)
      clear hA hB hF
      have hbb : n ≤ 9223372036854775295 := by omega
      have hs3 : (n < 0 ∧ B < 0) ∨ (¬ n < 0 ∧ 0 ≤ B) := by omega
      clear hs1 hs2
      rcases hs3 with ⟨hn, hs⟩ | ⟨hn, hs⟩
      all_goals
        go_enter Tryd.func5, Tryd.ntmps5
        go_wp2_with fail
        refine AW.mono ?_
        rintro r w1 ⟨rfl, rfl⟩
        go_wp2_with fail
        refine (On _).mono ?_
        rintro r w1 ⟨rfl, rfl⟩
        go_wp2_with fail
        refine (Ok _).mono ?_
        rintro r w1 ⟨rfl, rfl⟩
        go_wp2_with fail
        refine PA.mono ?_
        rintro r w1 ⟨rfl, rfl⟩
        go_wp2_with fail
        refine TI.mono ?_
        rintro r w1 ⟨rfl, rfl⟩
        clear AW On Ok PA TI
        go_wp2
      all_goals
        go_ret
        refine ⟨congrArg (fun b => Ending.returned (Value.bool b)) (decide_eq_true ?_), Below.refl _ _⟩
        have hff := HFF.out
        try simp only [IntKind.wrap_u64]
        omega
  · have q1 := o1 c1
    have q2 := o2 c2
    clear o1 o2
    by_cases hb : 9223372036854775295 < n
    · obtain ⟨rfl, rfl, rfl⟩ := hA hb
      clear hA hB hF he1 he2
      go_enter Tryd.func5, Tryd.ntmps5
      go_wp2_with fail
      refine AW.mono ?_
      rintro r w1 ⟨rfl, rfl⟩
      go_wp2_with fail
      refine (On _).mono ?_
      rintro r w1 ⟨rfl, rfl⟩
      go_wp2_with fail
      refine (Ok _).mono ?_
      rintro r w1 ⟨rfl, rfl⟩
      go_wp2_with fail
      refine PA.mono ?_
      rintro r w1 ⟨rfl, rfl⟩
      go_wp2_with fail
      refine TI.mono ?_
      rintro r w1 ⟨rfl, rfl⟩
      clear AW On Ok PA TI
      go_wp2
      go_ret
      exact ⟨rfl, Below.refl _ _⟩
    · obtain ⟨rfl, hs1, hs2⟩ := hB (by omega)
      obtain ⟨f1, f2⟩ := hF (by omega)
      clear hA hB hF
      have hbb : n ≤ 9223372036854775295 := by omega
      have hs3 : (n < 0 ∧ B < 0) ∨ (¬ n < 0 ∧ 0 ≤ B) := by omega
      clear hs1 hs2
      rcases hs3 with ⟨hn, hs⟩ | ⟨hn, hs⟩
      all_goals
        go_enter Tryd.func5, Tryd.ntmps5
        go_wp2_with fail
        refine AW.mono ?_
        rintro r w1 ⟨rfl, rfl⟩
        go_wp2_with fail
        refine (On _).mono ?_
        rintro r w1 ⟨rfl, rfl⟩
        go_wp2_with fail
        refine (Ok _).mono ?_
        rintro r w1 ⟨rfl, rfl⟩
        go_wp2_with fail
        refine PA.mono ?_
        rintro r w1 ⟨rfl, rfl⟩
        go_wp2_with fail
        refine TI.mono ?_
        rintro r w1 ⟨rfl, rfl⟩
        clear AW On Ok PA TI
        go_wp2
      all_goals
        go_ret
        refine ⟨congrArg (fun b => Ending.returned (Value.bool b)) (decide_eq_true ?_), Below.refl _ _⟩
        have hff := HFF.out
        try simp only [IntKind.wrap_u64]
        omega

end Go.Proofs.YtjlbbnjcdickgacDoor
