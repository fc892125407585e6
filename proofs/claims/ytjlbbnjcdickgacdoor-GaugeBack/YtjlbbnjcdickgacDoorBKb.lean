/- The law GaugeBack, walked. -/
import Derived.Test.YtjlbbnjcdickgacDoorBKa
namespace Go.Proofs.YtjlbbnjcdickgacDoor
open Go.RowKit

set_option maxHeartbeats 1000000 in
theorem back_walk (x : Int) (w : World) (h0 : 0 ≤ x) (h1 : x ≤ 18446744073709551615) (h : DT w) :
    Calls Tryd.prog 4 #[.int .u64 x] w fun e w' => e = .returned (.bool true) ∧ Below w.heap.size w w' := by
  have AW := awake_any w h
  have f1 := from_run x
  by_cases he : exF x = 2047
  · have P1 := parts_odd x w h0 h1 he
    by_cases hf : frF x = 0
    · have hx : x = 9218868437227405312 ∨ x = 18442240474082181120 := by unfold exF at he; unfold frF at hf; omega
      have d1 : Ieee.double.sub 9218868437227405312 9218868437227405312 = none := by decide +kernel
      have d2 : Ieee.double.sub 18442240474082181120 18442240474082181120 = none := by decide +kernel
      rw [if_pos hf] at P1
      rcases hx with rfl | rfl
      · obtain ⟨nb, hnb, hs⟩ := sub_none 9218868437227405312 d1 w
        have n0 : (FloatKind.f64.format.order nb 0 != some .eq) = true := by
          rw [show FloatKind.f64.format = Ieee.double from rfl, forder_none Ieee.double nb 0 (by show (nn nb || _) = true; rw [hnb]; rfl)]; rfl
        have g1 : (FloatKind.f64.format.order 9218868437227405312 9218868437227405312 != some .eq) = false := by decide +kernel
        have g2 : (FloatKind.f64.format.order 9218868437227405312 0 == some .gt) = true := by decide +kernel
        rw [show sgF 9218868437227405312 = false from rfl, show (9218868437227405312 : Int).toNat = 9218868437227405312 from rfl] at P1
        simp only [Bool.false_eq_true, if_false] at P1
        rw [show (9218868437227405312 : Int).toNat = 9218868437227405312 from rfl] at f1
        clear he hf h0 h1 d1 d2 h hnb
        go_enter Tryd.func4, Tryd.ntmps4
        go_wp2_with fail
        refine AW.mono ?_
        rintro r w1 ⟨rfl, rfl⟩
        go_wp2_with fail
        refine P1.mono ?_
        rintro r w1 ⟨rfl, rfl⟩
        clear AW P1
        go_wp2
        go_ret
        exact ⟨rfl, (Below.refl _ _).drew⟩
      · obtain ⟨nb, hnb, hs⟩ := sub_none 18442240474082181120 d2 w
        have n0 : (FloatKind.f64.format.order nb 0 != some .eq) = true := by
          rw [show FloatKind.f64.format = Ieee.double from rfl, forder_none Ieee.double nb 0 (by show (nn nb || _) = true; rw [hnb]; rfl)]; rfl
        have g1 : (FloatKind.f64.format.order 18442240474082181120 18442240474082181120 != some .eq) = false := by decide +kernel
        have g2 : (FloatKind.f64.format.order 18442240474082181120 0 == some .gt) = false := by decide +kernel
        rw [show sgF 18442240474082181120 = true from rfl, show (18442240474082181120 : Int).toNat = 18442240474082181120 from rfl] at P1
        simp only [if_true] at P1
        rw [show (18442240474082181120 : Int).toNat = 18442240474082181120 from rfl] at f1
        clear he hf h0 h1 d1 d2 h hnb
        go_enter Tryd.func4, Tryd.ntmps4
        go_wp2_with fail
        refine AW.mono ?_
        rintro r w1 ⟨rfl, rfl⟩
        go_wp2_with fail
        refine P1.mono ?_
        rintro r w1 ⟨rfl, rfl⟩
        clear AW P1
        go_wp2
        go_ret
        exact ⟨rfl, (Below.refl _ _).drew⟩
    · rw [if_neg hf] at P1
      have hnn := read_nan x h0 h1 he hf
      have g1 := self_ne x.toNat
      rw [show nn x.toNat = true from hnn] at g1
      have g2 : (FloatKind.f64.format.order x.toNat 0 == some .gt) = false := by
        rw [show FloatKind.f64.format = Ieee.double from rfl, forder_none Ieee.double x.toNat 0 (by rw [hnn]; rfl)]; rfl
      clear he hf h hnn
      generalize x.toNat = X at *
      go_enter Tryd.func4, Tryd.ntmps4
      go_wp2_with fail
      refine AW.mono ?_
      rintro r w1 ⟨rfl, rfl⟩
      go_wp2_with fail
      refine P1.mono ?_
      rintro r w1 ⟨rfl, rfl⟩
      clear AW P1
      go_wp2
      go_ret
      exact ⟨rfl, Below.refl _ _⟩
  · have hnn := nn_num x h0 h1 he
    have g1 := self_ne x.toNat
    have g3 := self_eq x.toNat
    rw [hnn] at g1 g3
    have hsub : ∀ w : World, (binOp .sub 24 (.float .f64 x.toNat) (.float .f64 x.toNat)).run Tryd.prog w = .ok (.float .f64 0) w := fun w => run_float_arith w .sub 24 .f64 _ _ _ (sub_self x h0 h1 he)
    have n0 : (FloatKind.f64.format.order 0 0 != some .eq) = false := by decide +kernel
    have z := zero_num x h0 h1 he
    by_cases hm : mgF x = 0
    · have P1 := parts_zero x w h0 h1 he hm
      rw [decide_eq_true hm] at z
      have z2 : (FloatKind.f64.format.order 0 x.toNat == some .eq) = true := by
        rw [show FloatKind.f64.format = Ieee.double from rfl, feq_iff] at z ⊢
        exact ⟨z.2.1, z.1, z.2.2.1.symm, z.2.2.2.symm⟩
      have a1 : bits .and .i64 0 1 = 0 := and_one 0
      clear he hm h hnn
      simp only [Bool.not_false] at g3
      generalize x.toNat = X at *
      go_enter Tryd.func4, Tryd.ntmps4
      go_wp2_with fail
      refine AW.mono ?_
      rintro r w1 ⟨rfl, rfl⟩
      go_wp2_with fail
      refine P1.mono ?_
      rintro r w1 ⟨rfl, rfl⟩
      clear AW P1
      go_wp2_with fail
      refine (make_zero _).mono ?_
      rintro r w1 ⟨rfl, rfl⟩
      go_wp2
      go_ret
      exact ⟨rfl, Below.refl _ _⟩
    · have P1 := parts_num x w h0 h1 he hm h
      have MK : ∀ (o : Int) (t : Nat) (w : World), 0 < o → o * 2 ^ t = mgF x → Calls Tryd.prog 17 #[.int .i64 (if sgF x = true then -o else o), .int .i64 (plF x + t)] w fun r w' => r = .returned (.float .f64 x.toNat) ∧ w' = w := by
        intro o t w ho hot
        have := make_parts x o.toNat t w h0 h1 he (by omega) (by rw [Int.toNat_of_nonneg (by omega)]; exact hot)
        rw [Int.toNat_of_nonneg (by omega)] at this
        exact this
      clear he hm h hnn z
      simp only [Bool.not_false] at g3
      generalize x.toNat = X at *
      generalize mgF x = M at *
      generalize plF x = Q at *
      generalize sgF x = s at *
      go_enter Tryd.func4, Tryd.ntmps4
      go_wp2_with fail
      refine AW.mono ?_
      rintro r w1 ⟨rfl, rfl⟩
      go_wp2_with fail
      refine P1.mono ?_
      rintro r w1 ⟨⟨o, t, ho, ho0, hM, _, rfl⟩, rfl⟩
      have MK2 := fun w => MK o t w ho0 hM
      have a1 : bits .and .i64 (if s = true then -o else o) 1 = 1 := by
        rw [and_one]; cases s <;> simp <;> omega
      clear AW P1 MK hM ho
      generalize (if s = true then -o else o) = m at *
      generalize Q + (t : Int) = E at *
      go_wp2_with fail
      refine (MK2 _).mono ?_
      rintro r w1 ⟨rfl, rfl⟩
      clear MK2
      go_wp2
      go_ret
      exact ⟨rfl, Below.refl _ _⟩

end Go.Proofs.YtjlbbnjcdickgacDoor
