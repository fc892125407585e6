/- What GaugeBack meets besides: a number less itself, the lowest digit, Make of nought. -/
import Derived.Test.YtjlbbnjcdickgabDoorMKc
namespace Go.Proofs.YtjlbbnjcdickgabDoor
open Go.RowKit

theorem nan_word (a b : Nat) (ha : a < 2) (hb : b < 4503599627370495) : nn (a * 9223372036854775808 + 9218868437227405312 + 1 + b) = true := by
  have h := read_nan ((a * 9223372036854775808 + 9218868437227405312 + 1 + b : Nat) : Int) (by omega) (by omega) (by
    unfold exF
    rcases (show a = 0 ∨ a = 1 by omega) with rfl | rfl <;> omega) (by unfold frF; omega)
  rw [Int.toNat_natCast] at h
  exact h

theorem nan_cut (t : Nat) : nn (t % 2 * 2 ^ 63 + 9218868437227405312 + 1 + t / 2 % (2 ^ 52 - 1)) = true :=
  nan_word (t % 2) (t / 2 % (2 ^ 52 - 1)) (by omega) (by omega)

theorem sub_none (X : Nat) (h : Ieee.double.sub X X = none) (w : World) : ∃ nb : Nat, nn nb = true ∧ (binOp .sub 27 (.float .f64 X) (.float .f64 X)).run Tryd.prog w = .ok (.float .f64 nb) w.drew := by
  have h2 : FloatKind.f64.format.sub X X = none := h
  refine ⟨(Question.nanBits .f64 X X).cut (w.tape w.drawn (.nanBits .f64 X X)), nan_cut _, ?_⟩
  simp [binOp, Op.floatArith, h2, Question.forced]

theorem sub_self (x : Int) (h0 : 0 ≤ x) (h1 : x ≤ 18446744073709551615) (he : exF x ≠ 2047) : floatBits .sub .f64 x.toNat x.toNat = some 0 := by
  have hr := read_num x h0 h1 he
  show Ieee.double.sub x.toNat x.toNat = _
  unfold Ieee.Format.sub
  rw [hr]
  have e1 : ∀ (s : Bool) (m : Nat) (i : Int), (Ieee.Datum.number s m i).sum (Ieee.Datum.number s m i).opposite = some (.number false 0 i) := by
    intro s m i
    show some (Ieee.Datum.number _ _ _) = _
    have hs : ∀ u, Ieee.signed s m u + Ieee.signed (!s) m u = 0 := by
      intro u; unfold Ieee.signed; cases s <;> simp <;> omega
    have hm : min i i = i := by omega
    rw [hm, hs]
    cases s <;> simp
  rw [e1]
  show some (Ieee.double.nearest false 0 (plF x)) = some 0
  unfold Ieee.Format.nearest
  rw [if_pos rfl]; rfl

theorem and_one (m : Int) : bits .and .i64 m 1 = m % 2 := by
  have h1 : (BitVec.ofInt 64 m).toNat = (m % 18446744073709551616).toNat := by
    rw [BitVec.toNat_ofInt]; rfl
  have h2 : (BitVec.ofInt 64 (1 : Int)).toNat = 1 := by decide
  show IntKind.i64.wrap ((BitVec.ofInt 64 m &&& BitVec.ofInt 64 (1 : Int)).toNat : Int) = _
  rw [BitVec.toNat_and, h1, h2, Nat.and_one_is_mod, IntKind.wrap_i64]
  omega

set_option maxHeartbeats 400000 in
theorem ldexp_zero (w : World) :
    Calls Tryd.prog 32 #[.float .f64 0, .int .i64 0] w fun r w' => r = .returned (.float .f64 0) ∧ w' = w := by
  have z : (FloatKind.f64.format.order 0 0 == some .eq) = true := by decide +kernel
  go_enter Tryd.func32, Tryd.ntmps32
  go_wp2
  go_ret
  exact ⟨rfl, rfl⟩

set_option maxHeartbeats 400000 in
theorem Ldexp_zero (w : World) :
    Calls Tryd.prog 25 #[.float .f64 0, .int .i64 0] w fun r w' => r = .returned (.float .f64 0) ∧ w' = w := by
  go_enter Tryd.func25, Tryd.ntmps25
  go_wp2_with fail
  refine (ldexp_zero _).mono ?_
  rintro r w1 ⟨rfl, rfl⟩
  go_wp2
  go_ret
  exact ⟨rfl, rfl⟩

set_option maxHeartbeats 400000 in
theorem make_zero (w : World) :
    Calls Tryd.prog 11 #[.int .i64 0, .int .i64 0] w fun r w' => r = .returned (.float .f64 0) ∧ w' = w := by
  have F : floatOfInt .f64 0 = 0 := by decide +kernel
  have CS : ∀ w, Calls Tryd.prog 24 #[.float .f64 0, .float .f64 0] w fun r w' => r = .returned (.float .f64 0) ∧ w' = w := fun w => copysign_any 0 0 w (by decide) (by decide) (by decide) (by decide)
  go_enter Tryd.func11, Tryd.ntmps11
  go_wp2_with fail
  refine (Ldexp_zero _).mono ?_
  rintro r w1 ⟨rfl, rfl⟩
  go_wp2_with fail
  refine (CS _).mono ?_
  rintro r w1 ⟨rfl, rfl⟩
  clear CS
  go_wp2
  go_ret
  exact ⟨rfl, rfl⟩

end Go.Proofs.YtjlbbnjcdickgabDoor
