/- math.Ldexp of an integer word. -/
import Derived.Test.YtjlbbnjcdickgabDoorMMc
set_option maxRecDepth 4000
namespace Go.Proofs.YtjlbbnjcdickgabDoor
open Go.RowKit

/-- math.Ldexp of an integer's word. -/
theorem Ldexp_int (N : Nat) (e : Int) (w : World) (hN : N < 2 ^ 64) (h0 : N ≠ 0) (he0 : -1075 ≤ e + plF (flR N : Nat) + 52) (he1 : e ≤ 1024) :
    Calls Tryd.prog 25 #[.float .f64 (flR N), .int .i64 e] w fun r w' => r = .returned (.float .f64 (Ieee.double.nearest false (mgF (flR N : Nat)).toNat (plF (flR N : Nat) + e))) ∧ w' = w := by
  obtain ⟨fe, fs, fv⟩ := flR_fields' N hN
  have hl := flR_lt N hN
  have h1 := V_flR_one_le N h0
  have hz : exF (flR N : Nat) ≠ 0 := by
    intro hz
    have bf := frF_bd (flR N : Nat)
    have hp : plF (flR N : Nat) = -1074 := by unfold plF; rw [if_pos hz]; rfl
    have hm : mgF (flR N : Nat) = frF (flR N : Nat) := by unfold mgF; rw [if_pos hz]
    rw [hp, hm, show ((-1074 : Int) + 1074).toNat = 0 by decide, Int.pow_zero, Int.mul_one] at fv
    have p2 := Nat.pow_le_pow_right (show 0 < 2 by decide) (show 52 ≤ tt by decide)
    omega
  by_cases hi : e + plF (flR N : Nat) + 52 ≤ 1023
  · have := Ldexp_fin (flR N : Nat) e w (by omega) (by omega) fs hz fe he0 hi
    rw [Int.toNat_natCast] at this
    exact this
  · have L := fun w => ldexp_inf (flR N : Nat) e w (by omega) (by omega) fs hz fe (by omega) he1
    rw [Int.toNat_natCast] at L
    generalize Ieee.double.nearest false (mgF (flR N : Nat)).toNat (plF (flR N : Nat) + e) = R at *
    generalize flR N = X at *
    clear he0 hi hz fe fs fv h1 hl
    go_enter Tryd.func25, Tryd.ntmps25
    go_wp2_with fail
    refine (L _).mono ?_
    rintro r w1 ⟨rfl, rfl⟩
    clear L
    go_wp2
    go_ret
    exact ⟨rfl, rfl⟩

end Go.Proofs.YtjlbbnjcdickgabDoor
