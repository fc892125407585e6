/- gauge.Make at every m and e, walked. -/
import Derived.Test.YtjlbbnjcdickgabDoorMMa
import Derived.Test.YtjlbbnjcdickgabDoorMMb
import Derived.Test.YtjlbbnjcdickgabDoorBKa
import Derived.Test.YtjlbbnjcdickgabDoorGS
set_option maxRecDepth 4000
namespace Go.Proofs.YtjlbbnjcdickgabDoor
open Go.RowKit

set_option maxHeartbeats 400000 in
theorem inf_one (w : World) :
    Calls Tryd.prog 35 #[.int .i64 1] w fun r w' => r = .returned (.float .f64 9218868437227405312) ∧ w' = w := by
  have f1 : ∀ w, (callFunc 8 #[.int .u64 9218868437227405312]).run Tryd.prog w = .ok (.value (.float .f64 9218868437227405312)) w := from_run 9218868437227405312
  go_enter Tryd.func35, Tryd.ntmps35
  go_wp2
  go_ret
  exact ⟨rfl, rfl⟩

set_option maxHeartbeats 1000000 in
theorem ldexp_inf (y e : Int) (w : World) (y0 : 0 ≤ y) (y1 : y ≤ 18446744073709551615) (ys : sgF y = false) (yz : exF y ≠ 0) (ye : exF y ≠ 2047) (e1 : 1023 < e + plF y + 52) (e2 : e ≤ 1024) :
    Calls Tryd.prog 32 #[.float .f64 y.toNat, .int .i64 e] w fun r w' => r = .returned (.float .f64 (Ieee.double.nearest false (mgF y).toNat (plF y + e))) ∧ w' = w := by
  have be := exF_bd y
  have bf := frF_bd y
  have hpl : plF y = exF y - 1075 := by unfold plF; rw [if_neg yz]
  have hmg : mgF y = frF y + 4503599627370496 := by unfold mgF; rw [if_neg yz]
  have hm : mgF y ≠ 0 := by omega
  have hinf : Hid (Ieee.double.nearest false (mgF y).toNat (plF y + e) = 9218868437227405312) := by
    unfold Hid
    have hb53 : bl (mgF y).toNat = 53 := by
      have l1 := bl_le (mgF y).toNat 53 (by omega)
      have l2 := bl_lt (mgF y).toNat
      apply Nat.le_antisymm l1
      apply Nat.le_of_not_lt
      intro h
      have := Nat.pow_le_pow_right (show 0 < 2 by decide) (show bl (mgF y).toNat ≤ 52 by omega)
      omega
    have hc0 : cutOf (mgF y).toNat (plF y + e) = 0 := by unfold cutOf; rw [hb53]; omega
    rw [nearest_exact false _ _ (by omega) (by omega), hc0, asm_high false _ _ (by simp; omega) (by omega)]
    rfl
  have z := zero_num y y0 y1 ye
  rw [decide_eq_false hm] at z
  have hn : Hid (nn y.toNat = false) := nn_num y y0 y1 ye
  have I := fun w => isinf_num y 0 w y0 y1 ye (by simp)
  have N := fun w => norm_num y w y0 y1 ye hm
  obtain ⟨n1, n2⟩ := ny_normal y yz
  rw [n1, n2] at N
  have b1 := bits_int y y0
  have hlow : y < 9223372036854775808 := by
    unfold sgF at ys; rw [beq_eq_false_iff_ne] at ys; omega
  have hex : exF y = y / 4503599627370496 := by unfold exF; omega
  have m1 : bits .and .i64 (y / 4503599627370496) 2047 = exF y := by
    have := and_i64 (y / 4503599627370496).toNat (by omega)
    rw [Int.toNat_of_nonneg (by omega)] at this
    rw [this, hex]
  have lt : (FloatKind.f64.format.order y.toNat 0 == some .lt) = false := by
    rw [show FloatKind.f64.format = Ieee.double from rfl, order_lt _ _ (by rw [dI]; omega) (Nat.zero_le _)]; simp
  rw [hpl] at e1
  clear hm n1 n2 hmg ys yz hlow hex bf
  generalize Ieee.double.nearest false (mgF y).toNat (plF y + e) = RES at *
  generalize exF y = ex at *
  generalize y.toNat = X at *
  have c1 : ¬ e + (ex - 1023) < -1075 := by omega
  have c2 : 1023 < e + (ex - 1023) := by omega
  go_enter Tryd.func32, Tryd.ntmps32
  go_wp2_with fail
  refine (I _).mono ?_
  rintro r w1 ⟨rfl, rfl⟩
  go_wp2_with fail
  refine (isnan_any _ _).mono ?_
  rintro r w1 ⟨rfl, rfl⟩
  rw [hn.out]
  go_wp2_with fail
  refine (N _).mono ?_
  rintro r w1 ⟨rfl, rfl⟩
  clear I N
  go_wp2_with fail
  refine (inf_one _).mono ?_
  rintro r w1 ⟨rfl, rfl⟩
  go_wp2
  go_ret
  exact ⟨by rw [hinf.out]; rfl, rfl⟩

end Go.Proofs.YtjlbbnjcdickgabDoor
