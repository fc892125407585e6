/- math.Ldexp within the range, walked. -/
import Derived.Test.YtjlbbnjcdickgabDoorMKa
set_option maxRecDepth 4000
namespace Go.Proofs.YtjlbbnjcdickgabDoor
open Go.RowKit

theorem c_one : Ieee.double.read (4607182418800017408 : Int).toNat = .number false 4503599627370496 (-52 - ((0 : Nat) : Int)) := by decide +kernel
theorem c_low : Ieee.double.read (4368491638549381120 : Int).toNat = .number false 4503599627370496 (-52 - ((53 : Nat) : Int)) := by decide +kernel

/-- A word put together of a fraction and an exponent field. -/
theorem word_fields (f E : Int) (f0 : 0 ≤ f) (f1 : f < 4503599627370496) (E0 : 0 < E) (E1 : E < 2047) : 0 ≤ E * 4503599627370496 + f ∧ E * 4503599627370496 + f ≤ 18446744073709551615 ∧ exF (E * 4503599627370496 + f) = E ∧ sgF (E * 4503599627370496 + f) = false ∧ mgF (E * 4503599627370496 + f) = f + 4503599627370496 ∧ plF (E * 4503599627370496 + f) = E - 1075 := by
  have he : exF (E * 4503599627370496 + f) = E := by unfold exF; omega
  refine ⟨by omega, by omega, he, ?_, ?_, ?_⟩
  · unfold sgF; rw [beq_eq_false_iff_ne]; omega
  · unfold mgF; rw [he, if_neg (by omega)]; unfold frF; omega
  · unfold plF; rw [he, if_neg (by omega)]

set_option maxHeartbeats 2000000 in
theorem ldexp_fin (y e : Int) (w : World) (y0 : 0 ≤ y) (y1 : y ≤ 18446744073709551615) (ys : sgF y = false) (yz : exF y ≠ 0) (ye : exF y ≠ 2047) (e0 : -1075 ≤ e + plF y + 52) (e1 : e + plF y + 52 ≤ 1023) :
    Calls Tryd.prog 32 #[.float .f64 y.toNat, .int .i64 e] w fun r w' => r = .returned (.float .f64 (Ieee.double.nearest false (mgF y).toNat (plF y + e))) ∧ w' = w := by
  have be := exF_bd y
  have bf := frF_bd y
  have hpl : plF y = exF y - 1075 := by unfold plF; rw [if_neg yz]
  have hmg : mgF y = frF y + 4503599627370496 := by unfold mgF; rw [if_neg yz]
  have hm : mgF y ≠ 0 := by omega
  have z := zero_num y y0 y1 ye
  rw [decide_eq_false hm] at z
  have hn : Hid (nn y.toNat = false) := nn_num y y0 y1 ye
  have I := fun w => isinf_num y 0 w y0 y1 ye (by simp)
  have N := fun w => norm_num y w y0 y1 ye hm
  obtain ⟨n1, n2⟩ := ny_normal y yz
  rw [n1, n2] at N
  have b1 := bits_int y y0
  have hlow : y < 9223372036854775808 := by
    unfold sgF at ys; rw [beq_eq_false_iff_ne] at ys; omega
  have hex : exF y = y / 4503599627370496 := by unfold exF; omega
  have m1 : bits .and .i64 (y / 4503599627370496) 2047 = exF y := by
    have := and_i64 (y / 4503599627370496).toNat (by omega)
    rw [Int.toNat_of_nonneg (by omega)] at this
    rw [this, hex]
  have m2 : bits .andNot .u64 y 9218868437227405312 = frF y := by
    have := mask_exp y.toNat (by omega)
    rw [Int.toNat_of_nonneg y0] at this
    rw [this]; unfold frF; omega
  have OR : ∀ E : Int, 0 ≤ E → E < 2048 → bits .or .u64 (frF y) (E * 4503599627370496) = E * 4503599627370496 + frF y := by
    intro E h1 h2
    have := or_field (frF y).toNat E.toNat (by omega) (by omega)
    rw [show (((frF y).toNat : Nat) : Int) = frF y by omega, show ((E.toNat * 4503599627370496 : Nat) : Int) = E * 4503599627370496 by omega] at this
    rw [this]; omega
  rw [hpl] at e0 e1 ⊢
  rw [hmg]
  clear hm n1 n2 hpl hmg ys yz hlow hex
  by_cases hd : e + (exF y - 1075) + 52 < -1022
  · have m3 := OR (e + (exF y - 1023) + 53 + 1023) (by omega) (by omega)
    obtain ⟨w0, w1', we, ws, wm, wp⟩ := word_fields (frF y) (e + (exF y - 1023) + 53 + 1023) bf.1 bf.2 (by omega) (by omega)
    have f1 := from_run ((e + (exF y - 1023) + 53 + 1023) * 4503599627370496 + frF y)
    have hmul := mul_pow _ 4368491638549381120 53 w0 w1' (by rw [we]; omega) ws c_low
    rw [wm, wp] at hmul
    have hml : ∀ w : World, (binOp .mul 27 (.float .f64 4368491638549381120) (.float .f64 ((e + (exF y - 1023) + 53 + 1023) * 4503599627370496 + frF y).toNat)).run Tryd.prog w = .ok (.float .f64 (Ieee.double.nearest false (frF y + 4503599627370496).toNat (exF y - 1075 + e))) w := fun w => by
      rw [show exF y - 1075 + e = e + (exF y - 1023) + 53 + 1023 - 1075 - ((53 : Nat) : Int) by omega]
      exact run_float_arith w .mul 27 .f64 _ _ _ hmul
    clear hmul w0 w1' we ws wm wp OR
    generalize Ieee.double.nearest false (frF y + 4503599627370496).toNat (exF y - 1075 + e) = RES at *
    generalize ((e + (exF y - 1023) + 53 + 1023) * 4503599627370496 + frF y).toNat = ZX at *
    generalize (e + (exF y - 1023) + 53 + 1023) * 4503599627370496 + frF y = Z at *
    generalize frF y = f at *
    generalize exF y = ex at *
    generalize y.toNat = X at *
    go_enter Tryd.func32, Tryd.ntmps32
    go_wp2_with fail
    refine (I _).mono ?_
    rintro r w1 ⟨rfl, rfl⟩
    go_wp2_with fail
    refine (isnan_any _ _).mono ?_
    rintro r w1 ⟨rfl, rfl⟩
    rw [hn.out]
    go_wp2_with fail
    refine (N _).mono ?_
    rintro r w1 ⟨rfl, rfl⟩
    clear I N
    go_wp2
    go_ret
    exact ⟨rfl, rfl⟩
  · have m3 := OR (e + (exF y - 1023) + 1023) (by omega) (by omega)
    obtain ⟨w0, w1', we, ws, wm, wp⟩ := word_fields (frF y) (e + (exF y - 1023) + 1023) bf.1 bf.2 (by omega) (by omega)
    have f1 := from_run ((e + (exF y - 1023) + 1023) * 4503599627370496 + frF y)
    have hmul := mul_pow _ 4607182418800017408 0 w0 w1' (by rw [we]; omega) ws c_one
    rw [wm, wp] at hmul
    have hml : ∀ w : World, (binOp .mul 27 (.float .f64 4607182418800017408) (.float .f64 ((e + (exF y - 1023) + 1023) * 4503599627370496 + frF y).toNat)).run Tryd.prog w = .ok (.float .f64 (Ieee.double.nearest false (frF y + 4503599627370496).toNat (exF y - 1075 + e))) w := fun w => by
      rw [show exF y - 1075 + e = e + (exF y - 1023) + 1023 - 1075 - ((0 : Nat) : Int) by omega]
      exact run_float_arith w .mul 27 .f64 _ _ _ hmul
    clear hmul w0 w1' we ws wm wp OR
    generalize Ieee.double.nearest false (frF y + 4503599627370496).toNat (exF y - 1075 + e) = RES at *
    generalize ((e + (exF y - 1023) + 1023) * 4503599627370496 + frF y).toNat = ZX at *
    generalize (e + (exF y - 1023) + 1023) * 4503599627370496 + frF y = Z at *
    generalize frF y = f at *
    generalize exF y = ex at *
    generalize y.toNat = X at *
    go_enter Tryd.func32, Tryd.ntmps32
    go_wp2_with fail
    refine (I _).mono ?_
    rintro r w1 ⟨rfl, rfl⟩
    go_wp2_with fail
    refine (isnan_any _ _).mono ?_
    rintro r w1 ⟨rfl, rfl⟩
    rw [hn.out]
    go_wp2_with fail
    refine (N _).mono ?_
    rintro r w1 ⟨rfl, rfl⟩
    clear I N
    go_wp2
    go_ret
    exact ⟨rfl, rfl⟩

set_option maxHeartbeats 400000 in
theorem Ldexp_fin (y e : Int) (w : World) (y0 : 0 ≤ y) (y1 : y ≤ 18446744073709551615) (ys : sgF y = false) (yz : exF y ≠ 0) (ye : exF y ≠ 2047) (e0 : -1075 ≤ e + plF y + 52) (e1 : e + plF y + 52 ≤ 1023) :
    Calls Tryd.prog 25 #[.float .f64 y.toNat, .int .i64 e] w fun r w' => r = .returned (.float .f64 (Ieee.double.nearest false (mgF y).toNat (plF y + e))) ∧ w' = w := by
  have L := fun w => ldexp_fin y e w y0 y1 ys yz ye e0 e1
  generalize Ieee.double.nearest false (mgF y).toNat (plF y + e) = R at *
  generalize y.toNat = X at *
  clear e0 e1
  go_enter Tryd.func25, Tryd.ntmps25
  go_wp2_with fail
  refine (L _).mono ?_
  rintro r w1 ⟨rfl, rfl⟩
  clear L
  go_wp2
  go_ret
  exact ⟨rfl, rfl⟩

end Go.Proofs.YtjlbbnjcdickgabDoor
