/- The law's awake, walked: three quarters. -/
import Derived.Test.YtjlbbnjcdickgacDoorGV
namespace Go.Proofs.YtjlbbnjcdickgacDoor
open Go.RowKit

/-- The table of math/bits. -/
def dt : List Int := [0, 1, 56, 2, 57, 49, 28, 3, 61, 58, 42, 50, 38, 29, 17, 4, 62, 47, 59, 36, 45, 43, 51, 22, 53, 39, 33, 30, 24, 18, 12, 5, 63, 55, 48, 27, 60, 41, 37, 16, 46, 35, 44, 21, 52, 32, 23, 11, 54, 26, 40, 15, 34, 20, 31, 10, 25, 14, 19, 9, 13, 8, 7, 6]
def DT (w : World) : Prop := ∀ i, i < 64 → w.cell? ⟨1, i, none⟩ = some (.int .u8 (dt.getD i 0))

set_option maxHeartbeats 400000 in
theorem tz_three (w : World) (h : DT w) :
    Calls Tryd.prog 23 #[.int .u64 6755399441055744] w fun e w' => e = .returned (.int .i64 51) ∧ w' = w := by
  have c : w.cell? ⟨1, 22, none⟩ = some (.int .u8 51) := h 22 (by decide)
  have hw : IntKind.u64.wrap (-6755399441055744) = 18439988674268495872 := by rw [IntKind.wrap_u64]; decide
  have hb : bits .and .u64 6755399441055744 18439988674268495872 = 2251799813685248 := by decide +kernel
  have hm : IntKind.u64.wrap (2251799813685248 * 285870213051353865) = 6361334473660825600 := by rw [IntKind.wrap_u64]; decide
  have hm' : IntKind.u64.wrap 643722492487200784356841378283520 = 6361334473660825600 := by rw [IntKind.wrap_u64]; decide
  clear h
  go_enter Tryd.func23, Tryd.ntmps23
  go_wp2
  go_ret
  exact ⟨rfl, rfl⟩

set_option maxHeartbeats 400000 in
theorem abs_34 (w : World) :
    Calls Tryd.prog 28 #[.float .f64 4604930618986332160] w fun e w' => e = .returned (.float .f64 4604930618986332160) ∧ w' = w := by
  have b1 := bits_run 4604930618986332160
  have f1 : ∀ w, (callFunc 8 #[.int .u64 4604930618986332160]).run Tryd.prog w = .ok (.value (.float .f64 4604930618986332160)) w := from_run 4604930618986332160
  have ha : bits .andNot .u64 4604930618986332160 9223372036854775808 = 4604930618986332160 := by decide +kernel
  go_enter Tryd.func28, Tryd.ntmps28
  go_wp2
  go_ret
  exact ⟨rfl, rfl⟩

set_option maxHeartbeats 400000 in
theorem isinf_34 (k : Int) (w : World) (hk : k = 1 ∨ k = 0 ∨ k = -1) :
    Calls Tryd.prog 21 #[.float .f64 4604930618986332160, .int .i64 k] w fun e w' => e = .returned (.bool false) ∧ w' = w := by
  have g1 : (FloatKind.f64.format.order 4604930618986332160 9218868437227405311 == some .gt) = false := by decide +kernel
  have ng : ∀ w : World, (Op.unary .neg (.float .f64 4604930618986332160)).run Tryd.prog w = .ok (.float .f64 13828302655841107968) w := fun w => rfl
  have g2 : (FloatKind.f64.format.order 13828302655841107968 9218868437227405311 == some .gt) = false := by decide +kernel
  rcases hk with rfl | rfl | rfl
  · go_enter Tryd.func21, Tryd.ntmps21
    go_wp2
    go_ret
    exact ⟨rfl, rfl⟩
  · go_enter Tryd.func21, Tryd.ntmps21
    go_wp2_with fail
    refine (abs_34 _).mono ?_
    rintro r w1 ⟨rfl, rfl⟩
    go_wp2
    go_ret
    exact ⟨rfl, rfl⟩
  · go_enter Tryd.func21, Tryd.ntmps21
    go_wp2
    go_ret
    exact ⟨rfl, rfl⟩

set_option maxHeartbeats 400000 in
theorem norm_34 (w : World) :
    Calls Tryd.prog 33 #[.float .f64 4604930618986332160] w fun e w' => e = .returned (.tuple #[.float .f64 4604930618986332160, .int .i64 0]) ∧ w' = w := by
  have g1 : (FloatKind.f64.format.order 4604930618986332160 4503599627370496 == some .lt) = false := by decide +kernel
  go_enter Tryd.func33, Tryd.ntmps33
  go_wp2_with fail
  refine (abs_34 _).mono ?_
  rintro r w1 ⟨rfl, rfl⟩
  go_wp2
  go_ret2
  exact ⟨rfl, rfl⟩

theorem nn_34 : nn 4604930618986332160 = false := by decide +kernel

set_option maxHeartbeats 400000 in
theorem frexp_34 (w : World) :
    Calls Tryd.prog 30 #[.float .f64 4604930618986332160] w fun e w' => e = .returned (.tuple #[.float .f64 4604930618986332160, .int .i64 0]) ∧ w' = w := by
  have z : (FloatKind.f64.format.order 4604930618986332160 0 == some .eq) = false := by decide +kernel
  have b1 := bits_run 4604930618986332160
  have f1 : ∀ w, (callFunc 8 #[.int .u64 4604930618986332160]).run Tryd.prog w = .ok (.value (.float .f64 4604930618986332160)) w := from_run 4604930618986332160
  have h1 : bits .and .u64 1022 2047 = 1022 := by decide +kernel
  have h2 : bits .andNot .u64 4604930618986332160 9218868437227405312 = 2251799813685248 := by decide +kernel
  have h3 : bits .or .u64 2251799813685248 4602678819172646912 = 4604930618986332160 := by decide +kernel
  go_enter Tryd.func30, Tryd.ntmps30
  go_wp2_with fail
  refine (isinf_34 0 _ (by simp)).mono ?_
  rintro r w1 ⟨rfl, rfl⟩
  go_wp2_with fail
  refine (isnan_any _ _).mono ?_
  rintro r w1 ⟨rfl, rfl⟩
  rw [nn_34]
  go_wp2_with fail
  refine (norm_34 _).mono ?_
  rintro r w1 ⟨rfl, rfl⟩
  go_wp2
  go_ret2
  exact ⟨rfl, rfl⟩

set_option maxHeartbeats 400000 in
theorem Frexp_34 (w : World) :
    Calls Tryd.prog 22 #[.float .f64 4604930618986332160] w fun e w' => e = .returned (.tuple #[.float .f64 4604930618986332160, .int .i64 0]) ∧ w' = w := by
  go_enter Tryd.func22, Tryd.ntmps22
  go_wp2_with fail
  refine (frexp_34 _).mono ?_
  rintro r w1 ⟨rfl, rfl⟩
  go_wp2
  go_ret2
  exact ⟨rfl, rfl⟩

theorem fv (x : Nat) (n : Int) (h : floatToIntVal .f64 x .i64 = some n) (w : World) : (convert 24 2 (.float .f64 x)).run Tryd.prog w = .ok (.int .i64 n) w :=
  run_convert_float_int w 24 2 .f64 .i64 x _ (by rw [Tryd.underlying24]; rfl) Tryd.underlying2 h

set_option maxHeartbeats 400000 in
theorem parts_34 (w : World) (h : DT w) :
    Calls Tryd.prog 16 #[.float .f64 4604930618986332160] w fun e w' => e = .returned (.tuple #[.int .i64 3, .int .i64 (-2), .int .i64 0]) ∧ w' = w := by
  have z : (FloatKind.f64.format.order 4604930618986332160 0 == some .eq) = false := by decide +kernel
  have hm : ∀ w : World, (binOp .mul 24 (.float .f64 4604930618986332160) (.float .f64 4845873199050653696)).run Tryd.prog w = .ok (.float .f64 4843621399236968448) w := fun w => run_float_arith w .mul 24 .f64 _ _ _ (by decide +kernel)
  have hc := fv 4843621399236968448 6755399441055744 (by decide +kernel)
  have HD : Hid (DT w) := h
  clear h
  go_enter Tryd.func16, Tryd.ntmps16
  go_wp2_with fail
  refine (isnan_any _ _).mono ?_
  rintro r w1 ⟨rfl, rfl⟩
  rw [nn_34]
  go_wp2_with fail
  refine (isinf_34 1 _ (by simp)).mono ?_
  rintro r w1 ⟨rfl, rfl⟩
  go_wp2_with fail
  refine (isinf_34 (-1) _ (by simp)).mono ?_
  rintro r w1 ⟨rfl, rfl⟩
  go_wp2_with fail
  refine (Frexp_34 _).mono ?_
  rintro r w1 ⟨rfl, rfl⟩
  go_wp2_with fail
  refine (tz_three _ HD.out).mono ?_
  rintro r w1 ⟨rfl, rfl⟩
  go_wp2
  go_ret3
  exact ⟨rfl, rfl⟩

set_option maxHeartbeats 400000 in
theorem abs_3 (w : World) :
    Calls Tryd.prog 28 #[.float .f64 4613937818241073152] w fun e w' => e = .returned (.float .f64 4613937818241073152) ∧ w' = w := by
  have b1 := bits_run 4613937818241073152
  have f1 : ∀ w, (callFunc 8 #[.int .u64 4613937818241073152]).run Tryd.prog w = .ok (.value (.float .f64 4613937818241073152)) w := from_run 4613937818241073152
  have ha : bits .andNot .u64 4613937818241073152 9223372036854775808 = 4613937818241073152 := by decide +kernel
  go_enter Tryd.func28, Tryd.ntmps28
  go_wp2
  go_ret
  exact ⟨rfl, rfl⟩

set_option maxHeartbeats 400000 in
theorem isinf_3 (w : World) :
    Calls Tryd.prog 21 #[.float .f64 4613937818241073152, .int .i64 0] w fun e w' => e = .returned (.bool false) ∧ w' = w := by
  have g1 : (FloatKind.f64.format.order 4613937818241073152 9218868437227405311 == some .gt) = false := by decide +kernel
  go_enter Tryd.func21, Tryd.ntmps21
  go_wp2_with fail
  refine (abs_3 _).mono ?_
  rintro r w1 ⟨rfl, rfl⟩
  go_wp2
  go_ret
  exact ⟨rfl, rfl⟩

set_option maxHeartbeats 400000 in
theorem norm_3 (w : World) :
    Calls Tryd.prog 33 #[.float .f64 4613937818241073152] w fun e w' => e = .returned (.tuple #[.float .f64 4613937818241073152, .int .i64 0]) ∧ w' = w := by
  have g1 : (FloatKind.f64.format.order 4613937818241073152 4503599627370496 == some .lt) = false := by decide +kernel
  go_enter Tryd.func33, Tryd.ntmps33
  go_wp2_with fail
  refine (abs_3 _).mono ?_
  rintro r w1 ⟨rfl, rfl⟩
  go_wp2
  go_ret2
  exact ⟨rfl, rfl⟩

theorem nn_3 : nn 4613937818241073152 = false := by decide +kernel

set_option maxHeartbeats 400000 in
theorem ldexp_3 (w : World) :
    Calls Tryd.prog 32 #[.float .f64 4613937818241073152, .int .i64 (-2)] w fun e w' => e = .returned (.float .f64 4604930618986332160) ∧ w' = w := by
  have z : (FloatKind.f64.format.order 4613937818241073152 0 == some .eq) = false := by decide +kernel
  have b1 := bits_run 4613937818241073152
  have f1 : ∀ w, (callFunc 8 #[.int .u64 4604930618986332160]).run Tryd.prog w = .ok (.value (.float .f64 4604930618986332160)) w := from_run 4604930618986332160
  have h1 : bits .and .i64 1024 2047 = 1024 := by decide +kernel
  have h2 : bits .andNot .u64 4613937818241073152 9218868437227405312 = 2251799813685248 := by decide +kernel
  have h3 : bits .or .u64 2251799813685248 4602678819172646912 = 4604930618986332160 := by decide +kernel
  have hm : ∀ w : World, (binOp .mul 24 (.float .f64 4607182418800017408) (.float .f64 4604930618986332160)).run Tryd.prog w = .ok (.float .f64 4604930618986332160) w := fun w => run_float_arith w .mul 24 .f64 _ _ _ (by decide +kernel)
  go_enter Tryd.func32, Tryd.ntmps32
  go_wp2_with fail
  refine (isinf_3 _).mono ?_
  rintro r w1 ⟨rfl, rfl⟩
  go_wp2_with fail
  refine (isnan_any _ _).mono ?_
  rintro r w1 ⟨rfl, rfl⟩
  rw [nn_3]
  go_wp2_with fail
  refine (norm_3 _).mono ?_
  rintro r w1 ⟨rfl, rfl⟩
  go_wp2
  go_ret
  exact ⟨rfl, rfl⟩

set_option maxHeartbeats 400000 in
theorem Ldexp_3 (w : World) :
    Calls Tryd.prog 27 #[.float .f64 4613937818241073152, .int .i64 (-2)] w fun e w' => e = .returned (.float .f64 4604930618986332160) ∧ w' = w := by
  go_enter Tryd.func27, Tryd.ntmps27
  go_wp2_with fail
  refine (ldexp_3 _).mono ?_
  rintro r w1 ⟨rfl, rfl⟩
  go_wp2
  go_ret
  exact ⟨rfl, rfl⟩

set_option maxHeartbeats 400000 in
theorem copysign_3 (w : World) :
    Calls Tryd.prog 26 #[.float .f64 4604930618986332160, .float .f64 4613937818241073152] w fun e w' => e = .returned (.float .f64 4604930618986332160) ∧ w' = w := by
  have b1 := bits_run 4604930618986332160
  have b2 := bits_run 4613937818241073152
  have f1 : ∀ w, (callFunc 8 #[.int .u64 4604930618986332160]).run Tryd.prog w = .ok (.value (.float .f64 4604930618986332160)) w := from_run 4604930618986332160
  have h1 : bits .andNot .u64 4604930618986332160 9223372036854775808 = 4604930618986332160 := by decide +kernel
  have h2 : bits .and .u64 4613937818241073152 9223372036854775808 = 0 := by decide +kernel
  have h3 : bits .or .u64 4604930618986332160 0 = 4604930618986332160 := by decide +kernel
  go_enter Tryd.func26, Tryd.ntmps26
  go_wp2
  go_ret
  exact ⟨rfl, rfl⟩

set_option maxHeartbeats 400000 in
theorem make_3 (w : World) :
    Calls Tryd.prog 17 #[.int .i64 3, .int .i64 (-2)] w fun e w' => e = .returned (.float .f64 4604930618986332160) ∧ w' = w := by
  have h1 : floatOfInt .f64 3 = 4613937818241073152 := by decide +kernel
  go_enter Tryd.func17, Tryd.ntmps17
  go_wp2_with fail
  refine (Ldexp_3 _).mono ?_
  rintro r w1 ⟨rfl, rfl⟩
  go_wp2_with fail
  refine (copysign_3 _).mono ?_
  rintro r w1 ⟨rfl, rfl⟩
  go_wp2
  go_ret
  exact ⟨rfl, rfl⟩

theorem ts25 : tsN 13836183955189006336 = -2 ∧ tsE 13836183955189006336 = 0 := by decide +kernel

set_option maxHeartbeats 400000 in
theorem toint_25 (w : World) :
    Calls Tryd.prog 19 #[.float .f64 13836183955189006336] w fun e w' => e = .returned (.tuple #[.int .i64 (-2), .int .i64 0]) ∧ w' = w := by
  refine (toint_any 13836183955189006336 w (by decide) (by decide)).mono ?_
  rintro r w1 ⟨rfl, rfl⟩
  rw [ts25.1, ts25.2]
  exact ⟨rfl, rfl⟩

set_option maxHeartbeats 400000 in
theorem awake_any (w : World) (h : DT w) :
    Calls Tryd.prog 6 #[] w fun e w' => e = .returned (.bool true) ∧ w' = w := by
  have z : (FloatKind.f64.format.order 4604930618986332160 4604930618986332160 == some .eq) = true := by decide +kernel
  have HD : Hid (DT w) := h
  clear h
  go_enter Tryd.func6, Tryd.ntmps6
  go_wp2_with fail
  refine (parts_34 _ HD.out).mono ?_
  rintro r w1 ⟨rfl, rfl⟩
  go_wp2_with fail
  refine (toint_25 _).mono ?_
  rintro r w1 ⟨rfl, rfl⟩
  go_wp2_with fail
  refine (make_3 _).mono ?_
  rintro r w1 ⟨rfl, rfl⟩
  go_wp2
  go_ret
  exact ⟨rfl, rfl⟩

end Go.Proofs.YtjlbbnjcdickgacDoor
