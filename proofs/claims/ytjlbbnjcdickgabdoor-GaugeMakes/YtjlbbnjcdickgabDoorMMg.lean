/- gauge.Make at every m and e, walked. -/
import Derived.Test.YtjlbbnjcdickgabDoorMMf
set_option maxRecDepth 4000
namespace Go.Proofs.YtjlbbnjcdickgabDoor
open Go.RowKit Ieee

set_option maxHeartbeats 1000000 in
theorem mk_p_mid (n e E : Int) (Y YM NR FIN : Nat) (w : World) (b0 : 0 ≤ n) (b1 : n < 9223372036854775808) (HE : min (max e (-1174)) 1024 = E) (c0 : -1174 ≤ E) (c1 : E ≤ 1024) (c2 : 0 < -1074 - E) (FM : floatOfInt .f64 n = YM) (B : Int) (b2 : 0 ≤ B) (b3 : B ≤ 64) (b4 : B - (-1074 - E) < 53) (R : Int) (_r0 : 0 ≤ R) (_r1 : R ≤ 4503599627370496) (FO : floatOfInt .f64 R = Y)
    (LN : ∀ w, Calls Tryd.prog 22 #[.int .u64 n] w fun r w' => r = .returned (.int .i64 B) ∧ w' = w)
    (DR : ∀ w, Calls Tryd.prog 23 #[.int .u64 n, .int .i64 (-1074 - E)] w fun r w' => r = .returned (.int .u64 R) ∧ w' = w)
    (LD : ∀ w, Calls Tryd.prog 25 #[.float .f64 Y, .int .i64 (-1074)] w fun r w' => r = .returned (.float .f64 NR) ∧ w' = w)
    (CS : ∀ w, Calls Tryd.prog 24 #[.float .f64 NR, .float .f64 YM] w fun r w' => r = .returned (.float .f64 FIN) ∧ w' = w) :
    Calls Tryd.prog 11 #[.int .i64 n, .int .i64 e] w fun r w' => r = .returned (.float .f64 FIN) ∧ w' = w := by
  go_enter Tryd.func11, Tryd.ntmps11
  go_wp2_with fail
  refine (LN _).mono ?_
  rintro r w1 ⟨rfl, rfl⟩
  clear LN
  go_wp2_with fail
  refine (DR _).mono ?_
  rintro r w1 ⟨rfl, rfl⟩
  clear DR
  go_wp2_with fail
  refine (LD _).mono ?_
  rintro r w1 ⟨rfl, rfl⟩
  clear LD
  go_wp2_with fail
  refine (CS _).mono ?_
  rintro r w1 ⟨rfl, rfl⟩
  clear CS
  go_wp2
  go_ret
  exact ⟨rfl, rfl⟩

set_option maxHeartbeats 1000000 in
theorem mk_p_kep (n e E : Int) (Y NR FIN : Nat) (w : World) (b0 : 0 ≤ n) (b1 : n < 9223372036854775808) (HE : min (max e (-1174)) 1024 = E) (c0 : -1174 ≤ E) (c1 : E ≤ 1024) (c2 : 0 < -1074 - E) (B : Int) (b2 : 0 ≤ B) (b3 : B ≤ 64) (b4 : ¬ B - (-1074 - E) < 53) (FO : floatOfInt .f64 n = Y)
    (LN : ∀ w, Calls Tryd.prog 22 #[.int .u64 n] w fun r w' => r = .returned (.int .i64 B) ∧ w' = w)
    (LD : ∀ w, Calls Tryd.prog 25 #[.float .f64 Y, .int .i64 E] w fun r w' => r = .returned (.float .f64 NR) ∧ w' = w)
    (CS : ∀ w, Calls Tryd.prog 24 #[.float .f64 NR, .float .f64 Y] w fun r w' => r = .returned (.float .f64 FIN) ∧ w' = w) :
    Calls Tryd.prog 11 #[.int .i64 n, .int .i64 e] w fun r w' => r = .returned (.float .f64 FIN) ∧ w' = w := by
  go_enter Tryd.func11, Tryd.ntmps11
  go_wp2_with fail
  refine (LN _).mono ?_
  rintro r w1 ⟨rfl, rfl⟩
  clear LN
  go_wp2_with fail
  refine (LD _).mono ?_
  rintro r w1 ⟨rfl, rfl⟩
  clear LD
  go_wp2_with fail
  refine (CS _).mono ?_
  rintro r w1 ⟨rfl, rfl⟩
  clear CS
  go_wp2
  go_ret
  exact ⟨rfl, rfl⟩

set_option maxHeartbeats 1000000 in
theorem mk_p_pos (n e E : Int) (Y NR FIN : Nat) (w : World) (b0 : 0 ≤ n) (b1 : n < 9223372036854775808) (HE : min (max e (-1174)) 1024 = E) (c0 : -1174 ≤ E) (c1 : E ≤ 1024) (c2 : -1074 - E ≤ 0) (FO : floatOfInt .f64 n = Y)
    (LD : ∀ w, Calls Tryd.prog 25 #[.float .f64 Y, .int .i64 E] w fun r w' => r = .returned (.float .f64 NR) ∧ w' = w)
    (CS : ∀ w, Calls Tryd.prog 24 #[.float .f64 NR, .float .f64 Y] w fun r w' => r = .returned (.float .f64 FIN) ∧ w' = w) :
    Calls Tryd.prog 11 #[.int .i64 n, .int .i64 e] w fun r w' => r = .returned (.float .f64 FIN) ∧ w' = w := by
  go_enter Tryd.func11, Tryd.ntmps11
  go_wp2_with fail
  refine (LD _).mono ?_
  rintro r w1 ⟨rfl, rfl⟩
  clear LD
  go_wp2_with fail
  refine (CS _).mono ?_
  rintro r w1 ⟨rfl, rfl⟩
  clear CS
  go_wp2
  go_ret
  exact ⟨rfl, rfl⟩

set_option maxHeartbeats 1000000 in
theorem mk_n_mid (n e E : Int) (Y YM NR FIN : Nat) (w : World) (b0 : 0 < n) (b1 : n ≤ 9223372036854775808) (HE : min (max e (-1174)) 1024 = E) (c0 : -1174 ≤ E) (c1 : E ≤ 1024) (c2 : 0 < -1074 - E) (FM : floatOfInt .f64 (-n) = YM) (B : Int) (b2 : 0 ≤ B) (b3 : B ≤ 64) (b4 : B - (-1074 - E) < 53) (R : Int) (_r0 : 0 ≤ R) (_r1 : R ≤ 4503599627370496) (FO : floatOfInt .f64 R = Y)
    (LN : ∀ w, Calls Tryd.prog 22 #[.int .u64 n] w fun r w' => r = .returned (.int .i64 B) ∧ w' = w)
    (DR : ∀ w, Calls Tryd.prog 23 #[.int .u64 n, .int .i64 (-1074 - E)] w fun r w' => r = .returned (.int .u64 R) ∧ w' = w)
    (LD : ∀ w, Calls Tryd.prog 25 #[.float .f64 Y, .int .i64 (-1074)] w fun r w' => r = .returned (.float .f64 NR) ∧ w' = w)
    (CS : ∀ w, Calls Tryd.prog 24 #[.float .f64 NR, .float .f64 YM] w fun r w' => r = .returned (.float .f64 FIN) ∧ w' = w) :
    Calls Tryd.prog 11 #[.int .i64 (-n), .int .i64 e] w fun r w' => r = .returned (.float .f64 FIN) ∧ w' = w := by
  have w1 : IntKind.u64.wrap (-n) = 18446744073709551616 - n := by rw [IntKind.wrap_u64]; omega
  have w2 : IntKind.u64.wrap (-(18446744073709551616 - n)) = n := by rw [IntKind.wrap_u64]; omega
  go_enter Tryd.func11, Tryd.ntmps11
  go_wp2_with fail
  refine (LN _).mono ?_
  rintro r w1 ⟨rfl, rfl⟩
  clear LN
  go_wp2_with fail
  refine (DR _).mono ?_
  rintro r w1 ⟨rfl, rfl⟩
  clear DR
  go_wp2_with fail
  refine (LD _).mono ?_
  rintro r w1 ⟨rfl, rfl⟩
  clear LD
  go_wp2_with fail
  refine (CS _).mono ?_
  rintro r w1 ⟨rfl, rfl⟩
  clear CS
  go_wp2
  go_ret
  exact ⟨rfl, rfl⟩

set_option maxHeartbeats 1000000 in
theorem mk_n_kep (n e E : Int) (Y YM NR FIN : Nat) (w : World) (b0 : 0 < n) (b1 : n ≤ 9223372036854775808) (HE : min (max e (-1174)) 1024 = E) (c0 : -1174 ≤ E) (c1 : E ≤ 1024) (c2 : 0 < -1074 - E) (FM : floatOfInt .f64 (-n) = YM) (B : Int) (b2 : 0 ≤ B) (b3 : B ≤ 64) (b4 : ¬ B - (-1074 - E) < 53) (FO : floatOfInt .f64 n = Y)
    (LN : ∀ w, Calls Tryd.prog 22 #[.int .u64 n] w fun r w' => r = .returned (.int .i64 B) ∧ w' = w)
    (LD : ∀ w, Calls Tryd.prog 25 #[.float .f64 Y, .int .i64 E] w fun r w' => r = .returned (.float .f64 NR) ∧ w' = w)
    (CS : ∀ w, Calls Tryd.prog 24 #[.float .f64 NR, .float .f64 YM] w fun r w' => r = .returned (.float .f64 FIN) ∧ w' = w) :
    Calls Tryd.prog 11 #[.int .i64 (-n), .int .i64 e] w fun r w' => r = .returned (.float .f64 FIN) ∧ w' = w := by
  have w1 : IntKind.u64.wrap (-n) = 18446744073709551616 - n := by rw [IntKind.wrap_u64]; omega
  have w2 : IntKind.u64.wrap (-(18446744073709551616 - n)) = n := by rw [IntKind.wrap_u64]; omega
  go_enter Tryd.func11, Tryd.ntmps11
  go_wp2_with fail
  refine (LN _).mono ?_
  rintro r w1 ⟨rfl, rfl⟩
  clear LN
  go_wp2_with fail
  refine (LD _).mono ?_
  rintro r w1 ⟨rfl, rfl⟩
  clear LD
  go_wp2_with fail
  refine (CS _).mono ?_
  rintro r w1 ⟨rfl, rfl⟩
  clear CS
  go_wp2
  go_ret
  exact ⟨rfl, rfl⟩

set_option maxHeartbeats 1000000 in
theorem mk_n_pos (n e E : Int) (Y YM NR FIN : Nat) (w : World) (b0 : 0 < n) (b1 : n ≤ 9223372036854775808) (HE : min (max e (-1174)) 1024 = E) (c0 : -1174 ≤ E) (c1 : E ≤ 1024) (c2 : -1074 - E ≤ 0) (FM : floatOfInt .f64 (-n) = YM) (FO : floatOfInt .f64 n = Y)
    (LD : ∀ w, Calls Tryd.prog 25 #[.float .f64 Y, .int .i64 E] w fun r w' => r = .returned (.float .f64 NR) ∧ w' = w)
    (CS : ∀ w, Calls Tryd.prog 24 #[.float .f64 NR, .float .f64 YM] w fun r w' => r = .returned (.float .f64 FIN) ∧ w' = w) :
    Calls Tryd.prog 11 #[.int .i64 (-n), .int .i64 e] w fun r w' => r = .returned (.float .f64 FIN) ∧ w' = w := by
  have w1 : IntKind.u64.wrap (-n) = 18446744073709551616 - n := by rw [IntKind.wrap_u64]; omega
  have w2 : IntKind.u64.wrap (-(18446744073709551616 - n)) = n := by rw [IntKind.wrap_u64]; omega
  go_enter Tryd.func11, Tryd.ntmps11
  go_wp2_with fail
  refine (LD _).mono ?_
  rintro r w1 ⟨rfl, rfl⟩
  clear LD
  go_wp2_with fail
  refine (CS _).mono ?_
  rintro r w1 ⟨rfl, rfl⟩
  clear CS
  go_wp2
  go_ret
  exact ⟨rfl, rfl⟩

end Go.Proofs.YtjlbbnjcdickgabDoor
