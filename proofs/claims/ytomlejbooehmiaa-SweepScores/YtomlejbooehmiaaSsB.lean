/- The law SweepScores, walked. -/
import Derived.Test.YtomlejbooehmiaaSsA
namespace Go.Proofs.Ytomlejbooehmiaa
open Go.RowKit

set_option maxHeartbeats 400000 in
theorem score_any (s u : Int) (r q : Nat) (ha : ∀ w : World, (binOp .add 22 (.float .f64 (floatOfInt .f64 (max u 0))) (.float .f64 4607182418800017408)).run Try.prog w = .ok (.float .f64 r) w)
    (hq : ∀ w : World, (binOp .quo 22 (.float .f64 (floatOfInt .f64 (max s 0))) (.float .f64 r)).run Try.prog w = .ok (.float .f64 q) w) (w : World) :
    Calls Try.prog 4 #[.int .i64 s, .int .i64 u] w fun e w' => e = .returned (.float .f64 q) ∧ w' = w := by
  by_cases h1 : s < 0 <;> by_cases h2 : u < 0
  · rw [show max s 0 = 0 by omega] at hq
    rw [show max u 0 = 0 by omega] at ha
    go_enter Try.func4, Try.ntmps4
    go_wp2
    go_ret
    exact ⟨rfl, rfl⟩
  · rw [show max s 0 = 0 by omega] at hq
    rw [show max u 0 = u by omega] at ha
    go_enter Try.func4, Try.ntmps4
    go_wp2
    go_ret
    exact ⟨rfl, rfl⟩
  · rw [show max s 0 = s by omega] at hq
    rw [show max u 0 = 0 by omega] at ha
    go_enter Try.func4, Try.ntmps4
    go_wp2
    go_ret
    exact ⟨rfl, rfl⟩
  · rw [show max s 0 = s by omega] at hq
    rw [show max u 0 = u by omega] at ha
    go_enter Try.func4, Try.ntmps4
    go_wp2
    go_ret
    exact ⟨rfl, rfl⟩

set_option maxHeartbeats 400000 in
theorem rscore_any (s u : Int) (r q : Nat) (ha : ∀ w : World, (binOp .add 22 (.float .f64 (floatOfInt .f64 (max u 0))) (.float .f64 4607182418800017408)).run Try.prog w = .ok (.float .f64 r) w)
    (hq : ∀ w : World, (binOp .quo 22 (.float .f64 (floatOfInt .f64 (max s 0))) (.float .f64 r)).run Try.prog w = .ok (.float .f64 q) w) (w : World) :
    Calls Try.prog 6 #[.int .i64 s, .int .i64 u] w fun e w' => e = .returned (.float .f64 q) ∧ w' = w := by
  by_cases h1 : s < 0 <;> by_cases h2 : u < 0
  · rw [show max s 0 = 0 by omega] at hq
    rw [show max u 0 = 0 by omega] at ha
    go_enter Try.func6, Try.ntmps6
    go_wp2
    go_ret
    exact ⟨rfl, rfl⟩
  · rw [show max s 0 = 0 by omega] at hq
    rw [show max u 0 = u by omega] at ha
    go_enter Try.func6, Try.ntmps6
    go_wp2
    go_ret
    exact ⟨rfl, rfl⟩
  · rw [show max s 0 = s by omega] at hq
    rw [show max u 0 = 0 by omega] at ha
    go_enter Try.func6, Try.ntmps6
    go_wp2
    go_ret
    exact ⟨rfl, rfl⟩
  · rw [show max s 0 = s by omega] at hq
    rw [show max u 0 = u by omega] at ha
    go_enter Try.func6, Try.ntmps6
    go_wp2
    go_ret
    exact ⟨rfl, rfl⟩

set_option maxHeartbeats 800000 in
theorem sscores_walk (s u : Int) (w : World) (hs0 : -9223372036854775808 ≤ s) (hs : s ≤ 9223372036854775807) (hu0 : -9223372036854775808 ≤ u) (hu : u ≤ 9223372036854775807) :
    Calls Try.prog 3 #[.int .i64 s, .int .i64 u] w fun e w' => e = .returned (.bool true) ∧ Below w.heap.size w w' := by
  obtain ⟨r, q, ha, hq⟩ := scores s u hs0 hs hu0 hu
  have A1 : ∀ w : World, Calls Try.prog 4 #[.int .i64 10, .int .i64 3] w fun e w' => e = .returned (.float .f64 4612811918334230528) ∧ w' = w := fun w =>
    score_any 10 3 4616189618054758400 4612811918334230528 (fun w => run_float_arith w .add 22 .f64 _ _ _ (by decide +kernel)) (fun w => run_float_arith w .quo 22 .f64 _ _ _ (by decide +kernel)) w
  have C1 := score_any s u r q ha hq
  have C2 := rscore_any s u r q ha hq
  clear ha hq
  have o1 : (FloatKind.f64.format.order 4612811918334230528 4612811918334230528 == some .eq) = true := by decide +kernel
  have b1 := bits_run q
  go_enter Try.func3, Try.ntmps3
  go_wp2_with fail
  refine (A1 _).mono ?_
  rintro e w1 ⟨rfl, rfl⟩
  clear A1
  go_wp2_with fail
  refine (C1 _).mono ?_
  rintro e w1 ⟨rfl, rfl⟩
  go_wp2_with fail
  refine (C2 _).mono ?_
  rintro e w1 ⟨rfl, rfl⟩
  clear C1 C2
  go_wp2
  go_ret
  exact ⟨rfl, Below.refl _ _⟩

end Go.Proofs.Ytomlejbooehmiaa
