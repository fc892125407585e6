/- The law PackShares, walked. -/
import Derived.Test.YtibkdphogglegaaGXb
import Derived.Test.YtibkdphogglegaaGW
import Derived.Test.YtibkdphogglegaaGN
namespace Go.Proofs.Ytibkdphogglegaa
open Go.RowKit

set_option maxHeartbeats 400000 in
theorem pshare_neg (p n : Int) (w : World) (h : p < 0 ∨ n < 0) :
    Calls Try.prog 4 #[.int .i64 p, .int .i64 n] w fun e w' => e = .returned (.tuple #[.float .f64 0, .int .i64 1]) ∧ w' = w := by
  by_cases h1 : p < 0
  · go_enter Try.func4, Try.ntmps4
    go_wp2
    go_ret2
    exact ⟨rfl, rfl⟩
  · have h2 : n < 0 := by omega
    go_enter Try.func4, Try.ntmps4
    go_wp2
    go_ret2
    exact ⟨rfl, rfl⟩
set_option maxHeartbeats 400000 in
theorem rpshare_neg (p n : Int) (w : World) (h : p < 0 ∨ n < 0) :
    Calls Try.prog 5 #[.int .i64 p, .int .i64 n] w fun e w' => e = .returned (.tuple #[.int .u64 0, .int .i64 1]) ∧ w' = w := by
  by_cases h1 : p < 0
  · go_enter Try.func5, Try.ntmps5
    go_wp2
    go_ret2
    exact ⟨rfl, rfl⟩
  · have h2 : n < 0 := by omega
    go_enter Try.func5, Try.ntmps5
    go_wp2
    go_ret2
    exact ⟨rfl, rfl⟩
set_option maxHeartbeats 400000 in
theorem pshare_pos (p n : Nat) (w : World) (hp : (p : Int) ≤ 9223372036854775807) (hn : (n : Int) ≤ 9223372036854775807) :
    Calls Try.prog 4 #[.int .i64 (p : Int), .int .i64 (n : Int)] w fun e w' => e = .returned (.tuple #[.float .f64 (if p = 0 then 0 else shW n p), .int .i64 (if p = 0 then 41 else 0)]) ∧ w' = w := by
  have h1 : ¬ (p : Int) < 0 := by omega
  have h2 : ¬ (n : Int) < 0 := by omega
  have w1 : IntKind.u64.wrap (p : Int) = (p : Int) := by show (p : Int) % 18446744073709551616 = _; omega
  have w2 : IntKind.u64.wrap (n : Int) = (n : Int) := by show (n : Int) % 18446744073709551616 = _; omega
  have SC : ∀ w : World, Calls Try.prog 7 #[.int .u64 (n : Int), .int .u64 (p : Int)] w fun e w' => e = .returned (.tuple #[.float .f64 (if p = 0 then 0 else shW n p), .int .i64 (if p = 0 then 41 else 0)]) ∧ w' = w := fun w => by
    by_cases h0 : p = 0
    · subst h0
      rw [if_pos rfl, if_pos rfl]
      exact share_zero n w
    · rw [if_neg h0, if_neg h0]
      have h := share_some (n : Int) (p : Int) w (by omega) (by omega) (by omega) (by omega)
      rw [Int.toNat_natCast, Int.toNat_natCast] at h
      exact h
  generalize (if p = 0 then 0 else shW n p) = S at *
  generalize (if p = 0 then (41 : Int) else 0) = E at *
  go_enter Try.func4, Try.ntmps4
  go_wp2_with fail
  refine (SC _).mono ?_
  rintro e w1 ⟨rfl, rfl⟩
  go_wp2
  go_ret2
  exact ⟨rfl, rfl⟩
set_option maxHeartbeats 400000 in
theorem rpshare_pos (p n : Nat) (w : World) (hp : (p : Int) ≤ 9223372036854775807) (hn : (n : Int) ≤ 9223372036854775807) :
    Calls Try.prog 5 #[.int .i64 (p : Int), .int .i64 (n : Int)] w fun e w' => e = .returned (.tuple #[.int .u64 ((if p = 0 then 0 else shW n p : Nat) : Int), .int .i64 (if p = 0 then 41 else 0)]) ∧ w' = w := by
  have h1 : ¬ (p : Int) < 0 := by omega
  have h2 : ¬ (n : Int) < 0 := by omega
  have w1 : IntKind.u64.wrap (p : Int) = (p : Int) := by show (p : Int) % 18446744073709551616 = _; omega
  have w2 : IntKind.u64.wrap (n : Int) = (n : Int) := by show (n : Int) % 18446744073709551616 = _; omega
  have SC : ∀ w : World, Calls Try.prog 8 #[.int .u64 (n : Int), .int .u64 (p : Int)] w fun e w' => e = .returned (.tuple #[.int .u64 ((if p = 0 then 0 else shW n p : Nat) : Int), .int .i64 (if p = 0 then 41 else 0)]) ∧ w' = w := fun w => by
    by_cases h0 : p = 0
    · subst h0
      rw [if_pos rfl, if_pos rfl]
      exact rshare_zero n w
    · rw [if_neg h0, if_neg h0]
      exact rshare_some n p w (by omega) (by omega) h0
  generalize (if p = 0 then 0 else shW n p) = S at *
  generalize (if p = 0 then (41 : Int) else 0) = E at *
  go_enter Try.func5, Try.ntmps5
  go_wp2_with fail
  refine (SC _).mono ?_
  rintro e w1 ⟨rfl, rfl⟩
  go_wp2
  go_ret2
  exact ⟨rfl, rfl⟩
theorem sh28 : (if (8 : Nat) = 0 then 0 else shW 2 8) = 4598175219545276416 := by decide +kernel

set_option maxHeartbeats 800000 in
theorem pshares_walk (p n : Int) (w : World) (_ : -9223372036854775808 ≤ p) (hp : p ≤ 9223372036854775807) (_ : -9223372036854775808 ≤ n) (hn : n ≤ 9223372036854775807) :
    Calls Try.prog 3 #[.int .i64 p, .int .i64 n] w fun e w' => e = .returned (.bool true) ∧ Below w.heap.size w w' := by
  have PC : ∃ (S : Nat) (E : Int), (∀ w : World, Calls Try.prog 4 #[.int .i64 p, .int .i64 n] w fun e w' => e = .returned (.tuple #[.float .f64 S, .int .i64 E]) ∧ w' = w) ∧ (∀ w : World, Calls Try.prog 5 #[.int .i64 p, .int .i64 n] w fun e w' => e = .returned (.tuple #[.int .u64 (S : Int), .int .i64 E]) ∧ w' = w) := by
    by_cases h : p < 0 ∨ n < 0
    · exact ⟨0, 1, fun w => pshare_neg p n w h, fun w => rpshare_neg p n w h⟩
    · obtain ⟨a, rfl⟩ : ∃ a : Nat, p = (a : Int) := ⟨p.toNat, by omega⟩
      obtain ⟨b, rfl⟩ : ∃ b : Nat, n = (b : Int) := ⟨n.toNat, by omega⟩
      exact ⟨_, _, fun w => pshare_pos a b w hp hn, fun w => rpshare_pos a b w hp hn⟩
  obtain ⟨S, E, C1, C2⟩ := PC
  have o1 : (FloatKind.f64.format.order 4598175219545276416 4598175219545276416 != some .eq) = false := by decide +kernel
  have A1 : Calls Try.prog 4 #[.int .i64 8, .int .i64 2] w fun e w' => e = .returned (.tuple #[.float .f64 4598175219545276416, .int .i64 0]) ∧ w' = w := by
    have h := pshare_pos 8 2 w (by decide) (by decide)
    rw [sh28] at h
    exact h
  have b1 := bits_run S
  go_enter Try.func3, Try.ntmps3
  go_wp2_with fail
  refine A1.mono ?_
  rintro e w1 ⟨rfl, rfl⟩
  clear A1
  go_wp2_with fail
  refine (C1 _).mono ?_
  rintro e w1 ⟨rfl, rfl⟩
  go_wp2_with fail
  refine (C2 _).mono ?_
  rintro e w1 ⟨rfl, rfl⟩
  clear C1 C2
  go_wp2
  go_ret
  exact ⟨rfl, Below.refl _ _⟩

end Go.Proofs.Ytibkdphogglegaa
