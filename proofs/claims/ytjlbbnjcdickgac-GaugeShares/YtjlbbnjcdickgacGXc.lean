/- gauge.Permille and the law GaugeShares, walked. -/
import Derived.Test.YtjlbbnjcdickgacGXb
import Derived.Test.YtjlbbnjcdickgacGV
import Derived.Test.YtjlbbnjcdickgacGW
namespace Go.Proofs.Ytjlbbnjcdickgac
open Go.RowKit

/-- A thousand. -/
abbrev k1000 : Nat := 4652007308841189376

theorem mul_some (S : Nat) (h : S ≤ Ieee.double.infRung) : ∃ P, floatBits .mul .f64 S 4652007308841189376 = some P ∧ P < 18446744073709551616 := by
  have hc : Ieee.double.read 4652007308841189376 = .number false 8796093022208000 (-43) := by decide +kernel
  have : ∃ d, (Ieee.double.read S).product (Ieee.double.read 4652007308841189376) = some d := by
    rw [hc]
    rcases Nat.lt_or_eq_of_le h with h | h
    · obtain ⟨m, i, e, _, _⟩ := read_low Ieee.double S h
      rw [e]; exact ⟨_, rfl⟩
    · rw [h, show Ieee.double.read Ieee.double.infRung = .infinity false by decide]
      exact ⟨_, rfl⟩
  obtain ⟨d, hd⟩ := this
  refine ⟨Ieee.double.write d, ?_, ?_⟩
  · show Ieee.double.mul S 4652007308841189376 = _
    unfold Ieee.Format.mul
    rw [hd]; rfl
  · exact Ieee.Format.write_lt Ieee.double d

set_option maxHeartbeats 400000 in
theorem same_self (X : Nat) (w : World) :
    Calls Try.prog 9 #[.float .f64 X, .int .u64 X] w fun e w' => e = .returned (.bool true) ∧ w' = w := by
  have f1 := from_run (X : Int)
  have b1 := bits_run X
  rw [Int.toNat_natCast] at f1
  have n1 := self_ne X
  cases hn : nn X
  all_goals
    rw [hn] at n1
    clear hn
    go_enter Try.func9, Try.ntmps9
    go_wp2
    go_ret
    exact ⟨rfl, rfl⟩

set_option maxHeartbeats 400000 in
theorem permille_zero (p : Int) (w : World) :
    Calls Try.prog 6 #[.int .u64 p, .int .u64 0] w fun e w' => e = .returned (.tuple #[.int .i64 0, .int .i64 41]) ∧ w' = w := by
  go_enter Try.func6, Try.ntmps6
  go_wp2_with fail
  refine (share_zero p _).mono ?_
  rintro r w1 ⟨rfl, rfl⟩
  go_wp2
  go_ret2
  exact ⟨rfl, rfl⟩

set_option maxHeartbeats 400000 in
theorem permille_some (p n : Int) (P : Nat) (w : World) (hp0 : 0 ≤ p) (hp : p ≤ 18446744073709551615) (hn0 : 0 < n) (hn : n ≤ 18446744073709551615) (hP : floatBits .mul .f64 (shW p.toNat n.toNat) 4652007308841189376 = some P) (hP1 : P < 18446744073709551616) :
    Calls Try.prog 6 #[.int .u64 p, .int .u64 n] w fun e w' => e = .returned (.tuple #[.int .i64 (tsN P), .int .i64 (tsE P)]) ∧ w' = w := by
  have hm : ∀ w : World, (binOp .mul 26 (.float .f64 (shW p.toNat n.toNat)) (.float .f64 4652007308841189376)).run Try.prog w = .ok (.float .f64 P) w := fun w => run_float_arith w .mul 26 .f64 _ _ _ hP
  go_enter Try.func6, Try.ntmps6
  go_wp2_with fail
  refine (share_some p n _ hp0 hp hn0 hn).mono ?_
  rintro r w1 ⟨rfl, rfl⟩
  clear hP
  go_wp2_with fail
  have T := toint_any (P : Int) w1 (by omega) (by omega)
  rw [Int.toNat_natCast] at T
  refine T.mono ?_
  rintro r w2 ⟨rfl, rfl⟩
  clear T
  go_wp2
  go_ret2
  exact ⟨rfl, rfl⟩

theorem p18 : floatBits .mul .f64 4593671619917905920 4652007308841189376 = some 4638496509959077888 := by decide +kernel
theorem ts125 : tsN ((4638496509959077888 : Nat) : Int) = 125 ∧ tsE ((4638496509959077888 : Nat) : Int) = 0 := by decide +kernel

set_option maxHeartbeats 400000 in
theorem permille_18 (w : World) :
    Calls Try.prog 6 #[.int .u64 1, .int .u64 8] w fun e w' => e = .returned (.tuple #[.int .i64 125, .int .i64 0]) ∧ w' = w := by
  refine (permille_some 1 8 4638496509959077888 w (by decide) (by decide) (by decide) (by decide) (by rw [sh18]; exact p18) (by decide)).mono ?_
  rintro r w1 ⟨rfl, rfl⟩
  rw [ts125.1, ts125.2]
  exact ⟨rfl, rfl⟩

set_option maxHeartbeats 1000000 in
theorem shares_walk (p n : Int) (w : World) (hp0 : 0 ≤ p) (hp : p ≤ 18446744073709551615) (hn0 : 0 ≤ n) (hn : n ≤ 18446744073709551615) :
    Calls Try.prog 3 #[.int .u64 p, .int .u64 n] w fun e w' => e = .returned (.bool true) ∧ Below w.heap.size w w' := by
  by_cases hz : n = 0
  · subst hz
    go_enter Try.func3, Try.ntmps3
    go_wp2_with fail
    refine (permille_18 _).mono ?_
    rintro r w1 ⟨rfl, rfl⟩
    go_wp2_with fail
    refine (share_zero p _).mono ?_
    rintro r w1 ⟨rfl, rfl⟩
    go_wp2_with fail
    refine (rshare_zero p _).mono ?_
    rintro r w1 ⟨rfl, rfl⟩
    go_wp2_with fail
    refine (same_self 0 _).mono ?_
    rintro r w1 ⟨rfl, rfl⟩
    go_wp2_with fail
    refine (permille_zero p _).mono ?_
    rintro r w1 ⟨rfl, rfl⟩
    go_wp2
    go_ret
    exact ⟨rfl, Below.refl _ _⟩
  · obtain ⟨P, hP, hP1⟩ := mul_some (shW p.toNat n.toNat) (shW_le _ _ (by omega) (by omega) (by omega))
    have SS := fun w => share_some p n w hp0 hp (by omega) hn
    have RS := fun w => rshare_some p.toNat n.toNat w (by omega) (by omega) (by omega)
    rw [show ((p.toNat : Nat) : Int) = p by omega, show ((n.toNat : Nat) : Int) = n by omega] at RS
    have PM := fun w => permille_some p n P w hp0 hp (by omega) hn hP hP1
    have hm : ∀ w : World, (binOp .mul 26 (.float .f64 (shW p.toNat n.toNat)) (.float .f64 4652007308841189376)).run Try.prog w = .ok (.float .f64 P) w := fun w => run_float_arith w .mul 26 .f64 _ _ _ hP
    have RT := fun w => rtoint_any (P : Int) w (by omega) (by omega)
    have f1 := from_run (shW p.toNat n.toNat : Nat)
    rw [Int.toNat_natCast] at f1
    have b1 := bits_run P
    clear hP
    generalize shW p.toNat n.toNat = S at *
    generalize tsN (P : Int) = N at *
    generalize tsE (P : Int) = E at *
    go_enter Try.func3, Try.ntmps3
    go_wp2_with fail
    refine (permille_18 _).mono ?_
    rintro r w1 ⟨rfl, rfl⟩
    go_wp2_with fail
    refine (SS _).mono ?_
    rintro r w1 ⟨rfl, rfl⟩
    clear SS
    go_wp2_with fail
    refine (RS _).mono ?_
    rintro r w1 ⟨rfl, rfl⟩
    clear RS
    go_wp2_with fail
    refine (same_self S _).mono ?_
    rintro r w1 ⟨rfl, rfl⟩
    go_wp2_with fail
    refine (PM _).mono ?_
    rintro r w1 ⟨rfl, rfl⟩
    clear PM
    go_wp2_with fail
    refine (RT _).mono ?_
    rintro r w1 ⟨rfl, rfl⟩
    clear RT
    go_wp2
    go_ret
    exact ⟨rfl, Below.refl _ _⟩

end Go.Proofs.Ytjlbbnjcdickgac
