/- Gathered: GW PSn. -/
import Derived.Test.YtljcbibcdajhiaaRows
import Derived.Test.YtljcbibcdajhiaaQj
import Derived.WalkKit
import Derived.WalkSpells
import Derived.WalkLawsBesides
import Derived.Laws.FloatArith
/- gauge.Share and the law GaugeWhole, walked. -/
namespace Go.Proofs.Ytljcbibcdajhiaa
open Go.RowKit

theorem fl_of (n : Int) (h0 : 0 ≤ n) (h1 : n ≤ 18446744073709551615) : floatOfInt .f64 n = flR n.toNat := by
  show Ieee.double.nearest (n < 0) n.natAbs 0 = _
  have e1 : (decide (n < 0)) = false := by simp; omega
  have e2 : n.natAbs = n.toNat := by omega
  rw [e1, e2, nearest_int _ (by omega)]

theorem quo_of (p w : Int) (hp0 : 0 ≤ p) (hp : p ≤ 18446744073709551615) (hw0 : 0 < w) (hw : w ≤ 18446744073709551615) : floatBits .quo .f64 (flR p.toNat) (flR w.toNat) = some (shW p.toNat w.toNat) :=
  shW_some _ _ (by omega) (by omega) (by omega)

set_option maxHeartbeats 400000 in
theorem share_zero (p : Int) (w : World) :
    Calls Try.prog 31 #[.int .u64 p, .int .u64 0] w fun e w' => e = .returned (.tuple #[.float .f64 0, .int .i64 41]) ∧ w' = w := by
  go_enter Try.func31, Try.ntmps31
  go_wp2
  go_ret2
  exact ⟨rfl, rfl⟩

set_option maxHeartbeats 400000 in
theorem share_some (p n : Int) (w : World) (hp0 : 0 ≤ p) (hp : p ≤ 18446744073709551615) (hn0 : 0 < n) (hn : n ≤ 18446744073709551615) :
    Calls Try.prog 31 #[.int .u64 p, .int .u64 n] w fun e w' => e = .returned (.tuple #[.float .f64 (shW p.toNat n.toNat), .int .i64 0]) ∧ w' = w := by
  have hne : ¬ n = 0 := by omega
  have hq : ∀ w : World, (binOp .quo 44 (.float .f64 (floatOfInt .f64 p)) (.float .f64 (floatOfInt .f64 n))).run Try.prog w = .ok (.float .f64 (shW p.toNat n.toNat)) w := fun w => by
    rw [fl_of p hp0 hp, fl_of n (by omega) hn]
    exact run_float_arith w .quo 44 .f64 _ _ _ (quo_of p n hp0 hp hn0 hn)
  go_enter Try.func31, Try.ntmps31
  go_wp2
  go_ret2
  exact ⟨rfl, rfl⟩

theorem sh18 : shW (1 : Int).toNat (8 : Int).toNat = 4593671619917905920 := by decide +kernel

abbrev fcmp (a b : Nat) := FloatKind.f64.format.order a b
theorem fcmp_self (a b : Nat) (ha : a ≤ Ieee.double.infRung) (h : a = b) : (fcmp a b == some .eq) = true := by
  rw [show fcmp a b = Ieee.double.order a b from rfl, order_eq a b ha (by omega)]; simp [h]

end Go.Proofs.Ytljcbibcdajhiaa
/- pack.Share, walked (own text of the verifier). -/
namespace Go.Proofs.Ytljcbibcdajhiaa
open Go.RowKit

set_option maxHeartbeats 400000 in
theorem pshare_pos (p n : Nat) (w : World) (hp : (p : Int) ≤ 9223372036854775807) (hn : (n : Int) ≤ 9223372036854775807) :
    Calls Try.prog 12 #[.int .i64 (p : Int), .int .i64 (n : Int)] w fun e w' => e = .returned (.tuple #[.float .f64 (if p = 0 then 0 else shW n p), .int .i64 (if p = 0 then 41 else 0)]) ∧ w' = w := by
  have h1 : ¬ (p : Int) < 0 := by omega
  have h2 : ¬ (n : Int) < 0 := by omega
  have w1 : IntKind.u64.wrap (p : Int) = (p : Int) := by show (p : Int) % 18446744073709551616 = _; omega
  have w2 : IntKind.u64.wrap (n : Int) = (n : Int) := by show (n : Int) % 18446744073709551616 = _; omega
  have SC : ∀ w : World, Calls Try.prog 31 #[.int .u64 (n : Int), .int .u64 (p : Int)] w fun e w' => e = .returned (.tuple #[.float .f64 (if p = 0 then 0 else shW n p), .int .i64 (if p = 0 then 41 else 0)]) ∧ w' = w := fun w => by
    by_cases h0 : p = 0
    · subst h0
      rw [if_pos rfl, if_pos rfl]
      exact share_zero n w
    · rw [if_neg h0, if_neg h0]
      have h := share_some (n : Int) (p : Int) w (by omega) (by omega) (by omega) (by omega)
      rw [Int.toNat_natCast, Int.toNat_natCast] at h
      exact h
  generalize (if p = 0 then 0 else shW n p) = S at *
  generalize (if p = 0 then (41 : Int) else 0) = E at *
  go_enter Try.func12, Try.ntmps12
  go_wp2_with fail
  refine (SC _).mono ?_
  rintro e w1 ⟨rfl, rfl⟩
  go_wp2
  go_ret2
  exact ⟨rfl, rfl⟩

end Go.Proofs.Ytljcbibcdajhiaa
