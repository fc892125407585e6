/- gauge.Share and the law GaugeWhole, walked. -/
import Derived.Test.YtjlbbnjcdickgacRows
import Derived.Test.YtjlbbnjcdickgacFlS
import Derived.WalkKit
import Derived.WalkSpells
import Derived.WalkLawsBesides
import Derived.Laws.FloatArith
namespace Go.Proofs.Ytjlbbnjcdickgac
open Go.RowKit

theorem fl_of (n : Int) (h0 : 0 ≤ n) (h1 : n ≤ 18446744073709551615) : floatOfInt .f64 n = flR n.toNat := by
  show Ieee.double.nearest (n < 0) n.natAbs 0 = _
  have e1 : (decide (n < 0)) = false := by simp; omega
  have e2 : n.natAbs = n.toNat := by omega
  rw [e1, e2, nearest_int _ (by omega)]

theorem quo_of (p w : Int) (hp0 : 0 ≤ p) (hp : p ≤ 18446744073709551615) (hw0 : 0 < w) (hw : w ≤ 18446744073709551615) : floatBits .quo .f64 (flR p.toNat) (flR w.toNat) = some (shW p.toNat w.toNat) :=
  shW_some _ _ (by omega) (by omega) (by omega)

set_option maxHeartbeats 400000 in
theorem share_zero (p : Int) (w : World) :
    Calls Try.prog 7 #[.int .u64 p, .int .u64 0] w fun e w' => e = .returned (.tuple #[.float .f64 0, .int .i64 41]) ∧ w' = w := by
  go_enter Try.func7, Try.ntmps7
  go_wp2
  go_ret2
  exact ⟨rfl, rfl⟩

set_option maxHeartbeats 400000 in
theorem share_some (p n : Int) (w : World) (hp0 : 0 ≤ p) (hp : p ≤ 18446744073709551615) (hn0 : 0 < n) (hn : n ≤ 18446744073709551615) :
    Calls Try.prog 7 #[.int .u64 p, .int .u64 n] w fun e w' => e = .returned (.tuple #[.float .f64 (shW p.toNat n.toNat), .int .i64 0]) ∧ w' = w := by
  have hne : ¬ n = 0 := by omega
  have hq : ∀ w : World, (binOp .quo 26 (.float .f64 (floatOfInt .f64 p)) (.float .f64 (floatOfInt .f64 n))).run Try.prog w = .ok (.float .f64 (shW p.toNat n.toNat)) w := fun w => by
    rw [fl_of p hp0 hp, fl_of n (by omega) hn]
    exact run_float_arith w .quo 26 .f64 _ _ _ (quo_of p n hp0 hp hn0 hn)
  go_enter Try.func7, Try.ntmps7
  go_wp2
  go_ret2
  exact ⟨rfl, rfl⟩

theorem sh18 : shW (1 : Int).toNat (8 : Int).toNat = 4593671619917905920 := by decide +kernel

abbrev fcmp (a b : Nat) := FloatKind.f64.format.order a b
theorem fcmp_self (a b : Nat) (ha : a ≤ Ieee.double.infRung) (h : a = b) : (fcmp a b == some .eq) = true := by
  rw [show fcmp a b = Ieee.double.order a b from rfl, order_eq a b ha (by omega)]; simp [h]

set_option maxHeartbeats 1000000 in
theorem whole_zero (p q : Int) (w : World) :
    Calls Try.prog 5 #[.int .u64 p, .int .u64 q, .int .u64 0] w fun e w' => e = .returned (.bool true) ∧ w' = w := by
  have e0 : (FloatKind.f64.format.order 0 0 == some .eq) = true := by decide +kernel
  have e1 : (FloatKind.f64.format.order 4593671619917905920 4593671619917905920 != some .eq) = false := by decide +kernel
  go_enter Try.func5, Try.ntmps5
  go_wp2_with fail
  refine (share_some 1 8 _ (by decide) (by decide) (by decide) (by decide)).mono ?_
  rintro e w1 ⟨rfl, rfl⟩
  rw [sh18]
  go_wp2_with fail
  refine (share_zero p _).mono ?_
  rintro e w1 ⟨rfl, rfl⟩
  go_wp2_with fail
  refine (share_zero q _).mono ?_
  rintro e w1 ⟨rfl, rfl⟩
  go_wp2_with fail
  go_ret
  exact ⟨rfl, rfl⟩

set_option maxHeartbeats 2000000 in
theorem whole_some (p q n : Int) (w : World) (hp0 : 0 ≤ p) (hp : p ≤ 18446744073709551615) (hq0 : 0 ≤ q) (hq : q ≤ 18446744073709551615) (hn0 : 0 < n) (hn : n ≤ 18446744073709551615) :
    Calls Try.prog 5 #[.int .u64 p, .int .u64 q, .int .u64 n] w fun e w' => e = .returned (.bool true) ∧ w' = w := by
  have e1 : (FloatKind.f64.format.order 4593671619917905920 4593671619917905920 != some .eq) = false := by decide +kernel
  have lp := shW_le p.toNat n.toNat (by omega) (by omega) (by omega)
  have lq := shW_le q.toNat n.toNat (by omega) (by omega) (by omega)
  have ln := shW_le n.toNat n.toNat (by omega) (by omega) (by omega)
  have l1 : 4607182418800017408 ≤ Ieee.double.infRung := by decide
  have l0 : (FloatKind.f64.format.order (shW p.toNat n.toNat) 0 == some .lt) = false := by
    rw [show FloatKind.f64.format = Ieee.double from rfl, order_lt _ _ lp (Nat.zero_le _)]; simp
  have z0 : (FloatKind.f64.format.order (shW p.toNat n.toNat) 0 == some .eq) = (p == 0) := by
    rw [show FloatKind.f64.format = Ieee.double from rfl, order_eq _ _ lp (Nat.zero_le _), Bool.eq_iff_iff, decide_eq_true_iff, shW_zero _ _ (by omega) (by omega) (by omega)]
    simp; omega
  have on : (FloatKind.f64.format.order (shW n.toNat n.toNat) 4607182418800017408 == some .eq) = true := by
    rw [show FloatKind.f64.format = Ieee.double from rfl, order_eq _ _ ln l1, shW_whole _ (by omega) (by omega)]; decide
  have g1 : p ≤ n → (FloatKind.f64.format.order (shW p.toNat n.toNat) 4607182418800017408 == some .gt) = false := by
    intro h
    have := shW_one p.toNat n.toNat (by omega) (by omega) (by omega)
    rw [show FloatKind.f64.format = Ieee.double from rfl, order_gt _ _ lp l1]; simp; omega
  have g2 : p ≤ q → (FloatKind.f64.format.order (shW q.toNat n.toNat) (shW p.toNat n.toNat) == some .lt) = false := by
    intro h
    have := shW_mono (p := p.toNat) (q := q.toNat) (w := n.toNat) (by omega) (by omega) (by omega) (by omega)
    rw [show FloatKind.f64.format = Ieee.double from rfl, order_lt _ _ lq lp]; simp; omega
  have hne : ¬ n = 0 := by omega
  clear lp lq ln l1
  generalize hP : shW p.toNat n.toNat = P at *
  generalize hQ : shW q.toNat n.toNat = Q at *
  generalize hN : shW n.toNat n.toNat = N at *
  have sp : Hid (shW p.toNat n.toNat = P) := hP
  have sq : Hid (shW q.toNat n.toNat = Q) := hQ
  have sn : Hid (shW n.toNat n.toNat = N) := hN
  clear hP hQ hN
  by_cases hpn : p ≤ n
  all_goals by_cases hpq : p ≤ q
  all_goals
    first | replace g1 := g1 hpn | clear g1
  all_goals
    first | replace g2 := g2 hpq | clear g2
  all_goals
    go_enter Try.func5, Try.ntmps5
    go_wp2_with fail
    refine (share_some 1 8 _ (by decide) (by decide) (by decide) (by decide)).mono ?_
    rintro e w1 ⟨rfl, rfl⟩
    rw [sh18]
    go_wp2_with fail
    refine (share_some p n _ hp0 hp hn0 hn).mono ?_
    rintro e w1 ⟨rfl, rfl⟩
    rw [sp.out]
    go_wp2_with fail
    refine (share_some q n _ hq0 hq hn0 hn).mono ?_
    rintro e w1 ⟨rfl, rfl⟩
    rw [sq.out]
    go_wp2_with fail
    refine (share_some n n _ (by omega) hn hn0 hn).mono ?_
    rintro e w1 ⟨rfl, rfl⟩
    rw [sn.out]
    go_wp2_with fail
    go_ret
    exact ⟨rfl, rfl⟩

theorem whole_walk (p q n : Int) (w : World) (hp0 : 0 ≤ p) (hp : p ≤ 18446744073709551615) (hq0 : 0 ≤ q) (hq : q ≤ 18446744073709551615) (hn0 : 0 ≤ n) (hn : n ≤ 18446744073709551615) :
    Calls Try.prog 5 #[.int .u64 p, .int .u64 q, .int .u64 n] w fun e w' => e = .returned (.bool true) ∧ Below w.heap.size w w' := by
  by_cases h : n = 0
  · subst h
    refine (whole_zero p q w).mono ?_
    rintro e w1 ⟨rfl, rfl⟩
    exact ⟨rfl, Below.refl _ _⟩
  · refine (whole_some p q n w hp0 hp hq0 hq (by omega) hn).mono ?_
    rintro e w1 ⟨rfl, rfl⟩
    exact ⟨rfl, Below.refl _ _⟩

end Go.Proofs.Ytjlbbnjcdickgac
