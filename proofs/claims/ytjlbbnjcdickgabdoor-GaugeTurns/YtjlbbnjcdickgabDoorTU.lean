/- gauge.OfInt, the document's OfInt, and the law GaugeTurns, walked. -/
import Derived.Test.YtjlbbnjcdickgabDoorAW
import Derived.Test.YtjlbbnjcdickgabDoorGRg
import Derived.Test.YtjlbbnjcdickgabDoorGS
namespace Go.Proofs.YtjlbbnjcdickgabDoor
open Go.RowKit

/-- The word of an integer. -/
def ofW (n : Int) : Nat := Ieee.double.nearest (decide (n < 0)) n.natAbs 0

set_option maxHeartbeats 400000 in
theorem ofint_any (n : Int) (w : World) :
    Calls Tryd.prog 15 #[.int .i64 n] w fun e w' => e = .returned (.float .f64 (ofW n)) ∧ w' = w := by
  have h : floatOfInt .f64 n = ofW n := rfl
  go_enter Tryd.func15, Tryd.ntmps15
  go_wp2
  go_ret
  exact ⟨rfl, rfl⟩

set_option maxHeartbeats 400000 in
theorem rofint_any (n : Int) (w : World) (h0 : -9223372036854775808 ≤ n) (h1 : n ≤ 9223372036854775807) :
    Calls Tryd.prog 16 #[.int .i64 n] w fun e w' => e = .returned (.int .u64 (ofW n)) ∧ w' = w := by
  have E : Hid (Ieee.double.nearest (decide (n < 0)) (2 * n.natAbs + false.toNat) (0 - 1) = ofW n) := by
    unfold Hid ofW
    rw [show 2 * n.natAbs + false.toNat = 2 * n.natAbs from rfl, nearest_two]
  go_enter Tryd.func16, Tryd.ntmps16
  go_wp2_with fail
  refine (size_any n _ h0 h1).mono ?_
  rintro r w1 ⟨rfl, rfl⟩
  go_wp2_with fail
  refine (near_any _ _ 0 false _ (by omega) (fun h => by cases h)).mono ?_
  rintro r w1 ⟨rfl, rfl⟩
  rw [E.out]
  go_wp2
  go_ret
  exact ⟨rfl, rfl⟩

set_option maxHeartbeats 400000 in
theorem turns_walk (n x : Int) (w : World) (hn0 : -9223372036854775808 ≤ n) (hn1 : n ≤ 9223372036854775807) (h0 : 0 ≤ x) (h1 : x ≤ 18446744073709551615) (h : DT w) :
    Calls Tryd.prog 5 #[.int .i64 n, .int .u64 x] w fun e w' => e = .returned (.bool true) ∧ Below w.heap.size w w' := by
  have HD : Hid (DT w) := h
  clear h
  have f1 := from_run x
  have T1 := fun w => toint_any x w h0 h1
  have T2 := fun w => rtoint_any x w h0 h1
  generalize x.toNat = X at *
  generalize tsN x = N at *
  generalize tsE x = E at *
  go_enter Tryd.func5, Tryd.ntmps5
  go_wp2_with fail
  refine (awake_any _ HD.out).mono ?_
  rintro r w1 ⟨rfl, rfl⟩
  go_wp2_with fail
  refine (T1 _).mono ?_
  rintro r w1 ⟨rfl, rfl⟩
  clear T1
  go_wp2_with fail
  refine (T2 _).mono ?_
  rintro r w1 ⟨rfl, rfl⟩
  clear T2
  go_wp2_with fail
  refine (ofint_any n _).mono ?_
  rintro r w1 ⟨rfl, rfl⟩
  go_wp2_with fail
  refine (rofint_any n _ hn0 hn1).mono ?_
  rintro r w1 ⟨rfl, rfl⟩
  go_wp2_with fail
  refine (same_self _ _).mono ?_
  rintro r w1 ⟨rfl, rfl⟩
  go_wp2
  go_ret
  exact ⟨rfl, Below.refl _ _⟩

end Go.Proofs.YtjlbbnjcdickgabDoor
