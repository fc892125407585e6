/- The law NameChecks, walked. -/
import Derived.Test.YtdmkkkfdigeinaaCkB
import Derived.Test.YtdmkkkfdigeinaaCmA
namespace Go.Proofs.Ytdmkkkfdigeinaa
open Go.RowKit

theorem chk_ex : chk ⟨#[46, 46]⟩ = 52 := by decide +kernel
theorem cmp_ex : cmpB ⟨#[97]⟩ ⟨#[98]⟩ = -1 := by decide +kernel

set_option maxHeartbeats 400000 in
theorem checks_walk (a b : ByteArray) (w : World) (ha : a.size ≤ 140737488351232) (hb : b.size ≤ 140737488351232) :
    Calls Try.prog 3 #[.string a, .string b] w fun e w' => e = .returned (.bool true) ∧ Below w.heap.size w w' := by
  have c1 := chk_vals a
  have c2 := chk_vals b
  go_enter Try.func3, Try.ntmps3
  go_wp2_with fail
  refine (check_any _ _).mono ?_
  rintro e w1 ⟨rfl, rfl⟩
  rw [chk_ex]
  go_wp2_with fail
  refine (compare_any _ _ _).mono ?_
  rintro e w1 ⟨rfl, rfl⟩
  rw [cmp_ex]
  go_wp2_with fail
  refine (check_any _ _).mono ?_
  rintro e w1 ⟨rfl, rfl⟩
  go_wp2_with fail
  refine (rcheck_any _ _).mono ?_
  rintro e w1 ⟨rfl, rfl⟩
  have e1 : (chk a == chk a) = true := by simp
  go_wp2_with fail
  refine (check_any _ _).mono ?_
  rintro e w1 ⟨rfl, rfl⟩
  go_wp2_with fail
  refine (rcheck_any _ _).mono ?_
  rintro e w1 ⟨rfl, rfl⟩
  have e2 : (chk b == chk b) = true := by simp
  go_wp2_with fail
  refine (compare_any _ _ _).mono ?_
  rintro e w1 ⟨rfl, rfl⟩
  go_wp2_with fail
  refine (rcompare_any _ _ _ ha hb).mono ?_
  rintro e w1 ⟨rfl, B⟩
  have e3 : (cmpB a b == cmpB a b) = true := by simp
  go_wp2
  go_ret
  exact ⟨rfl, B⟩

end Go.Proofs.Ytdmkkkfdigeinaa
