/- The law NameMatches, walked. -/
import Derived.Test.YtdmkkkfdigeinaaDoorMtR
namespace Go.Proofs.YtdmkkkfdigeinaaDoor
open Go.RowKit

theorem mt_exA : mt (ByteArray.mk #[97, 42, 63]).data.toList (ByteArray.mk #[97, 98, 99]).data.toList = true := mt_ex1
theorem mt_exB : mt (ByteArray.mk #[97, 42, 63]).data.toList (ByteArray.mk #[97]).data.toList = false := mt_ex2

set_option maxHeartbeats 400000 in
theorem matches_walk (p s : ByteArray) (w : World) (hp : p.size ≤ 140737488351232) (hs : s.size ≤ 140737488351232) :
    Calls Tryd.prog 5 #[.string p, .string s] w fun e w' => e = .returned (.bool true) ∧ Below w.heap.size w w' := by
  go_enter Tryd.func5, Tryd.ntmps5
  go_wp2_with fail
  refine (match_any _ _ _ (by decide) (by decide)).mono ?_
  rintro e w1 ⟨rfl, B1⟩
  rw [mt_exA]
  go_wp2_with fail
  refine (match_any _ _ _ (by decide) (by decide)).mono ?_
  rintro e w2 ⟨rfl, b2⟩
  rw [mt_exB]
  have B2 : Below w.heap.size w w2 := B1.trans (b2.mono B1.size)
  clear B1 b2
  go_wp2_with fail
  refine (match_any _ _ _ hp hs).mono ?_
  rintro e w3 ⟨rfl, b3⟩
  have B3 : Below w.heap.size w w3 := B2.trans (b3.mono B2.size)
  clear B2 b3
  go_wp2_with fail
  refine (rmatch_any _ _ _ hp hs).mono ?_
  rintro e w4 ⟨rfl, b4⟩
  have B4 : Below w.heap.size w w4 := B3.trans (b4.mono B3.size)
  clear B3 b4
  generalize mt p.data.toList s.data.toList = R
  have hb : (R == R) = true := by simp
  go_wp2
  go_ret
  exact ⟨rfl, B4⟩

end Go.Proofs.YtdmkkkfdigeinaaDoor
