/- The law's same: a word and itself. -/
import Derived.Test.YtjlbbnjcdickgacDoorGN
namespace Go.Proofs.YtjlbbnjcdickgacDoor
open Go.RowKit

set_option maxHeartbeats 400000 in
theorem same_self (X : Nat) (w : World) :
    Calls Tryd.prog 11 #[.float .f64 X, .int .u64 X] w fun e w' => e = .returned (.bool true) ∧ w' = w := by
  have f1 := from_run (X : Int)
  have b1 := bits_run X
  rw [Int.toNat_natCast] at f1
  have n1 := self_ne X
  cases hn : nn X
  all_goals
    rw [hn] at n1
    clear hn
    go_enter Tryd.func11, Tryd.ntmps11
    go_wp2
    go_ret
    exact ⟨rfl, rfl⟩

end Go.Proofs.YtjlbbnjcdickgacDoor
