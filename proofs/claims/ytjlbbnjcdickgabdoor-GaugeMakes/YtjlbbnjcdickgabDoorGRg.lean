/- The document's Near at every place. -/
import Derived.Test.YtjlbbnjcdickgabDoorGRd
namespace Go.Proofs.YtjlbbnjcdickgabDoor
open Go.RowKit

theorem near_any (s : Bool) (m : Nat) (e : Int) (r : Bool) (w : World) (hm : m ≤ 18446744073709551615) (hr : r = true → 2 ^ 53 ≤ m) :
    Calls Tryd.prog 26 #[.bool s, .int .u64 m, .int .i64 e, .bool r] w fun x w' => x = .returned (.int .u64 (Ieee.double.nearest s (2 * m + r.toNat) (e - 1))) ∧ w' = w := by
  by_cases h0 : m = 0
  · subst h0
    have : r = false := by cases r; rfl; exact absurd (hr rfl) (by decide)
    subst this
    exact near_zero s e w
  · by_cases h1 : 1100 < e
    · exact near_high s m e r w (by omega) h1
    · by_cases h2 : e < -1300
      · exact near_low s m e r w (by omega) hm h2
      · exact near_main s m e r w (by omega) hm (by omega) (by omega) hr

end Go.Proofs.YtjlbbnjcdickgabDoor
