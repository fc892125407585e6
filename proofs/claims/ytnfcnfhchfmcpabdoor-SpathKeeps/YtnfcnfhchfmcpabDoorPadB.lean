/- The document's padding: what the reference's Pad answers for every n from 0 on: the same string. -/
import Derived.Test.YtnfcnfhchfmcpabDoorPadA
namespace Go.Proofs.YtnfcnfhchfmcpabDoor
open Go.RowKit
theorem padFn_low (n : Int) (z j : Nat) (h : j < z + 1) : padFn n z 0 j = padFn n z 8 j := by
  unfold padFn
  by_cases e : j = 0
  · rw [if_pos e, if_pos e]
  · rw [if_neg e, if_neg e, if_neg (by omega), if_neg (by omega)]

end Go.Proofs.YtnfcnfhchfmcpabDoor
