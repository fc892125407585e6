/- The document's Parse; spath.Base and Full, walked. -/
import Derived.Test.YtnfcnfhchfmcpabDoorPtE
namespace Go.Proofs.YtnfcnfhchfmcpabDoor
open Go.RowKit

theorem dirS_list : dirS.toList = [47, 100, 101, 112, 111, 116, 47, 115, 116, 111, 114, 101, 47] := by decide +kernel

theorem prC_size {p : ByteArray} (h : prC p = 0) : 46 ≤ p.size := by
  by_cases g : shp p
  · exact g.1
  · rw [prC_shape g] at h; omega

end Go.Proofs.YtnfcnfhchfmcpabDoor
