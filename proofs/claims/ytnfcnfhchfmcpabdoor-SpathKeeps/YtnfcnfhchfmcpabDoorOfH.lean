/- sha.Of, walked. -/
import Derived.Test.YtnfcnfhchfmcpabDoorOfG
namespace Go.Proofs.YtnfcnfhchfmcpabDoor
open Go.RowKit

theorem bt_left (a b : ByteArray) (i : Nat) (hi : i < a.size) : bt (a ++ b) i = bt a i := by
  rw [← get_bt a i hi, ← get_bt (a ++ b) i (by rw [ByteArray.size_append]; omega), ByteArray.getElem_append_left hi]
theorem bt_right (a b : ByteArray) (i : Nat) (hi : i < b.size) : bt (a ++ b) (a.size + i) = bt b i := by
  rw [← get_bt b i hi, ← get_bt (a ++ b) (a.size + i) (by rw [ByteArray.size_append]; omega), ByteArray.getElem_append_right (by omega)]
  simp

end Go.Proofs.YtnfcnfhchfmcpabDoor
