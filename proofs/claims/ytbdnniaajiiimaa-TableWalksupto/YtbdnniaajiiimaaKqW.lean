/- The law TableKeeps, walked. -/
import Derived.Test.YtbdnniaajiiimaaKpW
namespace Go.Proofs.Ytbdnniaajiiimaa
namespace TS
open Go.RowKit

/-- The text probe. -/
def prb : ByteArray := ⟨#[112, 114, 111, 98, 101]⟩
theorem prb1 : decide (((BT.E : BT ByteArray).cnt : Int) < ((BT.wth ltK prb 7 .E).cnt : Int)) = true := by decide +kernel
theorem prb2 : decide (((BT.wtout ltK (BT.wth ltK prb 7 .E) prb).cnt : Int) < ((BT.wth ltK prb 7 .E).cnt : Int)) = true := by decide +kernel
theorem prb3 : BT.wtout ltK (BT.wth ltK prb 7 .E) prb = .E := by
  have h : (ltK prb prb) = false := less_irr _
  simp [BT.wth, BT.wtout, h]
  rfl

end TS
end Go.Proofs.Ytbdnniaajiiimaa
