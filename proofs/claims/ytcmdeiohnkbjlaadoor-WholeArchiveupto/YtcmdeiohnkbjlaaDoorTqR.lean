/- The document's Equal of trees, walked. -/
import Derived.Test.YtcmdeiohnkbjlaaDoorTqA
import Derived.Deep.QuietTactic
import Derived.BigQuiet
import Derived.Deep.RegionHeld3
namespace Go.Proofs.YtcmdeiohnkbjlaaDoor
open Go.RowKit

theorem belR_drewN {B : Nat} {a w : World} (h : Below B a w) (q : Nat) : Below B a (w.drewN q) := h.trans ⟨rfl, rfl, rfl, Nat.le_refl _, fun _ _ => rfl⟩

end Go.Proofs.YtcmdeiohnkbjlaaDoor
