/-
  DERIVED. GIVEN WITH THE SEED: THE CARDS: each row of YtjlbbnjcdickgabDoorRows.lean that lists a variable, with what it lists TIED to the program's text (the seventh form; the later family's looks); each row that meets fmt, with fmt's text TOLD by the authors' own Lean function (tested against real Go, not proved from fmt's source: count such statements apart). THE CARD IS WHAT COUNTS. Prove the row's statement (the work); the ties are given (YtjlbbnjcdickgabDoorTie.lean); close each card by the builder's one call (the guide's Derived/Test/ToyasCard.lean, 'card_holds'). Laid BY PROGRAM, IN A SANDBOX (cutbox-door.mjs). By AI agents, Wed Nov 11 2026. No macro, syntax, notation, axiom, sorry.
-/
import Derived.Test.YtjlbbnjcdickgabDoorRows
import GoSem.ClaimSeven
namespace Go.Proofs.YtjlbbnjcdickgabDoor
namespace Rows

/-- THE TIED CARD OF 'depotlaw04.GaugeParts'. -/
def gaugePartsCard : Claim7 := { stood := { row := gaugePartsRow, standIns := [], harness := (true, "bc3e70ddf9968c6c567269ecfa0fd6f6ff37fbd45bc8d6406654e01ea8cf3d71"), looks := false }, kinds := [], alts := [], laidByText := true, laidKinds := [.data], laidTests := true, laidLooks := .later }
def GaugePartsCardSaid : Prop := Claim7.holds Tryd.pinned (.plain (OpenSpec.ofChange gaugePartsSpec)) gaugePartsCard

/-- THE TIED CARD OF 'depotlaw04.GaugeMakes'. -/
def gaugeMakesCard : Claim7 := { stood := { row := gaugeMakesRow, standIns := [], harness := (true, "bc3e70ddf9968c6c567269ecfa0fd6f6ff37fbd45bc8d6406654e01ea8cf3d71"), looks := false }, kinds := [], alts := [], laidByText := true, laidKinds := [.data], laidTests := true, laidLooks := .later }
def GaugeMakesCardSaid : Prop := Claim7.holds Tryd.pinned (.plain (OpenSpec.ofChange gaugeMakesSpec)) gaugeMakesCard

/-- THE TIED CARD OF 'depotlaw04.GaugeTurns'. -/
def gaugeTurnsCard : Claim7 := { stood := { row := gaugeTurnsRow, standIns := [], harness := (true, "bc3e70ddf9968c6c567269ecfa0fd6f6ff37fbd45bc8d6406654e01ea8cf3d71"), looks := false }, kinds := [], alts := [], laidByText := true, laidKinds := [.data], laidTests := true, laidLooks := .later }
def GaugeTurnsCardSaid : Prop := Claim7.holds Tryd.pinned (.plain (OpenSpec.ofChange gaugeTurnsSpec)) gaugeTurnsCard

/-- THE SECOND FORM's CARD OF 'depotlaw04.GaugeParts'. -/
def gaugePartsUptoCard : Claim7 := { stood := { row := gaugePartsUptoRow, standIns := [], harness := (true, "bc3e70ddf9968c6c567269ecfa0fd6f6ff37fbd45bc8d6406654e01ea8cf3d71"), looks := false }, kinds := [], alts := [], laidByText := true, laidKinds := [.data], laidTests := true, laidLooks := .later }
def GaugePartsUptoCardSaid : Prop := Claim7.holds Tryd.pinned (.plain (OpenSpec.upto gaugePartsSpec)) gaugePartsUptoCard

/-- THE SECOND FORM's CARD OF 'depotlaw04.GaugeMakes'. -/
def gaugeMakesUptoCard : Claim7 := { stood := { row := gaugeMakesUptoRow, standIns := [], harness := (true, "bc3e70ddf9968c6c567269ecfa0fd6f6ff37fbd45bc8d6406654e01ea8cf3d71"), looks := false }, kinds := [], alts := [], laidByText := true, laidKinds := [.data], laidTests := true, laidLooks := .later }
def GaugeMakesUptoCardSaid : Prop := Claim7.holds Tryd.pinned (.plain (OpenSpec.upto gaugeMakesSpec)) gaugeMakesUptoCard

/-- THE SECOND FORM's CARD OF 'depotlaw04.GaugeTurns'. -/
def gaugeTurnsUptoCard : Claim7 := { stood := { row := gaugeTurnsUptoRow, standIns := [], harness := (true, "bc3e70ddf9968c6c567269ecfa0fd6f6ff37fbd45bc8d6406654e01ea8cf3d71"), looks := false }, kinds := [], alts := [], laidByText := true, laidKinds := [.data], laidTests := true, laidLooks := .later }
def GaugeTurnsUptoCardSaid : Prop := Claim7.holds Tryd.pinned (.plain (OpenSpec.upto gaugeTurnsSpec)) gaugeTurnsUptoCard
end Rows
end Go.Proofs.YtjlbbnjcdickgabDoor
