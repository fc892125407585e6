/-
  DERIVED. GIVEN WITH THE SEED: THE CARDS: each row of YtjlbbnjcdickgacDoorRows.lean that lists a variable, with what it lists TIED to the program's text (the seventh form; the later family's looks); each row that meets fmt, with fmt's text TOLD by the authors' own Lean function (tested against real Go, not proved from fmt's source: count such statements apart). THE CARD IS WHAT COUNTS. Prove the row's statement (the work); the ties are given (YtjlbbnjcdickgacDoorTie.lean); close each card by the builder's one call (the guide's Derived/Test/ToyasCard.lean, 'card_holds'). Laid BY PROGRAM, IN A SANDBOX (cutbox-door.mjs). By AI agents, Wed Nov 11 2026. No macro, syntax, notation, axiom, sorry.
-/
import Derived.Test.YtjlbbnjcdickgacDoorRows
import GoSem.ClaimSeven
namespace Go.Proofs.YtjlbbnjcdickgacDoor
namespace Rows

/-- THE TIED CARD OF 'depotlaw04.GaugeMeans'. -/
def gaugeMeansCard : Claim7 := { stood := { row := gaugeMeansRow, standIns := [], harness := (true, "39339c18cc7ea50bdaaf9e87677828c30e4aabc252de4ed20b3ede127dff9218"), looks := false }, kinds := [], alts := [], laidByText := true, laidKinds := [.data], laidTests := true, laidLooks := .later }
def GaugeMeansCardSaid : Prop := Claim7.holds Tryd.pinned (.plain (OpenSpec.ofChange gaugeMeansSpec)) gaugeMeansCard

/-- THE TIED CARD OF 'depotlaw04.GaugeBack'. -/
def gaugeBackCard : Claim7 := { stood := { row := gaugeBackRow, standIns := [], harness := (true, "39339c18cc7ea50bdaaf9e87677828c30e4aabc252de4ed20b3ede127dff9218"), looks := false }, kinds := [], alts := [], laidByText := true, laidKinds := [.data], laidTests := true, laidLooks := .later }
def GaugeBackCardSaid : Prop := Claim7.holds Tryd.pinned (.plain (OpenSpec.ofChange gaugeBackSpec)) gaugeBackCard

/-- THE TIED CARD OF 'depotlaw04.GaugeNear'. -/
def gaugeNearCard : Claim7 := { stood := { row := gaugeNearRow, standIns := [], harness := (true, "39339c18cc7ea50bdaaf9e87677828c30e4aabc252de4ed20b3ede127dff9218"), looks := false }, kinds := [], alts := [], laidByText := true, laidKinds := [.data], laidTests := true, laidLooks := .later }
def GaugeNearCardSaid : Prop := Claim7.holds Tryd.pinned (.plain (OpenSpec.ofChange gaugeNearSpec)) gaugeNearCard

/-- THE SECOND FORM's CARD OF 'depotlaw04.GaugeMeans'. -/
def gaugeMeansUptoCard : Claim7 := { stood := { row := gaugeMeansUptoRow, standIns := [], harness := (true, "39339c18cc7ea50bdaaf9e87677828c30e4aabc252de4ed20b3ede127dff9218"), looks := false }, kinds := [], alts := [], laidByText := true, laidKinds := [.data], laidTests := true, laidLooks := .later }
def GaugeMeansUptoCardSaid : Prop := Claim7.holds Tryd.pinned (.plain (OpenSpec.upto gaugeMeansSpec)) gaugeMeansUptoCard

/-- THE SECOND FORM's CARD OF 'depotlaw04.GaugeBack'. -/
def gaugeBackUptoCard : Claim7 := { stood := { row := gaugeBackUptoRow, standIns := [], harness := (true, "39339c18cc7ea50bdaaf9e87677828c30e4aabc252de4ed20b3ede127dff9218"), looks := false }, kinds := [], alts := [], laidByText := true, laidKinds := [.data], laidTests := true, laidLooks := .later }
def GaugeBackUptoCardSaid : Prop := Claim7.holds Tryd.pinned (.plain (OpenSpec.upto gaugeBackSpec)) gaugeBackUptoCard

/-- THE SECOND FORM's CARD OF 'depotlaw04.GaugeNear'. -/
def gaugeNearUptoCard : Claim7 := { stood := { row := gaugeNearUptoRow, standIns := [], harness := (true, "39339c18cc7ea50bdaaf9e87677828c30e4aabc252de4ed20b3ede127dff9218"), looks := false }, kinds := [], alts := [], laidByText := true, laidKinds := [.data], laidTests := true, laidLooks := .later }
def GaugeNearUptoCardSaid : Prop := Claim7.holds Tryd.pinned (.plain (OpenSpec.upto gaugeNearSpec)) gaugeNearUptoCard
end Rows
end Go.Proofs.YtjlbbnjcdickgacDoor
