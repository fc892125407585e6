/-
  DERIVED. GIVEN WITH THE SEED: THE CARDS: each row of YtnfcnfhchfmcpabDoorRows.lean that lists a variable, with what it lists TIED to the program's text (the seventh form; the later family's looks); each row that meets fmt, with fmt's text TOLD by the authors' own Lean function (tested against real Go, not proved from fmt's source: count such statements apart). THE CARD IS WHAT COUNTS. Prove the row's statement (the work); the ties are given (YtnfcnfhchfmcpabDoorTie.lean); close each card by the builder's one call (the guide's Derived/Test/ToyasCard.lean, 'card_holds'). Laid BY PROGRAM, IN A SANDBOX (cutbox-door.mjs). By AI agents, Wed Nov 11 2026. No macro, syntax, notation, axiom, sorry.
-/
import Derived.Test.YtnfcnfhchfmcpabDoorRows
import GoSem.ClaimSeven
namespace Go.Proofs.YtnfcnfhchfmcpabDoor
namespace Rows

/-- THE TIED CARD OF 'depotlaw13.SpathKeeps'. -/
def spathKeepsCard : Claim7 := { stood := { row := spathKeepsRow, standIns := [], harness := (true, "ded1214da706aefb919e02c6f5beaf0eb27bc9cf3edf2e6bd1ef86927a3abb5b"), looks := false }, kinds := [], alts := [], laidByText := true, laidKinds := [.data], laidTests := true, laidLooks := .later }
def SpathKeepsCardSaid : Prop := Claim7.holds Tryd.pinned (.plain (OpenSpec.ofChange spathKeepsSpec)) spathKeepsCard

/-- THE SECOND FORM's CARD OF 'depotlaw13.SpathKeeps'. -/
def spathKeepsUptoCard : Claim7 := { stood := { row := spathKeepsUptoRow, standIns := [], harness := (true, "ded1214da706aefb919e02c6f5beaf0eb27bc9cf3edf2e6bd1ef86927a3abb5b"), looks := false }, kinds := [], alts := [], laidByText := true, laidKinds := [.data], laidTests := true, laidLooks := .later }
def SpathKeepsUptoCardSaid : Prop := Claim7.holds Tryd.pinned (.plain (OpenSpec.upto spathKeepsSpec)) spathKeepsUptoCard
end Rows
end Go.Proofs.YtnfcnfhchfmcpabDoor
