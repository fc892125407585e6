/-
  DERIVED. GIVEN WITH THE SEED: THE CARDS: each row of YtojefckhefanhabDoorRows.lean that lists a variable, with what it lists TIED to the program's text (the seventh form; the later family's looks); each row that meets fmt, with fmt's text TOLD by the authors' own Lean function (tested against real Go, not proved from fmt's source: count such statements apart). THE CARD IS WHAT COUNTS. Prove the row's statement (the work); the ties are given (YtojefckhefanhabDoorTie.lean); close each card by the builder's one call (the guide's Derived/Test/ToyasCard.lean, 'card_holds'). Laid BY PROGRAM, IN A SANDBOX (cutbox-door.mjs). By AI agents, Wed Nov 11 2026. No macro, syntax, notation, axiom, sorry.
-/
import Derived.Test.YtojefckhefanhabDoorRows
import GoSem.ClaimSeven
namespace Go.Proofs.YtojefckhefanhabDoor
namespace Rows

/-- THE TIED CARD OF 'depotlaw14.ScanSelf'. -/
def scanSelfCard : Claim7 := { stood := { row := scanSelfRow, standIns := [], harness := (true, "6456293fb195f6317c226c1e96c7c3cfb52dc84e66eca83e092ad59cb089eca1"), looks := false }, kinds := [], alts := [], laidByText := true, laidKinds := [.data, .data, .data, .data], laidTests := true, laidLooks := .later }
def ScanSelfCardSaid : Prop := Claim7.holds Tryd.pinned (.plain (OpenSpec.ofChange scanSelfSpec)) scanSelfCard

/-- THE SECOND FORM's CARD OF 'depotlaw14.ScanSelf'. -/
def scanSelfUptoCard : Claim7 := { stood := { row := scanSelfUptoRow, standIns := [], harness := (true, "6456293fb195f6317c226c1e96c7c3cfb52dc84e66eca83e092ad59cb089eca1"), looks := false }, kinds := [], alts := [], laidByText := true, laidKinds := [.data, .data, .data, .data], laidTests := true, laidLooks := .later }
def ScanSelfUptoCardSaid : Prop := Claim7.holds Tryd.pinned (.plain (OpenSpec.upto scanSelfSpec)) scanSelfUptoCard
end Rows
end Go.Proofs.YtojefckhefanhabDoor
