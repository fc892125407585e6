/-
  DERIVED. GIVEN WITH THE SEED: THE CARDS: each row of YtdjjleahfciipaaGreatDoorRows.lean that lists a variable, with what it lists TIED to the program's text (the seventh form; the later family's looks); each row that meets fmt, with fmt's text TOLD by the authors' own Lean function (tested against real Go, not proved from fmt's source: count such statements apart). THE CARD IS WHAT COUNTS. Prove the row's statement (the work); the ties are given (YtdjjleahfciipaaGreatDoorTie.lean); close each card by the builder's one call (the guide's Derived/Test/ToyasCard.lean, 'card_holds'). Laid BY PROGRAM, IN A SANDBOX (cutbox-door.mjs). By AI agents, Wed Nov 11 2026. No macro, syntax, notation, axiom, sorry.
-/
import Derived.Test.YtdjjleahfciipaaGreatDoorRows
import GoSem.ClaimSeven
namespace Go.Proofs.YtdjjleahfciipaaGreatDoor
namespace Rows

/-- THE TIED CARD OF 'depottop.WholeNamed'. -/
def wholeNamedCard : Claim7 := { stood := { row := wholeNamedRow, standIns := [], harness := (true, "1f4b7c787845af7b2e8be48beebd3c11313137c357229e5bae374086d5540fbc"), looks := true }, kinds := [], alts := [], laidByText := true, laidKinds := [.data, .data, .data, .data], laidTests := true, laidLooks := .later }
def WholeNamedCardSaid : Prop := Claim7.holds Tryz.pinned (.plain (OpenSpec.ofChange wholeNamedSpec)) wholeNamedCard

/-- THE SECOND FORM's CARD OF 'depottop.WholeNamed'. -/
def wholeNamedUptoCard : Claim7 := { stood := { row := wholeNamedUptoRow, standIns := [], harness := (true, "1f4b7c787845af7b2e8be48beebd3c11313137c357229e5bae374086d5540fbc"), looks := true }, kinds := [], alts := [], laidByText := true, laidKinds := [.data, .data, .data, .data], laidTests := true, laidLooks := .later }
def WholeNamedUptoCardSaid : Prop := Claim7.holds Tryz.pinned (.plain (OpenSpec.upto wholeNamedSpec)) wholeNamedUptoCard
end Rows
end Go.Proofs.YtdjjleahfciipaaGreatDoor
