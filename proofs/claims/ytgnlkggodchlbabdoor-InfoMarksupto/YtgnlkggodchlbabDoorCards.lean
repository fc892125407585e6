/-
  DERIVED. GIVEN WITH THE SEED: THE CARDS: each row of YtgnlkggodchlbabDoorRows.lean that lists a variable, with what it lists TIED to the program's text (the seventh form; the later family's looks); each row that meets fmt, with fmt's text TOLD by the authors' own Lean function (tested against real Go, not proved from fmt's source: count such statements apart). THE CARD IS WHAT COUNTS. Prove the row's statement (the work); the ties are given (YtgnlkggodchlbabDoorTie.lean); close each card by the builder's one call (the guide's Derived/Test/ToyasCard.lean, 'card_holds'). Laid BY PROGRAM, IN A SANDBOX (cutbox-door.mjs). By AI agents, Wed Nov 11 2026. No macro, syntax, notation, axiom, sorry.
-/
import Derived.Test.YtgnlkggodchlbabDoorRows
import GoSem.ClaimSeven
namespace Go.Proofs.YtgnlkggodchlbabDoor
namespace Rows

/-- THE TIED CARD OF 'depotlaw15.InfoMarks'. -/
def infoMarksCard : Claim7 := { stood := { row := infoMarksRow, standIns := [], harness := (true, "6ea20a2ad49b0482991e36240197aa3569d344c5c7e20f90186e09a2ddbbf650"), looks := false }, kinds := [], alts := [], laidByText := true, laidKinds := [.data, .data, .data, .data, .pinned], laidTests := true, laidLooks := .later }
def InfoMarksCardSaid : Prop := Claim7.holds Tryd.pinned (.plain (OpenSpec.ofChange infoMarksSpec)) infoMarksCard

/-- THE TIED CARD OF 'depotlaw15.InfoKeeps'. -/
def infoKeepsCard : Claim7 := { stood := { row := infoKeepsRow, standIns := [], harness := (true, "6ea20a2ad49b0482991e36240197aa3569d344c5c7e20f90186e09a2ddbbf650"), looks := false }, kinds := [], alts := [], laidByText := true, laidKinds := [.data, .data, .data, .data, .pinned], laidTests := true, laidLooks := .later }
def InfoKeepsCardSaid : Prop := Claim7.holds Tryd.pinned (.plain (OpenSpec.ofChange infoKeepsSpec)) infoKeepsCard

/-- THE SECOND FORM's CARD OF 'depotlaw15.InfoMarks'. -/
def infoMarksUptoCard : Claim7 := { stood := { row := infoMarksUptoRow, standIns := [], harness := (true, "6ea20a2ad49b0482991e36240197aa3569d344c5c7e20f90186e09a2ddbbf650"), looks := false }, kinds := [], alts := [], laidByText := true, laidKinds := [.data, .data, .data, .data, .pinned], laidTests := true, laidLooks := .later }
def InfoMarksUptoCardSaid : Prop := Claim7.holds Tryd.pinned (.plain (OpenSpec.upto infoMarksSpec)) infoMarksUptoCard

/-- THE SECOND FORM's CARD OF 'depotlaw15.InfoKeeps'. -/
def infoKeepsUptoCard : Claim7 := { stood := { row := infoKeepsUptoRow, standIns := [], harness := (true, "6ea20a2ad49b0482991e36240197aa3569d344c5c7e20f90186e09a2ddbbf650"), looks := false }, kinds := [], alts := [], laidByText := true, laidKinds := [.data, .data, .data, .data, .pinned], laidTests := true, laidLooks := .later }
def InfoKeepsUptoCardSaid : Prop := Claim7.holds Tryd.pinned (.plain (OpenSpec.upto infoKeepsSpec)) infoKeepsUptoCard
end Rows
end Go.Proofs.YtgnlkggodchlbabDoor
