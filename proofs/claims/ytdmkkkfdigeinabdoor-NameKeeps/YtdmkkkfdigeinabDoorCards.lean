/-
  DERIVED. GIVEN WITH THE SEED: THE CARDS: each row of YtdmkkkfdigeinabDoorRows.lean that lists a variable, with what it lists TIED to the program's text (the seventh form; the later family's looks); each row that meets fmt, with fmt's text TOLD by the authors' own Lean function (tested against real Go, not proved from fmt's source: count such statements apart). THE CARD IS WHAT COUNTS. Prove the row's statement (the work); the ties are given (YtdmkkkfdigeinabDoorTie.lean); close each card by the builder's one call (the guide's Derived/Test/ToyasCard.lean, 'card_holds'). Laid BY PROGRAM, IN A SANDBOX (cutbox-door.mjs). By AI agents, Wed Nov 11 2026. No macro, syntax, notation, axiom, sorry.
-/
import Derived.Test.YtdmkkkfdigeinabDoorRows
import GoSem.ClaimSeven
namespace Go.Proofs.YtdmkkkfdigeinabDoor
namespace Rows

/-- THE TIED CARD OF 'depotlaw05.NameBelow'. -/
def nameBelowCard : Claim7 := { stood := { row := nameBelowRow, standIns := [], harness := (true, "bd67b82196e0d6cf8ccd5c2eb19a67cdca7cf86f2e856e0b7934284a9a950ed4"), looks := false }, kinds := [], alts := [], laidByText := true, laidKinds := [.data, .pinned], laidTests := true, laidLooks := .later }
def NameBelowCardSaid : Prop := Claim7.holds Tryd.pinned (.plain (OpenSpec.ofChange nameBelowSpec)) nameBelowCard

/-- THE TIED CARD OF 'depotlaw05.NameStars'. -/
def nameStarsCard : Claim7 := { stood := { row := nameStarsRow, standIns := [], harness := (true, "bd67b82196e0d6cf8ccd5c2eb19a67cdca7cf86f2e856e0b7934284a9a950ed4"), looks := false }, kinds := [], alts := [], laidByText := true, laidKinds := [.data, .pinned], laidTests := true, laidLooks := .later }
def NameStarsCardSaid : Prop := Claim7.holds Tryd.pinned (.plain (OpenSpec.ofChange nameStarsSpec)) nameStarsCard

/-- THE TIED CARD OF 'depotlaw05.NameKeeps'. -/
def nameKeepsCard : Claim7 := { stood := { row := nameKeepsRow, standIns := [], harness := (true, "bd67b82196e0d6cf8ccd5c2eb19a67cdca7cf86f2e856e0b7934284a9a950ed4"), looks := false }, kinds := [], alts := [], laidByText := true, laidKinds := [.data, .pinned], laidTests := true, laidLooks := .later }
def NameKeepsCardSaid : Prop := Claim7.holds Tryd.pinned (.plain (OpenSpec.ofChange nameKeepsSpec)) nameKeepsCard

/-- THE SECOND FORM's CARD OF 'depotlaw05.NameBelow'. -/
def nameBelowUptoCard : Claim7 := { stood := { row := nameBelowUptoRow, standIns := [], harness := (true, "bd67b82196e0d6cf8ccd5c2eb19a67cdca7cf86f2e856e0b7934284a9a950ed4"), looks := false }, kinds := [], alts := [], laidByText := true, laidKinds := [.data, .pinned], laidTests := true, laidLooks := .later }
def NameBelowUptoCardSaid : Prop := Claim7.holds Tryd.pinned (.plain (OpenSpec.upto nameBelowSpec)) nameBelowUptoCard

/-- THE SECOND FORM's CARD OF 'depotlaw05.NameStars'. -/
def nameStarsUptoCard : Claim7 := { stood := { row := nameStarsUptoRow, standIns := [], harness := (true, "bd67b82196e0d6cf8ccd5c2eb19a67cdca7cf86f2e856e0b7934284a9a950ed4"), looks := false }, kinds := [], alts := [], laidByText := true, laidKinds := [.data, .pinned], laidTests := true, laidLooks := .later }
def NameStarsUptoCardSaid : Prop := Claim7.holds Tryd.pinned (.plain (OpenSpec.upto nameStarsSpec)) nameStarsUptoCard

/-- THE SECOND FORM's CARD OF 'depotlaw05.NameKeeps'. -/
def nameKeepsUptoCard : Claim7 := { stood := { row := nameKeepsUptoRow, standIns := [], harness := (true, "bd67b82196e0d6cf8ccd5c2eb19a67cdca7cf86f2e856e0b7934284a9a950ed4"), looks := false }, kinds := [], alts := [], laidByText := true, laidKinds := [.data, .pinned], laidTests := true, laidLooks := .later }
def NameKeepsUptoCardSaid : Prop := Claim7.holds Tryd.pinned (.plain (OpenSpec.upto nameKeepsSpec)) nameKeepsUptoCard
end Rows
end Go.Proofs.YtdmkkkfdigeinabDoor
