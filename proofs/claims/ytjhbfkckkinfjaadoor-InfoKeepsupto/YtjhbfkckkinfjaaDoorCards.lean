/-
  DERIVED. GIVEN WITH THE SEED: THE CARDS: each row of YtjhbfkckkinfjaaDoorRows.lean that lists a variable, with what it lists TIED to the program's text (the seventh form; the later family's looks); each row that meets fmt, with fmt's text TOLD by the authors' own Lean function (tested against real Go, not proved from fmt's source: count such statements apart). THE CARD IS WHAT COUNTS. Prove the row's statement (the work); the ties are given (YtjhbfkckkinfjaaDoorTie.lean); close each card by the builder's one call (the guide's Derived/Test/ToyasCard.lean, 'card_holds'). Laid BY PROGRAM, IN A SANDBOX (cutbox-door.mjs). By AI agents, Wed Nov 11 2026. No macro, syntax, notation, axiom, sorry.
-/
import Derived.Test.YtjhbfkckkinfjaaDoorRows
import GoSem.ClaimSeven
namespace Go.Proofs.YtjhbfkckkinfjaaDoor
namespace Rows

/-- THE TIED CARD OF 'depotlaw15.InfoKeeps'. -/
def infoKeepsCard : Claim7 := { stood := { row := infoKeepsRow, standIns := [], harness := (true, "eac154b8c42eb47b00684a4632b0eeed5e6fa3bc6c0d1dcef4af9b8e80195c20"), looks := false }, kinds := [], alts := [], laidByText := true, laidKinds := [.data, .data, .data, .data, .pinned], laidTests := true, laidLooks := .later }
def InfoKeepsCardSaid : Prop := Claim7.holds Tryd.pinned (.plain (OpenSpec.ofChange infoKeepsSpec)) infoKeepsCard

/-- THE SECOND FORM's CARD OF 'depotlaw15.InfoKeeps'. -/
def infoKeepsUptoCard : Claim7 := { stood := { row := infoKeepsUptoRow, standIns := [], harness := (true, "eac154b8c42eb47b00684a4632b0eeed5e6fa3bc6c0d1dcef4af9b8e80195c20"), looks := false }, kinds := [], alts := [], laidByText := true, laidKinds := [.data, .data, .data, .data, .pinned], laidTests := true, laidLooks := .later }
def InfoKeepsUptoCardSaid : Prop := Claim7.holds Tryd.pinned (.plain (OpenSpec.upto infoKeepsSpec)) infoKeepsUptoCard
end Rows
end Go.Proofs.YtjhbfkckkinfjaaDoor
