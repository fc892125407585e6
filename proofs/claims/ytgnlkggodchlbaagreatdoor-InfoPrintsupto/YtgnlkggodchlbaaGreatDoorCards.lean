/-
  DERIVED. GIVEN WITH THE SEED: THE CARDS: each row of YtgnlkggodchlbaaGreatDoorRows.lean that lists a variable, with what it lists TIED to the program's text (the seventh form; the later family's looks); each row that meets fmt, with fmt's text TOLD by the authors' own Lean function (tested against real Go, not proved from fmt's source: count such statements apart). THE CARD IS WHAT COUNTS. Prove the row's statement (the work); the ties are given (YtgnlkggodchlbaaGreatDoorTie.lean); close each card by the builder's one call (the guide's Derived/Test/ToyasCard.lean, 'card_holds'). Laid BY PROGRAM, IN A SANDBOX (cutbox-door.mjs). By AI agents, Wed Nov 11 2026. No macro, syntax, notation, axiom, sorry.
-/
import Derived.Test.YtgnlkggodchlbaaGreatDoorRows
import GoSem.ClaimSeven
namespace Go.Proofs.YtgnlkggodchlbaaGreatDoor
namespace Rows

/-- THE TIED CARD OF 'depotlaw15.InfoPrints'. -/
def infoPrintsCard : Claim7 := { stood := { row := infoPrintsRow, standIns := [], harness := (true, "73cd2cb4a6cdf8a0dadd61815532f02722f33897dc1bd2156f37ae6947c52666"), looks := false }, kinds := [], alts := [], laidByText := true, laidKinds := [.data, .data, .data, .data, .pinned], laidTests := true, laidLooks := .later }
def InfoPrintsCardSaid : Prop := Claim7.holds Tryz.pinned (.plain (OpenSpec.ofChange infoPrintsSpec)) infoPrintsCard

/-- THE SECOND FORM's CARD OF 'depotlaw15.InfoPrints'. -/
def infoPrintsUptoCard : Claim7 := { stood := { row := infoPrintsUptoRow, standIns := [], harness := (true, "73cd2cb4a6cdf8a0dadd61815532f02722f33897dc1bd2156f37ae6947c52666"), looks := false }, kinds := [], alts := [], laidByText := true, laidKinds := [.data, .data, .data, .data, .pinned], laidTests := true, laidLooks := .later }
def InfoPrintsUptoCardSaid : Prop := Claim7.holds Tryz.pinned (.plain (OpenSpec.upto infoPrintsSpec)) infoPrintsUptoCard
end Rows
end Go.Proofs.YtgnlkggodchlbaaGreatDoor
