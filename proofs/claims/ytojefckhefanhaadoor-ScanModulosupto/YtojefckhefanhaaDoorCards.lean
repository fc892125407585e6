/-
  DERIVED. GIVEN WITH THE SEED: THE CARDS: each row of YtojefckhefanhaaDoorRows.lean that lists a variable, with what it lists TIED to the program's text (the seventh form; the later family's looks); each row that meets fmt, with fmt's text TOLD by the authors' own Lean function (tested against real Go, not proved from fmt's source: count such statements apart). THE CARD IS WHAT COUNTS. Prove the row's statement (the work); the ties are given (YtojefckhefanhaaDoorTie.lean); close each card by the builder's one call (the guide's Derived/Test/ToyasCard.lean, 'card_holds'). Laid BY PROGRAM, IN A SANDBOX (cutbox-door.mjs). By AI agents, Wed Nov 11 2026. No macro, syntax, notation, axiom, sorry.
-/
import Derived.Test.YtojefckhefanhaaDoorRows
import GoSem.ClaimSeven
namespace Go.Proofs.YtojefckhefanhaaDoor
namespace Rows

/-- THE TIED CARD OF 'depotlaw14.ScanModulos'. -/
def scanModulosCard : Claim7 := { stood := { row := scanModulosRow, standIns := [], harness := (true, "b57676add676d369bbff6c3dfc830c66cc9a62973babaf19fd4e5e3a008b2685"), looks := false }, kinds := [], alts := [], laidByText := true, laidKinds := [.data, .data, .data, .data], laidTests := true, laidLooks := .later }
def ScanModulosCardSaid : Prop := Claim7.holds Tryd.pinned (.plain (OpenSpec.ofChange scanModulosSpec)) scanModulosCard

/-- THE SECOND FORM's CARD OF 'depotlaw14.ScanModulos'. -/
def scanModulosUptoCard : Claim7 := { stood := { row := scanModulosUptoRow, standIns := [], harness := (true, "b57676add676d369bbff6c3dfc830c66cc9a62973babaf19fd4e5e3a008b2685"), looks := false }, kinds := [], alts := [], laidByText := true, laidKinds := [.data, .data, .data, .data], laidTests := true, laidLooks := .later }
def ScanModulosUptoCardSaid : Prop := Claim7.holds Tryd.pinned (.plain (OpenSpec.upto scanModulosSpec)) scanModulosUptoCard
end Rows
end Go.Proofs.YtojefckhefanhaaDoor
