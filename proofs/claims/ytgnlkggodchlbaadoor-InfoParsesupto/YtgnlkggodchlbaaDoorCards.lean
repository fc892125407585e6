/-
  DERIVED. GIVEN WITH THE SEED: THE CARDS: each row of YtgnlkggodchlbaaDoorRows.lean that lists a variable, with what it lists TIED to the program's text (the seventh form; the later family's looks); each row that meets fmt, with fmt's text TOLD by the authors' own Lean function (tested against real Go, not proved from fmt's source: count such statements apart). THE CARD IS WHAT COUNTS. Prove the row's statement (the work); the ties are given (YtgnlkggodchlbaaDoorTie.lean); close each card by the builder's one call (the guide's Derived/Test/ToyasCard.lean, 'card_holds'). Laid BY PROGRAM, IN A SANDBOX (cutbox-door.mjs). By AI agents, Wed Nov 11 2026. No macro, syntax, notation, axiom, sorry.
-/
import Derived.Test.YtgnlkggodchlbaaDoorRows
import GoSem.ClaimSeven
namespace Go.Proofs.YtgnlkggodchlbaaDoor
namespace Rows

/-- THE TIED CARD OF 'depotlaw15.InfoChecks'. -/
def infoChecksCard : Claim7 := { stood := { row := infoChecksRow, standIns := [], harness := (true, "69c30729066e969dd32720e9d68795435c034a1d9ff72b4a2bcb9c1251417469"), looks := false }, kinds := [], alts := [], laidByText := true, laidKinds := [.data, .data, .data, .data, .pinned], laidTests := true, laidLooks := .later }
def InfoChecksCardSaid : Prop := Claim7.holds Tryd.pinned (.plain (OpenSpec.ofChange infoChecksSpec)) infoChecksCard

/-- THE TIED CARD OF 'depotlaw15.InfoParses'. -/
def infoParsesCard : Claim7 := { stood := { row := infoParsesRow, standIns := [], harness := (true, "69c30729066e969dd32720e9d68795435c034a1d9ff72b4a2bcb9c1251417469"), looks := false }, kinds := [], alts := [], laidByText := true, laidKinds := [.data, .data, .data, .data, .pinned], laidTests := true, laidLooks := .later }
def InfoParsesCardSaid : Prop := Claim7.holds Tryd.pinned (.plain (OpenSpec.ofChange infoParsesSpec)) infoParsesCard

/-- THE TIED CARD OF 'depotlaw15.InfoBack'. -/
def infoBackCard : Claim7 := { stood := { row := infoBackRow, standIns := [], harness := (true, "69c30729066e969dd32720e9d68795435c034a1d9ff72b4a2bcb9c1251417469"), looks := false }, kinds := [], alts := [], laidByText := true, laidKinds := [.data, .data, .data, .data, .pinned], laidTests := true, laidLooks := .later }
def InfoBackCardSaid : Prop := Claim7.holds Tryd.pinned (.plain (OpenSpec.ofChange infoBackSpec)) infoBackCard

/-- THE TIED CARD OF 'depotlaw15.InfoOne'. -/
def infoOneCard : Claim7 := { stood := { row := infoOneRow, standIns := [], harness := (true, "69c30729066e969dd32720e9d68795435c034a1d9ff72b4a2bcb9c1251417469"), looks := false }, kinds := [], alts := [], laidByText := true, laidKinds := [.data, .data, .data, .data, .pinned], laidTests := true, laidLooks := .later }
def InfoOneCardSaid : Prop := Claim7.holds Tryd.pinned (.plain (OpenSpec.ofChange infoOneSpec)) infoOneCard

/-- THE TIED CARD OF 'depotlaw15.InfoCuts'. -/
def infoCutsCard : Claim7 := { stood := { row := infoCutsRow, standIns := [], harness := (true, "69c30729066e969dd32720e9d68795435c034a1d9ff72b4a2bcb9c1251417469"), looks := false }, kinds := [], alts := [], laidByText := true, laidKinds := [.data, .data, .data, .data, .pinned], laidTests := true, laidLooks := .later }
def InfoCutsCardSaid : Prop := Claim7.holds Tryd.pinned (.plain (OpenSpec.ofChange infoCutsSpec)) infoCutsCard

/-- THE SECOND FORM's CARD OF 'depotlaw15.InfoChecks'. -/
def infoChecksUptoCard : Claim7 := { stood := { row := infoChecksUptoRow, standIns := [], harness := (true, "69c30729066e969dd32720e9d68795435c034a1d9ff72b4a2bcb9c1251417469"), looks := false }, kinds := [], alts := [], laidByText := true, laidKinds := [.data, .data, .data, .data, .pinned], laidTests := true, laidLooks := .later }
def InfoChecksUptoCardSaid : Prop := Claim7.holds Tryd.pinned (.plain (OpenSpec.upto infoChecksSpec)) infoChecksUptoCard

/-- THE SECOND FORM's CARD OF 'depotlaw15.InfoParses'. -/
def infoParsesUptoCard : Claim7 := { stood := { row := infoParsesUptoRow, standIns := [], harness := (true, "69c30729066e969dd32720e9d68795435c034a1d9ff72b4a2bcb9c1251417469"), looks := false }, kinds := [], alts := [], laidByText := true, laidKinds := [.data, .data, .data, .data, .pinned], laidTests := true, laidLooks := .later }
def InfoParsesUptoCardSaid : Prop := Claim7.holds Tryd.pinned (.plain (OpenSpec.upto infoParsesSpec)) infoParsesUptoCard

/-- THE SECOND FORM's CARD OF 'depotlaw15.InfoBack'. -/
def infoBackUptoCard : Claim7 := { stood := { row := infoBackUptoRow, standIns := [], harness := (true, "69c30729066e969dd32720e9d68795435c034a1d9ff72b4a2bcb9c1251417469"), looks := false }, kinds := [], alts := [], laidByText := true, laidKinds := [.data, .data, .data, .data, .pinned], laidTests := true, laidLooks := .later }
def InfoBackUptoCardSaid : Prop := Claim7.holds Tryd.pinned (.plain (OpenSpec.upto infoBackSpec)) infoBackUptoCard

/-- THE SECOND FORM's CARD OF 'depotlaw15.InfoOne'. -/
def infoOneUptoCard : Claim7 := { stood := { row := infoOneUptoRow, standIns := [], harness := (true, "69c30729066e969dd32720e9d68795435c034a1d9ff72b4a2bcb9c1251417469"), looks := false }, kinds := [], alts := [], laidByText := true, laidKinds := [.data, .data, .data, .data, .pinned], laidTests := true, laidLooks := .later }
def InfoOneUptoCardSaid : Prop := Claim7.holds Tryd.pinned (.plain (OpenSpec.upto infoOneSpec)) infoOneUptoCard

/-- THE SECOND FORM's CARD OF 'depotlaw15.InfoCuts'. -/
def infoCutsUptoCard : Claim7 := { stood := { row := infoCutsUptoRow, standIns := [], harness := (true, "69c30729066e969dd32720e9d68795435c034a1d9ff72b4a2bcb9c1251417469"), looks := false }, kinds := [], alts := [], laidByText := true, laidKinds := [.data, .data, .data, .data, .pinned], laidTests := true, laidLooks := .later }
def InfoCutsUptoCardSaid : Prop := Claim7.holds Tryd.pinned (.plain (OpenSpec.upto infoCutsSpec)) infoCutsUptoCard
end Rows
end Go.Proofs.YtgnlkggodchlbaaDoor
