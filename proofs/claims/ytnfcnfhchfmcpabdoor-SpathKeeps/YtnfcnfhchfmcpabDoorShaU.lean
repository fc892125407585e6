/- What the reference's Block answers: as the program's. -/
import Derived.Test.YtnfcnfhchfmcpabDoorShaT
namespace Go.Proofs.YtnfcnfhchfmcpabDoor
open Go.RowKit

theorem oth8 {k : IntKind} {w : World} {g n gv : Nat} {f : Nat → Int} (h : Row k w g n f) (hne : g ≠ gv) (x0 x1 x2 x3 x4 x5 x6 x7 : Value) :
    Row k ((((((((w.setCell ⟨gv, 0, none⟩ x0).setCell ⟨gv, 1, none⟩ x1).setCell ⟨gv, 2, none⟩ x2).setCell ⟨gv, 3, none⟩ x3).setCell ⟨gv, 4, none⟩ x4).setCell ⟨gv, 5, none⟩ x5).setCell ⟨gv, 6, none⟩ x6).setCell ⟨gv, 7, none⟩ x7) g n f :=
  (((((((h.other _ _ hne).other _ _ hne).other _ _ hne).other _ _ hne).other _ _ hne).other _ _ hne).other _ _ hne).other _ _ hne

end Go.Proofs.YtnfcnfhchfmcpabDoor
