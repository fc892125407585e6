/- The cells of two tables of unicode/utf8, for a witness. -/
import Derived.Test.YtnggbemnblcnaaaDoorRows
namespace Go.Proofs.YtnggbemnblcnaaaDoor
def firstCells : Array Value := (Go.Pinned.utf8FirstZ.map fun (n : Nat) => Value.int .u8 (n : Int)).toArray
def rangeCells : Array Value := (([128, 191, 160, 191, 128, 159, 144, 191, 128, 143] ++ List.replicate 22 0).map fun (n : Nat) => Value.int .u8 (n : Int)).toArray
end Go.Proofs.YtnggbemnblcnaaaDoor
