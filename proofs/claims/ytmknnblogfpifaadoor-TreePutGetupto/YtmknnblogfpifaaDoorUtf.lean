/- The cells of two tables of unicode/utf8, for a witness. -/
import Derived.Test.YtmknnblogfpifaaDoorRows
namespace Go.Proofs.YtmknnblogfpifaaDoor
def firstCells : Array Value := (Go.Pinned.utf8FirstZ.map fun (n : Nat) => Value.int .u8 (n : Int)).toArray
def rangeCells : Array Value := (([128, 191, 160, 191, 128, 159, 144, 191, 128, 143] ++ List.replicate 22 0).map fun (n : Nat) => Value.int .u8 (n : Int)).toArray
end Go.Proofs.YtmknnblogfpifaaDoor
