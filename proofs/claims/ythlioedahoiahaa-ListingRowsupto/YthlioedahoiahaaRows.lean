/-
  NARROWER THAN 'FOR EVERY INPUT', by the rows' own cells (each row's printed sentence says how): ListingSlices: loops.
  DERIVED. THE GIVEN ROWS OF THIS SEAT. 2 by the template 'for every input the law returns true; each argument reads behind the call as it read before'; 0 by the template 'total and deterministic' (their statements: YthlioedahoiahaaTotals.lean).
  GIVEN WITH THE SEED: the statements are not yours to turn. If you find one false, say at which input.
  Laid BY PROGRAM, IN A SANDBOX (cutbox-rows.mjs): the forced cells as the released guide's own fill.sh prints them over the translation dbc7bd304e4c2a68… (all of the seat's roots in one cut). By AI agents, Wed Nov 11 2026. No macro, syntax, notation, axiom, sorry.
-/
import Derived.Test.YthlioedahoiahaaChecked
import GoSem.Claim
import GoSem.ClaimJoined
import GoSem.ClaimMapViews
import Derived.JoinedTies
import Derived.KernelRfl
namespace Go.Proofs.Ythlioedahoiahaa
/- THE CELL 'sum', in the pinned program and in every row, IS THE sha256 OF THE DUMP (.gsa) THAT YthlioedahoiahaaProg.lean LOADS. Nothing in Lean hashes anything: it is a label: what it is worth is what the hold of that sum in a sandbox is worth. -/
noncomputable def Try.pinned : Pinned := { name := "ythlioedahoiahaa", sum := "dbc7bd304e4c2a68394188980ff7bc81cafecebfdf9c673be5e50fc9d499832f", checked := Try.checked }
namespace Rows
def none {H : Type} : Left H := { results := [], args := [] }

/-- 'depotlaw08.ListingRows': WHATEVER THE INPUT: true; the input reads as it did. -/
def listingRowsSpec : ChangeSpec := { name := "listingRows", fn := fun _ => fun
  | [d] => { results := [.lit (.bool true)], args := [d] }
  | _ => none }
def listingRowsRow : OpenClaim := { program := "ythlioedahoiahaa", sum := "dbc7bd304e4c2a68394188980ff7bc81cafecebfdf9c673be5e50fc9d499832f", func := "depot/depotlaw08.ListingRows", spec := "listingRows", inPlace := ["internal/abi.NoEscape", "internal/bytealg.MakeNoZero", "internal/bytealg.IndexByteString", "internal/bytealg.IndexString", "internal/bytealg.abigen_runtime_cmpstring"], unfollowed := true, recurses := true, named := ["internal/bytealg.MaxLen"], apart := false }
def ListingRowsSaid : Prop := listingRowsRow.holds Try.pinned (OpenSpec.ofChange listingRowsSpec)

/-- ITS FALSE NEIGHBOUR: 'it returns false'. Refute it at one input. -/
def listingRowsWrong : ChangeSpec := { name := "listingRows", fn := fun _ => fun
  | [d] => { results := [.lit (.bool false)], args := [d] }
  | _ => none }
def ListingRowsWrongFalsely : Prop := listingRowsRow.holds Try.pinned (OpenSpec.ofChange listingRowsWrong)

/-- 'depotlaw08.ListingSlices': WHATEVER THE INPUT: true; the input reads as it did. -/
def listingSlicesSpec : ChangeSpec := { name := "listingSlices", fn := fun _ => fun
  | [d] => { results := [.lit (.bool true)], args := [d] }
  | _ => none }
def listingSlicesRow : OpenClaim := { program := "ythlioedahoiahaa", sum := "dbc7bd304e4c2a68394188980ff7bc81cafecebfdf9c673be5e50fc9d499832f", func := "depot/depotlaw08.ListingSlices", spec := "listingSlices", inPlace := ["internal/abi.NoEscape", "internal/bytealg.MakeNoZero", "internal/bytealg.IndexByteString", "internal/bytealg.IndexString", "internal/bytealg.abigen_runtime_cmpstring"], unfollowed := true, recurses := true, named := ["internal/bytealg.MaxLen"], loops := true, apart := false }
def ListingSlicesSaid : Prop := listingSlicesRow.holds Try.pinned (OpenSpec.ofChange listingSlicesSpec)

/-- ITS FALSE NEIGHBOUR: 'it returns false'. Refute it at one input. -/
def listingSlicesWrong : ChangeSpec := { name := "listingSlices", fn := fun _ => fun
  | [d] => { results := [.lit (.bool false)], args := [d] }
  | _ => none }
def ListingSlicesWrongFalsely : Prop := listingSlicesRow.holds Try.pinned (OpenSpec.ofChange listingSlicesWrong)

/- THE SECOND FORM. 'bulk': how many values and letters a reading holds, each counted each time it is reached (what is shared counts as often as it is met; a slice's spare places count too). A statement '..UptoSaid' is the law's where the arguments, and the package variables that the reading takes, are together of bulk at most 1048576: NARROWER than '..Said'. Prove '..Said' where nothing that the law and all that it calls make is longer than what came in: it says more and counts as full. Else prove '..UptoSaid'. A law counts once. -/
mutual
def uptoBulk {H : Type} : DataW H → Nat
  | .lit (.string bytes) => bytes.length + 1
  | .lit _ => 1
  | .nil => 1
  | .ptr d => uptoBulk d + 1
  | .slice elems spare => uptoBulkAll elems + uptoBulkAll spare + 1
  | .agg parts => uptoBulkAll parts + 1
  | .iface _ d => uptoBulk d + 1
  | .map entries => uptoBulkEntries entries + 1
  | .held _ => 1
def uptoBulkAll {H : Type} : List (DataW H) → Nat
  | [] => 0
  | d :: r => uptoBulk d + uptoBulkAll r
def uptoBulkEntries {H : Type} : List (Lit × DataW H) → Nat
  | [] => 0
  | x :: r => uptoBulkEntry x + uptoBulkEntries r
def uptoBulkEntry {H : Type} : Lit × DataW H → Nat
  | (.string bytes, d) => bytes.length + uptoBulk d + 1
  | (_, d) => uptoBulk d + 1
 end
def uptoSmall : (H : Type) → List (DataW H) → Bool := fun _ ds => decide (uptoBulkAll ds ≤ 1048576)
def OpenSpec.upto (s : _root_.Go.ChangeSpec) : _root_.Go.OpenSpec := { _root_.Go.OpenSpec.ofChange s with cond := some uptoSmall }

/-- 'depotlaw08.ListingRows', WHERE WHAT IT READS IS OF BULK AT MOST 1048576: true; the input reads as it did. -/
def listingRowsUptoRow : OpenClaim := { program := "ythlioedahoiahaa", sum := "dbc7bd304e4c2a68394188980ff7bc81cafecebfdf9c673be5e50fc9d499832f", func := "depot/depotlaw08.ListingRows", spec := "listingRows", inPlace := ["internal/abi.NoEscape", "internal/bytealg.MakeNoZero", "internal/bytealg.IndexByteString", "internal/bytealg.IndexString", "internal/bytealg.abigen_runtime_cmpstring"], unfollowed := true, recurses := true, named := ["internal/bytealg.MaxLen"], apart := false, narrowed := true }
def ListingRowsUptoSaid : Prop := listingRowsUptoRow.holds Try.pinned (OpenSpec.upto listingRowsSpec)

/-- 'depotlaw08.ListingSlices', WHERE WHAT IT READS IS OF BULK AT MOST 1048576: true; the input reads as it did. -/
def listingSlicesUptoRow : OpenClaim := { program := "ythlioedahoiahaa", sum := "dbc7bd304e4c2a68394188980ff7bc81cafecebfdf9c673be5e50fc9d499832f", func := "depot/depotlaw08.ListingSlices", spec := "listingSlices", inPlace := ["internal/abi.NoEscape", "internal/bytealg.MakeNoZero", "internal/bytealg.IndexByteString", "internal/bytealg.IndexString", "internal/bytealg.abigen_runtime_cmpstring"], unfollowed := true, recurses := true, named := ["internal/bytealg.MaxLen"], loops := true, apart := false, narrowed := true }
def ListingSlicesUptoSaid : Prop := listingSlicesUptoRow.holds Try.pinned (OpenSpec.upto listingSlicesSpec)

end Rows
end Go.Proofs.Ythlioedahoiahaa
