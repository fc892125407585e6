/-
  NARROWER THAN 'FOR EVERY INPUT', by the rows' own cells (each row's printed sentence says how): NarWrites: loops · NarThere: loops.
  DERIVED. THE GIVEN ROWS OF THIS SEAT. 6 by the template 'for every input the law returns true; each argument reads behind the call as it read before'; 0 by the template 'total and deterministic' (their statements: YtpbgmknebhnonaaTotals.lean).
  GIVEN WITH THE SEED: the statements are not yours to turn. If you find one false, say at which input.
  Laid BY PROGRAM, IN A SANDBOX (cutbox-rows.mjs): the forced cells as the released guide's own fill.sh prints them over the translation 35f8d636350a79f7… (all of the seat's roots in one cut). By AI agents, Wed Nov 11 2026. No macro, syntax, notation, axiom, sorry.
-/
import Derived.Test.YtpbgmknebhnonaaChecked
import GoSem.Claim
import GoSem.ClaimJoined
import GoSem.ClaimMapViews
import Derived.JoinedTies
import Derived.KernelRfl
namespace Go.Proofs.Ytpbgmknebhnonaa
/- THE CELL 'sum', in the pinned program and in every row, IS THE sha256 OF THE DUMP (.gsa) THAT YtpbgmknebhnonaaProg.lean LOADS. Nothing in Lean hashes anything: it is a label: what it is worth is what the hold of that sum in a sandbox is worth. -/
noncomputable def Try.pinned : Pinned := { name := "ytpbgmknebhnonaa", sum := "35f8d636350a79f7edbdd7f2e956eb296bcea9ad686f20edf31deea94013fc9e", checked := Try.checked }
namespace Rows
def none {H : Type} : Left H := { results := [], args := [] }

/-- 'depotlaw07.NarWrites': WHATEVER THE INPUT: true; the input reads as it did. -/
def narWritesSpec : ChangeSpec := { name := "narWrites", fn := fun _ => fun
  | [d] => { results := [.lit (.bool true)], args := [d] }
  | _ => none }
def narWritesRow : OpenClaim := { program := "ytpbgmknebhnonaa", sum := "35f8d636350a79f7edbdd7f2e956eb296bcea9ad686f20edf31deea94013fc9e", func := "depot/depotlaw07.NarWrites", spec := "narWrites", inPlace := ["internal/abi.NoEscape", "internal/bytealg.MakeNoZero", "internal/bytealg.IndexByteString", "internal/bytealg.IndexString", "internal/bytealg.abigen_runtime_cmpstring"], unfollowed := true, recurses := true, named := ["internal/bytealg.MaxLen"], loops := true, apart := false }
def NarWritesSaid : Prop := narWritesRow.holds Try.pinned (OpenSpec.ofChange narWritesSpec)

/-- ITS FALSE NEIGHBOUR: 'it returns false'. Refute it at one input. -/
def narWritesWrong : ChangeSpec := { name := "narWrites", fn := fun _ => fun
  | [d] => { results := [.lit (.bool false)], args := [d] }
  | _ => none }
def NarWritesWrongFalsely : Prop := narWritesRow.holds Try.pinned (OpenSpec.ofChange narWritesWrong)

/-- 'depotlaw07.NarReads': WHATEVER THE INPUT: true; the input reads as it did. -/
def narReadsSpec : ChangeSpec := { name := "narReads", fn := fun _ => fun
  | [d] => { results := [.lit (.bool true)], args := [d] }
  | _ => none }
def narReadsRow : OpenClaim := { program := "ytpbgmknebhnonaa", sum := "35f8d636350a79f7edbdd7f2e956eb296bcea9ad686f20edf31deea94013fc9e", func := "depot/depotlaw07.NarReads", spec := "narReads", inPlace := ["internal/abi.NoEscape", "internal/bytealg.MakeNoZero", "internal/bytealg.IndexByteString", "internal/bytealg.IndexString", "internal/bytealg.abigen_runtime_cmpstring"], unfollowed := true, recurses := true, named := ["internal/bytealg.MaxLen"], apart := false }
def NarReadsSaid : Prop := narReadsRow.holds Try.pinned (OpenSpec.ofChange narReadsSpec)

/-- ITS FALSE NEIGHBOUR: 'it returns false'. Refute it at one input. -/
def narReadsWrong : ChangeSpec := { name := "narReads", fn := fun _ => fun
  | [d] => { results := [.lit (.bool false)], args := [d] }
  | _ => none }
def NarReadsWrongFalsely : Prop := narReadsRow.holds Try.pinned (OpenSpec.ofChange narReadsWrong)

/-- 'depotlaw07.NarPlays': WHATEVER THE INPUT: true; the input reads as it did. -/
def narPlaysSpec : ChangeSpec := { name := "narPlays", fn := fun _ => fun
  | [d1, d2] => { results := [.lit (.bool true)], args := [d1, d2] }
  | _ => none }
def narPlaysRow : OpenClaim := { program := "ytpbgmknebhnonaa", sum := "35f8d636350a79f7edbdd7f2e956eb296bcea9ad686f20edf31deea94013fc9e", func := "depot/depotlaw07.NarPlays", spec := "narPlays", inPlace := ["internal/abi.NoEscape", "internal/bytealg.MakeNoZero", "internal/bytealg.IndexByteString", "internal/bytealg.IndexString", "internal/bytealg.abigen_runtime_cmpstring"], unfollowed := true, recurses := true, named := ["internal/bytealg.MaxLen"], apart := false }
def NarPlaysSaid : Prop := narPlaysRow.holds Try.pinned (OpenSpec.ofChange narPlaysSpec)

/-- ITS FALSE NEIGHBOUR: 'it returns false'. Refute it at one input. -/
def narPlaysWrong : ChangeSpec := { name := "narPlays", fn := fun _ => fun
  | [d1, d2] => { results := [.lit (.bool false)], args := [d1, d2] }
  | _ => none }
def NarPlaysWrongFalsely : Prop := narPlaysRow.holds Try.pinned (OpenSpec.ofChange narPlaysWrong)

/-- 'depotlaw07.NarChunks': WHATEVER THE INPUT: true; the input reads as it did. -/
def narChunksSpec : ChangeSpec := { name := "narChunks", fn := fun _ => fun
  | [d1, d2] => { results := [.lit (.bool true)], args := [d1, d2] }
  | _ => none }
def narChunksRow : OpenClaim := { program := "ytpbgmknebhnonaa", sum := "35f8d636350a79f7edbdd7f2e956eb296bcea9ad686f20edf31deea94013fc9e", func := "depot/depotlaw07.NarChunks", spec := "narChunks", inPlace := ["internal/abi.NoEscape", "internal/bytealg.MakeNoZero", "internal/bytealg.IndexByteString", "internal/bytealg.IndexString", "internal/bytealg.abigen_runtime_cmpstring"], unfollowed := true, recurses := true, named := ["internal/bytealg.MaxLen"], apart := false }
def NarChunksSaid : Prop := narChunksRow.holds Try.pinned (OpenSpec.ofChange narChunksSpec)

/-- ITS FALSE NEIGHBOUR: 'it returns false'. Refute it at one input. -/
def narChunksWrong : ChangeSpec := { name := "narChunks", fn := fun _ => fun
  | [d1, d2] => { results := [.lit (.bool false)], args := [d1, d2] }
  | _ => none }
def NarChunksWrongFalsely : Prop := narChunksRow.holds Try.pinned (OpenSpec.ofChange narChunksWrong)

/-- 'depotlaw07.NarThere': WHATEVER THE INPUT: true; the input reads as it did. -/
def narThereSpec : ChangeSpec := { name := "narThere", fn := fun _ => fun
  | [d1, d2] => { results := [.lit (.bool true)], args := [d1, d2] }
  | _ => none }
def narThereRow : OpenClaim := { program := "ytpbgmknebhnonaa", sum := "35f8d636350a79f7edbdd7f2e956eb296bcea9ad686f20edf31deea94013fc9e", func := "depot/depotlaw07.NarThere", spec := "narThere", inPlace := ["internal/abi.NoEscape", "internal/bytealg.MakeNoZero", "internal/bytealg.IndexByteString", "internal/bytealg.IndexString", "internal/bytealg.abigen_runtime_cmpstring"], unfollowed := true, recurses := true, named := ["internal/bytealg.MaxLen"], loops := true, apart := false }
def NarThereSaid : Prop := narThereRow.holds Try.pinned (OpenSpec.ofChange narThereSpec)

/-- ITS FALSE NEIGHBOUR: 'it returns false'. Refute it at one input. -/
def narThereWrong : ChangeSpec := { name := "narThere", fn := fun _ => fun
  | [d1, d2] => { results := [.lit (.bool false)], args := [d1, d2] }
  | _ => none }
def NarThereWrongFalsely : Prop := narThereRow.holds Try.pinned (OpenSpec.ofChange narThereWrong)

/-- 'depotlaw07.NarOne': WHATEVER THE INPUT: true; the input reads as it did. -/
def narOneSpec : ChangeSpec := { name := "narOne", fn := fun _ => fun
  | [d] => { results := [.lit (.bool true)], args := [d] }
  | _ => none }
def narOneRow : OpenClaim := { program := "ytpbgmknebhnonaa", sum := "35f8d636350a79f7edbdd7f2e956eb296bcea9ad686f20edf31deea94013fc9e", func := "depot/depotlaw07.NarOne", spec := "narOne", inPlace := ["internal/abi.NoEscape", "internal/bytealg.MakeNoZero", "internal/bytealg.IndexByteString", "internal/bytealg.IndexString", "internal/bytealg.abigen_runtime_cmpstring"], unfollowed := true, recurses := true, named := ["internal/bytealg.MaxLen"], apart := false }
def NarOneSaid : Prop := narOneRow.holds Try.pinned (OpenSpec.ofChange narOneSpec)

/-- ITS FALSE NEIGHBOUR: 'it returns false'. Refute it at one input. -/
def narOneWrong : ChangeSpec := { name := "narOne", fn := fun _ => fun
  | [d] => { results := [.lit (.bool false)], args := [d] }
  | _ => none }
def NarOneWrongFalsely : Prop := narOneRow.holds Try.pinned (OpenSpec.ofChange narOneWrong)

/- THE SECOND FORM. 'bulk': how many values and letters a reading holds, each counted each time it is reached (what is shared counts as often as it is met; a slice's spare places count too). A statement '..UptoSaid' is the law's where the arguments, and the package variables that the reading takes, are together of bulk at most 1048576: NARROWER than '..Said'. Prove '..Said' where nothing that the law and all that it calls make is longer than what came in: it says more and counts as full. Else prove '..UptoSaid'. A law counts once. -/
mutual
def uptoBulk {H : Type} : DataW H → Nat
  | .lit (.string bytes) => bytes.length + 1
  | .lit _ => 1
  | .nil => 1
  | .ptr d => uptoBulk d + 1
  | .slice elems spare => uptoBulkAll elems + uptoBulkAll spare + 1
  | .agg parts => uptoBulkAll parts + 1
  | .iface _ d => uptoBulk d + 1
  | .map entries => uptoBulkEntries entries + 1
  | .held _ => 1
def uptoBulkAll {H : Type} : List (DataW H) → Nat
  | [] => 0
  | d :: r => uptoBulk d + uptoBulkAll r
def uptoBulkEntries {H : Type} : List (Lit × DataW H) → Nat
  | [] => 0
  | x :: r => uptoBulkEntry x + uptoBulkEntries r
def uptoBulkEntry {H : Type} : Lit × DataW H → Nat
  | (.string bytes, d) => bytes.length + uptoBulk d + 1
  | (_, d) => uptoBulk d + 1
 end
def uptoSmall : (H : Type) → List (DataW H) → Bool := fun _ ds => decide (uptoBulkAll ds ≤ 1048576)
def OpenSpec.upto (s : _root_.Go.ChangeSpec) : _root_.Go.OpenSpec := { _root_.Go.OpenSpec.ofChange s with cond := some uptoSmall }

/-- 'depotlaw07.NarWrites', WHERE WHAT IT READS IS OF BULK AT MOST 1048576: true; the input reads as it did. -/
def narWritesUptoRow : OpenClaim := { program := "ytpbgmknebhnonaa", sum := "35f8d636350a79f7edbdd7f2e956eb296bcea9ad686f20edf31deea94013fc9e", func := "depot/depotlaw07.NarWrites", spec := "narWrites", inPlace := ["internal/abi.NoEscape", "internal/bytealg.MakeNoZero", "internal/bytealg.IndexByteString", "internal/bytealg.IndexString", "internal/bytealg.abigen_runtime_cmpstring"], unfollowed := true, recurses := true, named := ["internal/bytealg.MaxLen"], loops := true, apart := false, narrowed := true }
def NarWritesUptoSaid : Prop := narWritesUptoRow.holds Try.pinned (OpenSpec.upto narWritesSpec)

/-- 'depotlaw07.NarReads', WHERE WHAT IT READS IS OF BULK AT MOST 1048576: true; the input reads as it did. -/
def narReadsUptoRow : OpenClaim := { program := "ytpbgmknebhnonaa", sum := "35f8d636350a79f7edbdd7f2e956eb296bcea9ad686f20edf31deea94013fc9e", func := "depot/depotlaw07.NarReads", spec := "narReads", inPlace := ["internal/abi.NoEscape", "internal/bytealg.MakeNoZero", "internal/bytealg.IndexByteString", "internal/bytealg.IndexString", "internal/bytealg.abigen_runtime_cmpstring"], unfollowed := true, recurses := true, named := ["internal/bytealg.MaxLen"], apart := false, narrowed := true }
def NarReadsUptoSaid : Prop := narReadsUptoRow.holds Try.pinned (OpenSpec.upto narReadsSpec)

/-- 'depotlaw07.NarPlays', WHERE WHAT IT READS IS OF BULK AT MOST 1048576: true; the input reads as it did. -/
def narPlaysUptoRow : OpenClaim := { program := "ytpbgmknebhnonaa", sum := "35f8d636350a79f7edbdd7f2e956eb296bcea9ad686f20edf31deea94013fc9e", func := "depot/depotlaw07.NarPlays", spec := "narPlays", inPlace := ["internal/abi.NoEscape", "internal/bytealg.MakeNoZero", "internal/bytealg.IndexByteString", "internal/bytealg.IndexString", "internal/bytealg.abigen_runtime_cmpstring"], unfollowed := true, recurses := true, named := ["internal/bytealg.MaxLen"], apart := false, narrowed := true }
def NarPlaysUptoSaid : Prop := narPlaysUptoRow.holds Try.pinned (OpenSpec.upto narPlaysSpec)

/-- 'depotlaw07.NarChunks', WHERE WHAT IT READS IS OF BULK AT MOST 1048576: true; the input reads as it did. -/
def narChunksUptoRow : OpenClaim := { program := "ytpbgmknebhnonaa", sum := "35f8d636350a79f7edbdd7f2e956eb296bcea9ad686f20edf31deea94013fc9e", func := "depot/depotlaw07.NarChunks", spec := "narChunks", inPlace := ["internal/abi.NoEscape", "internal/bytealg.MakeNoZero", "internal/bytealg.IndexByteString", "internal/bytealg.IndexString", "internal/bytealg.abigen_runtime_cmpstring"], unfollowed := true, recurses := true, named := ["internal/bytealg.MaxLen"], apart := false, narrowed := true }
def NarChunksUptoSaid : Prop := narChunksUptoRow.holds Try.pinned (OpenSpec.upto narChunksSpec)

/-- 'depotlaw07.NarThere', WHERE WHAT IT READS IS OF BULK AT MOST 1048576: true; the input reads as it did. -/
def narThereUptoRow : OpenClaim := { program := "ytpbgmknebhnonaa", sum := "35f8d636350a79f7edbdd7f2e956eb296bcea9ad686f20edf31deea94013fc9e", func := "depot/depotlaw07.NarThere", spec := "narThere", inPlace := ["internal/abi.NoEscape", "internal/bytealg.MakeNoZero", "internal/bytealg.IndexByteString", "internal/bytealg.IndexString", "internal/bytealg.abigen_runtime_cmpstring"], unfollowed := true, recurses := true, named := ["internal/bytealg.MaxLen"], loops := true, apart := false, narrowed := true }
def NarThereUptoSaid : Prop := narThereUptoRow.holds Try.pinned (OpenSpec.upto narThereSpec)

/-- 'depotlaw07.NarOne', WHERE WHAT IT READS IS OF BULK AT MOST 1048576: true; the input reads as it did. -/
def narOneUptoRow : OpenClaim := { program := "ytpbgmknebhnonaa", sum := "35f8d636350a79f7edbdd7f2e956eb296bcea9ad686f20edf31deea94013fc9e", func := "depot/depotlaw07.NarOne", spec := "narOne", inPlace := ["internal/abi.NoEscape", "internal/bytealg.MakeNoZero", "internal/bytealg.IndexByteString", "internal/bytealg.IndexString", "internal/bytealg.abigen_runtime_cmpstring"], unfollowed := true, recurses := true, named := ["internal/bytealg.MaxLen"], apart := false, narrowed := true }
def NarOneUptoSaid : Prop := narOneUptoRow.holds Try.pinned (OpenSpec.upto narOneSpec)

end Rows
end Go.Proofs.Ytpbgmknebhnonaa
