/-
  NARROWER THAN 'FOR EVERY INPUT', by the rows' own cells (each row's printed sentence says how): NarTells: loops · NarShort: loops · NarStops: loops · NarKeeps: loops.
  DERIVED. THE GIVEN ROWS OF THIS SEAT. 5 by the template 'for every input the law returns true; each argument reads behind the call as it read before'; 0 by the template 'total and deterministic' (their statements: YtpbgmknebhnonabTotals.lean).
  GIVEN WITH THE SEED: the statements are not yours to turn. If you find one false, say at which input.
  Laid BY PROGRAM, IN A SANDBOX (cutbox-rows.mjs): the forced cells as the released guide's own fill.sh prints them over the translation e7eec053a3e94010… (all of the seat's roots in one cut). By AI agents, Wed Nov 11 2026. No macro, syntax, notation, axiom, sorry.
-/
import Derived.Test.YtpbgmknebhnonabChecked
import GoSem.Claim
import GoSem.ClaimJoined
import GoSem.ClaimMapViews
import Derived.JoinedTies
import Derived.KernelRfl
namespace Go.Proofs.Ytpbgmknebhnonab
/- THE CELL 'sum', in the pinned program and in every row, IS THE sha256 OF THE DUMP (.gsa) THAT YtpbgmknebhnonabProg.lean LOADS. Nothing in Lean hashes anything: it is a label: what it is worth is what the hold of that sum in a sandbox is worth. -/
noncomputable def Try.pinned : Pinned := { name := "ytpbgmknebhnonab", sum := "e7eec053a3e940108e372023c7646be9cb68dc478a509eac93eef4acdbaa84d7", checked := Try.checked }
namespace Rows
def none {H : Type} : Left H := { results := [], args := [] }

/-- 'depotlaw07.NarTells': WHATEVER THE INPUT: true; the input reads as it did. -/
def narTellsSpec : ChangeSpec := { name := "narTells", fn := fun _ => fun
  | [d1, d2] => { results := [.lit (.bool true)], args := [d1, d2] }
  | _ => none }
def narTellsRow : OpenClaim := { program := "ytpbgmknebhnonab", sum := "e7eec053a3e940108e372023c7646be9cb68dc478a509eac93eef4acdbaa84d7", func := "depot/depotlaw07.NarTells", spec := "narTells", inPlace := ["internal/abi.NoEscape", "internal/bytealg.MakeNoZero", "internal/bytealg.IndexByteString", "internal/bytealg.IndexString", "internal/bytealg.abigen_runtime_cmpstring"], unfollowed := true, recurses := true, named := ["internal/bytealg.MaxLen"], loops := true, apart := false }
def NarTellsSaid : Prop := narTellsRow.holds Try.pinned (OpenSpec.ofChange narTellsSpec)

/-- ITS FALSE NEIGHBOUR: 'it returns false'. Refute it at one input. -/
def narTellsWrong : ChangeSpec := { name := "narTells", fn := fun _ => fun
  | [d1, d2] => { results := [.lit (.bool false)], args := [d1, d2] }
  | _ => none }
def NarTellsWrongFalsely : Prop := narTellsRow.holds Try.pinned (OpenSpec.ofChange narTellsWrong)

/-- 'depotlaw07.NarShort': WHATEVER THE INPUT: true; the input reads as it did. -/
def narShortSpec : ChangeSpec := { name := "narShort", fn := fun _ => fun
  | [d1, d2, d3] => { results := [.lit (.bool true)], args := [d1, d2, d3] }
  | _ => none }
def narShortRow : OpenClaim := { program := "ytpbgmknebhnonab", sum := "e7eec053a3e940108e372023c7646be9cb68dc478a509eac93eef4acdbaa84d7", func := "depot/depotlaw07.NarShort", spec := "narShort", inPlace := ["internal/abi.NoEscape", "internal/bytealg.MakeNoZero", "internal/bytealg.IndexByteString", "internal/bytealg.IndexString", "internal/bytealg.abigen_runtime_cmpstring"], unfollowed := true, recurses := true, named := ["internal/bytealg.MaxLen"], loops := true, apart := false }
def NarShortSaid : Prop := narShortRow.holds Try.pinned (OpenSpec.ofChange narShortSpec)

/-- ITS FALSE NEIGHBOUR: 'it returns false'. Refute it at one input. -/
def narShortWrong : ChangeSpec := { name := "narShort", fn := fun _ => fun
  | [d1, d2, d3] => { results := [.lit (.bool false)], args := [d1, d2, d3] }
  | _ => none }
def NarShortWrongFalsely : Prop := narShortRow.holds Try.pinned (OpenSpec.ofChange narShortWrong)

/-- 'depotlaw07.NarStops': WHATEVER THE INPUT: true; the input reads as it did. -/
def narStopsSpec : ChangeSpec := { name := "narStops", fn := fun _ => fun
  | [d1, d2, d3] => { results := [.lit (.bool true)], args := [d1, d2, d3] }
  | _ => none }
def narStopsRow : OpenClaim := { program := "ytpbgmknebhnonab", sum := "e7eec053a3e940108e372023c7646be9cb68dc478a509eac93eef4acdbaa84d7", func := "depot/depotlaw07.NarStops", spec := "narStops", inPlace := ["internal/abi.NoEscape", "internal/bytealg.MakeNoZero", "internal/bytealg.IndexByteString", "internal/bytealg.IndexString", "internal/bytealg.abigen_runtime_cmpstring"], unfollowed := true, recurses := true, named := ["internal/bytealg.MaxLen"], loops := true, apart := false }
def NarStopsSaid : Prop := narStopsRow.holds Try.pinned (OpenSpec.ofChange narStopsSpec)

/-- ITS FALSE NEIGHBOUR: 'it returns false'. Refute it at one input. -/
def narStopsWrong : ChangeSpec := { name := "narStops", fn := fun _ => fun
  | [d1, d2, d3] => { results := [.lit (.bool false)], args := [d1, d2, d3] }
  | _ => none }
def NarStopsWrongFalsely : Prop := narStopsRow.holds Try.pinned (OpenSpec.ofChange narStopsWrong)

/-- 'depotlaw07.NarStack': WHATEVER THE INPUT: true; the input reads as it did. -/
def narStackSpec : ChangeSpec := { name := "narStack", fn := fun _ => fun
  | [d] => { results := [.lit (.bool true)], args := [d] }
  | _ => none }
def narStackRow : OpenClaim := { program := "ytpbgmknebhnonab", sum := "e7eec053a3e940108e372023c7646be9cb68dc478a509eac93eef4acdbaa84d7", func := "depot/depotlaw07.NarStack", spec := "narStack", inPlace := ["internal/abi.NoEscape", "internal/bytealg.MakeNoZero", "internal/bytealg.IndexByteString", "internal/bytealg.IndexString", "internal/bytealg.abigen_runtime_cmpstring"], unfollowed := true, recurses := true, named := ["internal/bytealg.MaxLen"], apart := false }
def NarStackSaid : Prop := narStackRow.holds Try.pinned (OpenSpec.ofChange narStackSpec)

/-- ITS FALSE NEIGHBOUR: 'it returns false'. Refute it at one input. -/
def narStackWrong : ChangeSpec := { name := "narStack", fn := fun _ => fun
  | [d] => { results := [.lit (.bool false)], args := [d] }
  | _ => none }
def NarStackWrongFalsely : Prop := narStackRow.holds Try.pinned (OpenSpec.ofChange narStackWrong)

/-- 'depotlaw07.NarKeeps': WHATEVER THE INPUT: true; the input reads as it did. -/
def narKeepsSpec : ChangeSpec := { name := "narKeeps", fn := fun _ => fun
  | [d1, d2] => { results := [.lit (.bool true)], args := [d1, d2] }
  | _ => none }
def narKeepsRow : OpenClaim := { program := "ytpbgmknebhnonab", sum := "e7eec053a3e940108e372023c7646be9cb68dc478a509eac93eef4acdbaa84d7", func := "depot/depotlaw07.NarKeeps", spec := "narKeeps", inPlace := ["internal/abi.NoEscape", "internal/bytealg.MakeNoZero", "internal/bytealg.IndexByteString", "internal/bytealg.IndexString", "internal/bytealg.abigen_runtime_cmpstring"], unfollowed := true, recurses := true, named := ["internal/bytealg.MaxLen"], loops := true, apart := false }
def NarKeepsSaid : Prop := narKeepsRow.holds Try.pinned (OpenSpec.ofChange narKeepsSpec)

/-- ITS FALSE NEIGHBOUR: 'it returns false'. Refute it at one input. -/
def narKeepsWrong : ChangeSpec := { name := "narKeeps", fn := fun _ => fun
  | [d1, d2] => { results := [.lit (.bool false)], args := [d1, d2] }
  | _ => none }
def NarKeepsWrongFalsely : Prop := narKeepsRow.holds Try.pinned (OpenSpec.ofChange narKeepsWrong)

/- THE SECOND FORM. 'bulk': how many values and letters a reading holds, each counted each time it is reached (what is shared counts as often as it is met; a slice's spare places count too). A statement '..UptoSaid' is the law's where the arguments, and the package variables that the reading takes, are together of bulk at most 1048576: NARROWER than '..Said'. Prove '..Said' where nothing that the law and all that it calls make is longer than what came in: it says more and counts as full. Else prove '..UptoSaid'. A law counts once. -/
mutual
def uptoBulk {H : Type} : DataW H → Nat
  | .lit (.string bytes) => bytes.length + 1
  | .lit _ => 1
  | .nil => 1
  | .ptr d => uptoBulk d + 1
  | .slice elems spare => uptoBulkAll elems + uptoBulkAll spare + 1
  | .agg parts => uptoBulkAll parts + 1
  | .iface _ d => uptoBulk d + 1
  | .map entries => uptoBulkEntries entries + 1
  | .held _ => 1
def uptoBulkAll {H : Type} : List (DataW H) → Nat
  | [] => 0
  | d :: r => uptoBulk d + uptoBulkAll r
def uptoBulkEntries {H : Type} : List (Lit × DataW H) → Nat
  | [] => 0
  | x :: r => uptoBulkEntry x + uptoBulkEntries r
def uptoBulkEntry {H : Type} : Lit × DataW H → Nat
  | (.string bytes, d) => bytes.length + uptoBulk d + 1
  | (_, d) => uptoBulk d + 1
 end
def uptoSmall : (H : Type) → List (DataW H) → Bool := fun _ ds => decide (uptoBulkAll ds ≤ 1048576)
def OpenSpec.upto (s : _root_.Go.ChangeSpec) : _root_.Go.OpenSpec := { _root_.Go.OpenSpec.ofChange s with cond := some uptoSmall }

/-- 'depotlaw07.NarTells', WHERE WHAT IT READS IS OF BULK AT MOST 1048576: true; the input reads as it did. -/
def narTellsUptoRow : OpenClaim := { program := "ytpbgmknebhnonab", sum := "e7eec053a3e940108e372023c7646be9cb68dc478a509eac93eef4acdbaa84d7", func := "depot/depotlaw07.NarTells", spec := "narTells", inPlace := ["internal/abi.NoEscape", "internal/bytealg.MakeNoZero", "internal/bytealg.IndexByteString", "internal/bytealg.IndexString", "internal/bytealg.abigen_runtime_cmpstring"], unfollowed := true, recurses := true, named := ["internal/bytealg.MaxLen"], loops := true, apart := false, narrowed := true }
def NarTellsUptoSaid : Prop := narTellsUptoRow.holds Try.pinned (OpenSpec.upto narTellsSpec)

/-- 'depotlaw07.NarShort', WHERE WHAT IT READS IS OF BULK AT MOST 1048576: true; the input reads as it did. -/
def narShortUptoRow : OpenClaim := { program := "ytpbgmknebhnonab", sum := "e7eec053a3e940108e372023c7646be9cb68dc478a509eac93eef4acdbaa84d7", func := "depot/depotlaw07.NarShort", spec := "narShort", inPlace := ["internal/abi.NoEscape", "internal/bytealg.MakeNoZero", "internal/bytealg.IndexByteString", "internal/bytealg.IndexString", "internal/bytealg.abigen_runtime_cmpstring"], unfollowed := true, recurses := true, named := ["internal/bytealg.MaxLen"], loops := true, apart := false, narrowed := true }
def NarShortUptoSaid : Prop := narShortUptoRow.holds Try.pinned (OpenSpec.upto narShortSpec)

/-- 'depotlaw07.NarStops', WHERE WHAT IT READS IS OF BULK AT MOST 1048576: true; the input reads as it did. -/
def narStopsUptoRow : OpenClaim := { program := "ytpbgmknebhnonab", sum := "e7eec053a3e940108e372023c7646be9cb68dc478a509eac93eef4acdbaa84d7", func := "depot/depotlaw07.NarStops", spec := "narStops", inPlace := ["internal/abi.NoEscape", "internal/bytealg.MakeNoZero", "internal/bytealg.IndexByteString", "internal/bytealg.IndexString", "internal/bytealg.abigen_runtime_cmpstring"], unfollowed := true, recurses := true, named := ["internal/bytealg.MaxLen"], loops := true, apart := false, narrowed := true }
def NarStopsUptoSaid : Prop := narStopsUptoRow.holds Try.pinned (OpenSpec.upto narStopsSpec)

/-- 'depotlaw07.NarStack', WHERE WHAT IT READS IS OF BULK AT MOST 1048576: true; the input reads as it did. -/
def narStackUptoRow : OpenClaim := { program := "ytpbgmknebhnonab", sum := "e7eec053a3e940108e372023c7646be9cb68dc478a509eac93eef4acdbaa84d7", func := "depot/depotlaw07.NarStack", spec := "narStack", inPlace := ["internal/abi.NoEscape", "internal/bytealg.MakeNoZero", "internal/bytealg.IndexByteString", "internal/bytealg.IndexString", "internal/bytealg.abigen_runtime_cmpstring"], unfollowed := true, recurses := true, named := ["internal/bytealg.MaxLen"], apart := false, narrowed := true }
def NarStackUptoSaid : Prop := narStackUptoRow.holds Try.pinned (OpenSpec.upto narStackSpec)

/-- 'depotlaw07.NarKeeps', WHERE WHAT IT READS IS OF BULK AT MOST 1048576: true; the input reads as it did. -/
def narKeepsUptoRow : OpenClaim := { program := "ytpbgmknebhnonab", sum := "e7eec053a3e940108e372023c7646be9cb68dc478a509eac93eef4acdbaa84d7", func := "depot/depotlaw07.NarKeeps", spec := "narKeeps", inPlace := ["internal/abi.NoEscape", "internal/bytealg.MakeNoZero", "internal/bytealg.IndexByteString", "internal/bytealg.IndexString", "internal/bytealg.abigen_runtime_cmpstring"], unfollowed := true, recurses := true, named := ["internal/bytealg.MaxLen"], loops := true, apart := false, narrowed := true }
def NarKeepsUptoSaid : Prop := narKeepsUptoRow.holds Try.pinned (OpenSpec.upto narKeepsSpec)

end Rows
end Go.Proofs.Ytpbgmknebhnonab
