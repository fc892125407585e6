/- Proved: wherever the arguments are together of bulk at most 1048576, the law WholeNamed of the program returns true and leaves its arguments as they were, the library's tables laid as the program's own text lays them (the given card Rows.WholeNamedUptoCardSaid, tied). Conditions: none beyond the row's own. -/
import Derived.Test.YtdjjleahfciipaaGreatDoorCards
import Derived.Test.YtdjjleahfciipaaGreatDoorTie
import Derived.Lib.LaidTab
import Derived.Stop.LaidErr
import Derived.WalkKit
import Derived.ProofKit
import Derived.OpenShut
import Derived.ShutString
import Derived.ChangeOld
import Derived.ChangeSlices
import Derived.Below
import Derived.SizedLaws
import Derived.JoinedCond
import Derived.Deep.DeepHandedRow
import Derived.Test.YtdjjleahfciipaaGreatDoorQV
import Derived.Test.YtdjjleahfciipaaGreatDoorQW
namespace Go.Proofs.YtdjjleahfciipaaGreatDoor.wholeNamedDone
open Go.ChangeShapes Go.WideShapes Go.ChangeAt Go.RowKit
open Go.ChangeMaps (open_string shut_string)

theorem own : ownKnob Tryz.prog.godebug = none := by kernel_rfl
theorem laidOut : laidOutB Tryz.prog = true := by kernel_rfl

theorem gTab : Tryz.prog.globalNamed "internal/strconv.uint64pow10" = some 1 := by kernel_rfl
theorem gTabType : (Tryz.prog.globals[1]?).map (·.type) = some 187 := by kernel_rfl
theorem cellsV : Tryz.prog.cellsOf 187 = 20 := by kernel_rfl
theorem cellsE : Tryz.prog.cellsOf 131 = 1 := by kernel_rfl
theorem undV : Tryz.prog.underlying 187 = some (.array 20 131) := by kernel_rfl
theorem undE : Tryz.prog.underlying 131 = some (.int .u64) := by kernel_rfl
theorem powE : (Rows.laid_internal_strconv_uint64pow10 : DataW Unit) = Lib.tabData .u64 Lib.pow10Tab := by kernel_rfl
theorem gTabS : Tryz.prog.globalNamed "depot/sha.roundWords" = some 0 := by kernel_rfl
theorem gTabTypeS : (Tryz.prog.globals[0]?).map (·.type) = some 165 := by kernel_rfl
theorem cellsVS : Tryz.prog.cellsOf 165 = 64 := by kernel_rfl
theorem cellsES : Tryz.prog.cellsOf 105 = 1 := by kernel_rfl
theorem undVS : Tryz.prog.underlying 165 = some (.array 64 105) := by kernel_rfl
theorem undES : Tryz.prog.underlying 105 = some (.int .u32) := by kernel_rfl
theorem shaE : (Rows.laid_depot_sha_roundWords : DataW Unit) = Lib.tabData .u32 kl := by kernel_rfl
theorem noHandle : (Rows.wholeNamedUptoRow.laid.filter fun x => x.2.handleName?.isSome) = [] := by kernel_rfl
theorem ktP {W : World} (h : laidMetH Tryz.prog Rows.wholeNamedUptoRow.laid W) : PT W := by
  unfold laidMetH at h
  rw [noHandle] at h
  have h1 : laidMet Tryz.prog Rows.wholeNamedUptoRow.laid W := h
  have h2 : laidMet Tryz.prog (("internal/strconv.uint64pow10", Rows.laid_internal_strconv_uint64pow10) :: Rows.wholeNamedUptoRow.laid.drop 3) W := h1.tail.tail
  rw [powE] at h2
  exact Lib.tabIs_of_head gTab gTabType undV undE cellsE cellsV h2

theorem ktS {W : World} (h : laidMetH Tryz.prog Rows.wholeNamedUptoRow.laid W) : KT W := by
  unfold laidMetH at h
  rw [noHandle] at h
  have h1 : laidMet Tryz.prog Rows.wholeNamedUptoRow.laid W := h
  have h2 : laidMet Tryz.prog (("depot/sha.roundWords", Rows.laid_depot_sha_roundWords) :: Rows.wholeNamedUptoRow.laid.drop 4) W := h1.tail.tail.tail
  rw [shaE] at h2
  have h3 : Lib.TabIs Tryz.prog W "depot/sha.roundWords" .u32 kl := Lib.tabIs_of_head gTabS gTabTypeS undVS undES cellsES cellsVS h2
  exact fun i hi => h3.cell gTabS i (by exact hi)

theorem kt {W : World} (h : laidMetH Tryz.prog Rows.wholeNamedUptoRow.laid W) : KT W ∧ PT W := ⟨ktS h, ktP h⟩

theorem short {H : Type} {s1 : ByteArray} {s2 : ByteArray} {x0 : DataW H} (hk : Rows.uptoSmall H [x0, .lit (.string s1.data.toList), .lit (.string s2.data.toList)] = true) : s1.size ≤ 1048576 ∧ s2.size ≤ 1048576 := by
  have h : Rows.uptoBulkAll [x0, DataW.lit (H := H) (.string s1.data.toList), .lit (.string s2.data.toList)] ≤ 1048576 := of_decide_eq_true hk
  simp only [Rows.uptoBulkAll, Rows.uptoBulk] at h
  have e1 : s1.data.toList.length = s1.size := by rw [Array.length_toList]; rfl
  have e2 : s2.data.toList.length = s2.size := by rw [Array.length_toList]; rfl
  omega

set_option maxRecDepth 100000 in
theorem contract (H : Type) (enc : TypeId × Value → H) (W : World) (base : Nat) (args : Array Value) (ds gs : List (DataW H)) (before : List MemPlace)
    (hval : ∀ (j : Nat) t v, Tryz.f3.params[j]? = some t → args[j]? = some v → Value.okWide Tryz.prog W .any base t v)
    (hW : DataW.Whole enc Tryz.prog Tryz.f3.params.toList Rows.wholeNamedSpec.vars false W args.toList ds gs before) (hk : Rows.uptoSmall H (ds ++ gs) = true) (hL : laidMetH Tryz.prog Rows.wholeNamedUptoRow.laid W) :
    Calls Tryz.prog 3 args W fun e W' => ∃ v, e = .returned v ∧ Rows.wholeNamedSpec.post enc Tryz.prog Tryz.f3 false true false false W args v W' := by
  have hW' := hW
  obtain ⟨p, q, hA0, hV, rfl, hfz, hnd⟩ := hW
  have hA : DataW.TrodAll enc Tryz.prog W 0 (fun _ => true) true Tryz.f3.params.toList args.toList ds p := hA0
  rw [Tryz.params3] at hA hval
  obtain ⟨v0, vs0, d0, ds0, p0, q0, hargs, rfl, rfl, h0, r0⟩ := trodAll_cons hA
  obtain ⟨v1, vs1, d1, ds1, p1, q1, rfl, rfl, rfl, h1, r1⟩ := trodAll_cons r0
  obtain ⟨v2, vs2, d2, ds2, p2, q2, rfl, rfl, rfl, h2, r2⟩ := trodAll_cons r1
  obtain ⟨rfl, rfl, rfl⟩ := trodAll_nil r2
  obtain rfl : args = #[v0, v1, v2] := by cases args; simp_all
  obtain ⟨rfl, rfl⟩ := trodVars_none hV
  have bk0 : Rows.uptoBulk d0 ≤ 1048576 := by
    have h : Rows.uptoBulkAll [d0, d1, d2] ≤ 1048576 := of_decide_eq_true hk
    simp only [Rows.uptoBulkAll] at h
    omega
  have k0 := h0
  have lt0 : ∀ x ∈ p0, x.block < W.heap.size := by obtain ⟨m, hm⟩ := k0; exact DataW.trod_lt m _ _ _ hm
  obtain ⟨fuel0, hf0⟩ := h0
  obtain ⟨cs0, rfl, _⟩ := okWide_struct Tryz.underlying25 (hval 0 25 v0 rfl rfl)
  obtain ⟨kk0, ee0, tt0, zz0, nn0, cc0, TT0, hl0, hA0, hS0⟩ := open_nodeB fuel0 _ _ hf0 bk0
  obtain rfl : cs0 = #[.int .i64 kk0, .bool ee0, .string tt0, .slice zz0 nn0 cc0] := by have hh : cs0.toList = _ := hl0; rw [← Array.toArray_toList (xs := cs0), hh]
  obtain ⟨a1, rfl, rfl, rfl, w1⟩ := open_string Tryz.underlying9 (hval 1 9 v1 rfl rfl) h1
  obtain ⟨a2, rfl, rfl, rfl, w2⟩ := open_string Tryz.underlying9 (hval 2 9 v2 rfl rfl) h2
  have m := short hk
  clear hA0
  refine (Sc.named_walkF fuel0 kk0 ee0 tt0 zz0 nn0 cc0 TT0 a1 a2 W hA0 hS0 m.1 m.2 (kt hL)).mono fun e W' ⟨he, bel⟩ => ?_
  subst he
  exact ⟨_, rfl, _, _, _, [], _, [], hW', trodAll_mk1 (shut_bool Tryz.underlying4 _), (trodAll_cons_mk (Below.trod laidOut (by kernel_rfl) (of_decide_eq_true (by kernel_rfl)) k0 bel lt0) (trodAll_cons_mk (shut_string Tryz.underlying9 w1) (trodAll_cons_mk (shut_string Tryz.underlying9 w2) trodAll_mk0))), rfl, bel.frame _, fun h => by cases h⟩

/-- A world with a table's cells in its block. -/
def laidAt (g : Nat) (w : World) (cells : Array Value) : World :=
  { w with heap := w.heap.modify g fun
      | .cells _ t frozen => .cells cells t frozen
      | o => o }
def argA : Array Value := #[.agg #[.int .i64 0, .bool false, .string ByteArray.empty, .slice none 0 0], .string ByteArray.empty, .string ByteArray.empty]
def laidOn (w : World) : World := (laidAt 4 (laidAt 3 (laidAt 1 (laidAt 0 w (kl.map (Value.int .u32)).toArray) powCells) tab32Cells) tab64Cells)
set_option maxRecDepth 100000 in
theorem laid_met (os : Os) : laidMet Tryz.prog Rows.wholeNamedUptoRow.laid ((laidOn (World.holding Tryz.prog os ⟨#[], #[], []⟩)).forCall (fun _ _ => 0) ⟨#[], argA, []⟩).memory :=
  laidMet_of_run' 8 (by kernel_rfl) (by kernel_rfl)
theorem reads (os : Os) {H : Type} (enc : TypeId × Value → H) : ∃ places, DataW.whole enc Tryz.prog ((laidOn (World.holding Tryz.prog os ⟨#[], #[], []⟩)).forCall (fun _ _ => 0) ⟨#[], argA, []⟩).memory Tryz.f3.params.toList Rows.wholeNamedSpec.vars false argA.toList 8 = some ([.agg [.lit (.int .i64 0), .lit (.bool false), .lit (.string []), .nil], .lit (.string []), .lit (.string [])], [], places) :=
  ⟨[], by kernel_rfl⟩

set_option maxRecDepth 100000 in
theorem lifted (os : Os) (started : os.Started) (H : Type) (enc : TypeId × Value → H) (F : Stop.Interp) :
    ReturnsInHanded {} Tryz.checked os 3 .any ((Rows.OpenSpec.upto Rows.wholeNamedSpec).preRow enc Tryz.prog Tryz.f3 Rows.wholeNamedUptoRow.domain false Rows.wholeNamedUptoRow.laid) (((Rows.OpenSpec.upto Rows.wholeNamedSpec).at F).post enc Tryz.prog Tryz.f3 false true false false) := by
  obtain ⟨places, hx⟩ := reads os enc
  refine returnsInHanded_of_row (C := Tryz.checked) (s := (Rows.OpenSpec.upto Rows.wholeNamedSpec)) own started (by kernel_rfl) Tryz.func3
    (witness_row_at (enc := enc) (C := Tryz.checked) false (laidOn (World.holding Tryz.prog os ⟨#[], #[], []⟩)) argA rfl (by kernel_rfl) (by kernel_rfl) (by kernel_rfl)
      (OpenSpec.preRow_of_cond 8 hx (by kernel_rfl) (fun k hk => by cases hk; kernel_rfl) (by kernel_rfl) (laid_met os))) ?_
  intro W base args ds gs before hval hW _ hk _ hL _ _
  exact contract H enc W base args ds gs before hval hW (hk _ rfl) hL

theorem said : Rows.WholeNamedUptoSaid :=
  OpenClaim.holds_of_cond 3 Tryz.f3 rfl rfl rfl rfl rfl rfl rfl ⟨rfl, rfl, rfl, rfl, rfl⟩ rfl rfl rfl rfl rfl (by kernel_rfl) Tryz.func3 (by kernel_rfl)
    (of_decide_eq_true (by kernel_rfl)) (by unfold Func.isWrapper; first | (rw [if_pos (by decide +kernel)]; kernel_rfl) | (rw [if_neg (by decide +kernel)]; exact ⟨rfl, rfl⟩))
    (fun os started H enc _ F => by rw [OpenClaim.pre_eq_preRow]; exact lifted os started H enc F)

theorem plain (f : FuncId) (fn : Func) (hf : Tryz.pinned.checked.prog.funcNamed "depot/depottop.WholeNamed" = some f) (hfn : Tryz.pinned.checked.prog.funcs[f]? = some fn) :
    true = Tryz.pinned.checked.prog.looks [] ∧ ∀ (j : Nat) t, fn.params[j]? = some t → Tryz.pinned.checked.prog.wantsStandIn t = false := by
  obtain rfl : f = 3 := Option.some.inj ((show Tryz.prog.funcNamed "depot/depottop.WholeNamed" = some 3 by kernel_rfl).symm.trans hf) |>.symm
  obtain rfl : fn = Tryz.f3 := (Option.some.inj (Tryz.func3.symm.trans hfn)).symm
  refine ⟨by kernel_rfl, fun j t ht => ?_⟩
  rw [Tryz.params3] at ht
  have hm := Array.mem_of_getElem? ht
  simp at hm
  rcases hm with rfl | rfl
  · exact (show Tryz.prog.wantsStandIn 25 = false by kernel_rfl)
  · exact (show Tryz.prog.wantsStandIn 9 = false by kernel_rfl)

theorem card : Rows.WholeNamedUptoCardSaid :=
  Claim7.holds_tied_plain_at .later [] _ _ _ _ said (fun _ h => by cases h) (by kernel_rfl) (fun _ h => by cases h) wholeNamedUpto_row_tie rfl ⟨rfl, rfl⟩ (by kernel_rfl) rfl plain (by kernel_rfl)
end Go.Proofs.YtdjjleahfciipaaGreatDoor.wholeNamedDone
namespace Go.Proofs.YtdjjleahfciipaaGreatDoor
theorem wholeNamed_holds : Rows.WholeNamedUptoCardSaid := wholeNamedDone.card
#print axioms wholeNamed_holds
end Go.Proofs.YtdjjleahfciipaaGreatDoor
