/- Proved: wherever the arguments are together of bulk at most 1048576, the law ScanSelf of the program returns true and leaves its arguments as they were, the library's tables laid as the program's own text lays them (the given card Rows.ScanSelfUptoCardSaid, tied). Conditions: none beyond the row's own. -/
import Derived.Test.YtojefckhefanhabDoorCards
import Derived.Test.YtojefckhefanhabDoorTie
import Derived.Lib.LaidTab
import Derived.Stop.LaidErr
import Derived.WalkKit
import Derived.ProofKit
import Derived.OpenShut
import Derived.ShutString
import Derived.ChangeOld
import Derived.ChangeSlices
import Derived.Below
import Derived.SizedLaws
import Derived.JoinedCond
import Derived.Deep.DeepHandedRow
import Derived.Test.YtojefckhefanhabDoorQm
namespace Go.Proofs.YtojefckhefanhabDoor.scanSelfDone
open Go.ChangeShapes Go.WideShapes Go.ChangeAt Go.RowKit
open Go.ChangeMaps (open_string shut_string)

theorem own : ownKnob Tryd.prog.godebug = none := by kernel_rfl

theorem gTab : Tryd.prog.globalNamed "internal/strconv.uint64pow10" = some 1 := by kernel_rfl
theorem gTabType : (Tryd.prog.globals[1]?).map (·.type) = some 127 := by kernel_rfl
theorem cellsV : Tryd.prog.cellsOf 127 = 20 := by kernel_rfl
theorem cellsE : Tryd.prog.cellsOf 94 = 1 := by kernel_rfl
theorem undV : Tryd.prog.underlying 127 = some (.array 20 94) := by kernel_rfl
theorem undE : Tryd.prog.underlying 94 = some (.int .u64) := by kernel_rfl
theorem powE : (Rows.laid_internal_strconv_uint64pow10 : DataW Unit) = Lib.tabData .u64 Lib.pow10Tab := by kernel_rfl
theorem gTabS : Tryd.prog.globalNamed "depot/sha.roundWords" = some 0 := by kernel_rfl
theorem gTabTypeS : (Tryd.prog.globals[0]?).map (·.type) = some 108 := by kernel_rfl
theorem cellsVS : Tryd.prog.cellsOf 108 = 64 := by kernel_rfl
theorem cellsES : Tryd.prog.cellsOf 64 = 1 := by kernel_rfl
theorem undVS : Tryd.prog.underlying 108 = some (.array 64 64) := by kernel_rfl
theorem undES : Tryd.prog.underlying 64 = some (.int .u32) := by kernel_rfl
theorem shaE : (Rows.laid_depot_sha_roundWords : DataW Unit) = Lib.tabData .u32 kl := by kernel_rfl
theorem noHandle : (Rows.scanSelfUptoRow.laid.filter fun x => x.2.handleName?.isSome) = [] := by kernel_rfl
theorem ktP {W : World} (h : laidMetH Tryd.prog Rows.scanSelfUptoRow.laid W) : PT W := by
  unfold laidMetH at h
  rw [noHandle] at h
  have h1 : laidMet Tryd.prog Rows.scanSelfUptoRow.laid W := h
  have h2 : laidMet Tryd.prog (("internal/strconv.uint64pow10", Rows.laid_internal_strconv_uint64pow10) :: Rows.scanSelfUptoRow.laid.drop 3) W := h1.tail.tail
  rw [powE] at h2
  exact Lib.tabIs_of_head gTab gTabType undV undE cellsE cellsV h2

theorem ktS {W : World} (h : laidMetH Tryd.prog Rows.scanSelfUptoRow.laid W) : KT W := by
  unfold laidMetH at h
  rw [noHandle] at h
  have h1 : laidMet Tryd.prog Rows.scanSelfUptoRow.laid W := h
  have h2 : laidMet Tryd.prog (("depot/sha.roundWords", Rows.laid_depot_sha_roundWords) :: Rows.scanSelfUptoRow.laid.drop 4) W := h1.tail.tail.tail
  rw [shaE] at h2
  have h3 : Lib.TabIs Tryd.prog W "depot/sha.roundWords" .u32 kl := Lib.tabIs_of_head gTabS gTabTypeS undVS undES cellsES cellsVS h2
  exact fun i hi => h3.cell gTabS i (by exact hi)

theorem kt {W : World} (h : laidMetH Tryd.prog Rows.scanSelfUptoRow.laid W) : KT W ∧ PT W := ⟨ktS h, ktP h⟩

theorem short {H : Type} {s0 : ByteArray} {s1 : ByteArray} {s2 : ByteArray} (hk : Rows.uptoSmall H [.lit (.string s0.data.toList), .lit (.string s1.data.toList), .lit (.string s2.data.toList)] = true) : s0.size ≤ 1048576 ∧ s1.size ≤ 1048576 ∧ s2.size ≤ 1048576 := by
  have h : Rows.uptoBulkAll [DataW.lit (H := H) (.string s0.data.toList), .lit (.string s1.data.toList), .lit (.string s2.data.toList)] ≤ 1048576 := of_decide_eq_true hk
  simp only [Rows.uptoBulkAll, Rows.uptoBulk] at h
  have e0 : s0.data.toList.length = s0.size := by rw [Array.length_toList]; rfl
  have e1 : s1.data.toList.length = s1.size := by rw [Array.length_toList]; rfl
  have e2 : s2.data.toList.length = s2.size := by rw [Array.length_toList]; rfl
  omega

set_option maxRecDepth 100000 in
theorem contract (H : Type) (enc : TypeId × Value → H) (W : World) (base : Nat) (args : Array Value) (ds gs : List (DataW H)) (before : List MemPlace)
    (hval : ∀ (j : Nat) t v, Tryd.f3.params[j]? = some t → args[j]? = some v → Value.okWide Tryd.prog W .any base t v)
    (hW : DataW.Whole enc Tryd.prog Tryd.f3.params.toList Rows.scanSelfSpec.vars false W args.toList ds gs before) (hk : Rows.uptoSmall H (ds ++ gs) = true) (hL : laidMetH Tryd.prog Rows.scanSelfUptoRow.laid W) :
    Calls Tryd.prog 3 args W fun e W' => ∃ v, e = .returned v ∧ Rows.scanSelfSpec.post enc Tryd.prog Tryd.f3 false true false false W args v W' := by
  have hW' := hW
  obtain ⟨p, q, hA0, hV, rfl, hfz, hnd⟩ := hW
  have hA : DataW.TrodAll enc Tryd.prog W 0 (fun _ => true) true Tryd.f3.params.toList args.toList ds p := hA0
  rw [Tryd.params3] at hA hval
  obtain ⟨v0, vs0, d0, ds0, p0, q0, hargs, rfl, rfl, h0, r0⟩ := trodAll_cons hA
  obtain ⟨v1, vs1, d1, ds1, p1, q1, rfl, rfl, rfl, h1, r1⟩ := trodAll_cons r0
  obtain ⟨v2, vs2, d2, ds2, p2, q2, rfl, rfl, rfl, h2, r2⟩ := trodAll_cons r1
  obtain ⟨rfl, rfl, rfl⟩ := trodAll_nil r2
  obtain rfl : args = #[v0, v1, v2] := by cases args; simp_all
  obtain ⟨rfl, rfl⟩ := trodVars_none hV
  obtain ⟨a0, rfl, rfl, rfl, w0⟩ := open_string Tryd.underlying9 (hval 0 9 v0 rfl rfl) h0
  obtain ⟨a1, rfl, rfl, rfl, w1⟩ := open_string Tryd.underlying9 (hval 1 9 v1 rfl rfl) h1
  obtain ⟨a2, rfl, rfl, rfl, w2⟩ := open_string Tryd.underlying9 (hval 2 9 v2 rfl rfl) h2
  have m := short hk
  clear hA0
  refine (Sc.self_walkF a0 a1 a2 W m.1 m.2.1 m.2.2 (kt hL)).mono fun e W' ⟨he, bel⟩ => ?_
  subst he
  exact ⟨_, rfl, _, _, _, [], _, [], hW', trodAll_mk1 (shut_bool Tryd.underlying4 _), (trodAll_cons_mk (shut_string Tryd.underlying9 w0) (trodAll_cons_mk (shut_string Tryd.underlying9 w1) (trodAll_cons_mk (shut_string Tryd.underlying9 w2) trodAll_mk0))), rfl, bel.frame _, fun h => by cases h⟩

/-- A world with a table's cells in its block. -/
def laidAt (g : Nat) (w : World) (cells : Array Value) : World :=
  { w with heap := w.heap.modify g fun
      | .cells _ t frozen => .cells cells t frozen
      | o => o }
def argA : Array Value := #[.string ByteArray.empty, .string ByteArray.empty, .string ByteArray.empty]
def laidOn (w : World) : World := (laidAt 4 (laidAt 3 (laidAt 1 (laidAt 0 w (kl.map (Value.int .u32)).toArray) powCells) tab32Cells) tab64Cells)
set_option maxRecDepth 100000 in
theorem laid_met (os : Os) : laidMet Tryd.prog Rows.scanSelfUptoRow.laid ((laidOn (World.holding Tryd.prog os ⟨#[], #[], []⟩)).forCall (fun _ _ => 0) ⟨#[], argA, []⟩).memory :=
  laidMet_of_run' 8 (by kernel_rfl) (by kernel_rfl)
theorem reads (os : Os) {H : Type} (enc : TypeId × Value → H) : ∃ places, DataW.whole enc Tryd.prog ((laidOn (World.holding Tryd.prog os ⟨#[], #[], []⟩)).forCall (fun _ _ => 0) ⟨#[], argA, []⟩).memory Tryd.f3.params.toList Rows.scanSelfSpec.vars false argA.toList 8 = some ([.lit (.string []), .lit (.string []), .lit (.string [])], [], places) :=
  ⟨[], by kernel_rfl⟩

set_option maxRecDepth 100000 in
theorem lifted (os : Os) (started : os.Started) (H : Type) (enc : TypeId × Value → H) (F : Stop.Interp) :
    ReturnsInHanded {} Tryd.checked os 3 .any ((Rows.OpenSpec.upto Rows.scanSelfSpec).preRow enc Tryd.prog Tryd.f3 Rows.scanSelfUptoRow.domain false Rows.scanSelfUptoRow.laid) (((Rows.OpenSpec.upto Rows.scanSelfSpec).at F).post enc Tryd.prog Tryd.f3 false true false false) := by
  obtain ⟨places, hx⟩ := reads os enc
  refine returnsInHanded_of_row (C := Tryd.checked) (s := (Rows.OpenSpec.upto Rows.scanSelfSpec)) own started (by kernel_rfl) Tryd.func3
    (witness_row_at (enc := enc) (C := Tryd.checked) false (laidOn (World.holding Tryd.prog os ⟨#[], #[], []⟩)) argA rfl (by kernel_rfl) (by kernel_rfl) (by kernel_rfl)
      (OpenSpec.preRow_of_cond 8 hx (by kernel_rfl) (fun k hk => by cases hk; kernel_rfl) (by kernel_rfl) (laid_met os))) ?_
  intro W base args ds gs before hval hW _ hk _ hL _ _
  exact contract H enc W base args ds gs before hval hW (hk _ rfl) hL

theorem said : Rows.ScanSelfUptoSaid :=
  OpenClaim.holds_of_cond 3 Tryd.f3 rfl rfl rfl rfl rfl rfl rfl ⟨rfl, rfl, rfl, rfl, rfl⟩ rfl rfl rfl rfl rfl (by kernel_rfl) Tryd.func3 (by kernel_rfl)
    (of_decide_eq_true (by kernel_rfl)) (by unfold Func.isWrapper; first | (rw [if_pos (by decide +kernel)]; kernel_rfl) | (rw [if_neg (by decide +kernel)]; exact ⟨rfl, rfl⟩))
    (fun os started H enc _ F => by rw [OpenClaim.pre_eq_preRow]; exact lifted os started H enc F)

theorem plain (f : FuncId) (fn : Func) (hf : Tryd.pinned.checked.prog.funcNamed "depot/depotlaw14.ScanSelf" = some f) (hfn : Tryd.pinned.checked.prog.funcs[f]? = some fn) :
    false = Tryd.pinned.checked.prog.looks [] ∧ ∀ (j : Nat) t, fn.params[j]? = some t → Tryd.pinned.checked.prog.wantsStandIn t = false := by
  obtain rfl : f = 3 := Option.some.inj ((show Tryd.prog.funcNamed "depot/depotlaw14.ScanSelf" = some 3 by kernel_rfl).symm.trans hf) |>.symm
  obtain rfl : fn = Tryd.f3 := (Option.some.inj (Tryd.func3.symm.trans hfn)).symm
  refine ⟨by kernel_rfl, fun j t ht => ?_⟩
  rw [Tryd.params3] at ht
  have hm := Array.mem_of_getElem? ht
  simp at hm
  subst hm
  exact (show Tryd.prog.wantsStandIn 9 = false by kernel_rfl)

theorem card : Rows.ScanSelfUptoCardSaid :=
  Claim7.holds_tied_plain_at .later [] _ _ _ _ said (fun _ h => by cases h) (by kernel_rfl) (fun _ h => by cases h) scanSelfUpto_row_tie rfl ⟨rfl, rfl⟩ (by kernel_rfl) rfl plain (by kernel_rfl)
end Go.Proofs.YtojefckhefanhabDoor.scanSelfDone
namespace Go.Proofs.YtojefckhefanhabDoor
theorem scanSelf_holds : Rows.ScanSelfUptoCardSaid := scanSelfDone.card
#print axioms scanSelf_holds
end Go.Proofs.YtojefckhefanhabDoor
