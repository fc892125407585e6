/- Proved: for every input the law TreeEquals of the program returns true and leaves its argument as it was (the given statement Rows.TreeEqualsSaid). Conditions: none beyond the row's own. -/
import Derived.Test.YtdmkkkfdigeinacRows
import Derived.Test.YtdmkkkfdigeinacTqL
import Derived.Test.YtdmkkkfdigeinacTqO
import Derived.WalkKit
import Derived.ProofKit
import Derived.OpenShut
import Derived.ShutString
import Derived.ChangeOld
import Derived.Below
import Derived.SizedLaws
namespace Go.Proofs.Ytdmkkkfdigeinac.treeEqualsDone
open Go.ChangeShapes Go.WideShapes Go.ChangeAt Go.RowKit
open Go.ChangeMaps (open_string shut_string)
theorem own : ownKnob Try.prog.godebug = none := by kernel_rfl
theorem laidOut : laidOutB Try.prog = true := by kernel_rfl
set_option maxRecDepth 100000 in
theorem lifted (os : Os) (started : os.Started) (H : Type) (enc : TypeId × Value → H) :
    ReturnsInHanded {} Try.checked os 3 .any (Rows.treeEqualsSpec.pre6 enc Try.prog Try.f3 Rows.treeEqualsRow.domain false) (Rows.treeEqualsSpec.post enc Try.prog Try.f3 false true false false) := by
  refine returnsInHanded_of_change_sized (C := Try.checked) own started (by kernel_rfl) Try.func3
    (ChangeSpec.witness6 (enc := enc) (C := Try.checked) false ⟨#[], #[.agg #[.int .i64 0, .bool false, .string ByteArray.empty, .slice none 0 0], .agg #[.int .i64 0, .bool false, .string ByteArray.empty, .slice none 0 0]], []⟩ 8 (by kernel_rfl) (by kernel_rfl) (by kernel_rfl) (by kernel_rfl)) ?_
  intro W base args ds gs before hval0 hW hcnd hsz0 _
  have hval : ∀ (j : Nat) t v, Try.f3.params[j]? = some t → args[j]? = some v → Value.okWide Try.prog W .any base t v := hval0
  have hsz : (DataW.weightsEach Try.prog (Try.f3.params.toList ++ Rows.treeEqualsSpec.plain.varTypes Try.prog) (ds ++ gs)).all (· ≤ reachBytes) = true := hsz0
  have hW' := hW
  obtain ⟨p, q, hA0, hV, rfl, hfz, hnd⟩ := hW
  have hA : DataW.TrodAll enc Try.prog W 0 (fun _ => true) true Try.f3.params.toList args.toList ds p := hA0
  rw [Try.params3] at hA hval hsz
  obtain ⟨v0, vs0, d0, ds0, p0, q0, hargs, rfl, rfl, h0, r0⟩ := trodAll_cons hA
  obtain ⟨v1, vs1, d1, ds1, p1, q1, rfl, rfl, rfl, h1, r1⟩ := trodAll_cons r0
  obtain ⟨rfl, rfl, rfl⟩ := trodAll_nil r1
  obtain rfl : args = #[v0, v1] := by cases args; simp_all
  obtain ⟨rfl, rfl⟩ := trodVars_none hV
  have k0 := h0
  have lt0 : ∀ x ∈ p0, x.block < W.heap.size := by obtain ⟨m, hm⟩ := k0; exact DataW.trod_lt m _ _ _ hm
  obtain ⟨ff0, hf0⟩ := h0
  obtain ⟨cs0, rfl, _⟩ := okWide_struct Try.underlying25 (hval 0 25 v0 rfl rfl)
  have hw0 : ∀ y ∈ d0.weights Try.prog 25, y ≤ reachBytes := fun y hy => of_decide_eq_true (List.all_eq_true.1 hsz _ (DataW.weights_mem_each (j := 0) rfl rfl y hy))
  obtain ⟨kk0, ee0, tt0, zz0, nn0, cc0, TT0, hl0, hA0⟩ := open_node ff0 _ _ hf0 hw0
  obtain rfl : cs0 = #[.int .i64 kk0, .bool ee0, .string tt0, .slice zz0 nn0 cc0] := by have hh : cs0.toList = _ := hl0; rw [← Array.toArray_toList (xs := cs0), hh]
  have k1 := h1
  have lt1 : ∀ x ∈ p1, x.block < W.heap.size := by obtain ⟨m, hm⟩ := k1; exact DataW.trod_lt m _ _ _ hm
  obtain ⟨ff1, hf1⟩ := h1
  obtain ⟨cs1, rfl, _⟩ := okWide_struct Try.underlying25 (hval 1 25 v1 rfl rfl)
  have hw1 : ∀ y ∈ d1.weights Try.prog 25, y ≤ reachBytes := fun y hy => of_decide_eq_true (List.all_eq_true.1 hsz _ (DataW.weights_mem_each (j := 1) rfl rfl y hy))
  obtain ⟨kk1, ee1, tt1, zz1, nn1, cc1, TT1, hl1, hA1⟩ := open_node ff1 _ _ hf1 hw1
  obtain rfl : cs1 = #[.int .i64 kk1, .bool ee1, .string tt1, .slice zz1 nn1 cc1] := by have hh : cs1.toList = _ := hl1; rw [← Array.toArray_toList (xs := cs1), hh]
  clear hA0 hval0
  refine (equals_walk (max ff0 ff1) kk0 ee0 tt0 zz0 nn0 cc0 kk1 ee1 tt1 zz1 nn1 cc1 TT0 TT1 W (hA0.upto (Nat.le_max_left _ _)) (hA1.upto (Nat.le_max_right _ _))).mono fun e W' ⟨he, bel⟩ => ?_
  subst he
  exact ⟨_, rfl, _, _, _, [], _, [], hW', trodAll_mk1 (shut_bool Try.underlying4 _), (trodAll_cons_mk (Below.trod laidOut (by kernel_rfl) (of_decide_eq_true (by kernel_rfl)) k0 bel lt0) (trodAll_cons_mk (Below.trod laidOut (by kernel_rfl) (of_decide_eq_true (by kernel_rfl)) k1 bel lt1) trodAll_mk0)), rfl, bel.frame _, fun h => by cases h⟩
theorem over : Rows.treeEqualsRow.holds Try.pinned (OpenSpec.ofChange Rows.treeEqualsSpec) :=
  OpenClaim.holds_of_wide 3 Try.f3 rfl rfl rfl rfl rfl rfl rfl ⟨rfl, rfl, rfl, rfl, rfl⟩ rfl rfl rfl rfl rfl (by kernel_rfl) Try.func3 (by kernel_rfl)
    (of_decide_eq_true (by kernel_rfl)) (by unfold Func.isWrapper; first | (rw [if_pos (by decide +kernel)]; kernel_rfl) | (rw [if_neg (by decide +kernel)]; exact ⟨rfl, rfl⟩))
    (fun os started H enc _ => lifted os started H enc)
end Go.Proofs.Ytdmkkkfdigeinac.treeEqualsDone
namespace Go.Proofs.Ytdmkkkfdigeinac
theorem treeEquals_holds : Rows.TreeEqualsSaid := treeEqualsDone.over
#print axioms treeEquals_holds
end Go.Proofs.Ytdmkkkfdigeinac
