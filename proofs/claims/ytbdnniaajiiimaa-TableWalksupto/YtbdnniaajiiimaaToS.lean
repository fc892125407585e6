/- A table's Keys (string keys), walked. -/
import Derived.Test.YtbdnniaajiiimaaTnS
import Derived.RangeFuncBox
import Derived.Maps.AppendAt
namespace Go.Proofs.Ytbdnniaajiiimaa
namespace TS
open Go.RowKit Go.Shelf
attribute [local go_sem] Oper.semAt_some

theorem infoK : (Try.prog.info? 9).map (fun i => (i.zero, i.size, i.bytes)) = some (some (.string ByteArray.empty), 1, 16) := by kernel_rfl

set_option maxRecDepth 100000 in
set_option maxHeartbeats 4000000 in
theorem keys_any (T : Nat) (t : BT ByteArray) (w : World) (h : Tab w T t) (hc : t.cnt ≤ 8796093021952) :
    Calls Try.prog 24 #[.pointer (some ⟨T, 0, none⟩)] w fun e w' => ∃ v, e = .returned v ∧ w'.ownsRow w.heap.size 9 1 v t.toL.length (t.toL.map (fun x => Value.string x.1)) ∧ Below w.heap.size w w' := by
  refine (callsIn_wide (n := 6)).1 ?_
  have LE := len_any T t w h
  obtain ⟨p0, hct, hft, htr, hok⟩ := h
  have hcl : t.toL.length = t.cnt := (BT.cnt_toL t hok).symm
  have hTl : T < w.heap.size := World.block_lt_of_cell? _ _ hct
  have hTB := htr.bnd
  clear htr hok hft
  have hml : (8796093021952 : Nat) ≤ maxLen := by decide
  obtain ⟨i0, hi, hz0, hz1, hz2⟩ := info_parts infoK
  refine callsIn_of_wp_marks Try.func24 rfl trivial ?_ rfl
  simp only [Try.ntmps24, List.size_toArray, List.length_cons, List.length_nil, Nat.reduceAdd, Nat.reduceSub, Array.replicate_succ, Array.replicate_zero, List.push_toArray, List.append_toArray, List.nil_append, List.cons_append]
  gi_wp2_with (first
    | ((try refine ⟨trivial, ?_⟩); gi_at_call 7; refine (callsIn_wide.2 LE).mono ?_; clear LE; rintro e w1 ⟨rfl, rfl⟩)
    | (gi_at_make; refine wpListIn_make_own _ rfl _ _ 42 rfl w1.heap.size 9 i0 (.string ByteArray.empty) 1 Try.underlying42 hi hz0 hz1 .i64 .i64 _ t.cnt rfl rfl rfl (by rw [hz2]; omega) (by omega) (Nat.le_refl _) ?_; intro w2 hrow0 hg0)
    | ((try refine ⟨trivial, ?_⟩); gi_at_call 31; refine (all_in Fence.wide _ trivial rfl _ _).mono ?_; rintro e w' ⟨rfl, rfl⟩))
  have hb2 : Below w1.heap.size w1 w2 := ⟨hg0.os, hg0.tape, hg0.output, hg0.size, fun k hk => hg0.block k hk (by simp)⟩
  have bO := Boxed.new w2 42 (.slice (some ⟨w1.heap.size, 0, none⟩) 0 t.cnt)
  have bN := Boxed.new (w2.alloc (.cells #[.slice (some ⟨w1.heap.size, 0, none⟩) 0 t.cnt] 42)) 23 (.pointer (some ⟨T, 0, none⟩))
  rw [World.size_alloc] at bN
  have hs2 := hb2.size
  have hB0 : Below w1.heap.size w1 ((w2.alloc (.cells #[.slice (some ⟨w1.heap.size, 0, none⟩) 0 t.cnt] 42)).alloc (.cells #[.pointer (some ⟨T, 0, none⟩)] 23)) := (hb2.alloc hs2 _).alloc (by simp; omega) _
  refine wpIn_rangeFunc_ownG rfl (by decide) (gf := 35) (lb := #[.pointer (some ⟨w2.heap.size + 1, 0, none⟩)]) rfl trivial (enters_of Try.func35 (by kernel_rfl) rfl)
    (all_stops Fence.wide rfl 5 trivial trivial rfl (w2.heap.size + 1) T w1.heap.size p0 t _ (by simp) (by simp; omega) (by simp; omega) bN.cell ((hB0.cell (p := ⟨T, 0, none⟩) hTl).trans hct) (hTB.below hB0)) belowK_t (belowK_b (by simp; omega)) (Below.refl _ _) (fun _ => rfl)
    (fun pre W => (∃ v, Boxed W w2.heap.size 42 v ∧ W.ownsRow w1.heap.size 9 1 v pre.length (pre.map (fun x => Value.string x.1)) ∧ True) ∧ Below w1.heap.size w1 W)
    (fun _ _ _ => False)
    (OwnFrom.and (Own.from (holdsRow_own w1.heap.size w2.heap.size 42 9 1 (fun pre : List (ByteArray × Int) => pre.length) (fun pre => pre.map (fun x => Value.string x.1)) (fun _ _ => True)) _) (ownFrom_below (Nat.le_refl _) (by simp; omega)))
    (fun _ _ _ _ _ hs _ _ => hs)
    ⟨⟨_, bO.alloc _, (hrow0.alloc _).alloc _, trivial⟩, hB0⟩
    (fun x => { tmps := #[.pointer (some ⟨T, 0, none⟩), undef, .slice none 0 0, .pointer (some ⟨w2.heap.size, 0, none⟩), Value.string x.1, .pointer (some ⟨T, 0, none⟩), .int .i64 t.cnt, .slice (some ⟨w1.heap.size, 0, none⟩) 0 t.cnt, .pointer (some ⟨T, 0, none⟩), .func (.func 35) #[] #[.pointer (some ⟨w2.heap.size + 1, 0, none⟩)], Value.string x.1, .int .i64 x.2, undef, undef, undef, undef, undef], defers := [] }) ?assign ?body ?done ?stop
  case assign =>
    intro l x W K hK
    gi_wp2
    exact hK
  case body =>
    rintro l pre x W ⟨⟨v, hv, hrow, _⟩, hB⟩ hlt
    have hc1 := hv.cell
    have hle : w1.heap.size ≤ w2.heap.size := hs2
    have hpl : pre.length + 1 ≤ 8796093021952 := by omega
    gi_wp2_with (gi_at_builtin; refine wpListIn_append_own _ rfl _ _ 42 rfl w1.heap.size 9 i0 (.string ByteArray.empty) 1 16 Try.underlying42 hi hz0 hz1 hz2 rfl (by decide) _ _ _ rfl (hrow.alloc _) ⟨W.heap.size, 0, none⟩ 1 1 [Value.string x.1] rfl rfl (cell_one_new _ _ _) (by simp [Value.oneCell']) (by omega) (by omega) (by have := hB.size; simp; omega) ?_; intro v' w3 hown' hgrow _; obtain ⟨g', cap', rfl⟩ := ownsRow_succ hown'; obtain ⟨hv1, hv2, hr2, hk2, hb3⟩ := hv.appended (by decide) hrow hB.size hle hown' hgrow; have hc2 := hv1.cell; have hf2 := hv1.frozen)
    exact ⟨hk2.from _, hb3, ⟨_, hv2, by simpa using hr2, trivial⟩, hB.trans hb3⟩
  case done =>
    rintro D ys W hD rfl ⟨⟨v, hv, hrow, _⟩, hB⟩ hK
    have hc1 := hv.cell
    gi_wp2
    refine ⟨by simp, .inl ⟨_, _, rfl, run_takeDeferred hK, ?_⟩⟩
    exact ⟨_, results_tmp rfl _ _ _, v, rfl, ownsRow_putObj hrow _ hK rfl, hB.trans (belowK_b (w := w1) (Nat.le_refl _) W D _ _ (by simp at hD; omega) hK rfl rfl)⟩
  case stop =>
    rintro D c pre W _ _ h _
    exact h.elim

end TS
end Go.Proofs.Ytbdnniaajiiimaa
