/- The builder's String; the first WriteString. -/
import Derived.Test.YthjpmiidbgaiaaaPkG
namespace Go.Proofs.Ythjpmiidbgaiaaa
open Go.RowKit Go.Maps Go.WideMaps

theorem und89 : Try.prog.underlying 89 = some (.pointer 5) := by kernel_rfl
theorem cellsB : Try.prog.cellsOf 5 = 1 := by kernel_rfl

set_option maxHeartbeats 2000000 in
set_option maxRecDepth 100000 in
theorem bstr_any (g m : Nat) (v : Value) (s out : List UInt8) (pl n : Nat) (D : DataW Unit) (w : World) (h : Pk w g m v s out pl n D) (h0 : out ≠ []) :
    Calls Try.prog 27 #[.pointer (some ⟨g, 0, none⟩)] w fun e w' => e = .returned (.string (ba out)) ∧ Below g w w' := by
  have hl0 : out.length ≠ 0 := by simpa using h0
  have c1 : w.cell? ⟨g, 1, none⟩ = some v := by rw [Lib.cell_of_heap h.blk]; rfl
  obtain ⟨k, cap, cur, rfl, hbg, hg, hnc, hcm, hcs, htake⟩ : ∃ k cap cur, v = .slice (some ⟨k, 0, none⟩) out.length cap ∧ g + 1 ≤ k ∧ w.heap[k]? = some (.cells cur 5 (0, 0)) ∧ out.length ≤ cap ∧ cap ≤ maxLen ∧ cur.size = cap * 1 ∧ cur.toList.take (out.length * 1) = Lib.byteCells out := by
    rcases h.own.2 with ⟨_, hz⟩ | ⟨k, cap, cur, hv, r⟩
    · exact absurd hz hl0
    · exact ⟨k, cap, cur, hv, r⟩
  have hSD : (Builtin.unsafeSliceData_ #[45] 89 #[.slice (some ⟨k, 0, none⟩) out.length cap]).run Try.prog w.drew = .ok (.pointer (some ⟨k, 0, none⟩)) w.drew :=
    Lib.run_unsafeSliceData_row _ _ _ _ _ _ (by omega)
  have hUS : (Builtin.unsafeString_ #[89, 3] 9 #[.pointer (some ⟨k, 0, none⟩), .int .i64 out.length]).run Try.prog w.drew = .ok (.string ⟨out.toArray⟩) (w.drew.freeze ⟨k, 0, none⟩ out.length) := by
    refine Lib.run_unsafeString_row w.drew 89 3 9 5 und89 cellsB k cur.size (by have hg' : w.drew.heap[k]? = some (.cells cur 5 (0, 0)) := hg; simp [World.shape?, hg']) out h0 (by omega) (by unfold maxLen at hcm; omega) ?_
    intro j x hx
    have := h.own.cells (g := k) rfl j (.int .u8 x.toNat) (by simp [Lib.byteCells, hx])
    exact this
  clear h htake hcs hg
  go_enter Try.func27, Try.ntmps27
  go_wp2_with fail
  go_region
  all_goals (
    go_wp2
    go_ret
    exact ⟨rfl, Lib.below_freeze (Below.drew (Below.refl g w)) (p := ⟨k, 0, none⟩) (by show g ≤ k; omega) _⟩)

set_option maxHeartbeats 1000000 in
set_option maxRecDepth 100000 in
theorem wstr_first (g m : Nat) (s : List UInt8) (n : Nat) (D : DataW Unit) (t : List UInt8) (w : World) (hb : PkB w g m (.pointer none) (.slice none 0 0) s 0) (hm : w.ownsMap Try.prog 84 (plainElem Try.prog 3) m n D) (hmg : m < g) (hlen : t.length ≤ 1073741824) :
    Calls Try.prog 20 #[.pointer (some ⟨g, 0, none⟩), .string (ba t)] w fun e w' => e = .returned (.tuple #[.int .i64 (t.length : Int), .nilIface]) ∧ (∃ v', Pk w' g m v' s t 0 n D) ∧ Below g w w' := by
  obtain ⟨i0, hi, hz0, hz1, hz2⟩ := info_parts infoU8
  have hbw := hb.lt
  have c0 : w.cell? ⟨g, 0, none⟩ = some (.pointer none) := by rw [Lib.cell_of_heap hb]; rfl
  have f0 : w.frozen? ⟨g, 0, none⟩ = false := Lib.frozen_of_heap hb 0
  have hsh : w.shape? g = some (63, 5) := by unfold PkB at hb; simp [World.shape?, hb]
  have hts := ba_size t
  have HP : Hid (Pk (w.setCell ⟨g, 0, none⟩ (.pointer (some ⟨g, 0, none⟩))) g m (.slice none 0 0) s [] 0 n D) := ⟨hb.seta _, World.ownsRow_nil _ _ _ _, map_same hm (Below.heap_setCell w _ _ m (by show m ≠ g; omega)), hmg⟩
  have B0 : Hid (Below g w (w.setCell ⟨g, 0, none⟩ (.pointer (some ⟨g, 0, none⟩)))) := (Below.refl g w).setCell (p := ⟨g, 0, none⟩) (Nat.le_refl _) _
  clear hb hm
  go_enter Try.func20, Try.ntmps20
  go_wp2_with fail
  refine (cpC_fresh g w c0 hsh f0).mono ?_
  rintro e w1 ⟨rfl, rfl⟩
  clear c0 f0 hsh
  generalize w.setCell ⟨g, 0, none⟩ (.pointer (some ⟨g, 0, none⟩)) = w1 at HP B0 ⊢
  have hbw1 := HP.out.lt
  have c0 : w1.cell? ⟨g, 0, none⟩ = some (.pointer (some ⟨g, 0, none⟩)) := by rw [Lib.cell_of_heap HP.out.blk]; rfl
  have c1 : w1.cell? ⟨g, 1, none⟩ = some (.slice none 0 0) := by rw [Lib.cell_of_heap HP.out.blk]; rfl
  have hown := HP.out.own
  obtain ⟨v', w2, hr, hown', hgrow, -⟩ := Lib.run_append_own_string (P := Try.prog) w1 (g + 1) 45 9 45 5 i0 undTB Try.underlying9 hi hz0 hz1 hz2 (.slice none 0 0) 0 (Lib.byteCells []) hown (ba t) (by unfold maxLen; omega) (by omega) (by omega)
  have eC : Lib.byteCells [] ++ Lib.strCells (ba t) = Lib.byteCells t := by rw [Lib.strCells_eq]; rfl
  have hX := HP.out.regrow (out' := t) (Value.slice none 0 0).ownBlock hgrow (fun k hk => by cases hk) (by rw [← eC, ← hts]; simpa using hown')
  have d1 : w2.cell? ⟨g, 1, none⟩ = some (.slice none 0 0) := (World.cell?_of_block (w := w1) (a := ⟨g, 1, none⟩) (hgrow.block g hbw1 (fun e => by cases e))).trans c1
  have f1 : w2.frozen? ⟨g, 1, none⟩ = false := (World.frozen?_of_block (w := w1) (a := ⟨g, 1, none⟩) (hgrow.block g hbw1 (fun e => by cases e))).trans (Lib.frozen_of_heap HP.out.blk 1)
  obtain ⟨ao, n', cap, rfl⟩ := slice_of_row hown'
  have HX : Hid (Pk (w2.setCell ⟨g, 1, none⟩ (.slice ao n' cap)) g m (.slice ao n' cap) s t 0 n D ∧ Below g w (w2.setCell ⟨g, 1, none⟩ (.slice ao n' cap))) := ⟨hX.1, B0.out.trans hX.2⟩
  clear hX hgrow hown' hown eC
  go_wp2_with (first | (refine wpList_appT_is (by rfl) (.tmp 12) (.tmp 13) (by rfl) _ _ _ _ (by rfl) (by rfl) hr ?_))
  go_ret2
  exact ⟨rfl, ⟨_, HX.out.1⟩, HX.out.2⟩

end Go.Proofs.Ythjpmiidbgaiaaa
