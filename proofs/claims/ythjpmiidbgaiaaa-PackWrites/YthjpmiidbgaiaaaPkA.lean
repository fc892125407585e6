/- WriteByte, WriteString on the packer's builder. -/
import Derived.Test.YthjpmiidbgaiaaaPkM
namespace Go.Proofs.Ythjpmiidbgaiaaa
open Go.RowKit Go.Maps Go.WideMaps

theorem bytes_app (a b : List UInt8) : Lib.byteCells a ++ Lib.byteCells b = Lib.byteCells (a ++ b) := by simp [Lib.byteCells]

/-- The builder's slice has grown. -/
theorem Pk.regrow {w w1 : World} {g m : Nat} {v v' : Value} {s out out' : List UInt8} {pl n : Nat} {D : DataW Unit} (h : Pk w g m v s out pl n D) (o : Option Nat) (G : w.grownBy w1 o) (ho : ∀ k, o = some k → g + 1 ≤ k) (hown : w1.ownsRow (g + 1) 5 1 v' out'.length (Lib.byteCells out')) :
    Pk (w1.setCell ⟨g, 1, none⟩ v') g m v' s out' pl n D ∧ Below g w (w1.setCell ⟨g, 1, none⟩ v') := by
  have hl := h.lt
  have hm := h.mg
  have eg : w1.heap[g]? = w.heap[g]? := G.block g hl (fun e => by have := ho g e.symm; omega)
  have em : w1.heap[m]? = w.heap[m]? := G.block m (by omega) (fun e => by have := ho m e.symm; omega)
  refine ⟨⟨(h.blk.same eg).setv v', row_same hown (fun k hk => Below.heap_setCell w1 _ _ k (by have := (hown.lt k hk).1; show k ≠ g; omega)), map_same (map_same h.mp em) (Below.heap_setCell w1 _ _ m (by show m ≠ g; omega)), hm⟩, ?_⟩
  exact ((Below.refl g w).grown G (by omega) (fun k hk => by have := ho k hk; omega)).setCell (p := ⟨g, 1, none⟩) (Nat.le_refl _) _

set_option maxHeartbeats 1000000 in
set_option maxRecDepth 100000 in
theorem wbyte_any (g m : Nat) (v : Value) (s out : List UInt8) (pl n : Nat) (D : DataW Unit) (b : UInt8) (w : World) (h : Pk w g m v s out pl n D) (hlen : out.length ≤ 1073741824) :
    Calls Try.prog 38 #[.pointer (some ⟨g, 0, none⟩), .int .u8 (b.toNat : Int)] w fun e w' => e = .returned .nilIface ∧ (∃ v', Pk w' g m v' s (out ++ [b]) pl n D) ∧ Below g w w' := by
  obtain ⟨i0, hi, hz0, hz1, hz2⟩ := info_parts infoU8
  have HP : Hid (Pk w g m v s out pl n D) := h
  have hbw := h.lt
  have c0 : w.cell? ⟨g, 0, none⟩ = some (.pointer (some ⟨g, 0, none⟩)) := by rw [Lib.cell_of_heap h.blk]; rfl
  have c1 : w.cell? ⟨g, 1, none⟩ = some v := by rw [Lib.cell_of_heap h.blk]; rfl
  have hown := h.own
  clear h
  go_enter Try.func38, Try.ntmps38
  go_wp2_with fail
  refine (cpC_used g w c0).mono ?_
  rintro e w1 ⟨rfl, rfl⟩
  obtain ⟨v', w2, hr, hown', hgrow, -, hloc⟩ := run_append_own_at (P := Try.prog) (w1.alloc (.cells #[.int .u8 (b.toNat : Int)] 5)) (g + 1) 45 45 5 i0 (.int .u8 0) 1 1 undTB hi hz0 hz1 hz2 rfl (by decide) v out.length (Lib.byteCells out) (hown.alloc _) ⟨w1.heap.size, 0, none⟩ 1 1 [.int .u8 (b.toNat : Int)] rfl (fun j u hj => by
      match j, hj with
      | 0, hj => simp at hj; subst hj; exact (World.cell?_alloc_new w1 _ _ 0).trans rfl) (by intro u hu; simp at hu; subst hu; rfl) (by unfold maxLen; omega) (by omega) (by rw [World.size_alloc]; omega)
  have G2 : w1.grownBy w2 v.ownBlock := (World.grownBy_alloc w1 _ _).trans hgrow
  have hX := HP.out.regrow (out' := out ++ [b]) v.ownBlock G2 (fun k hk => (hown.lt k hk).1) (by rw [← bytes_app, List.length_append]; exact hown')
  have d1 : w2.cell? ⟨g, 1, none⟩ = some v := (World.cell?_of_block (w := w1) (a := ⟨g, 1, none⟩) (G2.block g hbw (fun e => by have := (hown.lt g e.symm).1; omega))).trans c1
  have f1 : w2.frozen? ⟨g, 1, none⟩ = false := (World.frozen?_of_block (w := w1) (a := ⟨g, 1, none⟩) (G2.block g hbw (fun e => by have := (hown.lt g e.symm).1; omega))).trans (Lib.frozen_of_heap HP.out.blk 1)
  obtain ⟨ao, n', cap, rfl⟩ := slice_of_row hown'
  have HX : Hid (Pk (w2.setCell ⟨g, 1, none⟩ (.slice ao n' cap)) g m (.slice ao n' cap) s (out ++ [b]) pl n D ∧ Below g w1 (w2.setCell ⟨g, 1, none⟩ (.slice ao n' cap))) := hX
  obtain ⟨p0, n00, cc0, rfl⟩ := slice_of_row hown
  clear hX G2 hgrow hown' hown hloc
  go_wp2_with (first | (refine wpList_appB_is' (by rfl) (.tmp 11) (.tmp 13) (by rfl) _ _ _ _ (by rfl) (by rfl) hr ?_))
  go_ret
  exact ⟨rfl, ⟨_, HX.out.1⟩, HX.out.2⟩

set_option maxHeartbeats 1000000 in
set_option maxRecDepth 100000 in
theorem wstr_any (g m : Nat) (v : Value) (s out : List UInt8) (pl n : Nat) (D : DataW Unit) (t : List UInt8) (w : World) (h : Pk w g m v s out pl n D) (hlen : out.length + t.length ≤ 1073741824) :
    Calls Try.prog 20 #[.pointer (some ⟨g, 0, none⟩), .string (ba t)] w fun e w' => e = .returned (.tuple #[.int .i64 (t.length : Int), .nilIface]) ∧ (∃ v', Pk w' g m v' s (out ++ t) pl n D) ∧ Below g w w' := by
  obtain ⟨i0, hi, hz0, hz1, hz2⟩ := info_parts infoU8
  have HP : Hid (Pk w g m v s out pl n D) := h
  have hbw := h.lt
  have c0 : w.cell? ⟨g, 0, none⟩ = some (.pointer (some ⟨g, 0, none⟩)) := by rw [Lib.cell_of_heap h.blk]; rfl
  have c1 : w.cell? ⟨g, 1, none⟩ = some v := by rw [Lib.cell_of_heap h.blk]; rfl
  have hown := h.own
  have hts := ba_size t
  clear h
  go_enter Try.func20, Try.ntmps20
  go_wp2_with fail
  refine (cpC_used g w c0).mono ?_
  rintro e w1 ⟨rfl, rfl⟩
  obtain ⟨v', w2, hr, hown', hgrow, -⟩ := Lib.run_append_own_string (P := Try.prog) w1 (g + 1) 45 9 45 5 i0 undTB Try.underlying9 hi hz0 hz1 hz2 v out.length (Lib.byteCells out) hown (ba t) (by unfold maxLen; omega) (by omega) (by omega)
  have eC : Lib.byteCells out ++ Lib.strCells (ba t) = Lib.byteCells (out ++ t) := by rw [Lib.strCells_eq, ← bytes_app]; rfl
  have hX := HP.out.regrow (out' := out ++ t) v.ownBlock hgrow (fun k hk => (hown.lt k hk).1) (by rw [← eC, List.length_append, ← hts]; exact hown')
  have d1 : w2.cell? ⟨g, 1, none⟩ = some v := (World.cell?_of_block (w := w1) (a := ⟨g, 1, none⟩) (hgrow.block g hbw (fun e => by have := (hown.lt g e.symm).1; omega))).trans c1
  have f1 : w2.frozen? ⟨g, 1, none⟩ = false := (World.frozen?_of_block (w := w1) (a := ⟨g, 1, none⟩) (hgrow.block g hbw (fun e => by have := (hown.lt g e.symm).1; omega))).trans (Lib.frozen_of_heap HP.out.blk 1)
  obtain ⟨ao, n', cap, rfl⟩ := slice_of_row hown'
  have HX : Hid (Pk (w2.setCell ⟨g, 1, none⟩ (.slice ao n' cap)) g m (.slice ao n' cap) s (out ++ t) pl n D ∧ Below g w1 (w2.setCell ⟨g, 1, none⟩ (.slice ao n' cap))) := hX
  obtain ⟨p0, n00, cc0, rfl⟩ := slice_of_row hown
  clear hX hgrow hown' hown eC
  go_wp2_with (first | (refine wpList_appT_is (by rfl) (.tmp 12) (.tmp 13) (by rfl) _ _ _ _ (by rfl) (by rfl) hr ?_))
  go_ret2
  exact ⟨rfl, ⟨_, HX.out.1⟩, HX.out.2⟩

end Go.Proofs.Ythjpmiidbgaiaaa
