/- awake: the tree with one file. -/
import Derived.Test.YtmknnblogfpifaaDoorTvJ
namespace Go.Proofs.YtmknnblogfpifaaDoor
open Go.RowKit

/-- awake's tree. -/
def awT : Tr := .mk 3 false ⟨#[]⟩ [⟨#[97]⟩] [.mk 1 false ⟨#[120]⟩ [] []]
theorem aw_ck : ckT awT = (⟨#[]⟩, 0) := by decide +kernel
theorem aw_tb : tbT awT = 264 := by decide +kernel
theorem aw_sz : szA awT = (288, 0) := by
  unfold szA
  rw [aw_ck, aw_tb]
  rfl
theorem aw_rw : rwT [] awT = [(⟨#[]⟩, 3, false, ⟨#[]⟩), (⟨#[97]⟩, 1, false, ⟨#[120]⟩)] := by
  unfold awT
  rw [rwT, rwL, rwT, rwL, rwL] <;> simp <;> exact ⟨rfl, rfl⟩
theorem aw_sm : smT awT := by
  unfold awT
  rw [smT, smL, smT]
  refine ⟨by decide, by decide, ⟨by decide, ?_⟩, ?_⟩ <;> rw [smL] <;> simp

theorem leaf_any (t : ByteArray) (w : World) : Calls Tryd.prog 19 #[.string t] w fun e w' => e = .returned (.agg #[.int .i64 1, .bool false, .string t, .slice none 0 0]) ∧ Below w.heap.size w w' := by
  go_enter Tryd.func19, Tryd.ntmps19
  go_wp2
  have q : (w.alloc (.cells #[.int .i64 1, .bool false, .string t, .slice none 0 0] 25)).heap[w.heap.size]? = some (.cells #[.int .i64 1, .bool false, .string t, .slice none 0 0] 25 (0, 0)) := Array.getElem?_push_size
  have B : Below w.heap.size w (w.alloc (.cells #[.int .i64 1, .bool false, .string t, .slice none 0 0] 25)) := (Below.refl _ _).alloc (Nat.le_refl _) _
  generalize w.alloc (.cells #[.int .i64 1, .bool false, .string t, .slice none 0 0] 25) = W4 at q B ⊢
  generalize w.heap.size = Z at *
  have q0 : W4.cell? ⟨Z, 0, none⟩ = some (.int .i64 1) := by rw [Lib.cell_of_heap q]; rfl
  have q1 : W4.cell? ⟨Z, 1, none⟩ = some (.bool false) := by rw [Lib.cell_of_heap q]; rfl
  have q2 : W4.cell? ⟨Z, 2, none⟩ = some (.string t) := by rw [Lib.cell_of_heap q]; rfl
  have q3 : W4.cell? ⟨Z, 3, none⟩ = some (.slice none 0 0) := by rw [Lib.cell_of_heap q]; rfl
  exact bodyPost_ret (v := .agg #[.int .i64 1, .bool false, .string t, .slice none 0 0]) (by simp [results, Tryd.results19, go_sem, q0, q1, q2, q3]) rfl ⟨rfl, B⟩

set_option maxHeartbeats 8000000 in
set_option maxRecDepth 10000 in
theorem awake_any (w : World) : Calls Tryd.prog 7 #[] w fun e w' => e = .returned (.bool true) ∧ Below w.heap.size w w' := by
  go_enter Tryd.func7, Tryd.ntmps7
  go_wp2_with fail
  refine (leaf_any ⟨#[120]⟩ w).mono ?_
  rintro e5 w1 ⟨rfl, b1⟩
  have HB1 : Hid (Below w.heap.size w w1) := b1
  have s1 : (w1.alloc (.cells #[.string ⟨#[97]⟩, .int .i64 1, .bool false, .string ⟨#[120]⟩, .slice none 0 0] 54)).heap.size = w1.heap.size + 1 := World.size_alloc _ _
  have b2 : Below w1.heap.size w1 ((w1.alloc (.cells #[.string ⟨#[97]⟩, .int .i64 1, .bool false, .string ⟨#[120]⟩, .slice none 0 0] 54)).alloc (.cells #[.int .i64 3, .bool false, .string ⟨#[]⟩, .slice (some ⟨w1.heap.size, 0, none⟩) 1 1] 25)) := ((Below.refl _ _).alloc (Nat.le_refl _) _).alloc (by rw [s1]; omega) _
  have HN2 : Hid (NB ((w1.alloc (.cells #[.string ⟨#[97]⟩, .int .i64 1, .bool false, .string ⟨#[120]⟩, .slice none 0 0] 54)).alloc (.cells #[.int .i64 3, .bool false, .string ⟨#[]⟩, .slice (some ⟨w1.heap.size, 0, none⟩) 1 1] 25)) (w1.heap.size + 1) 3 false ⟨#[]⟩ (some ⟨w1.heap.size, 0, none⟩) 1 1) := by
    have h := NB.new (w1.alloc (.cells #[.string ⟨#[97]⟩, .int .i64 1, .bool false, .string ⟨#[120]⟩, .slice none 0 0] 54)) 3 false ⟨#[]⟩ (some ⟨w1.heap.size, 0, none⟩) 1 1
    rw [s1] at h
    exact h
  have hE : ((w1.alloc (.cells #[.string ⟨#[97]⟩, .int .i64 1, .bool false, .string ⟨#[120]⟩, .slice none 0 0] 54)).alloc (.cells #[.int .i64 3, .bool false, .string ⟨#[]⟩, .slice (some ⟨w1.heap.size, 0, none⟩) 1 1] 25)).heap[w1.heap.size]? = some (.cells #[.string ⟨#[97]⟩, .int .i64 1, .bool false, .string ⟨#[120]⟩, .slice none 0 0] 54 (0, 0)) := (Below.heap_alloc _ _ _ (by rw [s1]; omega)).trans Array.getElem?_push_size
  have HA2 : Hid (At ((w1.alloc (.cells #[.string ⟨#[97]⟩, .int .i64 1, .bool false, .string ⟨#[120]⟩, .slice none 0 0] 54)).alloc (.cells #[.int .i64 3, .bool false, .string ⟨#[]⟩, .slice (some ⟨w1.heap.size, 0, none⟩) 1 1] 25)) 2 (.agg #[.int .i64 3, .bool false, .string ⟨#[]⟩, .slice (some ⟨w1.heap.size, 0, none⟩) 1 1]) awT) := by
    refine ⟨_, _, _, rfl, rfl, rfl, Nat.le_refl _, by omega, Or.inr ⟨w1.heap.size, 0, rfl, heap_lt hE, fun j s T hs hT => ?_⟩⟩
    have hj : j = 0 := by
      have := (List.getElem?_eq_some_iff.1 hs).1
      simp at this
      exact this
    subst hj
    simp at hs hT
    subst hs hT
    exact ⟨1, false, ⟨#[120]⟩, none, 0, 0, by rw [Lib.cell_of_heap hE]; rfl, by rw [Lib.cell_of_heap hE]; rfl, by rw [Lib.cell_of_heap hE]; rfl, by rw [Lib.cell_of_heap hE]; rfl, by rw [Lib.cell_of_heap hE]; rfl, _, _, _, rfl, rfl, rfl, Nat.le_refl _, by omega, Or.inl rfl⟩
  have HB2 : Hid (Below w.heap.size w ((w1.alloc (.cells #[.string ⟨#[97]⟩, .int .i64 1, .bool false, .string ⟨#[120]⟩, .slice none 0 0] 54)).alloc (.cells #[.int .i64 3, .bool false, .string ⟨#[]⟩, .slice (some ⟨w1.heap.size, 0, none⟩) 1 1] 25))) := b1.trans (b2.mono b1.size)
  clear b1 b2 s1 hE HB1
  go_upto_region 2 with fail
  generalize (w1.alloc (.cells #[.string ⟨#[97]⟩, .int .i64 1, .bool false, .string ⟨#[120]⟩, .slice none 0 0] 54)).alloc (.cells #[.int .i64 3, .bool false, .string ⟨#[]⟩, .slice (some ⟨w1.heap.size, 0, none⟩) 1 1] 25) = w2 at *
  generalize w1.heap.size = E at *
  have SC := size_tree 2 _ awT w2 HA2.out aw_sm
  rw [aw_sz] at SC
  have y0 := HN2.out.c0
  have y1 := HN2.out.c1
  have y2 := HN2.out.c2
  have y3 := HN2.out.c3
  go_wp2_with fail
  refine SC.mono ?_
  rintro e6 w3 ⟨rfl, b3⟩
  have HB3 : Hid (Below w.heap.size w w3) := HB2.out.trans (b3.mono HB2.out.size)
  have HA3 : Hid (At w3 2 (.agg #[.int .i64 3, .bool false, .string ⟨#[]⟩, .slice (some ⟨E, 0, none⟩) 1 1]) awT) := HA2.out.below b3
  have HN3 : Hid (NB w3 (E + 1) 3 false ⟨#[]⟩ (some ⟨E, 0, none⟩) 1 1) := (b3.block _ (heap_lt HN2.out)).trans HN2.out
  clear SC b3 HB2 HA2 HN2 y0 y1 y2 y3
  have CC := check_tree 2 _ awT w3 HA3.out aw_sm
  rw [aw_ck] at CC
  have y0 := HN3.out.c0
  have y1 := HN3.out.c1
  have y2 := HN3.out.c2
  have y3 := HN3.out.c3
  go_wp2_with fail
  refine CC.mono ?_
  rintro e6 w4 ⟨rfl, b4⟩
  have HB4 : Hid (Below w.heap.size w w4) := HB3.out.trans (b4.mono HB3.out.size)
  have HA4 : Hid (At w4 2 (.agg #[.int .i64 3, .bool false, .string ⟨#[]⟩, .slice (some ⟨E, 0, none⟩) 1 1]) awT) := HA3.out.below b4
  have HN4 : Hid (NB w4 (E + 1) 3 false ⟨#[]⟩ (some ⟨E, 0, none⟩) 1 1) := (b4.block _ (heap_lt HN3.out)).trans HN3.out
  clear CC b4 HB3 HA3 HN3 y0 y1 y2 y3
  have WC := walk_tree 2 _ awT w4 HA4.out aw_sm
  have y0 := HN4.out.c0
  have y1 := HN4.out.c1
  have y2 := HN4.out.c2
  have y3 := HN4.out.c3
  go_wp2_with fail
  refine WC.mono ?_
  rintro e6 w5 ⟨h5, b5⟩
  rw [aw_ck, if_neg (by decide), aw_rw] at h5
  obtain ⟨x5, c5, rfl, R5⟩ := h5
  have HB5 : Hid (Below w.heap.size w w5) := HB4.out.trans (b5.mono HB4.out.size)
  obtain ⟨g5, c5', e5, -, -, r0, r1, r2, r3⟩ := R5.at (i := 1) rfl
  injection e5 with e5 _ e5'
  subst e5 e5'
  dsimp only at r0 r3
  clear WC b5 HB4 HA4 HN4 y0 y1 y2 y3 R5
  go_wp2
  go_ret
  exact ⟨rfl, HB5.out⟩

end Go.Proofs.YtmknnblogfpifaaDoor
