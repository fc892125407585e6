/- A builder's writes, and the blocks that they leave alone (RpK, for scan). -/
import Derived.Test.YtojefckhefanhabScC
namespace Go.Proofs.Ytojefckhefanhab
open Go.RowKit

/-- What is no row of bytes, and isn't block g, is left alone. -/
structure Bk (g : Nat) (w w' : World) : Prop where
  size : w.heap.size ≤ w'.heap.size
  keep : ∀ j, j < w.heap.size → j ≠ g → (∀ cur fz, w.heap[j]? ≠ some (.cells cur 5 fz)) → w'.heap[j]? = w.heap[j]?
theorem Bk.refl (g : Nat) (w : World) : Bk g w w := ⟨Nat.le_refl _, fun _ _ _ _ => rfl⟩
theorem Bk.trans {g : Nat} {w w1 w2 : World} (h : Bk g w w1) (k : Bk g w1 w2) : Bk g w w2 :=
  ⟨Nat.le_trans h.size k.size, fun j h1 h2 h3 => by
    have e := h.keep j h1 h2 h3
    exact (k.keep j (Nat.lt_of_lt_of_le h1 h.size) h2 (fun cur fz hc => h3 cur fz (by rw [← e]; exact hc))).trans e⟩
theorem Bk.setCell (g : Nat) (w : World) (j : Nat) (v : Value) : Bk g w (w.setCell ⟨g, j, none⟩ v) := ⟨by rw [World.size_setCell]; exact Nat.le_refl _, fun k _ hne _ => Below.heap_setCell w ⟨g, j, none⟩ v k hne⟩
theorem Bk.grown {g : Nat} {w w' : World} {r : Option Nat} (G : w.grownBy w' r) (hr : ∀ k, r = some k → ∃ cur fz, w.heap[k]? = some (.cells cur 5 fz)) : Bk g w w' :=
  ⟨G.size, fun j h1 _ h3 => G.block j h1 (fun e => by obtain ⟨cur, fz, hc⟩ := hr j e.symm; exact h3 cur fz hc)⟩
theorem Bk.drew (g : Nat) (w : World) : Bk g w w.drew := ⟨Nat.le_refl _, fun _ _ _ _ => rfl⟩
theorem Bk.below {g : Nat} {w w' : World} (b : Below w.heap.size w w') : Bk g w w' := ⟨b.size, fun j h1 _ _ => b.block j h1⟩
theorem row_u8 {w : World} {B : Nat} {v : Value} {n : Nat} {xs : List Value} (h : w.ownsRow B 5 1 v n xs) : ∀ k, v.ownBlock = some k → ∃ cur fz, w.heap[k]? = some (.cells cur 5 fz) := by
  intro k hk
  rcases h.2 with ⟨rfl, _⟩ | ⟨g, cap, cur, rfl, _, hg, _⟩
  · cases hk
  · cases hk; exact ⟨cur, _, hg⟩

/-- The check ahead of a write. -/
theorem cpK_any (T : TypeId) (hT : BT T) (g : Nat) (l : List UInt8) (w : World) (h : Bd T w g l) :
    Calls Try.prog 30 #[.pointer (some ⟨g, 0, none⟩)] w fun e w' => e = .returned (.tuple #[]) ∧ (∃ v, w'.heap[g]? = some (.cells #[.pointer (some ⟨g, 0, none⟩), v] T (0, 0)) ∧ w'.ownsRow (g + 1) 5 1 v l.length (Lib.byteCells l)) ∧ Below g w w' ∧ Bk g w w' := by
  obtain ⟨ad, v, hb, h1, h2⟩ := h
  rcases h1 with ⟨rfl, rfl, rfl⟩ | rfl
  · refine (cpC_fresh T hT g w (by rw [Lib.cell_of_heap hb]; rfl) (by simp [World.shape?, hb]) (Lib.frozen_of_heap hb 0)).mono ?_
    rintro e w' ⟨rfl, rfl⟩
    refine ⟨rfl, ⟨.slice none 0 0, ?_, World.ownsRow_nil _ _ _ _⟩, (Below.refl g w).setCell (p := ⟨g, 0, none⟩) (Nat.le_refl _) _, Bk.setCell g w 0 _⟩
    simp [World.setCell, Array.getElem?_modify, hb]
  · refine (cpC_used g w (by rw [Lib.cell_of_heap hb]; rfl)).mono ?_
    rintro e w' ⟨rfl, rfl⟩
    exact ⟨rfl, ⟨v, hb, h2⟩, Below.refl g _, Bk.refl g _⟩
/-- A builder whose slice has grown. -/
theorem Bd.regrowK {T : TypeId} {w w1 w2 : World} {g : Nat} {l : List UInt8} {v v' : Value} (b0 : Below g w w1) (k0 : Bk g w w1) (hl : g < w1.heap.size) (hb : w1.heap[g]? = some (.cells #[.pointer (some ⟨g, 0, none⟩), v] T (0, 0))) (G : w1.grownBy w2 v.ownBlock) (ho : ∀ k, v.ownBlock = some k → g + 1 ≤ k ∧ ∃ cur fz, w1.heap[k]? = some (.cells cur 5 fz)) (hown : w2.ownsRow (g + 1) 5 1 v' l.length (Lib.byteCells l)) :
    Bd T (w2.setCell ⟨g, 1, none⟩ v') g l ∧ Below g w (w2.setCell ⟨g, 1, none⟩ v') ∧ w2.heap[g]? = some (.cells #[.pointer (some ⟨g, 0, none⟩), v] T (0, 0)) ∧ Bk g w (w2.setCell ⟨g, 1, none⟩ v') := by
  have eg : w2.heap[g]? = some (.cells #[.pointer (some ⟨g, 0, none⟩), v] T (0, 0)) := (G.block g hl (fun e => by have := (ho g e.symm).1; omega)).trans hb
  refine ⟨⟨.pointer (some ⟨g, 0, none⟩), v', ?_, .inr rfl, row_same hown (fun k hk => Below.heap_setCell w2 _ _ k (by have := (hown.lt k hk).1; show k ≠ g; omega))⟩, ?_, eg, ?_⟩
  · simp [World.setCell, Array.getElem?_modify, eg]
  · exact (b0.grown G (by omega) (fun k hk => by have := (ho k hk).1; omega)).setCell (p := ⟨g, 1, none⟩) (Nat.le_refl _) _
  · exact (k0.trans (Bk.grown G (fun k hk => (ho k hk).2))).trans (Bk.setCell g w2 1 _)

set_option maxHeartbeats 1000000 in
set_option maxRecDepth 100000 in
theorem wstrK_any (T : TypeId) (hT : BT T) (g : Nat) (l t : List UInt8) (w : World) (h : Bd T w g l) (hlen : l.length + t.length ≤ 1073741824) :
    Calls Try.prog 23 #[.pointer (some ⟨g, 0, none⟩), .string (ba t)] w fun e w' => e = .returned (.tuple #[.int .i64 (t.length : Int), .nilIface]) ∧ Bd T w' g (l ++ t) ∧ Below g w w' ∧ Bk g w w' := by
  obtain ⟨i0, hi, hz0, hz1, hz2⟩ := info_parts infoU8
  have hbw := h.lt
  have hts := ba_size t
  go_enter Try.func23, Try.ntmps23
  go_wp2_with fail
  refine (cpK_any T hT g l w h).mono ?_
  rintro e w1 ⟨rfl, ⟨v, hb, hown⟩, b1, k1⟩
  have hl1 : g < w1.heap.size := (Array.getElem?_eq_some_iff.1 hb).1
  have c1 : w1.cell? ⟨g, 1, none⟩ = some v := by rw [Lib.cell_of_heap hb]; rfl
  obtain ⟨v', w2, hr, hown', hgrow, -⟩ := Lib.run_append_own_string (P := Try.prog) w1 (g + 1) 31 9 31 5 i0 undTB Try.underlying9 hi hz0 hz1 hz2 v l.length (Lib.byteCells l) hown (ba t) (by unfold maxLen; omega) (by omega) (by omega)
  have eC : Lib.byteCells l ++ Lib.strCells (ba t) = Lib.byteCells (l ++ t) := by rw [Lib.strCells_eq, ← bytes_app]; rfl
  obtain ⟨hX, hB, hb2, hK⟩ := Bd.regrowK (l := l ++ t) b1 k1 hl1 hb hgrow (fun k hk => ⟨(hown.lt k hk).1, row_u8 hown k hk⟩) (by rw [← eC, List.length_append, ← hts]; exact hown')
  have f1 : w2.frozen? ⟨g, 1, none⟩ = false := Lib.frozen_of_heap hb2 1
  have d1 : w2.cell? ⟨g, 1, none⟩ = some v := by rw [Lib.cell_of_heap hb2]; rfl
  obtain ⟨ao, cap, rfl⟩ := slice_of_row hown'
  have HX : Hid (Bd T (w2.setCell ⟨g, 1, none⟩ (.slice ao (l.length + (ba t).size) cap)) g (l ++ t)) := hX
  have HB : Hid (Below g w (w2.setCell ⟨g, 1, none⟩ (.slice ao (l.length + (ba t).size) cap)) ∧ Bk g w (w2.setCell ⟨g, 1, none⟩ (.slice ao (l.length + (ba t).size) cap))) := ⟨hB, hK⟩
  obtain ⟨p0, cc0, rfl⟩ := slice_of_row hown
  clear hX hgrow hown' hown hb hb2 hB b1 h eC hK k1
  go_wp2_with (first | (refine wpList_app_is (by rfl) 31 9 (.tmp 12) (.tmp 13) (by rfl) _ _ _ _ (by rfl) (by rfl) hr ?_))
  go_ret2
  exact ⟨rfl, HX.out, HB.out⟩

end Go.Proofs.Ytojefckhefanhab
