/- The law TableKeeps, walked. -/
import Derived.Test.YtbdnniaajiiimaaTuS
namespace Go.Proofs.Ytbdnniaajiiimaa
namespace TS
open Go.RowKit

theorem own_buf {w : World} {B : Nat} {v : Value} {n : Nat} {F : Nat → Value} (h : w.ownsRow B 9 1 v n ((List.range n).map F)) : Buf w B v n F := by
  obtain ⟨_, ⟨hv, hz⟩ | ⟨g, cap, cur, hv, hb, hg, hnc, hcs, hm, htake⟩⟩ := h
  · exact .inl ⟨by rw [hv], hz⟩
  · have hgl : g < w.heap.size := (Array.getElem?_eq_some_iff.1 hg).1
    refine .inr ⟨g, cap, hv, hb, hgl, hnc, by first | exact hm | exact hcs | omega, fun j hj => ?_, fun j hj => ⟨?_, by simp [World.frozen?, hg]⟩⟩
    · rw [cell_of_row w g j cur 9 (0, 0) hg]
      have h2 : (cur.toList.take (n * 1))[j]? = some (F j) := by rw [htake]; simp [hj]
      rw [List.getElem?_take] at h2
      split at h2
      · simpa using h2
      · cases h2
    · rw [cell_of_row w g j cur 9 (0, 0) hg]
      rw [Array.getElem?_eq_getElem (by first | omega | (have := hcs; have := hm; simp at *; omega))]
      rfl
theorem map_range (M : PL) : M.map (fun x => Value.string x.1) = (List.range M.length).map (fun j => Value.string (fL M j)) := by
  apply List.ext_getElem?
  intro j
  by_cases h : j < M.length
  · rw [List.getElem?_map, List.getElem?_eq_getElem h, List.getElem?_map, List.getElem?_range h, ← fgL h]; rfl
  · rw [List.getElem?_eq_none (by simp; omega), List.getElem?_eq_none (by simp; omega)]
/-- A store into one's own slice. -/
theorem Buf.set {w : World} {B : Nat} {n : Nat} {F : Nat → Value} {g cap : Nat} (h : Buf w B (.slice (some ⟨g, 0, none⟩) n cap) n F) {j : Nat} (hj : j < n) (x : Value) : Buf (w.setCell ⟨g, j, none⟩ x) B (.slice (some ⟨g, 0, none⟩) n cap) n (fun i => if i = j then x else F i) := by
  rcases h with ⟨h, _⟩ | ⟨g', cap', e, hb, hg, hn, hm, hc, hf⟩
  · cases h
  · cases e
    refine .inr ⟨g, cap, rfl, hb, by rw [World.size_setCell]; exact hg, hn, hm, fun i hi => ?_, fun i hi => ⟨?_, ?_⟩⟩
    · by_cases q : i = j
      · subst q; rw [World.cell?_setCell_same _ _ _ (hc i hi)]; simp
      · rw [World.cell?_setCell_other _ _ _ _ (fun c => q (by injection c with _ c2 _; exact c2.symm)), hc i hi]; simp [q]
    · by_cases q : i = j
      · subst q; rw [World.cell?_setCell_same _ _ _ (hc i hj)]; rfl
      · rw [World.cell?_setCell_other _ _ _ _ (fun c => q (by injection c with _ c2 _; exact c2.symm))]; exact (hf i hi).1
    · rw [World.frozen?_setCell]; exact (hf i hi).2

/-- W' is w but for the blocks from a up to b, and new ones. -/
structure Kp (a b : Nat) (w w' : World) : Prop where
  os : w'.os = w.os
  tape : w'.tape = w.tape
  output : w'.output = w.output
  size : w.heap.size ≤ w'.heap.size
  block : ∀ i, i < w.heap.size → ¬ (a ≤ i ∧ i < b) → w'.heap[i]? = w.heap[i]?
theorem Kp.refl (a b : Nat) (w : World) : Kp a b w w := ⟨rfl, rfl, rfl, Nat.le_refl _, fun _ _ _ => rfl⟩
theorem Kp.below {a b : Nat} {w w' : World} (h : Kp a b w w') (ha : a ≤ w.heap.size) : Below a w w' := ⟨h.os, h.tape, h.output, h.size, fun i hi => h.block i (by omega) (by omega)⟩
theorem Kp.grow {a b : Nat} {w w1 w2 : World} {r : Option Nat} (h : Kp a b w w1) (g : w1.grownBy w2 r) (hr : ∀ k, r = some k → (a ≤ k ∧ k < b) ∨ w.heap.size ≤ k) : Kp a b w w2 :=
  ⟨g.os.trans h.os, g.tape.trans h.tape, g.output.trans h.output, Nat.le_trans h.size g.size, fun i hi hn => (g.block i (by have := h.size; omega) (fun e => by rcases hr i e.symm with q | q; exact hn q; omega)).trans (h.block i hi hn)⟩
theorem Kp.set {a b : Nat} {w w1 : World} {k j : Nat} {v : Value} (h : Kp a b w w1) (hr : (a ≤ k ∧ k < b) ∨ w.heap.size ≤ k) : Kp a b w (w1.setCell ⟨k, j, none⟩ v) :=
  ⟨h.os, h.tape, h.output, by rw [World.size_setCell]; exact h.size, fun i hi hn => (Below.heap_setCell w1 ⟨k, j, none⟩ v i (fun e => by rw [e] at hn hi; rcases hr with q | q; exact hn q; simp only at hi; omega)).trans (h.block i hi hn)⟩
theorem Kp.alloc {a b : Nat} {w w1 : World} (h : Kp a b w w1) (o : Obj) : Kp a b w (w1.alloc o) :=
  ⟨h.os, h.tape, h.output, by rw [World.size_alloc]; have := h.size; omega, fun i hi hn => (Below.heap_alloc w1 o i (by have := h.size; omega)).trans (h.block i hi hn)⟩
theorem Ks.same {w w' : World} {v : Value} {M : PL} (h : Ks w v M) (e : ∀ k, v.ownBlock = some k → w'.heap[k]? = w.heap[k]?) : Ks w' v M := by
  obtain ⟨x, c, rfl, p⟩ := h
  refine ⟨x, c, rfl, fun i hi => ?_⟩
  obtain ⟨a, ha, hc⟩ := p i hi
  refine ⟨a, ha, ?_⟩
  have hb : (a.add i).block = a.block := by unfold Addr.add; split <;> rfl
  rw [World.cell?_of_block (w := w) (w' := w') (a := a.add i) (by rw [hb]; exact e a.block (by rw [ha]; rfl))]
  exact hc

end TS
end Go.Proofs.Ytbdnniaajiiimaa
