/- A walk that owns its names; what it leaves alone. -/
import Derived.Test.YtljcbibcdajhiaaTcG
import Derived.Deep.AppendLies
import Derived.Laws.OwnMore
import Derived.OneCell
import Derived.Lib.OwnKind
namespace Go.Proofs.Ytljcbibcdajhiaa
open Go.RowKit

structure Wo (w : World) (g : Nat) (v : Value) (ns : List ByteArray) (b : Int) : Prop where
  c0 : w.cell? ⟨g, 0, none⟩ = some v
  c1 : w.cell? ⟨g, 1, none⟩ = some (.int .i64 b)
  f0 : w.frozen? ⟨g, 0, none⟩ = false
  f1 : w.frozen? ⟨g, 1, none⟩ = false
  own : w.ownsRow (g + 1) 9 1 v ns.length (ns.map Value.string)
/-- From w to w' nothing has turned but block g, rows of texts above it, and new blocks. -/
structure Fr (g : Nat) (w w' : World) : Prop where
  os : w'.os = w.os
  tape : w'.tape = w.tape
  output : w'.output = w.output
  size : w.heap.size ≤ w'.heap.size
  low : ∀ k, k < g → w'.heap[k]? = w.heap[k]?
  mid : ∀ k C T fz, w.heap[k]? = some (.cells C T fz) → T ≠ 9 → k ≠ g → w'.heap[k]? = w.heap[k]?
theorem Fr.refl (g : Nat) (w : World) : Fr g w w := ⟨rfl, rfl, rfl, Nat.le_refl _, fun _ _ => rfl, fun _ _ _ _ _ _ _ => rfl⟩
theorem Fr.trans {g : Nat} {a b c : World} (h : Fr g a b) (k : Fr g b c) : Fr g a c :=
  ⟨k.os.trans h.os, k.tape.trans h.tape, k.output.trans h.output, Nat.le_trans h.size k.size, fun i hi => (k.low i hi).trans (h.low i hi), fun i C T fz e1 e2 e3 => (k.mid i C T fz ((h.mid i C T fz e1 e2 e3).trans e1) e2 e3).trans (h.mid i C T fz e1 e2 e3)⟩
theorem heap_lt {w : World} {k : Nat} {o : Obj} (h : w.heap[k]? = some o) : k < w.heap.size := (Array.getElem?_eq_some_iff.1 h).1
theorem Fr.of_below {g : Nat} {w w' : World} (h : Below w.heap.size w w') (hg : g ≤ w.heap.size) : Fr g w w' :=
  ⟨h.os, h.tape, h.output, h.size, fun k hk => h.block k (by omega), fun k _ _ _ e _ _ => h.block k (heap_lt e)⟩
theorem Fr.of_grown {g : Nat} {w w' : World} (h : w.grownBy w' (some g)) (hg : g ≤ w.heap.size) : Fr g w w' :=
  ⟨h.os, h.tape, h.output, h.size, fun k hk => h.block k (by omega) (fun e => by injection e; omega), fun k _ _ _ e _ hn => h.block k (heap_lt e) (fun e => hn (by injection e))⟩
theorem Fr.drew {g : Nat} {a w : World} (h : Fr g a w) : Fr g a w.drew := ⟨h.os, h.tape, h.output, h.size, h.low, h.mid⟩
theorem Fr.drewN {g : Nat} {a w : World} (h : Fr g a w) (n : Nat) : Fr g a (w.drewN n) := ⟨h.os, h.tape, h.output, h.size, h.low, h.mid⟩
theorem Fr.setCell {g : Nat} {a w : World} (h : Fr g a w) (j : Nat) (u : Value) : Fr g a (w.setCell ⟨g, j, none⟩ u) :=
  h.trans ⟨rfl, rfl, rfl, by rw [World.size_setCell]; exact Nat.le_refl _, fun k hk => Below.heap_setCell _ _ _ k (by show k ≠ g; omega), fun k _ _ _ _ _ hn => Below.heap_setCell _ _ _ k hn⟩
theorem Fr.alloc {g : Nat} {a w : World} (h : Fr g a w) (hg : g ≤ w.heap.size) (o : Obj) : Fr g a (w.alloc o) := h.trans (Fr.of_below ((Below.refl _ _).alloc (Nat.le_refl _) o) hg)
theorem Fr.below {g : Nat} {w w' : World} (h : Fr g w w') : Below g w w' := ⟨h.os, h.tape, h.output, h.size, h.low⟩

theorem Wo.lt {w : World} {g : Nat} {v : Value} {ns : List ByteArray} {b : Int} (h : Wo w g v ns b) : g < w.heap.size := World.block_lt_of_cell? _ _ h.c0
theorem Wo.wk {w : World} {g : Nat} {v : Value} {ns : List ByteArray} {b : Int} (h : Wo w g v ns b) : ∃ x c, v = .slice x ns.length c ∧ Wk w g x c ns b ∧ ∀ q o, x = some ⟨q, o, none⟩ → q ≠ g := by
  rcases h.own.2 with ⟨hv, h0⟩ | ⟨q, cap, cur, hv, hq, hh, hn, _, hs, ht⟩
  · refine ⟨none, 0, by rw [hv, h0], ⟨by rw [h.c0, hv, h0], h.c1, h.f0, h.f1, fun k hk => absurd hk (by omega), by omega⟩, fun q o e => by cases e⟩
  · refine ⟨some ⟨q, 0, none⟩, cap, hv, ⟨by rw [h.c0, hv], h.c1, h.f0, h.f1, fun k hk => ⟨q, 0, rfl, heap_lt hh, ?_⟩, hn⟩, fun q' o e => by injection e with e; injection e; omega⟩
    have := h.own.cells (g := q) (by rw [hv]; rfl) k (.string ns[k]) (by rw [List.getElem?_map, List.getElem?_eq_getElem hk]; rfl)
    rw [Addr.add_lit] at this
    exact this
theorem Wo.own_ne {w : World} {g : Nat} {v : Value} {ns : List ByteArray} {b : Int} (h : Wo w g v ns b) : v.ownBlock ≠ some g := fun e => by have := (h.own.lt g e).1; omega
/-- Behind what turns block g alone, its second cell. -/
theorem Wo.back {w w' : World} {g : Nat} {x : Option Addr} {c : Nat} {ns : List ByteArray} {b b' : Int} (h : Wo w g (.slice x ns.length c) ns b) (k : Wk w' g x c ns b') (hg : w.grownBy w' (some g)) : Wo w' g (.slice x ns.length c) ns b' :=
  ⟨k.c0, k.c1, k.f0, k.f1, h.own.kept hg (.inr h.own_ne)⟩
theorem Wo.keep {w w' : World} {g : Nat} {v : Value} {ns : List ByteArray} {b : Int} (h : Wo w g v ns b) (hb : Below w.heap.size w w') : Wo w' g v ns b :=
  ⟨(hb.cell (p := ⟨g, 0, none⟩) h.lt).trans h.c0, (hb.cell (p := ⟨g, 1, none⟩) h.lt).trans h.c1, (hb.frozen (p := ⟨g, 0, none⟩) h.lt).trans h.f0, (hb.frozen (p := ⟨g, 1, none⟩) h.lt).trans h.f1,
    h.own.kept (row := none) ⟨hb.os, hb.tape, hb.output, hb.size, fun k hk _ => hb.block k hk⟩ (by cases v.ownBlock <;> simp)⟩

theorem hinfo9 : (Try.prog.info? 9).map (fun i => (i.zero, i.size, i.bytes)) = some (some (.string ⟨#[]⟩), 1, 16) := by kernel_rfl
theorem undLS : Try.prog.underlying 34 = some (.slice 9) := by kernel_rfl
/-- A name more. -/
theorem Wo.push {w : World} {g : Nat} {v : Value} {ns : List ByteArray} {b : Int} (h : Wo w g v ns b) (s : ByteArray) (hl : ns.length ≤ 64) :
    ∃ q cap w', (Builtin.append_ #[34, 34] 34 #[v, .slice (some ⟨w.heap.size, 0, none⟩) 1 1]).run Try.prog ((w.alloc (.cells #[.string s] 9)).drew) = .ok (.slice (some ⟨q, 0, none⟩) (ns.length + 1) cap) w' ∧
      w'.cell? ⟨g, 0, none⟩ = some v ∧ w'.frozen? ⟨g, 0, none⟩ = false ∧ ns.length + 1 ≤ cap ∧
      Wo (w'.setCell ⟨g, 0, none⟩ (.slice (some ⟨q, 0, none⟩) (ns.length + 1) cap)) g (.slice (some ⟨q, 0, none⟩) (ns.length + 1) cap) (ns ++ [s]) b ∧ Fr g w (w'.setCell ⟨g, 0, none⟩ (.slice (some ⟨q, 0, none⟩) (ns.length + 1) cap)) := by
  obtain ⟨i0, hi, hz0, hz1, hz2⟩ := info_parts hinfo9
  have hgl := h.lt
  have hown : ((w.alloc (.cells #[.string s] 9)).drew).ownsRow (g + 1) 9 1 v ns.length (ns.map Value.string) := (World.ownsRow.alloc h.own _).drew
  obtain ⟨q, cap, w', hr, ho, hg, hat, hlt⟩ := run_append_lies (P := Try.prog) ((w.alloc (.cells #[.string s] 9)).drew) 34 34 (g + 1) 9 i0 (.string ⟨#[]⟩) 1 16 undLS hi hz0 hz1 hz2 rfl (by decide) v ns.length (ns.map Value.string) hown ⟨w.heap.size, 0, none⟩ 1 1 [.string s] rfl (fun j u hj => by
      rw [Addr.add_lit, Nat.zero_add]
      match j, hj with
      | 0, hj => exact (World.cell?_alloc_new w _ _ 0).trans hj) (by intro u hu; simp at hu; subst hu; rfl) (by decide) (by unfold maxLen; omega) (by omega) (by show _ ≤ (w.alloc _).heap.size; rw [World.size_alloc]; omega) _ rfl
  have hne : v.ownBlock ≠ some g := h.own_ne
  have e0 : w'.heap[g]? = w.heap[g]? := (hg.block g (by show _ < (w.alloc _).heap.size; rw [World.size_alloc]; omega) (fun e => hne e.symm)).trans (Below.heap_alloc w _ g hgl)
  have c0 : w'.cell? ⟨g, 0, none⟩ = some v := (World.cell?_of_block (w := w) (a := ⟨g, 0, none⟩) e0).trans h.c0
  have c1 : w'.cell? ⟨g, 1, none⟩ = some (.int .i64 b) := (World.cell?_of_block (w := w) (a := ⟨g, 1, none⟩) e0).trans h.c1
  have f0 : w'.frozen? ⟨g, 0, none⟩ = false := (World.frozen?_of_block (w := w) (a := ⟨g, 0, none⟩) e0).trans h.f0
  have f1 : w'.frozen? ⟨g, 1, none⟩ = false := (World.frozen?_of_block (w := w) (a := ⟨g, 1, none⟩) e0).trans h.f1
  have hq := (ho.lt q rfl).1
  have hcap : ns.length + 1 ≤ cap := by
    rcases ho.2 with ⟨e, _⟩ | ⟨_, cap', _, e, _, _, hn, _⟩
    · cases e
    · injection e with _ _ e; subst e; exact hn
  have F1 : Fr g w w' := by
    have b1 : Below w.heap.size w ((w.alloc (.cells #[.string s] 9)).drew) := ((Below.refl _ _).alloc (Nat.le_refl _) _).drew
    refine (Fr.of_below b1 (by omega)).trans ⟨hg.os, hg.tape, hg.output, hg.size, fun k hk => ?_, fun k C T fz e1 e2 e3 => ?_⟩
    · exact hg.block k (by show _ < (w.alloc _).heap.size; rw [World.size_alloc]; omega) (fun e => by have := (h.own.lt k e.symm).1; omega)
    · refine hg.block k (heap_lt e1) (fun e => ?_)
      obtain ⟨c', fz', hk⟩ := Lib.ownsRow_kind hown k e.symm
      rw [hk] at e1
      injection e1 with e1
      injection e1 with _ e1
      exact e2 e1.symm
  refine ⟨q, cap, w', hr, c0, f0, hcap, ⟨World.cell?_setCell_same _ _ _ c0, ?_, ?_, ?_, ?_⟩, F1.setCell 0 _⟩
  · rw [World.cell?_setCell_other _ _ _ _ (fun e => by cases e)]; exact c1
  · rw [World.frozen?_setCell]; exact f0
  · rw [World.frozen?_setCell]; exact f1
  · refine ownsRow_setCell_other ?_ (by simp [Value.ownBlock]; omega) _
    rw [List.length_append, List.map_append]
    exact ho
/-- A name less. -/
theorem Wo.pop {w : World} {g q cap : Nat} {ns : List ByteArray} {s : ByteArray} {b : Int} (h : Wo w g (.slice (some ⟨q, 0, none⟩) (ns.length + 1) cap) (ns ++ [s]) b) : Wo (w.setCell ⟨g, 0, none⟩ (.slice (some ⟨q, 0, none⟩) ns.length cap)) g (.slice (some ⟨q, 0, none⟩) ns.length cap) ns b := by
  refine ⟨World.cell?_setCell_same _ _ _ h.c0, ?_, ?_, ?_, ?_⟩
  · rw [World.cell?_setCell_other _ _ _ _ (fun e => by cases e)]; exact h.c1
  · rw [World.frozen?_setCell]; exact h.f0
  · rw [World.frozen?_setCell]; exact h.f1
  · have hne := h.own_ne
    refine ownsRow_setCell_other ?_ (by simpa [Value.ownBlock] using hne) _
    refine ⟨by simp, ?_⟩
    rcases h.own.2 with ⟨e, _⟩ | ⟨q', cap', cur, e, hb, hh, hn, hm, hs, ht⟩
    · cases e
    · injection e with e1 _ e3
      injection e1 with e1
      injection e1 with e1
      subst e1 e3
      refine .inr ⟨q, cap, cur, rfl, hb, hh, by rw [List.length_append] at hn; simp at hn; omega, hm, hs, ?_⟩
      have := congrArg (List.take ns.length) ht
      have e4 : min ns.length ((ns ++ [s]).length * 1) = ns.length * 1 := by rw [List.length_append]; omega
      have e5 : List.take ns.length (List.map Value.string ns) = List.map Value.string ns := List.take_of_length_le (by rw [List.length_map]; exact Nat.le_refl _)
      rw [List.take_take, List.map_append, List.take_append_of_le_length (by rw [List.length_map]; exact Nat.le_refl _), e4, e5] at this
      exact this
end Go.Proofs.Ytljcbibcdajhiaa
