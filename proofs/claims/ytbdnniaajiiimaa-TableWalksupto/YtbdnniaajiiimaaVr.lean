/- Rows of values in memory, each in one cell (own text of the verifier). -/
import Derived.WalkKit
import Derived.WalkSpells
import Derived.WalkLawsBesides
import Derived.Below
namespace Go.Proofs.Ytbdnniaajiiimaa
open Go.RowKit

/-- Block g holds, from its head on, the n values f 0, f 1, ..; none is frozen. -/
structure VRow (w : World) (g n : Nat) (f : Nat → Value) : Prop where
  cell : ∀ j, j < n → w.cell? ⟨g, j, none⟩ = some (f j)
  free : ∀ j, j < n → w.frozen? ⟨g, j, none⟩ = false

theorem VRow.congr {w : World} {g n : Nat} {f f' : Nat → Value} (h : VRow w g n f) (e : ∀ j, j < n → f j = f' j) : VRow w g n f' :=
  ⟨fun j hj => by rw [h.cell j hj, e j hj], h.free⟩
theorem VRow.take {w : World} {g n m : Nat} {f : Nat → Value} (h : VRow w g m f) (e : n ≤ m) : VRow w g n f :=
  ⟨fun j hj => h.cell j (by omega), fun j hj => h.free j (by omega)⟩
theorem VRow.same {w w' : World} {g n : Nat} {f : Nat → Value} (h : VRow w g n f) (e : w'.heap[g]? = w.heap[g]?) : VRow w' g n f :=
  ⟨fun j hj => by rw [World.cell?_of_block (w := w) (w' := w') (a := ⟨g, j, none⟩) e]; exact h.cell j hj,
   fun j hj => by rw [World.frozen?_of_block (w := w) (w' := w') (a := ⟨g, j, none⟩) e]; exact h.free j hj⟩
theorem VRow.below {w w' : World} {g n B : Nat} {f : Nat → Value} (h : VRow w g n f) (b : Below B w w') (hg : g < B) : VRow w' g n f :=
  h.same (b.block g hg)
theorem VRow.alloc {w : World} {g n : Nat} {f : Nat → Value} (h : VRow w g n f) (hg : g < w.heap.size) (o : Obj) : VRow (w.alloc o) g n f :=
  h.same (Below.heap_alloc w o g hg)
theorem VRow.drew {w : World} {g n : Nat} {f : Nat → Value} (h : VRow w g n f) : VRow w.drew g n f := h.same rfl
theorem VRow.drewN {w : World} {g n : Nat} {f : Nat → Value} (h : VRow w g n f) (q : Nat) : VRow (w.drewN q) g n f := h.same rfl
theorem VRow.other {w : World} {g n : Nat} {f : Nat → Value} (h : VRow w g n f) (a : Addr) (v : Value) (hg : g ≠ a.block) : VRow (w.setCell a v) g n f :=
  h.same (Below.heap_setCell w a v g hg)
theorem VRow.set {w : World} {g n : Nat} {f : Nat → Value} (h : VRow w g n f) (j : Nat) (v : Value) (hj : j < n) :
    VRow (w.setCell ⟨g, j, none⟩ v) g n (fun i => if i = j then v else f i) :=
  ⟨fun i hi => by
    by_cases e : i = j
    · subst e; rw [World.cell?_setCell_same _ _ _ (h.cell i hi)]; simp
    · rw [World.cell?_setCell_other _ _ _ _ (fun c => e (by injection c with _ c2 _; exact c2.symm)), h.cell i hi]; simp [e],
   fun i hi => by rw [World.frozen?_setCell]; exact h.free i hi⟩
theorem VRow.made {w : World} {e : TypeId} {n m : Nat} {z : Value} (hz : z.cells = #[z]) (hm : m = n) : VRow (w.alloc (.cells (madeCells z.cells m) e)) w.heap.size n (fun _ => z) :=
  ⟨fun j hj => by rw [World.cell?_alloc_new, hz]; unfold madeCells; simp [show j < m by omega, Nat.mod_one], fun j hj => World.frozen?_alloc_new w _ _ _⟩
theorem VRow.arr {w : World} {e : TypeId} {C : Array Value} {n : Nat} {f : Nat → Value} (h : ∀ j, j < n → C[j]? = some (f j)) : VRow (w.alloc (.cells C e)) w.heap.size n f :=
  ⟨fun j hj => by rw [World.cell?_alloc_new]; exact h j hj, fun _ _ => World.frozen?_alloc_new w _ _ _⟩
theorem VRow.lt {w : World} {g n : Nat} {f : Nat → Value} (h : VRow w g n f) (hn : 0 < n) : g < w.heap.size := World.block_lt_of_cell? _ _ (h.cell 0 hn)

end Go.Proofs.Ytbdnniaajiiimaa
