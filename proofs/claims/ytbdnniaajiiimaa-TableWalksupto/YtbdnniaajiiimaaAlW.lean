/- The law TableAll, walked. -/
import Derived.Test.YtbdnniaajiiimaaKqW
import Derived.LoopNIn
import Derived.LoopIn
import Derived.Laws.Rows
namespace Go.Proofs.Ytbdnniaajiiimaa
namespace TS
open Go.RowKit Go.Shelf
attribute [local go_sem] Oper.semAt_some

theorem bx_bel {W W' : World} {B C : Nat} {t : TypeId} {v : Value} (h : Boxed W B t v) (b : Below C W W') (hB : B < C) : Boxed W' B t v := (b.block B hB).trans h
theorem PIs.apart {w : World} {y : Option Addr} {n : Nat} {f : Nat → ByteArray} {g : Nat → Int} {B : Nat} {t : TypeId} {q : Int} (h : PIs w y n f g) (x : Boxed w B t (.int .i64 q)) : ∀ b o, y = some ⟨b, o, none⟩ → 0 < n → b ≠ B := by
  intro b o hy hn e
  obtain ⟨b', o', h1, c0, _⟩ := h 0 hn
  rw [hy] at h1
  injection h1 with h1
  injection h1 with h2 h3 _
  subst h2; subst h3
  subst e
  have hx : w.heap[b]? = some (.cells #[.int .i64 q] t (0, 0)) := x
  simp [World.cell?, hx] at c0
  cases o with
  | zero => simp at c0
  | succ o => simp at c0
theorem PIs.kept {w w' : World} {y : Option Addr} {n : Nat} {f : Nat → ByteArray} {g : Nat → Int} {B : Nat} (h : PIs w y n f g) (hg : w.grownBy w' (some B)) (ap : ∀ b o, y = some ⟨b, o, none⟩ → 0 < n → b ≠ B) : PIs w' y n f g := fun k hk => by
  obtain ⟨b, o, hy, c0, c1⟩ := h k hk
  have e := hg.block b (World.block_lt_of_cell? _ _ c0) (fun q => ap b o hy (by omega) (by injection q))
  exact ⟨b, o, hy, (World.cell?_of_block (w := w) (w' := w') (a := ⟨b, o + k * 2, none⟩) e).trans c0, (World.cell?_of_block (w := w) (w' := w') (a := ⟨b, o + k * 2 + 1, none⟩) e).trans c1⟩
theorem gb_refl (w : World) (r : Option Nat) : w.grownBy w r := ⟨rfl, rfl, rfl, Nat.le_refl _, fun _ _ _ => rfl⟩
theorem gb_trans {a b c : World} {S : Nat} {r : Option Nat} (h : a.grownBy b (some S)) (g : b.grownBy c r) (hr : ∀ q, r = some q → a.heap.size ≤ q) : a.grownBy c (some S) :=
  ⟨g.os.trans h.os, g.tape.trans h.tape, g.output.trans h.output, Nat.le_trans h.size g.size, fun i hi hne => (g.block i (by have := h.size; omega) (fun e => by have := hr i e.symm; omega)).trans (h.block i hi hne)⟩
theorem pre_snoc {pre M : PL} {x : ByteArray × Int} (h : pre <+: M) (e : M[pre.length]? = some x) : pre ++ [x] <+: M := by
  obtain ⟨t, rfl⟩ := h
  rw [List.getElem?_append_right (Nat.le_refl _), Nat.sub_self] at e
  cases t with
  | nil => cases e
  | cons a t =>
    simp at e
    subst e
    exact ⟨t, by simp⟩
theorem pre_at {pre M : PL} {x : ByteArray × Int} (h : pre ++ [x] <+: M) : M[pre.length]? = some x := by
  obtain ⟨t, rfl⟩ := h
  simp
theorem pre_fg {pre M : PL} (hl : pre.length < M.length) : M[pre.length]? = some (fL M pre.length, gL M pre.length) := by
  rw [List.getElem?_eq_getElem hl, ← fgL hl]
theorem gb_trans2 {a b : World} {S j : Nat} {v : Value} (h : a.grownBy b (some S)) : a.grownBy (b.setCell ⟨S, j, none⟩ v) (some S) :=
  ⟨h.os, h.tape, h.output, by rw [World.size_setCell]; exact h.size, fun i hi hne => (Below.heap_setCell b ⟨S, j, none⟩ v i (fun e => hne (by rw [e]))).trans (h.block i hi hne)⟩
theorem bel_eq {A B : Nat} {a b c : World} (h : Below B a b) (e : A = B) (g : Below B b c) : Below A a c := by subst e; exact h.trans g
theorem results_cellB {P : Program} {fn : Func} {p : Tmp} {ty : TypeId} (h : fn.results = #[.cell p ty]) (tmps : Array Value) (w : World) (g : Nat) (v : Value)
    (hp : tmps.getD p undef = .pointer (some ⟨g, 0, none⟩)) (hc : w.cell? ⟨g, 0, none⟩ = some v) (hu : P.underlying ty = some .bool) :
    (results fn tmps).run P w = .ok v w := by
  have hp' : tmps[p]?.getD undef = .pointer (some ⟨g, 0, none⟩) := by simpa using hp
  simp [results, h, hp', asAddr, loadVar, isAgg, underlying, hu, hc, go_sem]
theorem prb1n : decide ((BT.E : BT ByteArray).cnt < (BT.wth ltK prb 7 .E).cnt) = true := by decide +kernel
theorem prb2n : decide ((BT.wtout ltK (BT.wth ltK prb 7 .E) prb).cnt < (BT.wth ltK prb 7 .E).cnt) = true := by decide +kernel

end TS
end Go.Proofs.Ytbdnniaajiiimaa
