/- Whole arrays in memory: loading, storing, boxing. -/
import Derived.Test.YtjhbfkckkinfjaaDoorMem
import Derived.Deep.MidRow
import Derived.Deep.Upon
namespace Go.Proofs.YtjhbfkckkinfjaaDoor
open Go.RowKit

/-- The cells of an array of n numbers. -/
def cs (k : IntKind) (n : Nat) (f : Nat → Int) : Array Value := ((List.range n).map fun i => Value.int k (f i)).toArray
theorem cs_size (k : IntKind) (n : Nat) (f : Nat → Int) : (cs k n f).size = n := by simp [cs]
theorem cs_get (k : IntKind) (n : Nat) (f : Nat → Int) (j : Nat) (h : j < n) : (cs k n f)[j]? = some (.int k (f j)) := by simp [cs, h]
theorem cs_congr (k : IntKind) (n : Nat) {f f' : Nat → Int} (h : ∀ j, j < n → f j = f' j) : cs k n f = cs k n f' := by
  unfold cs
  congr 1
  exact List.map_congr_left (fun j hj => by rw [h j (List.mem_range.1 hj)])
theorem cs_all (k : IntKind) (n : Nat) (f : Nat → Int) : (cs k n f).all (·.oneCell') = true := by
  rw [Array.all_eq_true_iff_forall_mem]
  intro v hv
  simp only [cs, List.mem_toArray, List.mem_map] at hv
  obtain ⟨i, _, rfl⟩ := hv
  rfl

theorem Row.box {k : IntKind} {w : World} {e : TypeId} {n : Nat} {f : Nat → Int} : Row k (w.alloc (.cells (cs k n f) e)) w.heap.size n f :=
  Row.arr (fun j hj => cs_get k n f j hj)

theorem Row.range {k : IntKind} {w : World} {g n : Nat} {f : Nat → Int} (h : Row k w g n f) : w.rangeAt g 0 (cs k n f).toList := fun j v hv => by
  have hj : j < n := by
    have := (List.getElem?_eq_some_iff.1 hv).1
    simpa [cs_size] using this
  rw [Array.getElem?_toList, cs_get k n f j hj] at hv
  rw [Nat.zero_add, h.cell j hj]
  exact hv

theorem Row.thereAll {k : IntKind} {w : World} {g n : Nat} {f : Nat → Int} (h : Row k w g n f) : w.there g 0 n := fun j hj => by
  rw [Nat.zero_add, h.cell j hj, h.free j hj]
  exact ⟨rfl, rfl⟩

/-- A whole array read. -/
theorem run_loadAt_row {P : Program} {k : IntKind} {w : World} {g n e : Nat} {f : Nat → Int} (ty : TypeId) (h : Row k w g n f) (hu : P.underlying ty = some (.array n e)) (hi : (P.info? ty).map (·.size) = some n) :
    (Instr.loadAt ty (.pointer (some ⟨g, 0, none⟩))).run P w = .ok (.agg (cs k n f)) w := by
  have := run_loadAt_mid (P := P) w g 0 ty (cs k n f).toList (.array n e) h.range hu rfl (by rw [hi]; simp [cs_size])
  simpa using this

theorem run_loadVar_row' {P : Program} {k : IntKind} {w : World} {g n e : Nat} {f : Nat → Int} (ty : TypeId) (h : Row k w g n f) (hu : P.underlying ty = some (.array n e)) (hi : (P.info? ty).map (·.size) = some n) :
    (loadVar ty ⟨g, 0, none⟩).run P w = .ok (.agg (cs k n f)) w := by
  have := run_loadVar_mid (P := P) w g 0 ty (cs k n f).toList (.array n e) h.range hu rfl (by rw [hi]; simp [cs_size])
  simpa using this

/-- The world behind a whole array's store. -/
def put (w : World) (g : Nat) (k : IntKind) (n : Nat) (f : Nat → Int) : World := w.setCells g 0 (cs k n f).toList

theorem run_storeAt_row {P : Program} {k : IntKind} {w : World} {g n : Nat} {f f0 : Nat → Int} (ty : TypeId) (h : Row k w g n f0) (hi : (P.info? ty).map (·.size) = some n) :
    (Instr.storeAt ty (.pointer (some ⟨g, 0, none⟩)) (.agg (cs k n f))).run P w = .ok () (put w g k n f) :=
  run_storeAt_mid (P := P) w g 0 ty (cs k n f) (by rw [cs_size]; exact h.thereAll) (by rw [cs_size]; exact hi) (cs_all k n f)

theorem put_row {k : IntKind} {w : World} {g n : Nat} {f f0 : Nat → Int} (h : Row k w g n f0) : Row k (put w g k n f) g n f :=
  ⟨fun j hj => by
    have := World.rangeAt_setCells_same w g 0 (cs k n f).toList (by simpa [cs_size] using h.thereAll) j (.int k (f j)) (by rw [Array.getElem?_toList, cs_get k n f j hj])
    rw [Nat.zero_add] at this
    exact this,
   fun j hj => by unfold put; rw [World.frozen?_setCells]; exact h.free j hj⟩

theorem put_heap (w : World) (g : Nat) (k : IntKind) (n : Nat) (f : Nat → Int) (i : Nat) (hi : i < w.heap.size) (hne : i ≠ g) : (put w g k n f).heap[i]? = w.heap[i]? :=
  World.heap_setCells_other w g 0 _ hi hne

theorem setCells_size (g : Nat) : ∀ (vs : List Value) (o : Nat) (w : World), (w.setCells g o vs).heap.size = w.heap.size
  | [], _, _ => rfl
  | v :: vs, o, w => by
    have h := setCells_size g vs (o + 1) (w.setCell ⟨g, o, none⟩ v)
    rw [World.size_setCell] at h
    exact h
theorem put_size (w : World) (g : Nat) (k : IntKind) (n : Nat) (f : Nat → Int) : (put w g k n f).heap.size = w.heap.size := setCells_size _ _ _ _

theorem put_other {k k' : IntKind} {w : World} {g g' n m : Nat} {f f' : Nat → Int} (h : Row k w g n f) (hg : g < w.heap.size) (hne : g ≠ g') : Row k (put w g' k' m f') g n f :=
  h.same (put_heap w g' k' m f' g hg hne)

theorem setCells_below (g : Nat) {B : Nat} (hg : B ≤ g) : ∀ (vs : List Value) (o : Nat) (w w0 : World), Below B w0 w → Below B w0 (w.setCells g o vs)
  | [], _, _, _, h => h
  | v :: vs, o, _, w0, h => setCells_below g hg vs (o + 1) _ w0 (h.setCell (p := ⟨g, o, none⟩) hg v)
theorem put_below {B g : Nat} {k : IntKind} {n : Nat} {f : Nat → Int} {w w0 : World} (h : Below B w0 w) (hg : B ≤ g) : Below B w0 (put w g k n f) := setCells_below g hg _ _ _ _ h
/-- A whole array read, as the walk meets it. -/
theorem wpList_load_arr {P : Program} {ops : Array Oper} {rest : List Oper} {o : Oper} {a : Act} {w : World} {Q : Exit → Act → World → Prop} {k : IntKind} {n e : Nat} {f : Nat → Int} (hgd : o.guard = none) (ty : TypeId) (x : Operand) (ho : o.op = .load ty x)
    (g : Nat) (hx : a.eval x = .pointer (some ⟨g, 0, none⟩)) (h : Row k w g n f) (hu : P.underlying ty = some (.array n e)) (hi : (P.info? ty).map (·.size) = some n)
    (hK : wpList P ops Q rest (a.put o.dst (.agg (cs k n f))) w) : wpList P ops Q (o :: rest) a w :=
  wpList_load_mid hgd ty x ho g 0 hx (cs k n f).toList (.array n e) h.range hu rfl (by rw [hi]; simp [cs_size]) (by simpa using hK)

theorem wpList_store_arr {P : Program} {ops : Array Oper} {rest : List Oper} {o : Oper} {a : Act} {w : World} {Q : Exit → Act → World → Prop} {k : IntKind} {n : Nat} {f f0 : Nat → Int} (hgd : o.guard = none) (ty : TypeId) (x y : Operand) (ho : o.op = .store ty x y)
    (g : Nat) (hx : a.eval x = .pointer (some ⟨g, 0, none⟩)) (hy : a.eval y = .agg (cs k n f)) (h : Row k w g n f0) (hi : (P.info? ty).map (·.size) = some n) (hdst : o.dst = none)
    (hK : wpList P ops Q rest a (put w g k n f)) : wpList P ops Q (o :: rest) a w :=
  wpList_store_mid hgd ty x y ho g 0 (cs k n f) hx hy (by rw [cs_size]; exact h.thereAll) (by rw [cs_size]; exact hi) (cs_all k n f) (by rw [hdst]; exact hK)

/-- W' is w but for what block g holds. -/
structure Upd (w w' : World) (g : Nat) : Prop where
  os : w'.os = w.os
  tape : w'.tape = w.tape
  output : w'.output = w.output
  size : w'.heap.size = w.heap.size
  block : ∀ i, i < w.heap.size → i ≠ g → w'.heap[i]? = w.heap[i]?
theorem Row.upd {k : IntKind} {w w' : World} {g g' n : Nat} {f : Nat → Int} (h : Row k w g n f) (u : Upd w w' g') (hg : g < w.heap.size) (hne : g ≠ g') : Row k w' g n f := h.same (u.block g hg hne)
theorem Upd.below {B g : Nat} {w w' w0 : World} (u : Upd w w' g) (h : Below B w0 w) (hg : B ≤ g) (hB : B ≤ w.heap.size) : Below B w0 w' :=
  ⟨u.os.trans h.os, u.tape.trans h.tape, u.output.trans h.output, by rw [u.size]; exact h.size, fun i hi => (u.block i (by omega) (by omega)).trans (h.block i hi)⟩
theorem put_upd (w : World) (g : Nat) (k : IntKind) (n : Nat) (f : Nat → Int) : Upd w (put w g k n f) g := by
  have b : Below 0 w (put w g k n f) := put_below (Below.refl _ _) (Nat.zero_le _)
  exact ⟨b.os, b.tape, b.output, put_size _ _ _ _ _, fun i hi hne => put_heap w g k n f i hi hne⟩

/-- A whole array stored: the walk goes on in whatever world has it so. -/
theorem wpList_store_any {P : Program} {ops : Array Oper} {rest : List Oper} {o : Oper} {a : Act} {w : World} {Q : Exit → Act → World → Prop} {k : IntKind} {n : Nat} {f f0 : Nat → Int} (hgd : o.guard = none) (ty : TypeId) (x y : Operand) (ho : o.op = .store ty x y)
    (g : Nat) (hx : a.eval x = .pointer (some ⟨g, 0, none⟩)) (hy : a.eval y = .agg (cs k n f)) (h : Row k w g n f0) (hi : (P.info? ty).map (·.size) = some n) (hdst : o.dst = none)
    (hK : ∀ W, Row k W g n f → Upd w W g → wpList P ops Q rest a W) : wpList P ops Q (o :: rest) a w :=
  wpList_store_arr hgd ty x y ho g hx hy h hi hdst (hK _ (put_row h) (put_upd w g k n f))

/-- Eight numbers. -/
def vec8 (x0 x1 x2 x3 x4 x5 x6 x7 : Int) : Nat → Int
  | 0 => x0
  | 1 => x1
  | 2 => x2
  | 3 => x3
  | 4 => x4
  | 5 => x5
  | 6 => x6
  | 7 => x7
  | _ => 0
theorem vec8_of (f : Nat → Int) (j : Nat) (h : j < 8) : vec8 (f 0) (f 1) (f 2) (f 3) (f 4) (f 5) (f 6) (f 7) j = f j := by
  rcases (show j = 0 ∨ j = 1 ∨ j = 2 ∨ j = 3 ∨ j = 4 ∨ j = 5 ∨ j = 6 ∨ j = 7 from by omega) with rfl | rfl | rfl | rfl | rfl | rfl | rfl | rfl <;> rfl
theorem row8 {w : World} {g : Nat} {f0 : Nat → Int} (h : Row .u32 w g 8 f0) (x0 x1 x2 x3 x4 x5 x6 x7 : Int) :
    Row .u32 ((((((((w.setCell ⟨g, 0, none⟩ (.int .u32 x0)).setCell ⟨g, 1, none⟩ (.int .u32 x1)).setCell ⟨g, 2, none⟩ (.int .u32 x2)).setCell ⟨g, 3, none⟩ (.int .u32 x3)).setCell ⟨g, 4, none⟩ (.int .u32 x4)).setCell ⟨g, 5, none⟩ (.int .u32 x5)).setCell ⟨g, 6, none⟩ (.int .u32 x6)).setCell ⟨g, 7, none⟩ (.int .u32 x7)) g 8 (vec8 x0 x1 x2 x3 x4 x5 x6 x7) :=
  ((((((((h.set 0 x0 (by omega)).set 1 x1 (by omega)).set 2 x2 (by omega)).set 3 x3 (by omega)).set 4 x4 (by omega)).set 5 x5 (by omega)).set 6 x6 (by omega)).set 7 x7 (by omega)).congr (fun j hj => by
    rcases (show j = 0 ∨ j = 1 ∨ j = 2 ∨ j = 3 ∨ j = 4 ∨ j = 5 ∨ j = 6 ∨ j = 7 from by omega) with rfl | rfl | rfl | rfl | rfl | rfl | rfl | rfl <;> rfl)
theorem bel8 {w0 w : World} {B g : Nat} (h : Below B w0 w) (hg : B ≤ g) (x0 x1 x2 x3 x4 x5 x6 x7 : Value) :
    Below B w0 ((((((((w.setCell ⟨g, 0, none⟩ x0).setCell ⟨g, 1, none⟩ x1).setCell ⟨g, 2, none⟩ x2).setCell ⟨g, 3, none⟩ x3).setCell ⟨g, 4, none⟩ x4).setCell ⟨g, 5, none⟩ x5).setCell ⟨g, 6, none⟩ x6).setCell ⟨g, 7, none⟩ x7) :=
  (((((((h.setCell hg _).setCell hg _).setCell hg _).setCell hg _).setCell hg _).setCell hg _).setCell hg _).setCell hg _

theorem results_arr {P : Program} {k : IntKind} {n e g : Nat} {f : Nat → Int} {fn : Func} {p : Tmp} {ty : TypeId} (hr : fn.results = #[.cell p ty]) (tmps : Array Value) (w : World)
    (hp : tmps.getD p undef = .pointer (some ⟨g, 0, none⟩)) (h : Row k w g n f) (hu : P.underlying ty = some (.array n e)) (hi : (P.info? ty).map (·.size) = some n) :
    (results fn tmps).run P w = .ok (.agg (cs k n f)) w := by
  have hl := run_loadVar_row' ty h hu hi
  have hp' : tmps[p]?.getD undef = .pointer (some ⟨g, 0, none⟩) := by simpa using hp
  simp [results, hr, hp', asAddr, hl]
#print axioms put_below
end Go.Proofs.YtjhbfkckkinfjaaDoor
