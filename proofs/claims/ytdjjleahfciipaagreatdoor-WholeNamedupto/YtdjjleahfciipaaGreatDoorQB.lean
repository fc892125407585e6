/- Gathered: ShaM ShaS. -/
import Derived.Deep.MidRow
import Derived.Deep.Upon
import Derived.Test.YtdjjleahfciipaaGreatDoorQa
import Derived.Test.YtdjjleahfciipaaGreatDoorQA
/- Whole arrays in memory: loading, storing, boxing. -/
namespace Go.Proofs.YtdjjleahfciipaaGreatDoor
open Go.RowKit

/-- The cells of an array of n numbers. -/
def cs (k : IntKind) (n : Nat) (f : Nat → Int) : Array Value := ((List.range n).map fun i => Value.int k (f i)).toArray
theorem cs_size (k : IntKind) (n : Nat) (f : Nat → Int) : (cs k n f).size = n := by simp [cs]
theorem cs_get (k : IntKind) (n : Nat) (f : Nat → Int) (j : Nat) (h : j < n) : (cs k n f)[j]? = some (.int k (f j)) := by simp [cs, h]
theorem cs_congr (k : IntKind) (n : Nat) {f f' : Nat → Int} (h : ∀ j, j < n → f j = f' j) : cs k n f = cs k n f' := by
  unfold cs
  congr 1
  exact List.map_congr_left (fun j hj => by rw [h j (List.mem_range.1 hj)])
theorem cs_all (k : IntKind) (n : Nat) (f : Nat → Int) : (cs k n f).all (·.oneCell') = true := by
  rw [Array.all_eq_true_iff_forall_mem]
  intro v hv
  simp only [cs, List.mem_toArray, List.mem_map] at hv
  obtain ⟨i, _, rfl⟩ := hv
  rfl

theorem Row.box {k : IntKind} {w : World} {e : TypeId} {n : Nat} {f : Nat → Int} : Row k (w.alloc (.cells (cs k n f) e)) w.heap.size n f :=
  Row.arr (fun j hj => cs_get k n f j hj)

theorem Row.range {k : IntKind} {w : World} {g n : Nat} {f : Nat → Int} (h : Row k w g n f) : w.rangeAt g 0 (cs k n f).toList := fun j v hv => by
  have hj : j < n := by
    have := (List.getElem?_eq_some_iff.1 hv).1
    simpa [cs_size] using this
  rw [Array.getElem?_toList, cs_get k n f j hj] at hv
  rw [Nat.zero_add, h.cell j hj]
  exact hv

theorem Row.thereAll {k : IntKind} {w : World} {g n : Nat} {f : Nat → Int} (h : Row k w g n f) : w.there g 0 n := fun j hj => by
  rw [Nat.zero_add, h.cell j hj, h.free j hj]
  exact ⟨rfl, rfl⟩

/-- A whole array read. -/
theorem run_loadAt_row {P : Program} {k : IntKind} {w : World} {g n e : Nat} {f : Nat → Int} (ty : TypeId) (h : Row k w g n f) (hu : P.underlying ty = some (.array n e)) (hi : (P.info? ty).map (·.size) = some n) :
    (Instr.loadAt ty (.pointer (some ⟨g, 0, none⟩))).run P w = .ok (.agg (cs k n f)) w := by
  have := run_loadAt_mid (P := P) w g 0 ty (cs k n f).toList (.array n e) h.range hu rfl (by rw [hi]; simp [cs_size])
  simpa using this

theorem run_loadVar_row' {P : Program} {k : IntKind} {w : World} {g n e : Nat} {f : Nat → Int} (ty : TypeId) (h : Row k w g n f) (hu : P.underlying ty = some (.array n e)) (hi : (P.info? ty).map (·.size) = some n) :
    (loadVar ty ⟨g, 0, none⟩).run P w = .ok (.agg (cs k n f)) w := by
  have := run_loadVar_mid (P := P) w g 0 ty (cs k n f).toList (.array n e) h.range hu rfl (by rw [hi]; simp [cs_size])
  simpa using this

/-- The world behind a whole array's store. -/
def put (w : World) (g : Nat) (k : IntKind) (n : Nat) (f : Nat → Int) : World := w.setCells g 0 (cs k n f).toList

theorem run_storeAt_row {P : Program} {k : IntKind} {w : World} {g n : Nat} {f f0 : Nat → Int} (ty : TypeId) (h : Row k w g n f0) (hi : (P.info? ty).map (·.size) = some n) :
    (Instr.storeAt ty (.pointer (some ⟨g, 0, none⟩)) (.agg (cs k n f))).run P w = .ok () (put w g k n f) :=
  run_storeAt_mid (P := P) w g 0 ty (cs k n f) (by rw [cs_size]; exact h.thereAll) (by rw [cs_size]; exact hi) (cs_all k n f)

theorem put_row {k : IntKind} {w : World} {g n : Nat} {f f0 : Nat → Int} (h : Row k w g n f0) : Row k (put w g k n f) g n f :=
  ⟨fun j hj => by
    have := World.rangeAt_setCells_same w g 0 (cs k n f).toList (by simpa [cs_size] using h.thereAll) j (.int k (f j)) (by rw [Array.getElem?_toList, cs_get k n f j hj])
    rw [Nat.zero_add] at this
    exact this,
   fun j hj => by unfold put; rw [World.frozen?_setCells]; exact h.free j hj⟩

theorem put_heap (w : World) (g : Nat) (k : IntKind) (n : Nat) (f : Nat → Int) (i : Nat) (hi : i < w.heap.size) (hne : i ≠ g) : (put w g k n f).heap[i]? = w.heap[i]? :=
  World.heap_setCells_other w g 0 _ hi hne

theorem setCells_size (g : Nat) : ∀ (vs : List Value) (o : Nat) (w : World), (w.setCells g o vs).heap.size = w.heap.size
  | [], _, _ => rfl
  | v :: vs, o, w => by
    have h := setCells_size g vs (o + 1) (w.setCell ⟨g, o, none⟩ v)
    rw [World.size_setCell] at h
    exact h
theorem put_size (w : World) (g : Nat) (k : IntKind) (n : Nat) (f : Nat → Int) : (put w g k n f).heap.size = w.heap.size := setCells_size _ _ _ _

theorem put_other {k k' : IntKind} {w : World} {g g' n m : Nat} {f f' : Nat → Int} (h : Row k w g n f) (hg : g < w.heap.size) (hne : g ≠ g') : Row k (put w g' k' m f') g n f :=
  h.same (put_heap w g' k' m f' g hg hne)

theorem setCells_below (g : Nat) {B : Nat} (hg : B ≤ g) : ∀ (vs : List Value) (o : Nat) (w w0 : World), Below B w0 w → Below B w0 (w.setCells g o vs)
  | [], _, _, _, h => h
  | v :: vs, o, _, w0, h => setCells_below g hg vs (o + 1) _ w0 (h.setCell (p := ⟨g, o, none⟩) hg v)
theorem put_below {B g : Nat} {k : IntKind} {n : Nat} {f : Nat → Int} {w w0 : World} (h : Below B w0 w) (hg : B ≤ g) : Below B w0 (put w g k n f) := setCells_below g hg _ _ _ _ h
/-- A whole array read, as the walk meets it. -/
theorem wpList_load_arr {P : Program} {ops : Array Oper} {rest : List Oper} {o : Oper} {a : Act} {w : World} {Q : Exit → Act → World → Prop} {k : IntKind} {n e : Nat} {f : Nat → Int} (hgd : o.guard = none) (ty : TypeId) (x : Operand) (ho : o.op = .load ty x)
    (g : Nat) (hx : a.eval x = .pointer (some ⟨g, 0, none⟩)) (h : Row k w g n f) (hu : P.underlying ty = some (.array n e)) (hi : (P.info? ty).map (·.size) = some n)
    (hK : wpList P ops Q rest (a.put o.dst (.agg (cs k n f))) w) : wpList P ops Q (o :: rest) a w :=
  wpList_load_mid hgd ty x ho g 0 hx (cs k n f).toList (.array n e) h.range hu rfl (by rw [hi]; simp [cs_size]) (by simpa using hK)

theorem wpList_store_arr {P : Program} {ops : Array Oper} {rest : List Oper} {o : Oper} {a : Act} {w : World} {Q : Exit → Act → World → Prop} {k : IntKind} {n : Nat} {f f0 : Nat → Int} (hgd : o.guard = none) (ty : TypeId) (x y : Operand) (ho : o.op = .store ty x y)
    (g : Nat) (hx : a.eval x = .pointer (some ⟨g, 0, none⟩)) (hy : a.eval y = .agg (cs k n f)) (h : Row k w g n f0) (hi : (P.info? ty).map (·.size) = some n) (hdst : o.dst = none)
    (hK : wpList P ops Q rest a (put w g k n f)) : wpList P ops Q (o :: rest) a w :=
  wpList_store_mid hgd ty x y ho g 0 (cs k n f) hx hy (by rw [cs_size]; exact h.thereAll) (by rw [cs_size]; exact hi) (cs_all k n f) (by rw [hdst]; exact hK)

/-- W' is w but for what block g holds. -/
structure Upd (w w' : World) (g : Nat) : Prop where
  os : w'.os = w.os
  tape : w'.tape = w.tape
  output : w'.output = w.output
  size : w'.heap.size = w.heap.size
  block : ∀ i, i < w.heap.size → i ≠ g → w'.heap[i]? = w.heap[i]?
theorem Row.upd {k : IntKind} {w w' : World} {g g' n : Nat} {f : Nat → Int} (h : Row k w g n f) (u : Upd w w' g') (hg : g < w.heap.size) (hne : g ≠ g') : Row k w' g n f := h.same (u.block g hg hne)
theorem Upd.below {B g : Nat} {w w' w0 : World} (u : Upd w w' g) (h : Below B w0 w) (hg : B ≤ g) (hB : B ≤ w.heap.size) : Below B w0 w' :=
  ⟨u.os.trans h.os, u.tape.trans h.tape, u.output.trans h.output, by rw [u.size]; exact h.size, fun i hi => (u.block i (by omega) (by omega)).trans (h.block i hi)⟩
theorem put_upd (w : World) (g : Nat) (k : IntKind) (n : Nat) (f : Nat → Int) : Upd w (put w g k n f) g := by
  have b : Below 0 w (put w g k n f) := put_below (Below.refl _ _) (Nat.zero_le _)
  exact ⟨b.os, b.tape, b.output, put_size _ _ _ _ _, fun i hi hne => put_heap w g k n f i hi hne⟩

/-- A whole array stored: the walk goes on in whatever world has it so. -/
theorem wpList_store_any {P : Program} {ops : Array Oper} {rest : List Oper} {o : Oper} {a : Act} {w : World} {Q : Exit → Act → World → Prop} {k : IntKind} {n : Nat} {f f0 : Nat → Int} (hgd : o.guard = none) (ty : TypeId) (x y : Operand) (ho : o.op = .store ty x y)
    (g : Nat) (hx : a.eval x = .pointer (some ⟨g, 0, none⟩)) (hy : a.eval y = .agg (cs k n f)) (h : Row k w g n f0) (hi : (P.info? ty).map (·.size) = some n) (hdst : o.dst = none)
    (hK : ∀ W, Row k W g n f → Upd w W g → wpList P ops Q rest a W) : wpList P ops Q (o :: rest) a w :=
  wpList_store_arr hgd ty x y ho g hx hy h hi hdst (hK _ (put_row h) (put_upd w g k n f))

/-- Eight numbers. -/
def vec8 (x0 x1 x2 x3 x4 x5 x6 x7 : Int) : Nat → Int
  | 0 => x0
  | 1 => x1
  | 2 => x2
  | 3 => x3
  | 4 => x4
  | 5 => x5
  | 6 => x6
  | 7 => x7
  | _ => 0
theorem vec8_of (f : Nat → Int) (j : Nat) (h : j < 8) : vec8 (f 0) (f 1) (f 2) (f 3) (f 4) (f 5) (f 6) (f 7) j = f j := by
  rcases (show j = 0 ∨ j = 1 ∨ j = 2 ∨ j = 3 ∨ j = 4 ∨ j = 5 ∨ j = 6 ∨ j = 7 from by omega) with rfl | rfl | rfl | rfl | rfl | rfl | rfl | rfl <;> rfl
theorem row8 {w : World} {g : Nat} {f0 : Nat → Int} (h : Row .u32 w g 8 f0) (x0 x1 x2 x3 x4 x5 x6 x7 : Int) :
    Row .u32 ((((((((w.setCell ⟨g, 0, none⟩ (.int .u32 x0)).setCell ⟨g, 1, none⟩ (.int .u32 x1)).setCell ⟨g, 2, none⟩ (.int .u32 x2)).setCell ⟨g, 3, none⟩ (.int .u32 x3)).setCell ⟨g, 4, none⟩ (.int .u32 x4)).setCell ⟨g, 5, none⟩ (.int .u32 x5)).setCell ⟨g, 6, none⟩ (.int .u32 x6)).setCell ⟨g, 7, none⟩ (.int .u32 x7)) g 8 (vec8 x0 x1 x2 x3 x4 x5 x6 x7) :=
  ((((((((h.set 0 x0 (by omega)).set 1 x1 (by omega)).set 2 x2 (by omega)).set 3 x3 (by omega)).set 4 x4 (by omega)).set 5 x5 (by omega)).set 6 x6 (by omega)).set 7 x7 (by omega)).congr (fun j hj => by
    rcases (show j = 0 ∨ j = 1 ∨ j = 2 ∨ j = 3 ∨ j = 4 ∨ j = 5 ∨ j = 6 ∨ j = 7 from by omega) with rfl | rfl | rfl | rfl | rfl | rfl | rfl | rfl <;> rfl)
theorem bel8 {w0 w : World} {B g : Nat} (h : Below B w0 w) (hg : B ≤ g) (x0 x1 x2 x3 x4 x5 x6 x7 : Value) :
    Below B w0 ((((((((w.setCell ⟨g, 0, none⟩ x0).setCell ⟨g, 1, none⟩ x1).setCell ⟨g, 2, none⟩ x2).setCell ⟨g, 3, none⟩ x3).setCell ⟨g, 4, none⟩ x4).setCell ⟨g, 5, none⟩ x5).setCell ⟨g, 6, none⟩ x6).setCell ⟨g, 7, none⟩ x7) :=
  (((((((h.setCell hg _).setCell hg _).setCell hg _).setCell hg _).setCell hg _).setCell hg _).setCell hg _).setCell hg _

theorem results_arr {P : Program} {k : IntKind} {n e g : Nat} {f : Nat → Int} {fn : Func} {p : Tmp} {ty : TypeId} (hr : fn.results = #[.cell p ty]) (tmps : Array Value) (w : World)
    (hp : tmps.getD p undef = .pointer (some ⟨g, 0, none⟩)) (h : Row k w g n f) (hu : P.underlying ty = some (.array n e)) (hi : (P.info? ty).map (·.size) = some n) :
    (results fn tmps).run P w = .ok (.agg (cs k n f)) w := by
  have hl := run_loadVar_row' ty h hu hi
  have hp' : tmps[p]?.getD undef = .pointer (some ⟨g, 0, none⟩) := by simpa using hp
  simp [results, hr, hp', asAddr, hl]
#print axioms put_below
end Go.Proofs.YtdjjleahfciipaaGreatDoor
/- What sha.schedule and the reference's words answer: the same sixty-four words. -/
namespace Go.Proofs.YtdjjleahfciipaaGreatDoor
open Go.RowKit
theorem Tryz.sz106 : (Tryz.prog.info? 106).map (·.size) = some 8 := by kernel_rfl
theorem Tryz.sz110 : (Tryz.prog.info? 110).map (·.size) = some 64 := by kernel_rfl
theorem Tryz.sz165 : (Tryz.prog.info? 165).map (·.size) = some 64 := by kernel_rfl

/-- Word k of a block, the first byte highest. -/
def wd (b : Nat → Int) (k : Nat) : Int := b (4 * k) * 16777216 + b (4 * k + 1) * 65536 + b (4 * k + 2) * 256 + b (4 * k + 3)
def s0 (x : Int) : Int := xo (xo (rot x 7) (rot x 18)) (x / 8)
def s1 (x : Int) : Int := xo (xo (rot x 17) (rot x 19)) (x / 1024)
/-- The word that comes to place k, the places before it filled. -/
def nxt (b f : Nat → Int) (k : Nat) : Int := if k < 16 then wd b k else pl (pl (pl (f (k - 16)) (s0 (f (k - 15)))) (f (k - 7))) (s1 (f (k - 2)))
/-- The schedule while k words are filled. -/
def sch (b : Nat → Int) : Nat → Nat → Int
  | 0, _ => 0
  | k + 1, j => if j = k then nxt b (sch b k) k else sch b k j

theorem start3 (w : World) (b : Nat → Int) (e1 e2 e3 : TypeId) (A2 A3 : Array Value) (h2 : A2 = Array.replicate 64 (.int .u32 0)) (h3 : A3 = Array.replicate 64 (.int .u32 0)) :
    Row .u8 (((w.alloc (.cells (cs .u8 64 b) e1)).alloc (.cells A2 e2)).alloc (.cells A3 e3)) w.heap.size 64 b ∧
    Row .u32 (((w.alloc (.cells (cs .u8 64 b) e1)).alloc (.cells A2 e2)).alloc (.cells A3 e3)) (w.heap.size + 1) 64 (fun _ => 0) ∧
    Row .u32 (((w.alloc (.cells (cs .u8 64 b) e1)).alloc (.cells A2 e2)).alloc (.cells A3 e3)) (w.heap.size + 1 + 1) 64 (fun _ => 0) ∧
    Below w.heap.size w (((w.alloc (.cells (cs .u8 64 b) e1)).alloc (.cells A2 e2)).alloc (.cells A3 e3)) ∧ w.heap.size + 1 + 1 < (((w.alloc (.cells (cs .u8 64 b) e1)).alloc (.cells A2 e2)).alloc (.cells A3 e3)).heap.size := by
  have z1 : (w.alloc (.cells (cs .u8 64 b) e1)).heap.size = w.heap.size + 1 := World.size_alloc _ _
  have r1 : Row .u8 (w.alloc (.cells (cs .u8 64 b) e1)) w.heap.size 64 b := Row.box
  have b1 : Below w.heap.size w (w.alloc (.cells (cs .u8 64 b) e1)) := (Below.refl _ _).alloc (Nat.le_refl _) _
  generalize w.alloc (.cells (cs .u8 64 b) e1) = w1 at z1 r1 b1 ⊢
  have z2 : (w1.alloc (.cells A2 e2)).heap.size = w1.heap.size + 1 := World.size_alloc _ _
  have r2 : Row .u32 (w1.alloc (.cells A2 e2)) w1.heap.size 64 (fun _ => 0) := Row.rep h2
  have q1 := r1.alloc (by omega) (.cells A2 e2)
  have b2 := b1.alloc (by omega) (.cells A2 e2)
  rw [z1] at r2 z2
  generalize w1.alloc (.cells A2 e2) = w2 at z2 r2 q1 b2 ⊢
  have z3 : (w2.alloc (.cells A3 e3)).heap.size = w2.heap.size + 1 := World.size_alloc _ _
  have r3 : Row .u32 (w2.alloc (.cells A3 e3)) w2.heap.size 64 (fun _ => 0) := Row.rep h3
  rw [z2] at r3 z3
  exact ⟨q1.alloc (by omega) _, r2.alloc (by omega) _, r3, b2.alloc (by omega) _, by omega⟩

theorem or4 (a b c d : Int) (ha : 0 ≤ a ∧ a < 256) (hb : 0 ≤ b ∧ b < 256) (hc : 0 ≤ c ∧ c < 256) (hd : 0 ≤ d ∧ d < 256) :
    bits .or .u32 (bits .or .u32 (bits .or .u32 (a * 16777216) (b * 65536)) (c * 256)) d = a * 16777216 + b * 65536 + c * 256 + d := by
  have e : ∀ (i x y : Nat), x % 2 ^ i = 0 → y < 2 ^ i → x < 4294967296 → y < 4294967296 → bits .or .u32 (x : Int) (y : Int) = ((x + y : Nat) : Int) := fun i x y h1 h2 h3 h4 => by
    rw [u32_or_nat x y h3 h4, nat_join i x y h1 h2]
  obtain ⟨a, rfl⟩ := Int.eq_ofNat_of_zero_le ha.1
  obtain ⟨b, rfl⟩ := Int.eq_ofNat_of_zero_le hb.1
  obtain ⟨c, rfl⟩ := Int.eq_ofNat_of_zero_le hc.1
  obtain ⟨d, rfl⟩ := Int.eq_ofNat_of_zero_le hd.1
  rw [show ((a : Int) * 16777216) = ((a * 16777216 : Nat) : Int) from by omega, show ((b : Int) * 65536) = ((b * 65536 : Nat) : Int) from by omega, show ((c : Int) * 256) = ((c * 256 : Nat) : Int) from by omega]
  rw [e 24 _ _ (by omega) (by omega) (by omega) (by omega), e 16 _ _ (by omega) (by omega) (by omega) (by omega), e 8 _ _ (by omega) (by omega) (by omega) (by omega)]
  omega

theorem sch_word (b : Nat → Int) (k j : Nat) (h : k < 16) : (if j = k then b (4 * k) * 16777216 + b (4 * k + 1) * 65536 + b (4 * k + 2) * 256 + b (4 * k + 3) else sch b k j) = sch b (k + 1) j := by
  rw [sch]
  by_cases e : j = k
  · rw [if_pos e, if_pos e]; unfold nxt; rw [if_pos h]; rfl
  · rw [if_neg e, if_neg e]

theorem sch_next (b : Nat → Int) (k j : Nat) (v : Int) (h : v = nxt b (sch b k) k) : (if j = k then v else sch b k j) = sch b (k + 1) j := by
  rw [sch, h]

theorem pl4 (a b c d : Int) : (a + b + c + d) % 4294967296 = pl (pl (pl a b) c) d := by unfold pl; omega

theorem sch_w (b : Nat → Int) (hb : ∀ j, 0 ≤ b j ∧ b j < 256) (k j : Nat) : W32 (sch b k j) := by
  induction k with
  | zero => exact ⟨by simp [sch], by simp [sch]⟩
  | succ k ih =>
    rw [sch]
    split
    · unfold nxt
      split
      · have h0 := hb (4 * k)
        have h1 := hb (4 * k + 1)
        have h2 := hb (4 * k + 2)
        have h3 := hb (4 * k + 3)
        unfold wd
        exact ⟨by omega, by omega⟩
      · exact pl_bd _ _
    · exact ih

theorem turn7 (x : Int) (w : World) (h0 : 0 ≤ x) (h1 : x < 4294967296) : Calls Tryz.prog 123 #[.int .u32 x, .int .i64 7] w fun e w' => e = .returned (.int .u32 (rot x 7)) ∧ w' = w := turned_any x 7 w h0 h1 (by omega) (by omega)
theorem turn17 (x : Int) (w : World) (h0 : 0 ≤ x) (h1 : x < 4294967296) : Calls Tryz.prog 123 #[.int .u32 x, .int .i64 17] w fun e w' => e = .returned (.int .u32 (rot x 17)) ∧ w' = w := turned_any x 17 w h0 h1 (by omega) (by omega)
theorem turn18 (x : Int) (w : World) (h0 : 0 ≤ x) (h1 : x < 4294967296) : Calls Tryz.prog 123 #[.int .u32 x, .int .i64 18] w fun e w' => e = .returned (.int .u32 (rot x 18)) ∧ w' = w := turned_any x 18 w h0 h1 (by omega) (by omega)
theorem turn19 (x : Int) (w : World) (h0 : 0 ≤ x) (h1 : x < 4294967296) : Calls Tryz.prog 123 #[.int .u32 x, .int .i64 19] w fun e w' => e = .returned (.int .u32 (rot x 19)) ∧ w' = w := turned_any x 19 w h0 h1 (by omega) (by omega)

set_option maxRecDepth 10000 in
set_option maxHeartbeats 4000000 in
theorem schedule_any (b : Nat → Int) (w : World) (hb : ∀ j, 0 ≤ b j ∧ b j < 256) :
    Calls Tryz.prog 100 #[.agg (cs .u8 64 b)] w fun e w' => e = .returned (.agg (cs .u32 64 (sch b 64))) ∧ Below w.heap.size w w' := by
  go_enter Tryz.func100, Tryz.ntmps100
  go_wp2
  go_loopw [8] (fun i wr => ∃ k : Nat, k ≤ 16 ∧ i = .int .i64 k ∧ Row .u8 wr w.heap.size 64 b ∧ Row .u32 wr (w.heap.size + 1) 64 (fun _ => 0) ∧ Row .u32 wr (w.heap.size + 1 + 1) 64 (sch b k) ∧ Below w.heap.size w wr ∧ w.heap.size + 1 + 1 < wr.heap.size) (fun i _ => 16 - (intOf i).toNat)
  case atStart =>
    obtain ⟨h1, h2, h3, h4, h5⟩ := start3 w b 110 165 165 _ _ rfl rfl
    exact ⟨0, by omega, rfl, h1, h2, h3.congr (fun j _ => rfl), h4, h5⟩
  case round =>
    obtain ⟨k, hk, rfl, RB, RZ, RS, B, hz⟩ := hrel
    by_cases hlt : k < 16
    · have c0 := RB.cell (4 * k) (by omega)
      have c1 := RB.cell (4 * k + 1) (by omega)
      have c2 := RB.cell (4 * k + 2) (by omega)
      have c3 := RB.cell (4 * k + 3) (by omega)
      have d0 := RS.cell k (by omega)
      have f0 := RS.free k (by omega)
      have b0 := hb (4 * k)
      have b1 := hb (4 * k + 1)
      have b2 := hb (4 * k + 2)
      have b3 := hb (4 * k + 3)
      have HB : Hid (∀ j, 0 ≤ b j ∧ b j < 256) := hb
      clear hb
      go_wp2
      go_region
      all_goals go_wp2
      all_goals
        go_roundw
        case rel =>
          rw [or4 _ _ _ _ b0 b1 b2 b3]
          refine ⟨k + 1, by omega, by go_num, (RB.other _ _ (show w.heap.size ≠ w.heap.size + 1 + 1 by omega)).drew, (RZ.other _ _ (show w.heap.size + 1 ≠ w.heap.size + 1 + 1 by omega)).drew, ((RS.set k _ (by omega)).congr (fun j _ => ?_)).drew, (B.setCell (show w.heap.size ≤ w.heap.size + 1 + 1 by omega) _).drew, by simp; omega⟩
          exact sch_word b k j hlt
        case measure => simp [intOf]; omega
    · obtain rfl : k = 16 := by omega
      have HB : Hid (∀ j, 0 ≤ b j ∧ b j < 256) := hb
      clear hb
      go_wp2
      go_loopw [5] (fun i wr => ∃ k : Nat, 16 ≤ k ∧ k ≤ 64 ∧ i = .int .i64 k ∧ Row .u32 wr (w.heap.size + 1) 64 (fun _ => 0) ∧ Row .u32 wr (w.heap.size + 1 + 1) 64 (sch b k) ∧ Below w.heap.size w wr ∧ w.heap.size + 1 + 1 < wr.heap.size) (fun i _ => 64 - (intOf i).toNat)
      case atStart => exact ⟨16, by omega, by omega, rfl, RZ, RS, B, hz⟩
      case round =>
        obtain ⟨k, hk0, hk, rfl, RZ, RS, B, hz⟩ := hrel
        by_cases hlt : k < 64
        · have c2 := RS.cell (k - 2) (by omega)
          have c7 := RS.cell (k - 7) (by omega)
          have c15 := RS.cell (k - 15) (by omega)
          have c16 := RS.cell (k - 16) (by omega)
          have c0 := RS.cell k (by omega)
          have f0 := RS.free k (by omega)
          have b2 := sch_w b HB.out k (k - 2)
          have b15 := sch_w b HB.out k (k - 15)
          have hst : Hid (pl (pl (pl (sch b k (k - 16)) (s0 (sch b k (k - 15)))) (sch b k (k - 7))) (s1 (sch b k (k - 2))) = nxt b (sch b k) k) := by unfold Hid nxt; rw [if_neg (by omega)]
          generalize sch b k (k - 2) = x2 at c2 b2 hst
          generalize sch b k (k - 7) = x7 at c7 hst
          generalize sch b k (k - 15) = x15 at c15 b15 hst
          generalize sch b k (k - 16) = x16 at c16 hst
          have m2 : (2 : Int) ≤ (k : Int) := by omega
          have m3 : (k : Int) < 66 := by omega
          have i2 : (0 : Int) ≤ k - 2 ∧ (k : Int) - 2 < 64 := by omega
          have i7 : (0 : Int) ≤ k - 7 ∧ (k : Int) - 7 < 64 := by omega
          have i15 : (0 : Int) ≤ k - 15 ∧ (k : Int) - 15 < 64 := by omega
          have i16 : (0 : Int) ≤ k - 16 ∧ (k : Int) - 16 < 64 := by omega
          have l2 := b2.1
          have u2 := b2.2
          have l15 := b15.1
          have u15 := b15.2
          go_wp2
          go_quiet (first | (go_at_call_of 123 (Value.int IntKind.i64 7); exact Calls.quiet_of_same (turn7 _ _ l15 u15)) | (go_at_call_of 123 (Value.int IntKind.i64 18); exact Calls.quiet_of_same (turn18 _ _ l15 u15)))
          go_wp2
          have hd : ∀ a, (wr.drewN nq).cell? a = wr.cell? a := fun _ => rfl
          have hf : ∀ a, (wr.drewN nq).frozen? a = wr.frozen? a := fun _ => rfl
          rw [← hd] at c0 c2 c7 c15 c16
          rw [← hf] at f0
          clear hd hf
          have RZ1 := RZ.drewN nq
          have RS1 := RS.drewN nq
          have B1 := bel_drewN B nq
          have hz1 : w.heap.size + 1 + 1 < (wr.drewN nq).heap.size := hz
          generalize wr.drewN nq = wq at RZ1 RS1 B1 hz1 c0 c2 c7 c15 c16 f0 ⊢
          go_quiet (first | (go_at_call_of 123 (Value.int IntKind.i64 17); exact Calls.quiet_of_same (turn17 _ _ l2 u2)) | (go_at_call_of 123 (Value.int IntKind.i64 19); exact Calls.quiet_of_same (turn19 _ _ l2 u2)))
          go_wp2
          go_wp2
          go_region
          all_goals go_wp2
          all_goals
            go_roundw
            case rel =>
              refine ⟨k + 1, by omega, by omega, by go_num, (RZ1.drewN _).other _ _ (show w.heap.size + 1 ≠ w.heap.size + 1 + 1 by omega), ((RS1.drewN _).set k _ (by omega)).congr (fun j _ => ?_), (bel_drewN B1 _).setCell (show w.heap.size ≤ w.heap.size + 1 + 1 by omega) _, by rw [World.size_setCell]; exact hz1⟩
              refine sch_next b k j _ ?_
              rw [← hst.out]
              exact pl4 _ _ _ _
            case measure => simp [intOf]; omega
        · obtain rfl : k = 64 := by omega
          go_wp2_with (first | (refine wpList_load_arr (by rfl) 165 (.tmp 3) (by rfl) (w.heap.size + 1 + 1) (by rfl) RS Tryz.underlying165 Tryz.sz165 ?_) | (refine wpList_store_arr (by rfl) 165 (.tmp 2) (.tmp 96) (by rfl) (w.heap.size + 1) (by rfl) (by rfl) RZ Tryz.sz165 (by rfl) ?_))
          exact bodyPost_ret (results_arr Tryz.results100 _ _ rfl (put_row RZ) Tryz.underlying165 Tryz.sz165) rfl ⟨rfl, put_below B (by omega)⟩
#print axioms schedule_any
end Go.Proofs.YtdjjleahfciipaaGreatDoor
