/- A reader in memory: ten cells and its text's block. -/
import Derived.Test.YthjpmiidbgaiaaaWrQ
namespace Go.Proofs.Ythjpmiidbgaiaaa
open Go.RowKit

/-- The bytes of a list. -/
def ba (l : List UInt8) : ByteArray := ⟨l.toArray⟩

theorem ba_size (l : List UInt8) : (ba l).size = l.length := by
  show l.toArray.size = _
  simp
theorem bt_ba (l : List UInt8) (k : Nat) (h : k < l.length) : bt (ba l) k = ((l[k]'h).toNat : Int) := by
  unfold bt
  rw [dif_pos (by rw [ba_size]; exact h)]
  rfl
theorem ba_append (a b : List UInt8) : ba (a ++ b) = ba a ++ ba b := by
  apply bytes_ext
  · rw [ByteArray.size_append, ba_size, ba_size, ba_size, List.length_append]
  · intro k hk
    rw [ba_size, List.length_append] at hk
    rw [bt_append, bt_ba _ _ (by rw [List.length_append]; exact hk), ba_size]
    by_cases h : k < a.length
    · rw [if_pos h, bt_ba _ _ h, List.getElem_append_left h]
    · rw [if_neg h, bt_ba _ _ (by omega), List.getElem_append_right (by omega)]
theorem ba_list (s : ByteArray) : ba s.data.toList = s := by
  apply ByteArray.ext
  simp [ba]

/-- Block g is a reader in that state; its text is v. -/
structure Rd (w : World) (g : Nat) (v : Value) (s : RS) : Prop where
  c0 : w.cell? ⟨g, 0, none⟩ = some (.int .i64 s.tk)
  c1 : w.cell? ⟨g, 1, none⟩ = some (.int .i64 s.code)
  c2 : w.cell? ⟨g, 2, none⟩ = some (.int .i64 s.fat)
  c3 : w.cell? ⟨g, 3, none⟩ = some (.string (ba s.plan))
  c4 : w.cell? ⟨g, 4, none⟩ = some (.int .u64 s.most)
  c5 : w.cell? ⟨g, 5, none⟩ = some (.bool s.cl)
  c6 : w.cell? ⟨g, 6, none⟩ = some (.int .i64 s.ph)
  c7 : w.cell? ⟨g, 7, none⟩ = some (.int .i64 s.lack)
  c8 : w.cell? ⟨g, 8, none⟩ = some (.int .u64 s.word)
  c9 : w.cell? ⟨g, 9, none⟩ = some v
  fr : ∀ j, j < 10 → w.frozen? ⟨g, j, none⟩ = false
  lt : g < w.heap.size
  buf : Buf w 0 v s.tx.length (fun j => .int .u8 (bt (ba s.tx) j))
  ne : v.ownBlock ≠ some g

theorem Rd.same {w w' : World} {g : Nat} {v : Value} {s : RS} (h : Rd w g v s) (hs : w.heap.size ≤ w'.heap.size) (e : w'.heap[g]? = w.heap[g]?) (e2 : ∀ k, v.ownBlock = some k → w'.heap[k]? = w.heap[k]?) : Rd w' g v s := by
  have hc : ∀ j, w'.cell? ⟨g, j, none⟩ = w.cell? ⟨g, j, none⟩ := fun j => World.cell?_of_block (w := w) (w' := w') (a := ⟨g, j, none⟩) e
  refine ⟨?_, ?_, ?_, ?_, ?_, ?_, ?_, ?_, ?_, ?_, fun j hj => ?_, Nat.lt_of_lt_of_le h.lt hs, h.buf.same hs e2, h.ne⟩
  · rw [hc]; exact h.c0
  · rw [hc]; exact h.c1
  · rw [hc]; exact h.c2
  · rw [hc]; exact h.c3
  · rw [hc]; exact h.c4
  · rw [hc]; exact h.c5
  · rw [hc]; exact h.c6
  · rw [hc]; exact h.c7
  · rw [hc]; exact h.c8
  · rw [hc]; exact h.c9
  · rw [World.frozen?_of_block (w := w) (w' := w') (a := ⟨g, j, none⟩) e]; exact h.fr j hj

theorem Rd.below {w w' : World} {g : Nat} {v : Value} {s : RS} (h : Rd w g v s) (b : Below w.heap.size w w') : Rd w' g v s :=
  h.same b.size (b.block g h.lt) (fun k hk => b.block k (h.buf.lt k hk).2)
theorem Rd.alloc {w : World} {g : Nat} {v : Value} {s : RS} (h : Rd w g v s) (o : Obj) : Rd (w.alloc o) g v s := h.below ((Below.refl _ _).alloc (Nat.le_refl _) o)
theorem Rd.drew {w : World} {g : Nat} {v : Value} {s : RS} (h : Rd w g v s) : Rd w.drew g v s := h.same (Nat.le_refl _) rfl (fun _ _ => rfl)
theorem Rd.drewN {w : World} {g : Nat} {v : Value} {s : RS} (h : Rd w g v s) (q : Nat) : Rd (w.drewN q) g v s := h.same (Nat.le_refl _) rfl (fun _ _ => rfl)

/-- Cell j of the reader written over. -/
theorem Rd.bufSet {w : World} {g : Nat} {v : Value} {s : RS} (h : Rd w g v s) (j : Nat) (x : Value) : Buf (w.setCell ⟨g, j, none⟩ x) 0 v s.tx.length (fun j => .int .u8 (bt (ba s.tx) j)) :=
  h.buf.same (by simp) (fun k hk => Below.heap_setCell w _ _ k (fun e => h.ne (by rw [hk, e])))
theorem cell_other (w : World) (g i j : Nat) (x : Value) (h : i ≠ j) : (w.setCell ⟨g, j, none⟩ x).cell? ⟨g, i, none⟩ = w.cell? ⟨g, i, none⟩ :=
  World.cell?_setCell_other _ _ _ _ (fun c => h (by injection c with _ c2 _; exact c2.symm))
def RS.s0 (s : RS) (n : Nat) : RS := { s with tk := n }
theorem Rd.set0 {w : World} {g : Nat} {v : Value} {s : RS} (h : Rd w g v s) (n : Nat) {x : Value} (hx : x = .int .i64 (n : Int)) : Rd (w.setCell ⟨g, 0, none⟩ x) g v (s.s0 n) := by
  subst hx
  exact ⟨World.cell?_setCell_same _ _ _ h.c0, (cell_other w g 1 0 _ (by decide)).trans h.c1, (cell_other w g 2 0 _ (by decide)).trans h.c2, (cell_other w g 3 0 _ (by decide)).trans h.c3, (cell_other w g 4 0 _ (by decide)).trans h.c4, (cell_other w g 5 0 _ (by decide)).trans h.c5, (cell_other w g 6 0 _ (by decide)).trans h.c6, (cell_other w g 7 0 _ (by decide)).trans h.c7, (cell_other w g 8 0 _ (by decide)).trans h.c8, (cell_other w g 9 0 _ (by decide)).trans h.c9, fun j hj => by rw [World.frozen?_setCell]; exact h.fr j hj, by simpa using h.lt, h.bufSet _ _, h.ne⟩
def RS.s1 (s : RS) (n : Nat) : RS := { s with code := n }
theorem Rd.set1 {w : World} {g : Nat} {v : Value} {s : RS} (h : Rd w g v s) (n : Nat) {x : Value} (hx : x = .int .i64 (n : Int)) : Rd (w.setCell ⟨g, 1, none⟩ x) g v (s.s1 n) := by
  subst hx
  exact ⟨(cell_other w g 0 1 _ (by decide)).trans h.c0, World.cell?_setCell_same _ _ _ h.c1, (cell_other w g 2 1 _ (by decide)).trans h.c2, (cell_other w g 3 1 _ (by decide)).trans h.c3, (cell_other w g 4 1 _ (by decide)).trans h.c4, (cell_other w g 5 1 _ (by decide)).trans h.c5, (cell_other w g 6 1 _ (by decide)).trans h.c6, (cell_other w g 7 1 _ (by decide)).trans h.c7, (cell_other w g 8 1 _ (by decide)).trans h.c8, (cell_other w g 9 1 _ (by decide)).trans h.c9, fun j hj => by rw [World.frozen?_setCell]; exact h.fr j hj, by simpa using h.lt, h.bufSet _ _, h.ne⟩
def RS.s2 (s : RS) (n : Nat) : RS := { s with fat := n }
theorem Rd.set2 {w : World} {g : Nat} {v : Value} {s : RS} (h : Rd w g v s) (n : Nat) {x : Value} (hx : x = .int .i64 (n : Int)) : Rd (w.setCell ⟨g, 2, none⟩ x) g v (s.s2 n) := by
  subst hx
  exact ⟨(cell_other w g 0 2 _ (by decide)).trans h.c0, (cell_other w g 1 2 _ (by decide)).trans h.c1, World.cell?_setCell_same _ _ _ h.c2, (cell_other w g 3 2 _ (by decide)).trans h.c3, (cell_other w g 4 2 _ (by decide)).trans h.c4, (cell_other w g 5 2 _ (by decide)).trans h.c5, (cell_other w g 6 2 _ (by decide)).trans h.c6, (cell_other w g 7 2 _ (by decide)).trans h.c7, (cell_other w g 8 2 _ (by decide)).trans h.c8, (cell_other w g 9 2 _ (by decide)).trans h.c9, fun j hj => by rw [World.frozen?_setCell]; exact h.fr j hj, by simpa using h.lt, h.bufSet _ _, h.ne⟩
def RS.s3 (s : RS) (n : List UInt8) : RS := { s with plan := n }
theorem Rd.set3 {w : World} {g : Nat} {v : Value} {s : RS} (h : Rd w g v s) (n : List UInt8) {x : Value} (hx : x = .string (ba n)) : Rd (w.setCell ⟨g, 3, none⟩ x) g v (s.s3 n) := by
  subst hx
  exact ⟨(cell_other w g 0 3 _ (by decide)).trans h.c0, (cell_other w g 1 3 _ (by decide)).trans h.c1, (cell_other w g 2 3 _ (by decide)).trans h.c2, World.cell?_setCell_same _ _ _ h.c3, (cell_other w g 4 3 _ (by decide)).trans h.c4, (cell_other w g 5 3 _ (by decide)).trans h.c5, (cell_other w g 6 3 _ (by decide)).trans h.c6, (cell_other w g 7 3 _ (by decide)).trans h.c7, (cell_other w g 8 3 _ (by decide)).trans h.c8, (cell_other w g 9 3 _ (by decide)).trans h.c9, fun j hj => by rw [World.frozen?_setCell]; exact h.fr j hj, by simpa using h.lt, h.bufSet _ _, h.ne⟩
def RS.s4 (s : RS) (n : Nat) : RS := { s with most := n }
theorem Rd.set4 {w : World} {g : Nat} {v : Value} {s : RS} (h : Rd w g v s) (n : Nat) {x : Value} (hx : x = .int .u64 (n : Int)) : Rd (w.setCell ⟨g, 4, none⟩ x) g v (s.s4 n) := by
  subst hx
  exact ⟨(cell_other w g 0 4 _ (by decide)).trans h.c0, (cell_other w g 1 4 _ (by decide)).trans h.c1, (cell_other w g 2 4 _ (by decide)).trans h.c2, (cell_other w g 3 4 _ (by decide)).trans h.c3, World.cell?_setCell_same _ _ _ h.c4, (cell_other w g 5 4 _ (by decide)).trans h.c5, (cell_other w g 6 4 _ (by decide)).trans h.c6, (cell_other w g 7 4 _ (by decide)).trans h.c7, (cell_other w g 8 4 _ (by decide)).trans h.c8, (cell_other w g 9 4 _ (by decide)).trans h.c9, fun j hj => by rw [World.frozen?_setCell]; exact h.fr j hj, by simpa using h.lt, h.bufSet _ _, h.ne⟩
def RS.s5 (s : RS) (n : Bool) : RS := { s with cl := n }
theorem Rd.set5 {w : World} {g : Nat} {v : Value} {s : RS} (h : Rd w g v s) (n : Bool) {x : Value} (hx : x = .bool n) : Rd (w.setCell ⟨g, 5, none⟩ x) g v (s.s5 n) := by
  subst hx
  exact ⟨(cell_other w g 0 5 _ (by decide)).trans h.c0, (cell_other w g 1 5 _ (by decide)).trans h.c1, (cell_other w g 2 5 _ (by decide)).trans h.c2, (cell_other w g 3 5 _ (by decide)).trans h.c3, (cell_other w g 4 5 _ (by decide)).trans h.c4, World.cell?_setCell_same _ _ _ h.c5, (cell_other w g 6 5 _ (by decide)).trans h.c6, (cell_other w g 7 5 _ (by decide)).trans h.c7, (cell_other w g 8 5 _ (by decide)).trans h.c8, (cell_other w g 9 5 _ (by decide)).trans h.c9, fun j hj => by rw [World.frozen?_setCell]; exact h.fr j hj, by simpa using h.lt, h.bufSet _ _, h.ne⟩
def RS.s6 (s : RS) (n : Nat) : RS := { s with ph := n }
theorem Rd.set6 {w : World} {g : Nat} {v : Value} {s : RS} (h : Rd w g v s) (n : Nat) {x : Value} (hx : x = .int .i64 (n : Int)) : Rd (w.setCell ⟨g, 6, none⟩ x) g v (s.s6 n) := by
  subst hx
  exact ⟨(cell_other w g 0 6 _ (by decide)).trans h.c0, (cell_other w g 1 6 _ (by decide)).trans h.c1, (cell_other w g 2 6 _ (by decide)).trans h.c2, (cell_other w g 3 6 _ (by decide)).trans h.c3, (cell_other w g 4 6 _ (by decide)).trans h.c4, (cell_other w g 5 6 _ (by decide)).trans h.c5, World.cell?_setCell_same _ _ _ h.c6, (cell_other w g 7 6 _ (by decide)).trans h.c7, (cell_other w g 8 6 _ (by decide)).trans h.c8, (cell_other w g 9 6 _ (by decide)).trans h.c9, fun j hj => by rw [World.frozen?_setCell]; exact h.fr j hj, by simpa using h.lt, h.bufSet _ _, h.ne⟩
def RS.s7 (s : RS) (n : Nat) : RS := { s with lack := n }
theorem Rd.set7 {w : World} {g : Nat} {v : Value} {s : RS} (h : Rd w g v s) (n : Nat) {x : Value} (hx : x = .int .i64 (n : Int)) : Rd (w.setCell ⟨g, 7, none⟩ x) g v (s.s7 n) := by
  subst hx
  exact ⟨(cell_other w g 0 7 _ (by decide)).trans h.c0, (cell_other w g 1 7 _ (by decide)).trans h.c1, (cell_other w g 2 7 _ (by decide)).trans h.c2, (cell_other w g 3 7 _ (by decide)).trans h.c3, (cell_other w g 4 7 _ (by decide)).trans h.c4, (cell_other w g 5 7 _ (by decide)).trans h.c5, (cell_other w g 6 7 _ (by decide)).trans h.c6, World.cell?_setCell_same _ _ _ h.c7, (cell_other w g 8 7 _ (by decide)).trans h.c8, (cell_other w g 9 7 _ (by decide)).trans h.c9, fun j hj => by rw [World.frozen?_setCell]; exact h.fr j hj, by simpa using h.lt, h.bufSet _ _, h.ne⟩
def RS.s8 (s : RS) (n : Nat) : RS := { s with word := n }
theorem Rd.set8 {w : World} {g : Nat} {v : Value} {s : RS} (h : Rd w g v s) (n : Nat) {x : Value} (hx : x = .int .u64 (n : Int)) : Rd (w.setCell ⟨g, 8, none⟩ x) g v (s.s8 n) := by
  subst hx
  exact ⟨(cell_other w g 0 8 _ (by decide)).trans h.c0, (cell_other w g 1 8 _ (by decide)).trans h.c1, (cell_other w g 2 8 _ (by decide)).trans h.c2, (cell_other w g 3 8 _ (by decide)).trans h.c3, (cell_other w g 4 8 _ (by decide)).trans h.c4, (cell_other w g 5 8 _ (by decide)).trans h.c5, (cell_other w g 6 8 _ (by decide)).trans h.c6, (cell_other w g 7 8 _ (by decide)).trans h.c7, World.cell?_setCell_same _ _ _ h.c8, (cell_other w g 9 8 _ (by decide)).trans h.c9, fun j hj => by rw [World.frozen?_setCell]; exact h.fr j hj, by simpa using h.lt, h.bufSet _ _, h.ne⟩
def RS.s9 (s : RS) (n : List UInt8) : RS := { s with tx := n }
theorem Rd.set9 {w : World} {g : Nat} {v : Value} {s : RS} (h : Rd w g v s) (v' : Value) (tx : List UInt8) (hb : Buf w 0 v' tx.length (fun j => .int .u8 (bt (ba tx) j))) (hn : v'.ownBlock ≠ some g) : Rd (w.setCell ⟨g, 9, none⟩ v') g v' (s.s9 tx) :=
  ⟨(cell_other w g 0 9 _ (by decide)).trans h.c0, (cell_other w g 1 9 _ (by decide)).trans h.c1, (cell_other w g 2 9 _ (by decide)).trans h.c2, (cell_other w g 3 9 _ (by decide)).trans h.c3, (cell_other w g 4 9 _ (by decide)).trans h.c4, (cell_other w g 5 9 _ (by decide)).trans h.c5, (cell_other w g 6 9 _ (by decide)).trans h.c6, (cell_other w g 7 9 _ (by decide)).trans h.c7, (cell_other w g 8 9 _ (by decide)).trans h.c8, World.cell?_setCell_same _ _ _ h.c9, fun j hj => by rw [World.frozen?_setCell]; exact h.fr j hj, by simpa using h.lt, hb.same (by simp) (fun k hk => Below.heap_setCell w _ _ k (fun e => hn (by rw [hk, e]))), hn⟩
theorem Rd.set9n {w : World} {g : Nat} {v : Value} {s : RS} (h : Rd w g v s) : Rd (w.setCell ⟨g, 9, none⟩ (.slice none 0 0)) g (.slice none 0 0) (s.s9 []) :=
  h.set9 _ [] (Buf.nil _ _ _) (by simp [Value.ownBlock])
theorem Rd.cast {w : World} {g : Nat} {v : Value} {s s' : RS} (h : Rd w g v s) (e : s = s') : Rd w g v s' := e ▸ h
/-- What the memory doesn't tell. -/
theorem Rd.outs {w : World} {g : Nat} {v : Value} {s : RS} (h : Rd w g v s) (o : List It) : Rd w g v { s with out := o } := ⟨h.c0, h.c1, h.c2, h.c3, h.c4, h.c5, h.c6, h.c7, h.c8, h.c9, h.fr, h.lt, h.buf, h.ne⟩

/-- What a reader's methods leave alone. -/
structure Mv (w w' : World) (g : Nat) (v v' : Value) : Prop where
  os : w'.os = w.os
  tape : w'.tape = w.tape
  output : w'.output = w.output
  size : w.heap.size ≤ w'.heap.size
  block : ∀ k, k < w.heap.size → k ≠ g → v.ownBlock ≠ some k → w'.heap[k]? = w.heap[k]?
  new : ∀ k, v'.ownBlock = some k → v.ownBlock = some k ∨ w.heap.size ≤ k
theorem Mv.refl (w : World) (g : Nat) (v : Value) : Mv w w g v v := ⟨rfl, rfl, rfl, Nat.le_refl _, fun _ _ _ _ => rfl, fun _ h => .inl h⟩
theorem Mv.trans {a b c : World} {g : Nat} {v1 v2 v3 : Value} (h : Mv a b g v1 v2) (k : Mv b c g v2 v3) : Mv a c g v1 v3 := by
  refine ⟨k.os.trans h.os, k.tape.trans h.tape, k.output.trans h.output, Nat.le_trans h.size k.size, fun i hi hg ho => ?_, fun i hi => ?_⟩
  · rw [k.block i (Nat.lt_of_lt_of_le hi h.size) hg (fun e => ?_), h.block i hi hg ho]
    rcases h.new i e with e | e
    · exact ho e
    · omega
  · rcases k.new i hi with e | e
    · exact h.new i e
    · exact .inr (Nat.le_trans h.size e)
theorem Mv.set (w : World) (g : Nat) (v : Value) (j : Nat) (x : Value) : Mv w (w.setCell ⟨g, j, none⟩ x) g v v :=
  ⟨rfl, rfl, rfl, by simp, fun k _ hg _ => Below.heap_setCell w _ _ k hg, fun _ h => .inl h⟩
theorem Mv.store {a w : World} {g : Nat} {v v1 : Value} (h : Mv a w g v v1) (j : Nat) (x : Value) : Mv a (w.setCell ⟨g, j, none⟩ x) g v v1 := h.trans (Mv.set _ _ _ _ _)
theorem Mv.nil {a w : World} {g : Nat} {v v1 : Value} (h : Mv a w g v v1) : Mv a w g v (.slice none 0 0) := ⟨h.os, h.tape, h.output, h.size, h.block, fun k hk => by cases hk⟩
theorem Mv.below {a w w' : World} {g : Nat} {v v1 : Value} (h : Mv a w g v v1) (b : Below w.heap.size w w') : Mv a w' g v v1 :=
  h.trans ⟨b.os, b.tape, b.output, b.size, fun k hk _ _ => b.block k hk, fun _ h => .inl h⟩
theorem Mv.alloc {a w : World} {g : Nat} {v v1 : Value} (h : Mv a w g v v1) (o : Obj) : Mv a (w.alloc o) g v v1 := h.below ((Below.refl _ _).alloc (Nat.le_refl _) o)
theorem Mv.drew {a w : World} {g : Nat} {v v1 : Value} (h : Mv a w g v v1) : Mv a w.drew g v v1 := h.below ⟨rfl, rfl, rfl, Nat.le_refl _, fun _ _ => rfl⟩
theorem Mv.drewN {a w : World} {g : Nat} {v v1 : Value} (h : Mv a w g v v1) (q : Nat) : Mv a (w.drewN q) g v v1 := h.below ⟨rfl, rfl, rfl, Nat.le_refl _, fun _ _ => rfl⟩
theorem Mv.cell {a w : World} {g : Nat} {v v1 : Value} (h : Mv a w g v v1) (k j : Nat) (hk : k < a.heap.size) (hg : k ≠ g) (ho : v.ownBlock ≠ some k) : w.cell? ⟨k, j, none⟩ = a.cell? ⟨k, j, none⟩ :=
  World.cell?_of_block (w := a) (w' := w) (a := ⟨k, j, none⟩) (h.block k hk hg ho)
theorem Mv.free {a w : World} {g : Nat} {v v1 : Value} (h : Mv a w g v v1) (k j : Nat) (hk : k < a.heap.size) (hg : k ≠ g) (ho : v.ownBlock ≠ some k) : w.frozen? ⟨k, j, none⟩ = a.frozen? ⟨k, j, none⟩ :=
  World.frozen?_of_block (w := a) (w' := w) (a := ⟨k, j, none⟩) (h.block k hk hg ho)
theorem Rd.newBlock {w : World} {g : Nat} {v : Value} {s : RS} (h : Rd w g v s) (k : Nat) (hk : w.heap.size ≤ k) : k ≠ g ∧ v.ownBlock ≠ some k :=
  ⟨by have := h.lt; omega, fun e => by have := (h.buf.lt k e).2; omega⟩
theorem Mv.of_below {w w' : World} {g : Nat} {v : Value} (b : Below w.heap.size w w') : Mv w w' g v v := ⟨b.os, b.tape, b.output, b.size, fun k hk _ _ => b.block k hk, fun _ h => .inl h⟩
theorem Rd.put {w : World} {g : Nat} {v : Value} {s : RS} (h : Rd w g v s) (k j : Nat) (x : Value) (hk : g ≠ k) (ho : v.ownBlock ≠ some k) : Rd (w.setCell ⟨k, j, none⟩ x) g v s :=
  h.same (by simp) (Below.heap_setCell w _ _ g hk) (fun i hi => Below.heap_setCell w _ _ i (fun e => ho (by rw [hi]; exact congrArg some e)))
theorem Mv.put {a w : World} {g : Nat} {v v1 : Value} (h : Mv a w g v v1) (k j : Nat) (x : Value) (hk : a.heap.size ≤ k) : Mv a (w.setCell ⟨k, j, none⟩ x) g v v1 :=
  ⟨h.os, h.tape, h.output, by simpa using h.size, fun i hi hg ho => (Below.heap_setCell w _ _ i (by show i ≠ k; omega)).trans (h.block i hi hg ho), h.new⟩
/-- Two new blocks, and what a method left of them. -/
theorem alloc2_after {w w3 : World} {g : Nat} {v v3 : Value} {s : RS} (R : Rd w g v s) (C1 C2 : Array Value) (T1 T2 : TypeId) (M : Mv ((w.alloc (.cells C1 T1)).alloc (.cells C2 T2)) w3 g v v3) :
    (∀ j, w3.cell? ⟨w.heap.size, j, none⟩ = C1[j]?) ∧ (∀ j, w3.frozen? ⟨w.heap.size, j, none⟩ = false) ∧ (∀ j, w3.cell? ⟨w.heap.size + 1, j, none⟩ = C2[j]?) ∧ (∀ j, w3.frozen? ⟨w.heap.size + 1, j, none⟩ = false) ∧ w.heap.size + 2 ≤ w3.heap.size ∧ Mv w w3 g v v3 := by
  have s1 : (w.alloc (.cells C1 T1)).heap.size = w.heap.size + 1 := World.size_alloc _ _
  have s2 : ((w.alloc (.cells C1 T1)).alloc (.cells C2 T2)).heap.size = w.heap.size + 2 := by rw [World.size_alloc, s1]
  have n0 := R.newBlock w.heap.size (Nat.le_refl _)
  have n1 := R.newBlock (w.heap.size + 1) (Nat.le_succ _)
  refine ⟨fun j => ?_, fun j => ?_, fun j => ?_, fun j => ?_, ?_, ?_⟩
  · rw [M.cell _ _ (by omega) n0.1 n0.2, World.cell?_alloc_old _ _ _ (by rw [s1]; show w.heap.size ≠ _; omega), World.cell?_alloc_new]
  · rw [M.free _ _ (by omega) n0.1 n0.2, World.frozen?_of_block (w := w.alloc (.cells C1 T1)) (a := ⟨w.heap.size, j, none⟩) (Below.heap_alloc _ _ _ (by rw [s1]; show w.heap.size < _; omega))]
    exact World.frozen?_alloc_new w _ _ _
  · rw [M.cell _ _ (by omega) n1.1 n1.2, ← s1, World.cell?_alloc_new]
  · rw [M.free _ _ (by omega) n1.1 n1.2, ← s1]
    exact World.frozen?_alloc_new _ _ _ _
  · have := M.size
    omega
  · exact (((Mv.refl w g v).alloc _).alloc _).trans M

/-- Three cells written. -/
theorem put3_cells {w : World} {G : Nat} {a b c : Value} (x : Value) (y : Value) (z : Value) (h0 : w.cell? ⟨G, 0, none⟩ = some x) (h1 : w.cell? ⟨G, 1, none⟩ = some y) (h2 : w.cell? ⟨G, 2, none⟩ = some z) :
    (((w.setCell ⟨G, 0, none⟩ a).setCell ⟨G, 1, none⟩ b).setCell ⟨G, 2, none⟩ c).cell? ⟨G, 0, none⟩ = some a ∧ (((w.setCell ⟨G, 0, none⟩ a).setCell ⟨G, 1, none⟩ b).setCell ⟨G, 2, none⟩ c).cell? ⟨G, 1, none⟩ = some b ∧ (((w.setCell ⟨G, 0, none⟩ a).setCell ⟨G, 1, none⟩ b).setCell ⟨G, 2, none⟩ c).cell? ⟨G, 2, none⟩ = some c := by
  have e1 : (w.setCell ⟨G, 0, none⟩ a).cell? ⟨G, 1, none⟩ = some y := (cell_other w G 1 0 _ (by decide)).trans h1
  have e2 : ((w.setCell ⟨G, 0, none⟩ a).setCell ⟨G, 1, none⟩ b).cell? ⟨G, 2, none⟩ = some z := (cell_other _ G 2 1 _ (by decide)).trans ((cell_other _ G 2 0 _ (by decide)).trans h2)
  refine ⟨?_, ?_, World.cell?_setCell_same _ _ _ e2⟩
  · rw [cell_other _ G 0 2 _ (by decide), cell_other _ G 0 1 _ (by decide)]
    exact World.cell?_setCell_same _ _ _ h0
  · rw [cell_other _ G 1 2 _ (by decide)]
    exact World.cell?_setCell_same _ _ _ e1

/-- An item, as a value. -/
def itV (i : It) : Value := .agg #[.bool i.isInt, .int .u64 (i.num : Int), .string (ba i.text)]
/-- A block that isn't the reader's. -/
theorem Mv.keeps {a w : World} {g : Nat} {v v1 : Value} (h : Mv a w g v v1) (B : Nat) (hB : B ≤ a.heap.size) (hg : B ≤ g) (hv : ∀ k, v.ownBlock = some k → B ≤ k) : Below B a w :=
  ⟨h.os, h.tape, h.output, h.size, fun k hk => h.block k (by omega) (by omega) (fun e => by have := hv k e; omega)⟩

end Go.Proofs.Ythjpmiidbgaiaaa
