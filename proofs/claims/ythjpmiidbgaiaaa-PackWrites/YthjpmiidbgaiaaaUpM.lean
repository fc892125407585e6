/- An unpacker in memory: nine cells and its text's block. -/
import Derived.Test.YthjpmiidbgaiaaaWrM
import Derived.Test.YthjpmiidbgaiaaaUpQ
import Derived.Test.YthjpmiidbgaiaaaRows
namespace Go.Proofs.Ythjpmiidbgaiaaa
open Go.RowKit

/-- Block g holds, from its head on, these values; none is frozen. -/
structure St (w : World) (g : Nat) (L : List Value) : Prop where
  get : ∀ j x, L[j]? = some x → w.cell? ⟨g, j, none⟩ = some x
  fr : ∀ j, j < L.length → w.frozen? ⟨g, j, none⟩ = false
  lt : g < w.heap.size

theorem St.same {w w' : World} {g : Nat} {L : List Value} (h : St w g L) (hs : w.heap.size ≤ w'.heap.size) (e : w'.heap[g]? = w.heap[g]?) : St w' g L :=
  ⟨fun j x hx => (World.cell?_of_block (w := w) (w' := w') (a := ⟨g, j, none⟩) e).trans (h.get j x hx),
   fun j hj => (World.frozen?_of_block (w := w) (w' := w') (a := ⟨g, j, none⟩) e).trans (h.fr j hj), Nat.lt_of_lt_of_le h.lt hs⟩
theorem St.alloc {w : World} {g : Nat} {L : List Value} (h : St w g L) (o : Obj) : St (w.alloc o) g L := h.same (by rw [World.size_alloc]; omega) (Below.heap_alloc w o g h.lt)
theorem St.drewN {w : World} {g : Nat} {L : List Value} (h : St w g L) (q : Nat) : St (w.drewN q) g L := h.same (Nat.le_refl _) rfl
theorem St.other {w : World} {g : Nat} {L : List Value} (h : St w g L) (k j : Nat) (x : Value) (hk : g ≠ k) : St (w.setCell ⟨k, j, none⟩ x) g L := h.same (by simp) (Below.heap_setCell w _ _ g hk)
theorem St.set {w : World} {g : Nat} {L : List Value} (h : St w g L) (j : Nat) (x : Value) (hj : j < L.length) : St (w.setCell ⟨g, j, none⟩ x) g (L.set j x) := by
  refine ⟨fun i y hy => ?_, fun i hi => ?_, by simpa using h.lt⟩
  · by_cases e : i = j
    · subst e
      rw [List.getElem?_set_self hj] at hy
      injection hy with hy
      subst hy
      exact World.cell?_setCell_same _ _ _ (h.get i _ (List.getElem?_eq_getElem hj))
    · rw [List.getElem?_set_ne (fun c => e c.symm)] at hy
      exact (cell_other w g i j x e).trans (h.get i y hy)
  · rw [World.frozen?_setCell]
    exact h.fr i (by simpa using hi)
theorem St.new (w : World) (C : Array Value) (T : TypeId) : St (w.alloc (.cells C T)) w.heap.size C.toList :=
  ⟨fun j x hx => (World.cell?_alloc_new w _ _ j).trans (by simpa using hx), fun j _ => World.frozen?_alloc_new w _ _ _, by rw [World.size_alloc]; omega⟩
theorem St.cast {w : World} {g : Nat} {L L' : List Value} (h : St w g L) (e : L = L') : St w g L' := e ▸ h

/-- The nine cells. -/
def US.cells (s : US) (v : Value) : List Value := [.int .i64 (s.tk : Int), .int .i64 (s.code : Int), .int .i64 (s.fat : Int), .bool s.cl, .int .i64 (s.ph : Int), .int .u64 (s.len : Int), v, .int .i64 (s.lack : Int), .int .u8 (s.near : Int)]
/-- Block g is an unpacker in that state; its text is v. -/
structure Up (w : World) (g : Nat) (v : Value) (s : US) : Prop where
  st : St w g (s.cells v)
  buf : Buf w 0 v s.tx.length (fun j => .int .u8 (bt (ba s.tx) j))
  ne : v.ownBlock ≠ some g

theorem Up.lt {w : World} {g : Nat} {v : Value} {s : US} (h : Up w g v s) : g < w.heap.size := h.st.lt
theorem Up.same {w w' : World} {g : Nat} {v : Value} {s : US} (h : Up w g v s) (hs : w.heap.size ≤ w'.heap.size) (e : w'.heap[g]? = w.heap[g]?) (e2 : ∀ k, v.ownBlock = some k → w'.heap[k]? = w.heap[k]?) : Up w' g v s :=
  ⟨h.st.same hs e, h.buf.same hs e2, h.ne⟩
theorem Up.below {w w' : World} {g : Nat} {v : Value} {s : US} (h : Up w g v s) (b : Below w.heap.size w w') : Up w' g v s :=
  h.same b.size (b.block g h.lt) (fun k hk => b.block k (h.buf.lt k hk).2)
theorem Up.alloc {w : World} {g : Nat} {v : Value} {s : US} (h : Up w g v s) (o : Obj) : Up (w.alloc o) g v s := h.below ((Below.refl _ _).alloc (Nat.le_refl _) o)
theorem Up.drewN {w : World} {g : Nat} {v : Value} {s : US} (h : Up w g v s) (q : Nat) : Up (w.drewN q) g v s := h.same (Nat.le_refl _) rfl (fun _ _ => rfl)
theorem Up.drew {w : World} {g : Nat} {v : Value} {s : US} (h : Up w g v s) : Up w.drew g v s := h.same (Nat.le_refl _) rfl (fun _ _ => rfl)
theorem Up.cast {w : World} {g : Nat} {v : Value} {s s' : US} (h : Up w g v s) (e : s = s') : Up w g v s' := e ▸ h
theorem Up.newBlock {w : World} {g : Nat} {v : Value} {s : US} (h : Up w g v s) (k : Nat) (hk : w.heap.size ≤ k) : k ≠ g ∧ v.ownBlock ≠ some k :=
  ⟨by have := h.lt; omega, fun e => by have := (h.buf.lt k e).2; omega⟩
theorem Up.put {w : World} {g : Nat} {v : Value} {s : US} (h : Up w g v s) (k j : Nat) (x : Value) (hk : g ≠ k) (ho : v.ownBlock ≠ some k) : Up (w.setCell ⟨k, j, none⟩ x) g v s :=
  h.same (by simp) (Below.heap_setCell w _ _ g hk) (fun i hi => Below.heap_setCell w _ _ i (fun e => ho (by rw [hi]; exact congrArg some e)))
/-- A cell written over that isn't the text's. -/
theorem Up.set {w : World} {g : Nat} {v : Value} {s : US} (h : Up w g v s) (j : Nat) (x : Value) (s' : US) (hj : j < 9) (e : (s.cells v).set j x = s'.cells v) (et : s'.tx = s.tx) : Up (w.setCell ⟨g, j, none⟩ x) g v s' := by
  refine ⟨(h.st.set j x hj).cast e, ?_, h.ne⟩
  rw [et]
  exact h.buf.same (by simp) (fun k hk => Below.heap_setCell w _ _ k (fun e => h.ne (by rw [hk, e])))
/-- The text's cell written over. -/
theorem Up.setv {w : World} {g : Nat} {v : Value} {s : US} (h : St w g (s.cells v)) (v' : Value) (t : List UInt8) (hb : Buf w 0 v' t.length (fun j => .int .u8 (bt (ba t) j))) (hn : v'.ownBlock ≠ some g) : Up (w.setCell ⟨g, 6, none⟩ v') g v' { s with tx := t } := by
  refine ⟨(h.set 6 v' (by show 6 < 9; decide)).cast rfl, ?_, hn⟩
  exact hb.same (by simp) (fun k hk => Below.heap_setCell w _ _ k (fun e => hn (by rw [hk, e])))
theorem Up.setn {w : World} {g : Nat} {v : Value} {s : US} (h : Up w g v s) : Up (w.setCell ⟨g, 6, none⟩ (.slice none 0 0)) g (.slice none 0 0) { s with tx := [] } :=
  Up.setv h.st _ [] (Buf.nil _ _ _) (by simp [Value.ownBlock])
theorem Up.fresh (w : World) : Up (w.alloc (.cells #[.int .i64 0, .int .i64 0, .int .i64 0, .bool false, .int .i64 0, .int .u64 0, .slice none 0 0, .int .i64 0, .int .u8 0] 52)) w.heap.size (.slice none 0 0) u0 :=
  ⟨(St.new w _ _).cast rfl, Buf.nil _ _ _, by simp [Value.ownBlock]⟩
/-- The length of the text's slice. -/
theorem Up.len {w : World} {g : Nat} {v : Value} {s : US} (h : Up w g v s) : ∃ p c, v = .slice p s.tx.length c := by
  rcases h.buf with ⟨rfl, e⟩ | ⟨k, c, rfl, _⟩
  · exact ⟨none, 0, by rw [e]⟩
  · exact ⟨_, _, rfl⟩

end Go.Proofs.Ythjpmiidbgaiaaa
