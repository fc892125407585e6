/- NpA NpB NpC, joined (own text of the verifier). -/
import Derived.Test.YtljcbibcdajhiaaNa1
import Derived.Test.YtljcbibcdajhiaaTwF
import Derived.Test.YtljcbibcdajhiaaBuf
import Derived.Deep.AppendLies
namespace Go.Proofs.Ytljcbibcdajhiaa
open Go.RowKit

/-- Block g holds, from its head on, these values; none is frozen. -/
structure St (w : World) (g : Nat) (L : List Value) : Prop where
  get : ∀ j x, L[j]? = some x → w.cell? ⟨g, j, none⟩ = some x
  fr : ∀ j, j < L.length → w.frozen? ⟨g, j, none⟩ = false
  lt : g < w.heap.size

theorem St.same {w w' : World} {g : Nat} {L : List Value} (h : St w g L) (hs : w.heap.size ≤ w'.heap.size) (e : w'.heap[g]? = w.heap[g]?) : St w' g L :=
  ⟨fun j x hx => (World.cell?_of_block (w := w) (w' := w') (a := ⟨g, j, none⟩) e).trans (h.get j x hx),
   fun j hj => (World.frozen?_of_block (w := w) (w' := w') (a := ⟨g, j, none⟩) e).trans (h.fr j hj), Nat.lt_of_lt_of_le h.lt hs⟩
theorem cell_other (w : World) (g i j : Nat) (x : Value) (h : i ≠ j) : (w.setCell ⟨g, j, none⟩ x).cell? ⟨g, i, none⟩ = w.cell? ⟨g, i, none⟩ :=
  World.cell?_setCell_other _ _ _ _ (fun c => h (by injection c with _ c2 _; exact c2.symm))
theorem St.set {w : World} {g : Nat} {L : List Value} (h : St w g L) (j : Nat) (x : Value) (hj : j < L.length) : St (w.setCell ⟨g, j, none⟩ x) g (L.set j x) := by
  refine ⟨fun i y hy => ?_, fun i hi => ?_, by simpa using h.lt⟩
  · by_cases e : i = j
    · subst e
      rw [List.getElem?_set_self hj] at hy
      injection hy with hy
      subst hy
      exact World.cell?_setCell_same _ _ _ (h.get i _ (List.getElem?_eq_getElem hj))
    · rw [List.getElem?_set_ne (fun c => e c.symm)] at hy
      exact (cell_other w g i j x e).trans (h.get i y hy)
  · rw [World.frozen?_setCell]
    exact h.fr i (by simpa using hi)
theorem St.new (w : World) (C : Array Value) (T : TypeId) : St (w.alloc (.cells C T)) w.heap.size C.toList :=
  ⟨fun j x hx => (World.cell?_alloc_new w _ _ j).trans (by simpa using hx), fun j _ => World.frozen?_alloc_new w _ _ _, by rw [World.size_alloc]; omega⟩
theorem St.cast {w : World} {g : Nat} {L L' : List Value} (h : St w g L) (e : L = L') : St w g L' := e ▸ h

/-- From w to w' nothing has turned but block g, the blocks fp, and new ones. -/
structure Ff (g : Nat) (fp : List Nat) (w w' : World) : Prop where
  os : w'.os = w.os
  tape : w'.tape = w.tape
  output : w'.output = w.output
  size : w.heap.size ≤ w'.heap.size
  keep : ∀ k, k < w.heap.size → k ≠ g → k ∉ fp → w'.heap[k]? = w.heap[k]?
theorem Ff.refl (g : Nat) (fp : List Nat) (w : World) : Ff g fp w w := ⟨rfl, rfl, rfl, Nat.le_refl _, fun _ _ _ _ => rfl⟩
theorem Ff.trans {g : Nat} {fp fp1 : List Nat} {a b c : World} (h : Ff g fp a b) (k : Ff g fp1 b c) (hf : ∀ x ∈ fp1, x ∈ fp ∨ a.heap.size ≤ x) : Ff g fp a c :=
  ⟨k.os.trans h.os, k.tape.trans h.tape, k.output.trans h.output, Nat.le_trans h.size k.size, fun i hi h1 h2 => (k.keep i (Nat.lt_of_lt_of_le hi h.size) h1 (fun hm => by rcases hf i hm with h | h; exact h2 h; omega)).trans (h.keep i hi h1 h2)⟩
theorem Ff.set {g : Nat} {fp : List Nat} {a b : World} (h : Ff g fp a b) (k j : Nat) (x : Value) (hk : k = g ∨ k ∈ fp ∨ a.heap.size ≤ k) : Ff g fp a (b.setCell ⟨k, j, none⟩ x) :=
  ⟨h.os, h.tape, h.output, by rw [World.size_setCell]; exact h.size, fun i hi h1 h2 => (Below.heap_setCell _ _ _ i (fun e => by
    have e : i = k := e
    subst e
    rcases hk with hk | hk | hk
    · exact h1 hk
    · exact h2 hk
    · omega)).trans (h.keep i hi h1 h2)⟩
theorem Ff.alloc {g : Nat} {fp : List Nat} {a b : World} (h : Ff g fp a b) (o : Obj) : Ff g fp a (b.alloc o) :=
  ⟨h.os, h.tape, h.output, by rw [World.size_alloc]; have := h.size; omega, fun i hi h1 h2 => (Below.heap_alloc b o i (Nat.lt_of_lt_of_le hi h.size)).trans (h.keep i hi h1 h2)⟩
theorem Ff.drewN {g : Nat} {fp : List Nat} {a b : World} (h : Ff g fp a b) (q : Nat) : Ff g fp a (b.drewN q) := ⟨h.os, h.tape, h.output, h.size, h.keep⟩
theorem Ff.grown {g : Nat} {fp : List Nat} {a b c : World} {r : Option Nat} (h : Ff g fp a b) (k : b.grownBy c r) (hr : ∀ x, r = some x → x ∈ fp ∨ a.heap.size ≤ x) : Ff g fp a c :=
  ⟨k.os.trans h.os, k.tape.trans h.tape, k.output.trans h.output, Nat.le_trans h.size k.size, fun i hi h1 h2 => (k.block i (Nat.lt_of_lt_of_le hi h.size) (fun e => by
    rcases hr i e.symm with e | e
    · exact h2 e
    · omega)).trans (h.keep i hi h1 h2)⟩

/-- The cells of an open node, its kids v. -/
def onV (o : ON) (v : Value) : List Value := [.int .i64 o.k, .bool o.e, .string o.t, v, .string o.en]
/-- The open nodes in their row: the last first. -/
def OnS (w : World) (B : Nat) : List ON → List Value → List Nat → Prop
  | [], cs, fq => cs = [] ∧ fq = []
  | o :: R, cs, fq => ∃ v cs' fp fq', cs = cs' ++ onV o v ∧ TrV w B o.tr v fp ∧ OnS w B R cs' fq' ∧ fq = fq' ++ fp
theorem OnS.same {w w' : World} {B : Nat} : ∀ (S : List ON) (cs : List Value) (fq : List Nat), OnS w B S cs fq → (∀ b ∈ fq, w'.heap[b]? = w.heap[b]?) → OnS w' B S cs fq
  | [], cs, fq, h, _ => h
  | o :: R, cs, fq, h, hs => by
    obtain ⟨v, cs', fp, fq', h1, h2, h3, rfl⟩ := h
    exact ⟨v, cs', fp, fq', h1, TrV.same _ v fp h2 (fun b hb => hs b (by simp [hb])), OnS.same R cs' fq' h3 (fun b hb => hs b (by simp [hb])), rfl⟩
theorem OnS.lt {w : World} {B : Nat} : ∀ (S : List ON) (cs : List Value) (fq : List Nat), OnS w B S cs fq → ∀ b ∈ fq, B ≤ b ∧ b < w.heap.size
  | [], cs, fq, h => by rw [h.2]; intro b hb; cases hb
  | o :: R, cs, fq, h => by
    obtain ⟨v, cs', fp, fq', h1, h2, h3, rfl⟩ := h
    intro b hb
    rcases List.mem_append.1 hb with hb | hb
    · exact OnS.lt R cs' fq' h3 b hb
    · exact TrV.lt _ v fp h2 b hb
theorem OnS.len {w : World} {B : Nat} : ∀ (S : List ON) (cs : List Value) (fq : List Nat), OnS w B S cs fq → cs.length = S.length * 5
  | [], cs, fq, h => by rw [h.1]; rfl
  | o :: R, cs, fq, h => by
    obtain ⟨v, cs', fp, fq', rfl, h2, h3, rfl⟩ := h
    rw [List.length_append, OnS.len R cs' fq' h3, List.length_cons]
    show _ + 5 = _
    omega

/-- The parser's fourteen cells. -/
def PS.cells (p : PS) (tv ov rv : Value) : List Value := [.int .i64 (p.taken : Int), .int .i64 (p.held : Int), .int .i64 p.code, .int .i64 p.fat, .bool p.part, .bool p.closed, .int .i64 p.c.next, .int .u64 (p.len : Int), tv, ov, .int .i64 p.c.root.k, .bool p.c.root.e, .string p.c.root.t, rv]
/-- The cells of a text. -/
def txV (l : List UInt8) : List Value := l.map fun b => .int .u8 (b.toNat : Int)
/-- Block g is a parser: its text tv, its open nodes ov with the cells cs, its root's kids rv; the blocks of each. -/
structure PV (w : World) (g B : Nat) (p : PS) (tv ov rv : Value) (cs : List Value) (fo fr : List Nat) : Prop where
  st : St w g (p.cells tv ov rv)
  tx : w.ownsRow B 5 1 tv p.text.length (txV p.text)
  op : w.ownsRow B 120 5 ov p.c.op.length cs
  on : OnS w B p.c.op cs fo
  ro : TrV w B p.c.root rv fr
  lt : g < B
  hB : B ≤ w.heap.size
  nd : (blkL tv ++ (blkL ov ++ (fo ++ fr))).Nodup
def fpP (tv ov : Value) (fo fr : List Nat) : List Nat := blkL tv ++ (blkL ov ++ (fo ++ fr))
/-- Block g is the parser p, in the blocks fp. -/
def PW (w : World) (g B : Nat) (p : PS) (fp : List Nat) : Prop := ∃ tv ov rv cs fo fr, PV w g B p tv ov rv cs fo fr ∧ fp = fpP tv ov fo fr
/-- From the parser in the blocks fp to the parser p'. -/
def PM (w w' : World) (g B : Nat) (fp : List Nat) (p' : PS) : Prop := ∃ fp', PW w' g B p' fp' ∧ Ff g fp w w' ∧ ∀ x ∈ fp', x ∈ fp ∨ w.heap.size ≤ x

theorem own_blk {w : World} {B : Nat} {ty : TypeId} {size n : Nat} {v : Value} {xs : List Value} (h : w.ownsRow B ty size v n xs) : ∀ b ∈ blkL v, B ≤ b ∧ b < w.heap.size := fun b hb => by
  unfold blkL at hb
  cases ho : v.ownBlock with
  | none => rw [ho] at hb; simp at hb
  | some k =>
    rw [ho] at hb
    simp at hb
    subst hb
    exact h.lt b ho
theorem PV.mem {w : World} {g B : Nat} {p : PS} {tv ov rv : Value} {cs : List Value} {fo fr : List Nat} (h : PV w g B p tv ov rv cs fo fr) : ∀ b ∈ fpP tv ov fo fr, B ≤ b ∧ b < w.heap.size := fun b hb => by
  unfold fpP at hb
  rcases List.mem_append.1 hb with hb | hb
  · exact own_blk h.tx b hb
  rcases List.mem_append.1 hb with hb | hb
  · exact own_blk h.op b hb
  rcases List.mem_append.1 hb with hb | hb
  · exact h.on.lt _ _ _ b hb
  · exact h.ro.lt _ _ _ b hb
theorem PV.same {w w' : World} {g B : Nat} {p : PS} {tv ov rv : Value} {cs : List Value} {fo fr : List Nat} (h : PV w g B p tv ov rv cs fo fr) (hs : w.heap.size ≤ w'.heap.size) (hg : w'.heap[g]? = w.heap[g]?) (e : ∀ b ∈ fpP tv ov fo fr, w'.heap[b]? = w.heap[b]?) : PV w' g B p tv ov rv cs fo fr :=
  ⟨h.st.same hs hg, own_same h.tx (fun b hb => e b (by simp [fpP, hb])), own_same h.op (fun b hb => e b (by simp [fpP, hb])), OnS.same _ _ _ h.on (fun b hb => e b (by simp [fpP, hb])), TrV.same _ _ _ h.ro (fun b hb => e b (by simp [fpP, hb])), h.lt, Nat.le_trans h.hB hs, h.nd⟩
theorem PV.below {w w' : World} {g B : Nat} {p : PS} {tv ov rv : Value} {cs : List Value} {fo fr : List Nat} (h : PV w g B p tv ov rv cs fo fr) (b : Below w.heap.size w w') : PV w' g B p tv ov rv cs fo fr :=
  h.same b.size (b.block g (Nat.lt_of_lt_of_le h.lt h.hB)) (fun k hk => b.block k (h.mem k hk).2)
theorem PV.other {w : World} {g B : Nat} {p : PS} {tv ov rv : Value} {cs : List Value} {fo fr : List Nat} (h : PV w g B p tv ov rv cs fo fr) (k j : Nat) (x : Value) (hk : w.heap.size ≤ k ∨ (k ≠ g ∧ k ∉ fpP tv ov fo fr)) : PV (w.setCell ⟨k, j, none⟩ x) g B p tv ov rv cs fo fr := by
  have hk' : k ≠ g ∧ k ∉ fpP tv ov fo fr := by
    rcases hk with hk | hk
    · have := h.lt; have := h.hB
      exact ⟨by omega, fun hm => by have := (h.mem k hm).2; omega⟩
    · exact hk
  exact h.same (by rw [World.size_setCell]; exact Nat.le_refl _) (Below.heap_setCell w _ _ g (fun e => hk'.1 e.symm)) (fun b hb => Below.heap_setCell w _ _ b (fun e => hk'.2 (by have e : b = k := e; rw [← e]; exact hb)))
/-- A cell of the parser's own written over: not its text, open nodes, root's kids. -/
theorem PV.set {w : World} {g B : Nat} {p : PS} {tv ov rv : Value} {cs : List Value} {fo fr : List Nat} (h : PV w g B p tv ov rv cs fo fr) (j : Nat) (x : Value) (p' : PS) (hj : j < 14) (e : (p.cells tv ov rv).set j x = p'.cells tv ov rv) (et : p'.text = p.text) (eo : p'.c.op = p.c.op) (er : p'.c.root = p.c.root) : PV (w.setCell ⟨g, j, none⟩ x) g B p' tv ov rv cs fo fr := by
  have hk : ∀ b ∈ fpP tv ov fo fr, (w.setCell ⟨g, j, none⟩ x).heap[b]? = w.heap[b]? := fun b hb => Below.heap_setCell w _ _ b (fun e => by have e : b = g := e; have := (h.mem b hb).1; have := h.lt; omega)
  refine ⟨(h.st.set j x hj).cast e, ?_, ?_, ?_, ?_, h.lt, by rw [World.size_setCell]; exact h.hB, h.nd⟩
  · rw [et]; exact own_same h.tx (fun b hb => hk b (by simp [fpP, hb]))
  · rw [eo]; exact own_same h.op (fun b hb => hk b (by simp [fpP, hb]))
  · rw [eo]; exact OnS.same _ _ _ h.on (fun b hb => hk b (by simp [fpP, hb]))
  · rw [er]; exact TrV.same _ _ _ h.ro (fun b hb => hk b (by simp [fpP, hb]))
theorem PW.same {w w' : World} {g B : Nat} {p : PS} {fp : List Nat} (h : PW w g B p fp) (hs : w.heap.size ≤ w'.heap.size) (hg : w'.heap[g]? = w.heap[g]?) (e : ∀ b ∈ fp, w'.heap[b]? = w.heap[b]?) : PW w' g B p fp := by
  obtain ⟨tv, ov, rv, cs, fo, fr, h, rfl⟩ := h
  exact ⟨tv, ov, rv, cs, fo, fr, h.same hs hg e, rfl⟩
theorem PW.lt {w : World} {g B : Nat} {p : PS} {fp : List Nat} (h : PW w g B p fp) : g < B ∧ B ≤ w.heap.size ∧ ∀ b ∈ fp, B ≤ b ∧ b < w.heap.size := by
  obtain ⟨tv, ov, rv, cs, fo, fr, h, rfl⟩ := h
  exact ⟨h.lt, h.hB, h.mem⟩
theorem PW.below {w w' : World} {g B : Nat} {p : PS} {fp : List Nat} (h : PW w g B p fp) (b : Below w.heap.size w w') : PW w' g B p fp :=
  h.same b.size (b.block g (Nat.lt_of_lt_of_le h.lt.1 h.lt.2.1)) (fun k hk => b.block k (h.lt.2.2 k hk).2)
theorem PM.trans {w w1 w2 : World} {g B : Nat} {fp fp1 : List Nat} {p2 : PS} (h : Ff g fp w w1) (hf : ∀ x ∈ fp1, x ∈ fp ∨ w.heap.size ≤ x) (k : PM w1 w2 g B fp1 p2) : PM w w2 g B fp p2 := by
  obtain ⟨fp2, h1, h2, h3⟩ := k
  exact ⟨fp2, h1, h.trans h2 hf, fun x hx => by
    rcases h3 x hx with h4 | h4
    · exact hf x h4
    · exact Or.inr (Nat.le_trans h.size h4)⟩
/-- A cell's store by which only the parser's own state changes. -/
theorem PW.cell {w : World} {g B : Nat} {p : PS} {fp : List Nat} (h : PW w g B p fp) (j : Nat) (x : Value) (p' : PS) (hj : j < 14) (e : ∀ tv ov rv, (p.cells tv ov rv).set j x = p'.cells tv ov rv) (et : p'.text = p.text) (eo : p'.c.op = p.c.op) (er : p'.c.root = p.c.root) : PW (w.setCell ⟨g, j, none⟩ x) g B p' fp := by
  obtain ⟨tv, ov, rv, cs, fo, fr, h, rfl⟩ := h
  exact ⟨tv, ov, rv, cs, fo, fr, h.set j x p' hj (e tv ov rv) et eo er, rfl⟩
/-- A new parser. -/
theorem PW.new (w : World) (part : Bool) : PW (w.alloc (.cells #[.int .i64 0, .int .i64 0, .int .i64 0, .int .i64 0, .bool part, .bool false, .int .i64 0, .int .u64 0, .slice none 0 0, .slice none 0 0, .int .i64 0, .bool false, .string ⟨#[]⟩, .slice none 0 0] 105)) w.heap.size (w.heap.size + 1) (PS.new part) [] := by
  refine ⟨.slice none 0 0, .slice none 0 0, .slice none 0 0, [], [], [], ⟨(St.new w _ _).cast rfl, World.ownsRow_nil _ _ _ _, World.ownsRow_nil _ _ _ _, ⟨rfl, rfl⟩, ?_, by omega, by rw [World.size_alloc]; omega, by simp [blkL, Value.ownBlock]⟩, rfl⟩
  show TrV _ _ (.mk 0 false ⟨#[]⟩ [] []) _ _
  rw [TrV]
  exact ⟨[], [], World.ownsRow_nil _ _ _ _, by rw [KidV]; exact ⟨rfl, rfl⟩, rfl⟩
end Go.Proofs.Ytljcbibcdajhiaa

namespace Go.Proofs.Ytljcbibcdajhiaa
open Go.RowKit

theorem own_take {w : World} {B : Nat} {ty : TypeId} {size g n m cap : Nat} {cs cs' : List Value} (h : w.ownsRow B ty size (.slice (some ⟨g, 0, none⟩) n cap) n (cs ++ cs')) (hm : cs.length = m * size) (hmn : m ≤ n) : w.ownsRow B ty size (.slice (some ⟨g, 0, none⟩) m cap) m cs := by
  refine ⟨hm, ?_⟩
  rcases h.2 with ⟨e, _⟩ | ⟨g', cap', cur, e, hb, hh, hnc, hcm, hcs', ht⟩
  · cases e
  · injection e with e1 _ e3
    injection e1 with e1
    injection e1 with e1
    subst e1 e3
    refine .inr ⟨g, cap, cur, rfl, hb, hh, by omega, hcm, hcs', ?_⟩
    have := congrArg (List.take (m * size)) ht
    rw [List.take_take, Nat.min_eq_left (Nat.mul_le_mul_right _ hmn)] at this
    rw [this, List.take_append_of_le_length (by omega), List.take_of_length_le (by omega)]
theorem own_cap {w : World} {B : Nat} {ty : TypeId} {size g n cap : Nat} {cs : List Value} (h : w.ownsRow B ty size (.slice (some ⟨g, 0, none⟩) n cap) n cs) : n ≤ cap ∧ g < w.heap.size ∧ B ≤ g := by
  rcases h.2 with ⟨e, _⟩ | ⟨_, cap', _, e, hb, hg, hn, _⟩
  · cases e
  · injection e with e1 _ e
    injection e1 with e1
    injection e1 with e1
    subst e e1
    exact ⟨hn, heap_lt hg, hb⟩
theorem TrV.re {w : World} {B : Nat} {k k' : Int} {e e' : Bool} {t t' : ByteArray} {nms : List ByteArray} {ks : List Tr} {v : Value} {fp : List Nat} (h : TrV w B (.mk k e t nms ks) v fp) : TrV w B (.mk k' e' t' nms ks) v fp := by
  rw [TrV] at h ⊢
  exact h

/-- The top of the stack: where it lies. -/
theorem PV.top {w : World} {g B : Nat} {p : PS} {tv ov rv : Value} {cs : List Value} {fo fr : List Nat} (h : PV w g B p tv ov rv cs fo fr) {o : ON} {R : List ON} (ho : p.c.op = o :: R) :
    ∃ q co u cs1 f1 f2, ov = .slice (some ⟨q, 0, none⟩) (R.length + 1) co ∧ cs = cs1 ++ onV o u ∧ cs1.length = R.length * 5 ∧ TrV w B o.tr u f2 ∧ OnS w B R cs1 f1 ∧ fo = f1 ++ f2 ∧ w.ownsRow B 120 5 (.slice (some ⟨q, 0, none⟩) (R.length + 1) co) (R.length + 1) (cs1 ++ onV o u) := by
  have h1 := h.op
  have h2 := h.on
  rw [ho] at h1 h2
  obtain ⟨u, cs1, f2, f1, rfl, hT, hR, rfl⟩ := h2
  have hl := OnS.len _ _ _ hR
  rw [show (o :: R).length = R.length + 1 from rfl] at h1
  obtain ⟨q, co, hv, _, _⟩ := World.ownsRow.form h1 (by omega)
  rw [hv] at h1
  exact ⟨q, co, u, cs1, f1, f2, hv, rfl, hl, hT, hR, rfl, h1⟩

/-- The top of the stack, read and written. -/
structure Top (w : World) (g B : Nat) (p : PS) (fp : List Nat) (o : ON) (R : List ON) (q co : Nat) (u : Value) : Prop where
  c9 : w.cell? ⟨g, 9, none⟩ = some (.slice (some ⟨q, 0, none⟩) (R.length + 1) co)
  hco : R.length + 1 ≤ co
  c : ∀ i, i < 5 → w.cell? ⟨q, R.length * 5 + i, none⟩ = (onV o u)[i]?
  f : ∀ i, w.frozen? ⟨q, i, none⟩ = false
  qf : q ∈ fp
  ql : q < w.heap.size
  hq : g ≠ q
  hu : ∃ x c, u = .slice x o.nms.length c
  put : ∀ i x o', i < 5 → (∀ v, i ≠ 3 ∧ (onV o v).set i x = onV o' v) → o'.nms = o.nms → o'.ks = o.ks → PW (w.setCell ⟨q, R.length * 5 + i, none⟩ x) g B (p.sc ⟨p.c.next, o' :: R, p.c.root⟩) fp

theorem PW.top {w : World} {g B : Nat} {p : PS} {fp : List Nat} (h : PW w g B p fp) {o : ON} {R : List ON} (ho : p.c.op = o :: R) : ∃ q co u, Top w g B p fp o R q co u := by
  obtain ⟨tv, ov, rv, cs, fo, fr, h, rfl⟩ := h
  obtain ⟨q, co, u, cs1, f1, f2, rfl, rfl, hl, hT, hR, rfl, hown⟩ := h.top ho
  obtain ⟨k1, k2, k3⟩ := own_cap hown
  have hgq : g ≠ q := by have := h.lt; omega
  obtain ⟨x, c, hu⟩ := hT.shape
  refine ⟨q, co, u, h.st.get 9 _ rfl, k1, fun i hi => ?_, fun i => World.ownsRow.frozenAt hown i, by simp [fpP, blkL, Value.ownBlock], k2, hgq, ⟨x, c, hu⟩, fun i x o' hi hc hn hk => ?_⟩
  · rw [World.ownsRow.cellAt hown (R.length * 5 + i) (by omega), List.getElem?_append_right (by omega), hl, Nat.add_sub_cancel_left]
  · have hs := (World.ownsRow.stored hown (R.length * 5 + i) x).1
    rw [List.set_append_right _ _ (by omega), hl, Nat.add_sub_cancel_left, (hc u).2] at hs
    have hnq : ∀ b ∈ blkL tv ++ (f1 ++ f2 ++ fr), b ≠ q := fun b hb e => by
      subst e
      have hnd := h.nd
      rcases List.mem_append.1 hb with hb | hb
      · exact (List.nodup_append.1 hnd).2.2 b hb b (by simp [blkL, Value.ownBlock]) rfl
      · exact (List.nodup_append.1 (List.nodup_append.1 hnd).2.1).2.2 b (by simp [blkL, Value.ownBlock]) b hb rfl
    have hk2 : ∀ b ∈ blkL tv ++ (f1 ++ f2 ++ fr), (w.setCell ⟨q, R.length * 5 + i, none⟩ x).heap[b]? = w.heap[b]? := fun b hb => Below.heap_setCell w _ _ b (hnq b hb)
    have hT' : TrV (w.setCell ⟨q, R.length * 5 + i, none⟩ x) B o'.tr u f2 := by
      have := TrV.same _ _ _ hT (fun b hb => hk2 b (by simp [hb]))
      unfold ON.tr at this ⊢
      rw [hn, hk]
      exact TrV.re this
    refine ⟨tv, .slice (some ⟨q, 0, none⟩) (R.length + 1) co, rv, cs1 ++ onV o' u, f1 ++ f2, fr, ⟨(h.st.same (by rw [World.size_setCell]; exact Nat.le_refl _) (Below.heap_setCell w _ _ g hgq)).cast rfl, own_same h.tx (fun b hb => hk2 b (by simp [hb])), hs, ⟨u, cs1, f2, f1, rfl, hT', OnS.same _ _ _ hR (fun b hb => hk2 b (by simp [hb])), rfl⟩, TrV.same _ _ _ h.ro (fun b hb => hk2 b (by simp [hb])), h.lt, by rw [World.size_setCell]; exact h.hB, h.nd⟩, rfl⟩

/-- The top taken off: the row is one shorter, the node's kids are by themselves. -/
theorem PW.pop {w : World} {g B : Nat} {p : PS} {fp : List Nat} (h : PW w g B p fp) {o : ON} {R : List ON} (ho : p.c.op = o :: R) {q co : Nat} {u : Value} (ht : Top w g B p fp o R q co u) :
    ∃ fk fp1, PW (w.setCell ⟨g, 9, none⟩ (.slice (some ⟨q, 0, none⟩) R.length co)) g B (p.sc ⟨p.c.next, R, p.c.root⟩) fp1 ∧ TrV (w.setCell ⟨g, 9, none⟩ (.slice (some ⟨q, 0, none⟩) R.length co)) B o.tr u fk ∧ (fp1 ++ fk).Nodup ∧ ∀ x ∈ fp1 ++ fk, x ∈ fp := by
  obtain ⟨tv, ov, rv, cs, fo, fr, h, rfl⟩ := h
  obtain ⟨q', co', u', cs1, f1, f2, rfl, rfl, hl, hT, hR, rfl, hown⟩ := h.top ho
  have e9 := (h.st.get 9 _ rfl).symm.trans ht.c9
  injection e9 with e9
  injection e9 with e1 _ e3
  injection e1 with e1
  injection e1 with e1
  subst e1 e3
  have e3 := ht.c 3 (by decide)
  rw [World.ownsRow.cellAt hown (R.length * 5 + 3) (by omega), List.getElem?_append_right (by omega), hl, Nat.add_sub_cancel_left] at e3
  have e3 : some u' = some u := e3
  injection e3 with e3
  subst e3
  have hk : ∀ b ∈ fpP tv (.slice (some ⟨q', 0, none⟩) (R.length + 1) co') (f1 ++ f2) fr, (w.setCell ⟨g, 9, none⟩ (.slice (some ⟨q', 0, none⟩) R.length co')).heap[b]? = w.heap[b]? := fun b hb => Below.heap_setCell w _ _ b (fun e => by have e : b = g := e; have := (h.mem b hb).1; have := h.lt; omega)
  have hnd := h.nd
  refine ⟨f2, fpP tv (.slice (some ⟨q', 0, none⟩) R.length co') f1 fr, ⟨tv, .slice (some ⟨q', 0, none⟩) R.length co', rv, cs1, f1, fr, ⟨(h.st.set 9 _ (by show 9 < 14; decide)).cast rfl, own_same h.tx (fun b hb => hk b (by simp [fpP, hb])), own_take (own_same hown (fun b hb => hk b (by simp [fpP, hb]))) hl (by omega), OnS.same _ _ _ hR (fun b hb => hk b (by simp [fpP, hb])), TrV.same _ _ _ h.ro (fun b hb => hk b (by simp [fpP, hb])), h.lt, by rw [World.size_setCell]; exact h.hB, ?_⟩, rfl⟩, TrV.same _ _ _ hT (fun b hb => hk b (by simp [fpP, hb])), ?_, ?_⟩
  · have e : blkL (.slice (some ⟨q', 0, none⟩) R.length co') = blkL (.slice (some ⟨q', 0, none⟩) (R.length + 1) co') := rfl
    rw [e]
    refine hnd.sublist ?_
    refine List.Sublist.append_left (List.Sublist.append_left (List.Sublist.append_right ?_ _) _) _
    exact List.sublist_append_left _ _
  · unfold fpP
    have e : blkL (.slice (some ⟨q', 0, none⟩) R.length co') = blkL (.slice (some ⟨q', 0, none⟩) (R.length + 1) co') := rfl
    rw [e]
    refine (List.Perm.nodup_iff ?_).1 hnd
    simp only [List.append_assoc]
    refine List.Perm.append_left _ (List.Perm.append_left _ (List.Perm.append_left _ ?_))
    exact List.perm_append_comm
  · intro x hx
    simp [fpP, blkL, Value.ownBlock] at hx ⊢
    rcases hx with hx | hx | hx | hx | hx <;> simp [hx]

/-- What the root's closing leaves. -/
def set4 (w : World) (g o : Nat) (k : Int) (e : Bool) (t : ByteArray) (u : Value) : World := (((w.setCell ⟨g, o, none⟩ (.int .i64 k)).setCell ⟨g, o + 1, none⟩ (.bool e)).setCell ⟨g, o + 2, none⟩ (.string t)).setCell ⟨g, o + 3, none⟩ u
theorem set4_other (w : World) (g o : Nat) (k : Int) (e : Bool) (t : ByteArray) (u : Value) (b : Nat) (hb : b ≠ g) : (set4 w g o k e t u).heap[b]? = w.heap[b]? :=
  (Below.heap_setCell _ ⟨g, o + 3, none⟩ _ b hb).trans ((Below.heap_setCell _ ⟨g, o + 2, none⟩ _ b hb).trans ((Below.heap_setCell _ ⟨g, o + 1, none⟩ _ b hb).trans (Below.heap_setCell _ ⟨g, o, none⟩ _ b hb)))
theorem set4_size (w : World) (g o : Nat) (k : Int) (e : Bool) (t : ByteArray) (u : Value) : (set4 w g o k e t u).heap.size = w.heap.size := by
  unfold set4
  simp only [World.size_setCell]
theorem PW.root {w : World} {g B : Nat} {p : PS} {fp : List Nat} (h : PW w g B p fp) (ho : p.c.op = []) (k : Int) (e : Bool) (t : ByteArray) (nms : List ByteArray) (ks : List Tr) (u : Value) (fk : List Nat) (hT : TrV w B (.mk k e t nms ks) u fk) (hn : (fp ++ fk).Nodup) :
    ∃ fp', PW (set4 w g 10 k e t u) g B (p.sc ⟨p.c.next, [], .mk k e t nms ks⟩) fp' ∧ ∀ x ∈ fp', x ∈ fp ++ fk := by
  obtain ⟨tv, ov, rv, cs, fo, fr, h, rfl⟩ := h
  have hon := h.on
  rw [ho] at hon
  have hgk := TrV.lt _ _ _ hT
  have hk : ∀ b, B ≤ b → (set4 w g 10 k e t u).heap[b]? = w.heap[b]? := fun b hb => set4_other _ _ _ _ _ _ _ b (by have := h.lt; omega)
  have hm := h.mem
  have hop := h.op
  rw [ho] at hop
  refine ⟨fpP tv ov fo fk, ⟨tv, ov, u, cs, fo, fk, ⟨?_, own_same h.tx (fun b hb => hk b (hm b (by simp [fpP, hb])).1), own_same hop (fun b hb => hk b (hm b (by simp [fpP, hb])).1), OnS.same _ _ _ hon (fun b hb => hk b (hm b (by simp [fpP, hb])).1), TrV.same _ _ _ hT (fun b hb => hk b (hgk b hb).1), h.lt, by rw [set4_size]; exact h.hB, ?_⟩, rfl⟩, ?_⟩
  · exact ((((h.st.set 10 (.int .i64 k) (by show 10 < 14; decide)).set 11 (.bool e) (by show 11 < 14; decide)).set 12 (.string t) (by show 12 < 14; decide)).set 13 u (by show 13 < 14; decide)).cast rfl
  · unfold fpP at hn
    refine List.Nodup.sublist ?_ hn
    simp only [List.append_assoc]
    refine List.Sublist.append_left (List.Sublist.append_left (List.Sublist.append_left ?_ _) _) _
    exact List.sublist_append_right _ _
  · intro x hx
    simp [fpP] at hx ⊢
    rcases hx with hx | hx | hx | hx <;> simp [hx]

/-- A kid more for the holder: what the closing needs and leaves. -/
structure Kd (X : World) (g B : Nat) (p : PS) (fp fk : List Nat) (h : ON) (R : List ON) (T : Tr) (u : Value) (q : Nat) (xh : Option Addr) (ch g2 cap2 : Nat) (w' : World) : Prop where
  c3 : X.cell? ⟨q, R.length * 5 + 3, none⟩ = some (.slice xh h.nms.length ch)
  hap : (Builtin.append_ #[23, 23] 23 #[.slice xh h.nms.length ch, .slice (some ⟨X.heap.size, 0, none⟩) 1 1]).run Try.prog ((X.alloc (.cells #[.string ⟨#[]⟩, .int .i64 0, .bool false, .string ⟨#[]⟩, .slice none 0 0] 83)).drew) = .ok (.slice (some ⟨g2, 0, none⟩) (h.nms.length + 1) cap2) w'
  hcap2 : h.nms.length + 1 ≤ cap2
  z0 : w'.cell? ⟨g2, h.nms.length * 5, none⟩ = some (.string ⟨#[]⟩)
  z1 : w'.cell? ⟨g2, h.nms.length * 5 + 1, none⟩ = some (.int .i64 0)
  z2 : w'.cell? ⟨g2, h.nms.length * 5 + 2, none⟩ = some (.bool false)
  z3 : w'.cell? ⟨g2, h.nms.length * 5 + 3, none⟩ = some (.string ⟨#[]⟩)
  z4 : w'.cell? ⟨g2, h.nms.length * 5 + 4, none⟩ = some (.slice none 0 0)
  f : ∀ i, w'.frozen? ⟨g2, i, none⟩ = false
  df : w'.frozen? ⟨q, R.length * 5 + 3, none⟩ = false
  kq : w'.heap[q]? = X.heap[q]?
  kk : ∀ b, b < X.heap.size → b ∉ fp ++ fk → w'.heap[b]? = X.heap[b]? ∧ b ≠ g2
  hq2 : q ≠ g2
  hg2 : g ≠ g2
  out : PM X ((set5 w' g2 (h.nms.length * 5) (entV h.en T u)).setCell ⟨q, R.length * 5 + 3, none⟩ (.slice (some ⟨g2, 0, none⟩) (h.nms.length + 1) cap2)) g B (fp ++ fk) (p.sc ⟨p.c.next, h.kid T :: R, p.c.root⟩)

theorem sc_os (w : World) (a : Addr) (v : Value) : (w.setCell a v).os = w.os := rfl
theorem sc_tape (w : World) (a : Addr) (v : Value) : (w.setCell a v).tape = w.tape := rfl
theorem sc_output (w : World) (a : Addr) (v : Value) : (w.setCell a v).output = w.output := rfl
theorem set5_meta (w : World) (g o : Nat) (a b c d e : Value) : (set5 w g o [a, b, c, d, e]).os = w.os ∧ (set5 w g o [a, b, c, d, e]).tape = w.tape ∧ (set5 w g o [a, b, c, d, e]).output = w.output ∧ (set5 w g o [a, b, c, d, e]).heap.size = w.heap.size := by
  dsimp only [set5]
  simp only [World.size_setCell, sc_os, sc_tape, sc_output, and_self]

set_option maxHeartbeats 4000000 in
theorem PW.kid {X : World} {g B : Nat} {p : PS} {fp : List Nat} (hP : PW X g B p fp) {h : ON} {R : List ON} (ho : p.c.op = h :: R) {q co : Nat} {uh : Value} (ht : Top X g B p fp h R q co uh) (T : Tr) (u : Value) (fk : List Nat) (hT : TrV X B T u fk) (hn : (fp ++ fk).Nodup) (hl : h.nms.length ≤ 1073741824) :
    ∃ xh ch g2 cap2 w', Kd X g B p fp fk h R T u q xh ch g2 cap2 w' := by
  obtain ⟨tv, ov, rv, cs, fo, fr, hP, rfl⟩ := hP
  obtain ⟨q', co', u', cs1, f1, f2, rfl, rfl, hl1, hH, hR, rfl, hown⟩ := hP.top ho
  have e9 := (hP.st.get 9 _ rfl).symm.trans ht.c9
  injection e9 with e9
  injection e9 with e1 _ e3
  injection e1 with e1
  injection e1 with e1
  subst e1 e3
  have e3 := ht.c 3 (by decide)
  rw [World.ownsRow.cellAt hown (R.length * 5 + 3) (by omega), List.getElem?_append_right (by omega), hl1, Nat.add_sub_cancel_left] at e3
  have e3 : some u' = some uh := e3
  injection e3 with e3
  subst e3
  obtain ⟨xh, ch, hu⟩ := ht.hu
  subst hu
  have hnd := hP.nd
  have hB := hP.hB
  have hgB := hP.lt
  have hn2 : (f2 ++ fk).Nodup := by
    refine List.Nodup.sublist ?_ hn
    unfold fpP
    simp only [List.append_assoc]
    refine List.Sublist.trans ?_ (List.sublist_append_right _ _)
    refine List.Sublist.trans ?_ (List.sublist_append_right _ _)
    refine List.Sublist.trans ?_ (List.sublist_append_right _ _)
    exact List.Sublist.append_left (List.sublist_append_right _ _) _
  obtain ⟨g2, cap2, w', hap, hcap2, hz, hfz, hkeep, hsz, o1, o2, o3, fp2, hT2, hnd2, hg2, hfp2⟩ := TrV.appZ hH h.en T u fk hT hn2 hB hl
  have hfn : (Tr.nms h.tr) = h.nms := rfl
  have hql := ht.ql
  have hqB := (own_cap hown).2.2
  have hmk := TrV.lt _ _ _ hT
  have hmem := hP.mem
  -- the blocks of the holder's new list are new, or its own, or the kid's
  have hdis : ∀ b, b ∈ fp2 → b ∉ blkL tv ++ ([q'] ++ (f1 ++ fr)) := fun b hb hm => by
    rcases hfp2 b hb with hb | hb
    · unfold fpP at hn
      simp only [blkL, Value.ownBlock] at hn hm
      have hn' : ((match tv.ownBlock with | none => [] | some b => [b]) ++ ([q'] ++ (f1 ++ fr)) ++ (f2 ++ fk)).Nodup := by
        refine (List.Perm.nodup_iff ?_).1 hn
        simp only [List.append_assoc]
        refine List.Perm.append_left _ (List.Perm.append_left _ (List.Perm.append_left _ ?_))
        rw [← List.append_assoc, ← List.append_assoc]
        exact List.Perm.append_right _ List.perm_append_comm
      exact (List.nodup_append.1 hn').2.2 b hm b hb rfl
    · have : b < X.heap.size := by
        simp only [List.mem_append, List.mem_singleton] at hm
        rcases hm with hm | hm | hm | hm
        · exact (hmem b (by simp [fpP, hm])).2
        · rw [hm]; exact hql
        · exact (hmem b (by simp [fpP, hm])).2
        · exact (hmem b (by simp [fpP, hm])).2
      omega
  have hq2 : q' ≠ g2 := fun e => hdis g2 hg2 (by simp [e])
  have hgg2 : g ≠ g2 := fun e => by
    subst e
    rcases hfp2 g hg2 with hm | hm
    · rcases List.mem_append.1 hm with hm | hm
      · have := (TrV.lt _ _ _ hH g hm).1; omega
      · have := (hmk g hm).1; omega
    · omega
  have hqn : q' ∉ f2 := fun hm => by
    have h1 := (List.nodup_append.1 (List.nodup_append.1 hnd).2.1).2.2 q' (by simp [blkL, Value.ownBlock]) q' (by simp [hm])
    exact h1 rfl
  have kq : w'.heap[q']? = X.heap[q']? := hkeep q' hql hqn
  -- all other blocks of the parser
  have hk5 : ∀ b, b ∈ [g] ++ (blkL tv ++ ([q'] ++ (f1 ++ fr))) → (set5 w' g2 (h.nms.length * 5) (entV h.en T (u))).heap[b]? = X.heap[b]? := fun b hb => by
    have hbg : b ≠ g2 := fun e => by
      subst e
      rcases List.mem_append.1 hb with hb | hb
      · simp at hb; exact hgg2 hb.symm
      · exact hdis b hg2 hb
    have hbl : b < X.heap.size := by
      simp only [List.mem_append, List.mem_singleton] at hb
      rcases hb with hm | hm | hm | hm | hm
      · omega
      · exact (hmem b (by simp [fpP, hm])).2
      · rw [hm]; exact hql
      · exact (hmem b (by simp [fpP, hm])).2
      · exact (hmem b (by simp [fpP, hm])).2
    refine (set5_other w' g2 _ _ _ _ _ _ b hbg).trans (hkeep b hbl (fun hm => ?_))
    rcases List.mem_append.1 hb with hb | hb
    · simp at hb
      have := (TrV.lt _ _ _ hH b hm).1
      omega
    · unfold blkL at hb hnd
      simp only [Value.ownBlock] at hb hnd
      have hn' : ((match tv.ownBlock with | none => [] | some b => [b]) ++ ([q'] ++ (f1 ++ fr)) ++ f2).Nodup := by
        refine (List.Perm.nodup_iff ?_).1 hnd
        simp only [List.append_assoc]
        refine List.Perm.append_left _ (List.Perm.append_left _ (List.Perm.append_left _ ?_))
        exact List.perm_append_comm
      exact (List.nodup_append.1 hn').2.2 b hb b hm rfl
  have hXm := set5_meta w' g2 (h.nms.length * 5) (.string h.en) (.int .i64 T.k) (.bool T.e) (.string T.t) u
  have hXo : ∀ b, b ≠ g2 → (set5 w' g2 (h.nms.length * 5) (entV h.en T u)).heap[b]? = w'.heap[b]? := fun b hb => set5_other w' g2 _ _ _ _ _ _ b hb
  have hT2' : TrV (set5 w' g2 (h.nms.length * 5) (entV h.en T u)) B (h.kid T).tr (.slice (some ⟨g2, 0, none⟩) (h.nms.length + 1) cap2) fp2 := hT2
  have hXm' : (set5 w' g2 (h.nms.length * 5) (entV h.en T u)).os = w'.os ∧ (set5 w' g2 (h.nms.length * 5) (entV h.en T u)).tape = w'.tape ∧ (set5 w' g2 (h.nms.length * 5) (entV h.en T u)).output = w'.output ∧ (set5 w' g2 (h.nms.length * 5) (entV h.en T u)).heap.size = w'.heap.size := hXm
  refine ⟨xh, ch, g2, cap2, w', ⟨ht.c 3 (by decide), hap, hcap2, hz 0 (by decide), hz 1 (by decide), hz 2 (by decide), hz 3 (by decide), hz 4 (by decide), hfz, ?_, kq, ?_, hq2, hgg2, ?_⟩⟩
  · rw [World.frozen?_of_block (w := X) (a := ⟨q', R.length * 5 + 3, none⟩) kq]
    exact ht.f _
  · intro b hb hm
    refine ⟨hkeep b hb (fun h9 => hm (by simp [fpP, h9])), fun e => ?_⟩
    subst e
    rcases hfp2 b hg2 with h9 | h9
    · rcases List.mem_append.1 h9 with h9 | h9
      · exact hm (by simp [fpP, h9])
      · exact hm (by simp [h9])
    · omega
  · generalize (set5 w' g2 (h.nms.length * 5) (entV h.en T u)) = Y at hk5 hXo hT2' hXm' ⊢
    have hYq : ∀ b, b ≠ q' → (Y.setCell ⟨q', R.length * 5 + 3, none⟩ (.slice (some ⟨g2, 0, none⟩) (h.nms.length + 1) cap2)).heap[b]? = Y.heap[b]? := fun b hb => Below.heap_setCell Y _ _ b hb
    have hqd : ∀ b, b ∈ [g] ++ (blkL tv ++ (f1 ++ fr)) → b ≠ q' := fun b hb e => by
      subst e
      rcases List.mem_append.1 hb with hb | hb
      · simp at hb; exact ht.hq hb.symm
      · unfold blkL at hb hnd
        simp only [Value.ownBlock] at hb hnd
        rcases List.mem_append.1 hb with hb | hb
        · exact (List.nodup_append.1 hnd).2.2 b hb b (by simp) rfl
        · have hn' := (List.nodup_append.1 (List.nodup_append.1 hnd).2.1).2.2 b (by simp) b (by simp only [List.mem_append] at hb ⊢; rcases hb with hb | hb; exact Or.inl (Or.inl hb); exact Or.inr hb)
          exact hn' rfl
    have hall : ∀ b, b ∈ [g] ++ (blkL tv ++ (f1 ++ fr)) → (Y.setCell ⟨q', R.length * 5 + 3, none⟩ (.slice (some ⟨g2, 0, none⟩) (h.nms.length + 1) cap2)).heap[b]? = X.heap[b]? := fun b hb => (hYq b (hqd b hb)).trans (hk5 b (by
      simp only [List.mem_append, List.mem_singleton] at hb ⊢
      rcases hb with hb | hb | hb | hb <;> simp [hb]))
    have hownY : Y.ownsRow B 120 5 (.slice (some ⟨q', 0, none⟩) (R.length + 1) co') (R.length + 1) (cs1 ++ onV h (.slice xh h.nms.length ch)) := own_same hown (fun b hb => hk5 b (by simp [blkL, Value.ownBlock] at hb; simp [hb]))
    have hs := (World.ownsRow.stored hownY (R.length * 5 + 3) (.slice (some ⟨g2, 0, none⟩) (h.nms.length + 1) cap2)).1
    rw [List.set_append_right _ _ (by omega), hl1, Nat.add_sub_cancel_left] at hs
    have hsz2 : X.heap.size ≤ (Y.setCell ⟨q', R.length * 5 + 3, none⟩ (.slice (some ⟨g2, 0, none⟩) (h.nms.length + 1) cap2)).heap.size := by rw [World.size_setCell, hXm'.2.2.2]; exact hsz
    refine ⟨fpP tv (.slice (some ⟨q', 0, none⟩) (R.length + 1) co') (f1 ++ fp2) fr, ⟨tv, .slice (some ⟨q', 0, none⟩) (R.length + 1) co', rv, cs1 ++ onV (h.kid T) (.slice (some ⟨g2, 0, none⟩) (h.nms.length + 1) cap2), f1 ++ fp2, fr, ⟨(hP.st.same hsz2 (hall g (by simp))).cast rfl, own_same hP.tx (fun b hb => hall b (by simp [hb])), hs, ⟨.slice (some ⟨g2, 0, none⟩) (h.nms.length + 1) cap2, cs1, fp2, f1, rfl, TrV.same _ _ _ hT2' (fun b hb => hYq b (fun e => hdis b hb (by simp [e]))), OnS.same _ _ _ hR (fun b hb => hall b (by simp [hb])), rfl⟩, TrV.same _ _ _ hP.ro (fun b hb => hall b (by simp [hb])), hgB, Nat.le_trans hB hsz2, ?_⟩, rfl⟩, ⟨hXm'.1.trans o1, hXm'.2.1.trans o2, hXm'.2.2.1.trans o3, hsz2, ?_⟩, ?_⟩
    · have h1 : ((blkL tv ++ ([q'] ++ (f1 ++ fr))) ++ fp2).Nodup := by
        refine List.nodup_append.2 ⟨?_, hnd2, fun x hx y hy e => hdis y hy (e ▸ hx)⟩
        refine List.Nodup.sublist ?_ hnd
        refine List.Sublist.append_left (List.Sublist.append_left (List.Sublist.append_right ?_ _) _) _
        exact List.sublist_append_left _ _
      refine (List.Perm.nodup_iff ?_).1 h1
      show List.Perm _ (blkL tv ++ ([q'] ++ (f1 ++ fp2 ++ fr)))
      simp only [List.append_assoc]
      refine List.Perm.append_left _ (List.Perm.append_left _ (List.Perm.append_left _ ?_))
      exact List.perm_append_comm
    · intro b hb h1 h2
      refine (hYq b (fun e => h2 (by simp [fpP, blkL, Value.ownBlock, e]))).trans ((hXo b (fun e => ?_)).trans (hkeep b hb (fun hm => h2 (by simp [fpP, hm]))))
      subst e
      rcases hfp2 b hg2 with h9 | h9
      · exact h2 (by simp only [List.mem_append, fpP] at h9 ⊢; rcases h9 with h9 | h9 <;> simp [h9])
      · omega
    · intro b hb
      simp only [fpP, List.mem_append] at hb ⊢
      rcases hb with hb | hb | (hb | hb) | hb
      · exact Or.inl (Or.inl (Or.inl hb))
      · exact Or.inl (Or.inl (Or.inr (Or.inl hb)))
      · exact Or.inl (Or.inl (Or.inr (Or.inr (Or.inl (Or.inl hb)))))
      · rcases hfp2 b hb with h9 | h9
        · simp only [List.mem_append] at h9
          rcases h9 with h9 | h9
          · exact Or.inl (Or.inl (Or.inr (Or.inr (Or.inl (Or.inr h9)))))
          · exact Or.inl (Or.inr h9)
        · exact Or.inr h9
      · exact Or.inl (Or.inl (Or.inr (Or.inr (Or.inr hb))))
end Go.Proofs.Ytljcbibcdajhiaa

namespace Go.Proofs.Ytljcbibcdajhiaa
open Go.RowKit

theorem infoONT : (Try.prog.info? 120).map (fun i => (i.zero, i.size, i.bytes)) = some (some (.agg #[.int .i64 0, .bool false, .string ⟨#[]⟩, .slice none 0 0, .string ⟨#[]⟩]), 5, 72) := by kernel_rfl
theorem undLON : Try.prog.underlying 103 = some (.slice 120) := by kernel_rfl
theorem infoU8 : (Try.prog.info? 5).map (fun i => (i.zero, i.size, i.bytes)) = some (some (.int .u8 0), 1, 1) := by kernel_rfl
theorem undTB : Try.prog.underlying 37 = some (.slice 5) := by kernel_rfl

theorem grown_block {w w' : World} {v : Value} (hg : w.grownBy w' v.ownBlock) (b : Nat) (hb : b < w.heap.size) (hm : b ∉ blkL v) : w'.heap[b]? = w.heap[b]? :=
  hg.block b hb (fun e => hm (by unfold blkL; rw [← e]; simp))

/-- A node opened: the run of append in the world with its zero cells, and what holds behind the store. -/
theorem PW.push {w : World} {g B : Nat} {p : PS} {fp : List Nat} (h : PW w g B p fp) (hl : p.c.op.length ≤ 1073741824) :
    ∃ xo co g2 cap2 w', w.cell? ⟨g, 9, none⟩ = some (.slice xo p.c.op.length co) ∧
      (Builtin.append_ #[103, 103] 103 #[.slice xo p.c.op.length co, .slice (some ⟨w.heap.size, 0, none⟩) 1 1]).run Try.prog (w.alloc (.cells #[.int .i64 0, .bool false, .string ⟨#[]⟩, .slice none 0 0, .string ⟨#[]⟩] 120)) = .ok (.slice (some ⟨g2, 0, none⟩) (p.c.op.length + 1) cap2) w' ∧
      w'.heap[g]? = w.heap[g]? ∧ g < w.heap.size ∧
      PM w (w'.setCell ⟨g, 9, none⟩ (.slice (some ⟨g2, 0, none⟩) (p.c.op.length + 1) cap2)) g B fp (p.sc ⟨p.c.next, ON.new :: p.c.op, p.c.root⟩) := by
  obtain ⟨tv, ov, rv, cs, fo, fr, h, rfl⟩ := h
  obtain ⟨i0, hi, hz0, hz1, hz2⟩ := info_parts infoONT
  have hB := h.hB
  have hgB := h.lt
  obtain ⟨xo, co, hv⟩ : ∃ xo co, ov = .slice xo p.c.op.length co := by
    rcases h.op.2 with ⟨e, e0⟩ | ⟨q, cap, cur, e, _⟩
    · exact ⟨none, 0, by rw [e, e0]⟩
    · exact ⟨_, _, e⟩
  subst hv
  have hown : (w.alloc (.cells #[.int .i64 0, .bool false, .string ⟨#[]⟩, .slice none 0 0, .string ⟨#[]⟩] 120)).ownsRow B 120 5 (.slice xo p.c.op.length co) p.c.op.length cs := World.ownsRow.alloc h.op _
  obtain ⟨g2, cap2, w', hr, ho, hg, hat, hlt⟩ := run_append_lies (P := Try.prog) (w.alloc (.cells #[.int .i64 0, .bool false, .string ⟨#[]⟩, .slice none 0 0, .string ⟨#[]⟩] 120)) 103 103 B 120 i0 (.agg #[.int .i64 0, .bool false, .string ⟨#[]⟩, .slice none 0 0, .string ⟨#[]⟩]) 5 72 undLON hi hz0 hz1 hz2 rfl (by decide) _ p.c.op.length cs hown ⟨w.heap.size, 0, none⟩ 1 1 (onV ON.new (.slice none 0 0)) rfl (fun j x hj => by
      rw [Addr.add_lit, Nat.zero_add]
      match j, hj with
      | 0, hj => exact (World.cell?_alloc_new w _ _ 0).trans hj
      | 1, hj => exact (World.cell?_alloc_new w _ _ 1).trans hj
      | 2, hj => exact (World.cell?_alloc_new w _ _ 2).trans hj
      | 3, hj => exact (World.cell?_alloc_new w _ _ 3).trans hj
      | 4, hj => exact (World.cell?_alloc_new w _ _ 4).trans hj) (by intro x hx; simp [onV] at hx; rcases hx with rfl | rfl | rfl | rfl | rfl <;> rfl) (by decide) (by unfold maxLen; omega) (by omega) (by rw [World.size_alloc]; omega) _ rfl
  have hsz : w.heap.size + 1 ≤ w'.heap.size := by have := hg.size; rw [World.size_alloc] at this; exact this
  have hkeep : ∀ b, b < w.heap.size → b ∉ blkL (.slice xo p.c.op.length co) → w'.heap[b]? = w.heap[b]? := fun b hb hm => (grown_block hg b (by rw [World.size_alloc]; omega) hm).trans (Below.heap_alloc w _ b hb)
  have hmem := h.mem
  have hnd := h.nd
  have hg2 : ∀ b, b ∈ [g] ++ (blkL tv ++ (fo ++ fr)) → b < w.heap.size ∧ b ∉ blkL (.slice xo p.c.op.length co) ∧ b ≠ g2 := fun b hb => by
    have h1 : b < w.heap.size ∧ b ∉ blkL (.slice xo p.c.op.length co) := by
      rcases List.mem_append.1 hb with hb | hb
      · simp at hb
        subst hb
        exact ⟨by omega, fun hm => by have := (own_blk h.op b hm).1; omega⟩
      · refine ⟨(hmem b (by simp only [fpP, List.mem_append] at hb ⊢; rcases hb with hb | hb | hb <;> simp [hb])).2, fun hm => ?_⟩
        rcases List.mem_append.1 hb with hb | hb
        · exact (List.nodup_append.1 hnd).2.2 b hb b (by simp [hm]) rfl
        · exact (List.nodup_append.1 (List.nodup_append.1 hnd).2.1).2.2 b hm b hb rfl
    refine ⟨h1.1, h1.2, fun e => ?_⟩
    subst e
    rcases hat with hat | hat
    · exact h1.2 (by unfold blkL; rw [hat]; simp)
    · rw [World.size_alloc] at hat; omega
  have hgl : g < w.heap.size := by omega
  refine ⟨xo, co, g2, cap2, w', h.st.get 9 _ rfl, hr, hkeep g hgl (hg2 g (by simp)).2.1, hgl, ?_⟩
  have hset : ∀ b, b ≠ g → (w'.setCell ⟨g, 9, none⟩ (.slice (some ⟨g2, 0, none⟩) (p.c.op.length + 1) cap2)).heap[b]? = w'.heap[b]? := fun b hb => Below.heap_setCell w' _ _ b hb
  have hall : ∀ b, b ∈ blkL tv ++ (fo ++ fr) → (w'.setCell ⟨g, 9, none⟩ (.slice (some ⟨g2, 0, none⟩) (p.c.op.length + 1) cap2)).heap[b]? = w.heap[b]? := fun b hb => by
    obtain ⟨h1, h2, _⟩ := hg2 b (List.mem_append_right _ hb)
    refine (hset b (fun e => ?_)).trans (hkeep b h1 h2)
    have := (hmem b (by simp only [fpP, List.mem_append] at hb ⊢; rcases hb with hb | hb | hb <;> simp [hb])).1
    omega
  have hg2B : B ≤ g2 := (own_cap ho).2.2
  have hT0 : TrV (w'.setCell ⟨g, 9, none⟩ (.slice (some ⟨g2, 0, none⟩) (p.c.op.length + 1) cap2)) B ON.new.tr (.slice none 0 0) [] := by
    show TrV _ _ (.mk 0 false ⟨#[]⟩ [] []) _ _
    rw [TrV]
    exact ⟨[], [], World.ownsRow_nil _ _ _ _, by rw [KidV]; exact ⟨rfl, rfl⟩, rfl⟩
  have hstg : St w' g (p.cells tv (.slice xo p.c.op.length co) rv) := h.st.same (by omega) (hkeep g hgl (hg2 g (by simp)).2.1)
  refine ⟨fpP tv (.slice (some ⟨g2, 0, none⟩) (p.c.op.length + 1) cap2) (fo ++ []) fr, ⟨tv, .slice (some ⟨g2, 0, none⟩) (p.c.op.length + 1) cap2, rv, cs ++ onV ON.new (.slice none 0 0), fo ++ [], fr, ⟨(hstg.set 9 _ (by show 9 < 14; decide)).cast rfl, own_same h.tx (fun b hb => hall b (by simp [hb])), own_same ho (fun b hb => hset b (fun e => by simp [blkL, Value.ownBlock] at hb; omega)), ⟨.slice none 0 0, cs, [], fo, rfl, hT0, OnS.same _ _ _ h.on (fun b hb => hall b (by simp [hb])), rfl⟩, TrV.same _ _ _ h.ro (fun b hb => hall b (by simp [hb])), hgB, by rw [World.size_setCell]; omega, ?_⟩, rfl⟩, ⟨hg.os, hg.tape, hg.output, by rw [World.size_setCell]; omega, ?_⟩, ?_⟩
  · rw [List.append_nil]
    have h1 : (blkL tv ++ (fo ++ fr)).Nodup := List.Nodup.sublist (List.Sublist.append_left (List.sublist_append_right _ _) _) hnd
    have h2 : ([g2] ++ (blkL tv ++ (fo ++ fr))).Nodup := List.nodup_append.2 ⟨by simp, h1, fun x hx y hy e => by simp at hx; subst hx e; exact (hg2 _ (List.mem_append_right _ hy)).2.2 rfl⟩
    refine (List.Perm.nodup_iff ?_).1 h2
    show List.Perm _ (blkL tv ++ ([g2] ++ (fo ++ fr)))
    have := List.Perm.append_right (fo ++ fr) (List.perm_append_comm (l₁ := [g2]) (l₂ := blkL tv))
    simpa only [List.append_assoc] using this
  · intro b hb h1 h2
    exact (hset b h1).trans (hkeep b hb (fun hm => h2 (by simp [fpP, hm])))
  · intro b hb
    rw [List.append_nil] at hb
    simp only [fpP, List.mem_append] at hb ⊢
    rcases hb with hb | hb | hb | hb
    · exact Or.inl (Or.inl hb)
    · simp [blkL, Value.ownBlock] at hb
      subst hb
      rcases hat with hat | hat
      · exact Or.inl (Or.inr (Or.inl (by unfold blkL; rw [hat]; simp)))
      · rw [World.size_alloc] at hat; exact Or.inr (by omega)
    · exact Or.inl (Or.inr (Or.inr (Or.inl hb)))
    · exact Or.inl (Or.inr (Or.inr (Or.inr hb)))

/-- A byte more of a word. -/
theorem PW.text {w : World} {g B : Nat} {p : PS} {fp : List Nat} (h : PW w g B p fp) (b : UInt8) (hl : p.text.length ≤ 1073741824) :
    ∃ xo co g2 cap2 w', w.cell? ⟨g, 8, none⟩ = some (.slice xo p.text.length co) ∧
      (Builtin.append_ #[37, 37] 37 #[.slice xo p.text.length co, .slice (some ⟨w.heap.size, 0, none⟩) 1 1]).run Try.prog (w.alloc (.cells #[.int .u8 (b.toNat : Int)] 5)) = .ok (.slice (some ⟨g2, 0, none⟩) (p.text.length + 1) cap2) w' ∧
      w'.heap[g]? = w.heap[g]? ∧ g < w.heap.size ∧
      PM w (w'.setCell ⟨g, 8, none⟩ (.slice (some ⟨g2, 0, none⟩) (p.text.length + 1) cap2)) g B fp (p.st (p.text ++ [b])) := by
  obtain ⟨tv, ov, rv, cs, fo, fr, h, rfl⟩ := h
  obtain ⟨i0, hi, hz0, hz1, hz2⟩ := info_parts infoU8
  have hB := h.hB
  have hgB := h.lt
  obtain ⟨xo, co, hv⟩ : ∃ xo co, tv = .slice xo p.text.length co := by
    rcases h.tx.2 with ⟨e, e0⟩ | ⟨q, cap, cur, e, _⟩
    · exact ⟨none, 0, by rw [e, e0]⟩
    · exact ⟨_, _, e⟩
  subst hv
  have hown : (w.alloc (.cells #[.int .u8 (b.toNat : Int)] 5)).ownsRow B 5 1 (.slice xo p.text.length co) p.text.length (txV p.text) := World.ownsRow.alloc h.tx _
  obtain ⟨g2, cap2, w', hr, ho, hg, hat, hlt⟩ := run_append_lies (P := Try.prog) (w.alloc (.cells #[.int .u8 (b.toNat : Int)] 5)) 37 37 B 5 i0 (.int .u8 0) 1 1 undTB hi hz0 hz1 hz2 rfl (by decide) _ p.text.length (txV p.text) hown ⟨w.heap.size, 0, none⟩ 1 1 [.int .u8 (b.toNat : Int)] rfl (fun j x hj => by
      rw [Addr.add_lit, Nat.zero_add]
      match j, hj with
      | 0, hj => exact (World.cell?_alloc_new w _ _ 0).trans hj) (by intro x hx; simp at hx; subst hx; rfl) (by decide) (by unfold maxLen; omega) (by omega) (by rw [World.size_alloc]; omega) _ rfl
  have hsz : w.heap.size + 1 ≤ w'.heap.size := by have := hg.size; rw [World.size_alloc] at this; exact this
  have hkeep : ∀ b, b < w.heap.size → b ∉ blkL (.slice xo p.text.length co) → w'.heap[b]? = w.heap[b]? := fun b hb hm => (grown_block hg b (by rw [World.size_alloc]; omega) hm).trans (Below.heap_alloc w _ b hb)
  have hmem := h.mem
  have hnd := h.nd
  have hg2 : ∀ b, b ∈ [g] ++ (blkL ov ++ (fo ++ fr)) → b < w.heap.size ∧ b ∉ blkL (.slice xo p.text.length co) ∧ b ≠ g2 := fun b hb => by
    have h1 : b < w.heap.size ∧ b ∉ blkL (.slice xo p.text.length co) := by
      rcases List.mem_append.1 hb with hb | hb
      · simp at hb
        subst hb
        exact ⟨by omega, fun hm => by have := (own_blk h.tx b hm).1; omega⟩
      · exact ⟨(hmem b (by simp only [fpP, List.mem_append] at hb ⊢; rcases hb with hb | hb | hb <;> simp [hb])).2, fun hm => (List.nodup_append.1 hnd).2.2 b hm b hb rfl⟩
    refine ⟨h1.1, h1.2, fun e => ?_⟩
    subst e
    rcases hat with hat | hat
    · exact h1.2 (by unfold blkL; rw [hat]; simp)
    · rw [World.size_alloc] at hat; omega
  have hgl : g < w.heap.size := by omega
  refine ⟨xo, co, g2, cap2, w', h.st.get 8 _ rfl, hr, hkeep g hgl (hg2 g (by simp)).2.1, hgl, ?_⟩
  have hset : ∀ b, b ≠ g → (w'.setCell ⟨g, 8, none⟩ (.slice (some ⟨g2, 0, none⟩) (p.text.length + 1) cap2)).heap[b]? = w'.heap[b]? := fun b hb => Below.heap_setCell w' _ _ b hb
  have hall : ∀ b, b ∈ blkL ov ++ (fo ++ fr) → (w'.setCell ⟨g, 8, none⟩ (.slice (some ⟨g2, 0, none⟩) (p.text.length + 1) cap2)).heap[b]? = w.heap[b]? := fun b hb => by
    obtain ⟨h1, h2, _⟩ := hg2 b (List.mem_append_right _ hb)
    refine (hset b (fun e => ?_)).trans (hkeep b h1 h2)
    have := (hmem b (by simp only [fpP, List.mem_append] at hb ⊢; rcases hb with hb | hb | hb <;> simp [hb])).1
    omega
  have hg2B : B ≤ g2 := (own_cap ho).2.2
  have hstg : St w' g (p.cells (.slice xo p.text.length co) ov rv) := h.st.same (by omega) (hkeep g hgl (hg2 g (by simp)).2.1)
  have htx : (txV p.text ++ [.int .u8 (b.toNat : Int)]) = txV (p.text ++ [b]) := by simp [txV]
  rw [htx] at ho
  refine ⟨fpP (.slice (some ⟨g2, 0, none⟩) (p.text.length + 1) cap2) ov fo fr, ⟨.slice (some ⟨g2, 0, none⟩) (p.text.length + 1) cap2, ov, rv, cs, fo, fr, ⟨(hstg.set 8 _ (by show 8 < 14; decide)).cast rfl, ?_, own_same h.op (fun b hb => hall b (by simp [hb])), OnS.same _ _ _ h.on (fun b hb => hall b (by simp [hb])), TrV.same _ _ _ h.ro (fun b hb => hall b (by simp [hb])), hgB, by rw [World.size_setCell]; omega, ?_⟩, rfl⟩, ⟨hg.os, hg.tape, hg.output, by rw [World.size_setCell]; omega, ?_⟩, ?_⟩
  · show World.ownsRow _ _ _ _ _ (p.text ++ [b]).length (txV (p.text ++ [b]))
    rw [List.length_append]
    exact own_same ho (fun b hb => hset b (fun e => by simp [blkL, Value.ownBlock] at hb; omega))
  · have h1 : (blkL ov ++ (fo ++ fr)).Nodup := (List.nodup_append.1 hnd).2.1
    exact List.nodup_append.2 ⟨by simp [blkL, Value.ownBlock], h1, fun x hx y hy e => by simp [blkL, Value.ownBlock] at hx; subst hx e; exact (hg2 _ (List.mem_append_right _ hy)).2.2 rfl⟩
  · intro b hb h1 h2
    exact (hset b h1).trans (hkeep b hb (fun hm => h2 (by simp [fpP, hm])))
  · intro b hb
    simp only [fpP, List.mem_append] at hb ⊢
    rcases hb with hb | hb | hb | hb
    · simp [blkL, Value.ownBlock] at hb
      subst hb
      rcases hat with hat | hat
      · exact Or.inl (Or.inl (by unfold blkL; rw [hat]; simp))
      · rw [World.size_alloc] at hat; exact Or.inr (by omega)
    · exact Or.inl (Or.inr (Or.inl hb))
    · exact Or.inl (Or.inr (Or.inr (Or.inl hb)))
    · exact Or.inl (Or.inr (Or.inr (Or.inr hb)))

/-- The word that came, as a string. -/
theorem PW.word {w : World} {g B : Nat} {p : PS} {fp : List Nat} (h : PW w g B p fp) : ∃ xo co, w.cell? ⟨g, 8, none⟩ = some (.slice xo p.text.length co) ∧ (convert 37 9 (.slice xo p.text.length co)).run Try.prog w = .ok (.string (NB.ba p.text)) w := by
  obtain ⟨tv, ov, rv, cs, fo, fr, h, rfl⟩ := h
  have c8 := h.st.get 8 _ rfl
  rcases h.tx.2 with ⟨e, e0⟩ | ⟨q, cap, cur, e, _, hh, _⟩
  · subst e
    refine ⟨none, 0, by rw [e0]; exact c8, ?_⟩
    have e1 : p.text = [] := List.eq_nil_of_length_eq_zero e0
    rw [e1]
    exact run_convert_bytes_nil w 37 5 undTB Try.underlying5 0 0 9 Try.underlying9
  · subst e
    refine ⟨some ⟨q, 0, none⟩, cap, c8, ?_⟩
    have hx := h.tx
    have r := run_string_row (P := Try.prog) (w := w) (src := 37) (dst := 9) (c := cap) undTB Try.underlying5 Try.underlying9 (f := bt (NB.ba p.text)) (g := q) (n := p.text.length) ⟨fun j hj => by
      rw [World.ownsRow.cellAt hx j (by omega)]
      unfold txV
      rw [List.getElem?_map, List.getElem?_eq_getElem hj]
      show some (Value.int .u8 _) = some (Value.int .u8 (bt (NB.ba p.text) j))
      rw [NB.bt_ba _ _ hj], fun j hj => World.ownsRow.frozenAt hx j⟩
    rw [r, ← NB.ba_size, strFn_bt]
/-- The word put away. -/
theorem PW.clear {w : World} {g B : Nat} {p : PS} {fp : List Nat} (h : PW w g B p fp) : PM w (w.setCell ⟨g, 8, none⟩ (.slice none 0 0)) g B fp (p.st []) := by
  obtain ⟨tv, ov, rv, cs, fo, fr, h, rfl⟩ := h
  have hmem := h.mem
  have hall : ∀ b, b ∈ blkL ov ++ (fo ++ fr) → (w.setCell ⟨g, 8, none⟩ (.slice none 0 0)).heap[b]? = w.heap[b]? := fun b hb => Below.heap_setCell w _ _ b (fun e => by
    have e : b = g := e
    have := (hmem b (by simp only [fpP, List.mem_append] at hb ⊢; rcases hb with hb | hb | hb <;> simp [hb])).1
    have := h.lt
    omega)
  refine ⟨fpP (.slice none 0 0) ov fo fr, ⟨.slice none 0 0, ov, rv, cs, fo, fr, ⟨(h.st.set 8 _ (by show 8 < 14; decide)).cast rfl, World.ownsRow_nil _ _ _ _, own_same h.op (fun b hb => hall b (by simp [hb])), OnS.same _ _ _ h.on (fun b hb => hall b (by simp [hb])), TrV.same _ _ _ h.ro (fun b hb => hall b (by simp [hb])), h.lt, by rw [World.size_setCell]; exact h.hB, ?_⟩, rfl⟩, (Ff.refl _ _ _).set g 8 _ (Or.inl rfl), ?_⟩
  · exact (List.nodup_append.1 h.nd).2.1
  · intro x hx
    simp only [fpP, blkL, Value.ownBlock, List.nil_append, List.mem_append] at hx ⊢
    rcases hx with hx | hx | hx
    · exact Or.inl (Or.inr (Or.inl hx))
    · exact Or.inl (Or.inr (Or.inr (Or.inl hx)))
    · exact Or.inl (Or.inr (Or.inr (Or.inr hx)))
end Go.Proofs.Ytljcbibcdajhiaa
