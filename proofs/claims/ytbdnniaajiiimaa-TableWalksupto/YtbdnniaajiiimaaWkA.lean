/- A table's walk whose rounds may change the table (own text of the verifier). -/
import Derived.Test.YtbdnniaajiiimaaTnS
import Derived.Test.YtbdnniaajiiimaaTuS
namespace Go.Proofs.Ytbdnniaajiiimaa
namespace TS
open Go.RowKit Go.Shelf
attribute [local go_sem] Oper.semAt_some

/-- As Below, but for the block X. -/
structure BX (n X : Nat) (a b : World) : Prop where
  os : b.os = a.os
  tape : b.tape = a.tape
  output : b.output = a.output
  size : a.heap.size ≤ b.heap.size
  block : ∀ k, k < n → k ≠ X → b.heap[k]? = a.heap[k]?
theorem BX.refl (n X : Nat) (w : World) : BX n X w w := ⟨rfl, rfl, rfl, Nat.le_refl _, fun _ _ _ => rfl⟩
theorem BX.trans {n X : Nat} {a b c : World} (h : BX n X a b) (k : BX n X b c) : BX n X a c :=
  ⟨k.os.trans h.os, k.tape.trans h.tape, k.output.trans h.output, Nat.le_trans h.size k.size, fun i h1 h2 => (k.block i h1 h2).trans (h.block i h1 h2)⟩
theorem BX.drew {n X : Nat} {a b : World} (h : BX n X a b) : BX n X a b.drew := h.trans ⟨rfl, rfl, rfl, Nat.le_refl _, fun _ _ _ => rfl⟩
theorem BX.cell {n X : Nat} {a b : World} (h : BX n X a b) {p : Addr} (hp : p.block < n ∧ p.block ≠ X) : b.cell? p = a.cell? p := World.cell?_of_block (w := a) (w' := b) (a := p) (h.block _ hp.1 hp.2)
theorem BX.of {n X : Nat} {a b : World} (h : Below n a b) : BX n X a b := ⟨h.os, h.tape, h.output, h.size, fun k hk _ => h.block k hk⟩
theorem BX.grown {n X : Nat} {a b : World} (g : a.grownBy b (some X)) (hn : n ≤ a.heap.size) : BX n X a b := ⟨g.os, g.tape, g.output, g.size, fun k h1 h2 => g.block k (Nat.lt_of_lt_of_le h1 hn) (fun e => h2 (Option.some.inj e))⟩
theorem bX_t {n X : Nat} {A B C : World} (h : BX n X A B) (k : BX n X B C) : BX n X A C := h.trans k
theorem bX_b {n X : Nat} {w : World} (hn : n ≤ w.heap.size) (W : World) (l : Nat) (o o' : Obj) (hl : w.heap.size ≤ l) (h : W.heap[l]? = some o) (h1 : o.isCells = false) (h2 : o.isWalk = false) : BX n X W (W.putObj l o') := BX.of (belowK_b hn W l o o' hl h h1 h2)

/-- The tree in memory, in blocks below n, none of them X. -/
def TrX (n X : Nat) (w : World) : BT ByteArray → Option Addr → Prop
  | .E, p => p = none
  | .N k v _ l r, p => ∃ g pl pr, p = some ⟨g, 0, none⟩ ∧ (g < n ∧ g ≠ X) ∧ w.cell? ⟨g, 0, none⟩ = some (Value.string k) ∧ w.cell? ⟨g, 1, none⟩ = some (.int .i64 v) ∧ w.cell? ⟨g, 3, none⟩ = some (.pointer pl) ∧ w.cell? ⟨g, 4, none⟩ = some (.pointer pr) ∧ TrX n X w l pl ∧ TrX n X w r pr
theorem TrX.below {n X : Nat} {w w' : World} {t : BT ByteArray} {p : Option Addr} (b : BX n X w w') (h : TrX n X w t p) : TrX n X w' t p := by
  induction t generalizing p with
  | E => exact h
  | N k v s l r il ir =>
    obtain ⟨g, pl, pr, e, hg, c0, c1, c3, c4, hl, hr⟩ := h
    exact ⟨g, pl, pr, e, hg, (b.cell (p := ⟨g, 0, none⟩) hg).trans c0, (b.cell (p := ⟨g, 1, none⟩) hg).trans c1, (b.cell (p := ⟨g, 3, none⟩) hg).trans c3, (b.cell (p := ⟨g, 4, none⟩) hg).trans c4, il hl, ir hr⟩
theorem Tr.bndX {w : World} {t : BT ByteArray} {p q : Option Addr} {X : Nat} (h : Tr w t p) (c : w.cell? ⟨X, 0, none⟩ = some (.pointer q)) : TrX w.heap.size X w t p := by
  induction t generalizing p with
  | E => exact h
  | N k v s l r il ir =>
    obtain ⟨g, pl, pr, e, c0, c1, c2, c3, c4, hl, hr⟩ := h
    exact ⟨g, pl, pr, e, ⟨World.block_lt_of_cell? _ _ c0, fun e => by rw [e, c] at c0; cases c0⟩, c0, c1, c3, c4, il hl, ir hr⟩

set_option maxRecDepth 100000 in
set_option maxHeartbeats 4000000 in
theorem walkX_in (F : Fence) (hd : F.depth = none) (h6 : F.fn 32) (hro : F.round = none) (l n₀ X M : Nat) (J Jx : List (ByteArray × Int) → World → Prop) (hJd : ∀ pre W, J pre W → J pre W.drew)
    (hY : ∀ m pre x W, J pre W → pre.length < M → YieldAt F m Try.prog l #[Value.string x.1, .int .i64 x.2] W fun e W' =>
      (e = .returned (.bool true) ∧ J (pre ++ [x]) W' ∧ BX n₀ X W W') ∨ (e = .returned (.bool false) ∧ Jx (pre ++ [x]) W')) (T : BT ByteArray) :
    ∀ (n : Nat) (p : Option Addr) (pre : List (ByteArray × Int)) (W : World), TrX n₀ X W T p → J pre W → pre.length + T.toL.length ≤ M →
      CallsIn F n Try.prog 32 #[.pointer p, .func (.yield l) #[] #[]] W fun e W' =>
        (e = .returned (.bool true) ∧ J (pre ++ T.toL) W' ∧ BX n₀ X W W') ∨ (e = .returned (.bool false) ∧ ∃ q, q <+: T.toL ∧ Jx (pre ++ q) W') := by
  induction T with
  | E =>
    intro n p pre W ht hJ _
    obtain rfl : p = none := ht
    refine callsIn_of_wp Try.func32 rfl h6 ?_ hro
    simp only [Try.ntmps32, List.size_toArray, List.length_cons, List.length_nil, Nat.reduceAdd, Nat.reduceSub, Array.replicate_succ, Array.replicate_zero, List.push_toArray, List.append_toArray, List.nil_append, List.cons_append]
    gi_wp2
    have hmx : Try.prog.follows .mixedOrders = true := by kernel_rfl
    -- @1
    refine wpIn_region_any (by kernel_rfl) ?_
    refine wpAnyIn_take (i := 0) (oi := { dst := some 5, op := Op.move (Operand.tmp 0), type := 48, pos := "node.go:121", after := #[], guard := none }) (v := .pointer none) hro rfl (by kernel_rfl) (by kernel_rfl) (by kernel_rfl) (fun _ _ _ h => h) ⟨Or.inl ⟨by rfl, by intro w; go_simp⟩, fun _ => rfl⟩ ?_
    simp only [Act.put, List.setIfInBounds_toArray, List.set_cons_zero, List.set_cons_succ]
    refine wpAnyIn_take (i := 1) (oi := { dst := some 6, op := Op.binOp BinOp.eql 48 (Operand.tmp 5) (Operand.const (Value.pointer none)) 48, type := 4, pos := "node.go:121", after := #[{ on := 0, ground := Ground.data }], guard := none }) (v := .bool true) hro rfl (by kernel_rfl) (by kernel_rfl) (by kernel_rfl) (fun _ _ _ h => h) ⟨Or.inl ⟨by rfl, by intro w; go_simp⟩, fun _ => rfl⟩ ?_
    simp only [Act.put, List.setIfInBounds_toArray, List.set_cons_zero, List.set_cons_succ]
    refine wpAnyIn_take (i := 2) (oi := { dst := some 7, op := Op.move (Operand.tmp 6), type := 4, pos := "node.go:121", after := #[{ on := 1, ground := Ground.data }], guard := none }) (v := .bool true) hro rfl (by kernel_rfl) (by kernel_rfl) (by kernel_rfl) (fun _ _ _ h => h) ⟨Or.inl ⟨by rfl, by intro w; go_simp⟩, fun _ => rfl⟩ ?_
    simp only [Act.put, List.setIfInBounds_toArray, List.set_cons_zero, List.set_cons_succ]
    refine wpAnyIn_take (i := 3) (oi := { dst := some 8, op := Op.move (Operand.tmp 0), type := 48, pos := "node.go:121", after := #[{ on := 2, ground := Ground.guard }], guard := some (2, false) }) (v := undef) hro rfl (by kernel_rfl) (by kernel_rfl) (by kernel_rfl) (fun _ _ _ h => h) ⟨Or.inr ⟨by rfl, rfl⟩, fun _ => rfl⟩ ?_
    simp only [Act.put, List.setIfInBounds_toArray, List.set_cons_zero, List.set_cons_succ]
    refine wpAnyIn_take (i := 4) (oi := { dst := some 9, op := Op.nilCheck (Operand.tmp 8), type := 0, pos := "node.go:121", after := #[{ on := 3, ground := Ground.data }, { on := 2, ground := Ground.guard }], guard := some (2, false) }) (v := undef) hro rfl (by kernel_rfl) (by kernel_rfl) (by kernel_rfl) (fun _ _ _ h => h) ⟨Or.inr ⟨by rfl, rfl⟩, fun _ => rfl⟩ ?_
    simp only [Act.put, List.setIfInBounds_toArray, List.set_cons_zero, List.set_cons_succ]
    refine wpAnyIn_take (i := 5) (oi := { dst := some 10, op := Op.fieldAddr 60 (Operand.tmp 9) 3, type := 0, pos := "node.go:121", after := #[{ on := 4, ground := Ground.data }, { on := 2, ground := Ground.guard }], guard := some (2, false) }) (v := undef) hro rfl (by kernel_rfl) (by kernel_rfl) (by kernel_rfl) (fun _ _ _ h => h) ⟨Or.inr ⟨by rfl, rfl⟩, fun _ => rfl⟩ ?_
    simp only [Act.put, List.setIfInBounds_toArray, List.set_cons_zero, List.set_cons_succ]
    refine wpAnyIn_take (i := 6) (oi := { dst := some 11, op := Op.load 48 (Operand.tmp 10), type := 48, pos := "node.go:121", after := #[{ on := 5, ground := Ground.data }, { on := 2, ground := Ground.guard }], guard := some (2, false) }) (v := undef) hro rfl (by kernel_rfl) (by kernel_rfl) (by kernel_rfl) (fun _ _ _ h => h) ⟨Or.inr ⟨by rfl, rfl⟩, fun _ => rfl⟩ ?_
    simp only [Act.put, List.setIfInBounds_toArray, List.set_cons_zero, List.set_cons_succ]
    refine wpAnyIn_take (i := 7) (oi := { dst := some 12, op := Op.move (Operand.tmp 1), type := 28, pos := "node.go:121", after := #[{ on := 2, ground := Ground.guard }], guard := some (2, false) }) (v := undef) hro rfl (by kernel_rfl) (by kernel_rfl) (by kernel_rfl) (fun _ _ _ h => h) ⟨Or.inr ⟨by rfl, rfl⟩, fun _ => rfl⟩ ?_
    simp only [Act.put, List.setIfInBounds_toArray, List.set_cons_zero, List.set_cons_succ]
    -- @2
    refine wpAnyIn_ready (rs := [8]) (by kernel_rfl) (by decide) (AllReadyIn.cons (o := { dst := some 13, op := Op.call { callee := Callee.value (Operand.func 32), args := #[Operand.tmp 11, Operand.tmp 12], argTypes := #[48, 28] }, type := 4, pos := "node.go:121", after := #[{ on := 6, ground := Ground.data }, { on := 7, ground := Ground.data }, { on := 2, ground := Ground.chain }, { on := 2, ground := Ground.guard }], guard := some (2, false) }) rfl (fun K hK => ?_) AllReadyIn.nil)
    rw [if_neg (by rw [show Region.wanted _ _ = false from rfl]; decide)]
    refine ⟨fun f hf => by cases hf; exact h6, hK _ _ ?_⟩
    clear hK K
    try simp only [Act.put, List.setIfInBounds_toArray, List.set_cons_zero, List.set_cons_succ]
    -- @3
    refine wpAnyIn_take (i := 9) (oi := { dst := some 14, op := Op.move (Operand.tmp 13), type := 4, pos := "node.go:121", after := #[{ on := 8, ground := Ground.data }, { on := 8, ground := Ground.chain }, { on := 2, ground := Ground.guard }], guard := some (2, false) }) (v := undef) hro rfl (by kernel_rfl) (by kernel_rfl) (by kernel_rfl) (fun _ _ _ h => h) ⟨Or.inr ⟨by rfl, rfl⟩, fun _ => rfl⟩ ?_
    simp only [Act.put, List.setIfInBounds_toArray, List.set_cons_zero, List.set_cons_succ]
    refine wpAnyIn_take (i := 10) (oi := { dst := some 15, op := Op.move (Operand.tmp 1), type := 28, pos := "node.go:121", after := #[{ on := 9, ground := Ground.guard }], guard := some (9, true) }) (v := undef) hro rfl (by kernel_rfl) (by kernel_rfl) (by kernel_rfl) (fun _ _ _ h => h) ⟨Or.inr ⟨by rfl, rfl⟩, fun _ => rfl⟩ ?_
    simp only [Act.put, List.setIfInBounds_toArray, List.set_cons_zero, List.set_cons_succ]
    refine wpAnyIn_take (i := 11) (oi := { dst := some 16, op := Op.move (Operand.tmp 0), type := 48, pos := "node.go:121", after := #[{ on := 9, ground := Ground.guard }], guard := some (9, true) }) (v := undef) hro rfl (by kernel_rfl) (by kernel_rfl) (by kernel_rfl) (fun _ _ _ h => h) ⟨Or.inr ⟨by rfl, rfl⟩, fun _ => rfl⟩ ?_
    simp only [Act.put, List.setIfInBounds_toArray, List.set_cons_zero, List.set_cons_succ]
    refine wpAnyIn_take (i := 12) (oi := { dst := some 17, op := Op.nilCheck (Operand.tmp 16), type := 0, pos := "node.go:121", after := #[{ on := 11, ground := Ground.data }, { on := 9, ground := Ground.guard }], guard := some (9, true) }) (v := undef) hro rfl (by kernel_rfl) (by kernel_rfl) (by kernel_rfl) (fun _ _ _ h => h) ⟨Or.inr ⟨by rfl, rfl⟩, fun _ => rfl⟩ ?_
    simp only [Act.put, List.setIfInBounds_toArray, List.set_cons_zero, List.set_cons_succ]
    refine wpAnyIn_take (i := 13) (oi := { dst := some 18, op := Op.fieldAddr 60 (Operand.tmp 17) 0, type := 0, pos := "node.go:121", after := #[{ on := 12, ground := Ground.data }, { on := 9, ground := Ground.guard }], guard := some (9, true) }) (v := undef) hro rfl (by kernel_rfl) (by kernel_rfl) (by kernel_rfl) (fun _ _ _ h => h) ⟨Or.inr ⟨by rfl, rfl⟩, fun _ => rfl⟩ ?_
    simp only [Act.put, List.setIfInBounds_toArray, List.set_cons_zero, List.set_cons_succ]
    refine wpAnyIn_take (i := 14) (oi := { dst := some 19, op := Op.load 9 (Operand.tmp 18), type := 9, pos := "node.go:121", after := #[{ on := 13, ground := Ground.data }, { on := 9, ground := Ground.guard }], guard := some (9, true) }) (v := undef) hro rfl (by kernel_rfl) (by kernel_rfl) (by kernel_rfl) (fun _ _ _ h => h) ⟨Or.inr ⟨by rfl, rfl⟩, fun _ => rfl⟩ ?_
    simp only [Act.put, List.setIfInBounds_toArray, List.set_cons_zero, List.set_cons_succ]
    refine wpAnyIn_take (i := 15) (oi := { dst := some 20, op := Op.move (Operand.tmp 0), type := 48, pos := "node.go:121", after := #[{ on := 9, ground := Ground.guard }], guard := some (9, true) }) (v := undef) hro rfl (by kernel_rfl) (by kernel_rfl) (by kernel_rfl) (fun _ _ _ h => h) ⟨Or.inr ⟨by rfl, rfl⟩, fun _ => rfl⟩ ?_
    simp only [Act.put, List.setIfInBounds_toArray, List.set_cons_zero, List.set_cons_succ]
    refine wpAnyIn_take (i := 16) (oi := { dst := some 21, op := Op.nilCheck (Operand.tmp 20), type := 0, pos := "node.go:121", after := #[{ on := 15, ground := Ground.data }, { on := 9, ground := Ground.guard }], guard := some (9, true) }) (v := undef) hro rfl (by kernel_rfl) (by kernel_rfl) (by kernel_rfl) (fun _ _ _ h => h) ⟨Or.inr ⟨by rfl, rfl⟩, fun _ => rfl⟩ ?_
    simp only [Act.put, List.setIfInBounds_toArray, List.set_cons_zero, List.set_cons_succ]
    refine wpAnyIn_take (i := 17) (oi := { dst := some 22, op := Op.fieldAddr 60 (Operand.tmp 21) 1, type := 0, pos := "node.go:121", after := #[{ on := 16, ground := Ground.data }, { on := 9, ground := Ground.guard }], guard := some (9, true) }) (v := undef) hro rfl (by kernel_rfl) (by kernel_rfl) (by kernel_rfl) (fun _ _ _ h => h) ⟨Or.inr ⟨by rfl, rfl⟩, fun _ => rfl⟩ ?_
    simp only [Act.put, List.setIfInBounds_toArray, List.set_cons_zero, List.set_cons_succ]
    refine wpAnyIn_take (i := 18) (oi := { dst := some 23, op := Op.load 3 (Operand.tmp 22), type := 3, pos := "node.go:121", after := #[{ on := 17, ground := Ground.data }, { on := 9, ground := Ground.guard }], guard := some (9, true) }) (v := undef) hro rfl (by kernel_rfl) (by kernel_rfl) (by kernel_rfl) (fun _ _ _ h => h) ⟨Or.inr ⟨by rfl, rfl⟩, fun _ => rfl⟩ ?_
    simp only [Act.put, List.setIfInBounds_toArray, List.set_cons_zero, List.set_cons_succ]
    refine wpAnyIn_take (i := 19) (oi := { dst := some 24, op := Op.call { callee := Callee.value (Operand.tmp 15), args := #[Operand.tmp 19, Operand.tmp 23], argTypes := #[9, 3] }, type := 4, pos := "node.go:121", after := #[{ on := 10, ground := Ground.data }, { on := 14, ground := Ground.data }, { on := 18, ground := Ground.data }, { on := 9, ground := Ground.chain }, { on := 9, ground := Ground.guard }], guard := some (9, true) }) (v := undef) hro rfl (by kernel_rfl) (by kernel_rfl) (by kernel_rfl) (fun _ _ _ h => h) ⟨Or.inr ⟨by rfl, rfl⟩, fun _ => rfl⟩ ?_
    simp only [Act.put, List.setIfInBounds_toArray, List.set_cons_zero, List.set_cons_succ]
    refine wpAnyIn_take (i := 20) (oi := { dst := some 25, op := Op.pick (Operand.tmp 14) (Operand.tmp 24) (Operand.const (Value.bool false)), type := 4, pos := "node.go:121", after := #[{ on := 9, ground := Ground.data }, { on := 19, ground := Ground.data }, { on := 2, ground := Ground.guard }], guard := some (2, false) }) (v := undef) hro rfl (by kernel_rfl) (by kernel_rfl) (by kernel_rfl) (fun _ _ _ h => h) ⟨Or.inr ⟨by rfl, rfl⟩, fun _ => rfl⟩ ?_
    simp only [Act.put, List.setIfInBounds_toArray, List.set_cons_zero, List.set_cons_succ]
    refine wpAnyIn_take (i := 21) (oi := { dst := some 26, op := Op.move (Operand.tmp 25), type := 4, pos := "node.go:121", after := #[{ on := 20, ground := Ground.data }, { on := 19, ground := Ground.chain }, { on := 2, ground := Ground.guard }], guard := some (2, false) }) (v := undef) hro rfl (by kernel_rfl) (by kernel_rfl) (by kernel_rfl) (fun _ _ _ h => h) ⟨Or.inr ⟨by rfl, rfl⟩, fun _ => rfl⟩ ?_
    simp only [Act.put, List.setIfInBounds_toArray, List.set_cons_zero, List.set_cons_succ]
    refine wpAnyIn_take (i := 22) (oi := { dst := some 27, op := Op.move (Operand.tmp 0), type := 48, pos := "node.go:121", after := #[{ on := 21, ground := Ground.guard }], guard := some (21, true) }) (v := undef) hro rfl (by kernel_rfl) (by kernel_rfl) (by kernel_rfl) (fun _ _ _ h => h) ⟨Or.inr ⟨by rfl, rfl⟩, fun _ => rfl⟩ ?_
    simp only [Act.put, List.setIfInBounds_toArray, List.set_cons_zero, List.set_cons_succ]
    refine wpAnyIn_take (i := 23) (oi := { dst := some 28, op := Op.nilCheck (Operand.tmp 27), type := 0, pos := "node.go:121", after := #[{ on := 22, ground := Ground.data }, { on := 21, ground := Ground.guard }], guard := some (21, true) }) (v := undef) hro rfl (by kernel_rfl) (by kernel_rfl) (by kernel_rfl) (fun _ _ _ h => h) ⟨Or.inr ⟨by rfl, rfl⟩, fun _ => rfl⟩ ?_
    simp only [Act.put, List.setIfInBounds_toArray, List.set_cons_zero, List.set_cons_succ]
    refine wpAnyIn_take (i := 24) (oi := { dst := some 29, op := Op.fieldAddr 60 (Operand.tmp 28) 4, type := 0, pos := "node.go:121", after := #[{ on := 23, ground := Ground.data }, { on := 21, ground := Ground.guard }], guard := some (21, true) }) (v := undef) hro rfl (by kernel_rfl) (by kernel_rfl) (by kernel_rfl) (fun _ _ _ h => h) ⟨Or.inr ⟨by rfl, rfl⟩, fun _ => rfl⟩ ?_
    simp only [Act.put, List.setIfInBounds_toArray, List.set_cons_zero, List.set_cons_succ]
    refine wpAnyIn_take (i := 25) (oi := { dst := some 30, op := Op.load 48 (Operand.tmp 29), type := 48, pos := "node.go:121", after := #[{ on := 24, ground := Ground.data }, { on := 21, ground := Ground.guard }], guard := some (21, true) }) (v := undef) hro rfl (by kernel_rfl) (by kernel_rfl) (by kernel_rfl) (fun _ _ _ h => h) ⟨Or.inr ⟨by rfl, rfl⟩, fun _ => rfl⟩ ?_
    simp only [Act.put, List.setIfInBounds_toArray, List.set_cons_zero, List.set_cons_succ]
    refine wpAnyIn_take (i := 26) (oi := { dst := some 31, op := Op.move (Operand.tmp 1), type := 28, pos := "node.go:121", after := #[{ on := 21, ground := Ground.guard }], guard := some (21, true) }) (v := undef) hro rfl (by kernel_rfl) (by kernel_rfl) (by kernel_rfl) (fun _ _ _ h => h) ⟨Or.inr ⟨by rfl, rfl⟩, fun _ => rfl⟩ ?_
    simp only [Act.put, List.setIfInBounds_toArray, List.set_cons_zero, List.set_cons_succ]
    -- @4
    refine wpAnyIn_ready (rs := [27]) (by kernel_rfl) (by decide) (AllReadyIn.cons (o := { dst := some 32, op := Op.call { callee := Callee.value (Operand.func 32), args := #[Operand.tmp 30, Operand.tmp 31], argTypes := #[48, 28] }, type := 4, pos := "node.go:121", after := #[{ on := 25, ground := Ground.data }, { on := 26, ground := Ground.data }, { on := 21, ground := Ground.chain }, { on := 21, ground := Ground.guard }], guard := some (21, true) }) rfl (fun K hK => ?_) AllReadyIn.nil)
    rw [if_neg (by rw [show Region.wanted _ _ = false from rfl]; decide)]
    refine ⟨fun f hf => by cases hf; exact h6, hK _ _ ?_⟩
    clear hK K
    try simp only [Act.put, List.setIfInBounds_toArray, List.set_cons_zero, List.set_cons_succ]
    refine wpAnyIn_take (i := 28) (oi := { dst := some 33, op := Op.pick (Operand.tmp 26) (Operand.tmp 32) (Operand.const (Value.bool false)), type := 4, pos := "node.go:121", after := #[{ on := 21, ground := Ground.data }, { on := 27, ground := Ground.data }, { on := 2, ground := Ground.guard }], guard := some (2, false) }) (v := undef) hro rfl (by kernel_rfl) (by kernel_rfl) (by kernel_rfl) (fun _ _ _ h => h) ⟨Or.inr ⟨by rfl, rfl⟩, fun _ => rfl⟩ ?_
    simp only [Act.put, List.setIfInBounds_toArray, List.set_cons_zero, List.set_cons_succ]
    refine wpAnyIn_take (i := 29) (oi := { dst := some 34, op := Op.pick (Operand.tmp 7) (Operand.const (Value.bool true)) (Operand.tmp 33), type := 4, pos := "node.go:121", after := #[{ on := 2, ground := Ground.data }, { on := 28, ground := Ground.data }], guard := none }) (v := .bool true) hro rfl (by kernel_rfl) (by kernel_rfl) (by kernel_rfl) (fun _ _ _ h => h) ⟨Or.inl ⟨by rfl, by intro w; go_simp⟩, fun _ => rfl⟩ ?_
    simp only [Act.put, List.setIfInBounds_toArray, List.set_cons_zero, List.set_cons_succ]
    -- @5
    refine wpAnyIn_ready (rs := [30]) (by kernel_rfl) (by decide) (AllReadyIn.cons rfl (fun K hK => ?_) AllReadyIn.nil)
    rw [if_pos (by rfl)]
    go_simp
    refine hK _ _ ?_
    clear hK K
    try simp only [Act.put, List.setIfInBounds_toArray, List.set_cons_zero, List.set_cons_succ]
    refine wpAnyIn_done (by kernel_rfl) ?_ _
    gi_wp2
    go_ret
    exact .inl ⟨rfl, by simpa [BT.toL] using hJd _ _ hJ, (BX.refl _ _ _).drew⟩
  | N k v s tl tr ihl ihr =>
    intro n p pre W ht hJ hN
    obtain ⟨b, pl, pr, rfl, hb, c0, c1, c3, c4, hl, hr⟩ := ht
    have hdd : ∀ k : Nat, (F.depth.isSome = true → 1 ≤ k) := fun k h => by rw [hd] at h; cases h
    simp only [BT.toL, List.length_append, List.length_cons] at hN
    have bdw : BX n₀ X W W.drew := (BX.refl _ _ _).drew
    have hy2 : ∀ W1, J (pre ++ tl.toL) W1 → BX n₀ X W W1 → YieldAt F (n - 1) Try.prog l #[Value.string k, .int .i64 v] W1 fun e W2 =>
        (e = .returned (.bool true) ∧ J (pre ++ tl.toL ++ [(k, v)]) W2 ∧ BX n₀ X W W2 ∧ W2.cell? ⟨b, 4, none⟩ = some (.pointer pr) ∧ TrX n₀ X W2 tr pr) ∨ (e = .returned (.bool false) ∧ Jx (pre ++ tl.toL ++ [(k, v)]) W2) := fun W1 hJ1 hb1 =>
      YieldAt.mono (hY (n - 1) _ (k, v) W1 hJ1 (by simp; omega)) fun e W2 h => h.elim
        (fun ⟨he, hj, hb2⟩ => .inl ⟨he, hj, hb1.trans hb2, ((hb1.trans hb2).cell (p := ⟨b, 4, none⟩) hb).trans c4, hr.below (hb1.trans hb2)⟩) .inr
    have ih1 := (ihl (n - 1) pl pre W.drew (hl.below bdw) (hJd _ _ hJ) (by omega)).mono (R' := fun e W1 =>
        (e = .returned (.bool true) ∧ W1.cell? ⟨b, 0, none⟩ = some (Value.string k) ∧ W1.cell? ⟨b, 1, none⟩ = some (.int .i64 v) ∧ YieldAt F (n - 1) Try.prog l #[Value.string k, .int .i64 v] W1 fun e W2 =>
          (e = .returned (.bool true) ∧ J (pre ++ tl.toL ++ [(k, v)]) W2 ∧ BX n₀ X W W2 ∧ W2.cell? ⟨b, 4, none⟩ = some (.pointer pr) ∧ TrX n₀ X W2 tr pr) ∨ (e = .returned (.bool false) ∧ Jx (pre ++ tl.toL ++ [(k, v)]) W2)) ∨
        (e = .returned (.bool false) ∧ ∃ q, q <+: tl.toL ∧ Jx (pre ++ q) W1))
      (fun e W1 h => h.elim (fun ⟨he, hj, hb1⟩ => .inl ⟨he, ((bdw.trans hb1).cell (p := ⟨b, 0, none⟩) hb).trans c0, ((bdw.trans hb1).cell (p := ⟨b, 1, none⟩) hb).trans c1, hy2 W1 hj (bdw.trans hb1)⟩) .inr)
    clear hy2 ihl
    refine callsIn_of_wp Try.func32 rfl h6 ?_ hro
    simp only [Try.ntmps32, List.size_toArray, List.length_cons, List.length_nil, Nat.reduceAdd, Nat.reduceSub, Array.replicate_succ, Array.replicate_zero, List.push_toArray, List.append_toArray, List.nil_append, List.cons_append]
    gi_wp2
    have d3 : W.drew.cell? ⟨b, 3, none⟩ = some (.pointer pl) := c3
    refine wpIn_region_any (by kernel_rfl) ?_
    show wpAnyIn _ _ _ _ _ _ _ _ _ W.drew
    refine wpAnyIn_take (i := 0) (oi := { dst := some 5, op := Op.move (Operand.tmp 0), type := 48, pos := "node.go:121", after := #[], guard := none }) (v := .pointer (some ⟨b, 0, none⟩)) hro rfl (by kernel_rfl) (by kernel_rfl) (by kernel_rfl) (fun _ _ _ h => h) ⟨Or.inl ⟨by rfl, by intro w; go_simp⟩, fun _ => rfl⟩ ?_
    simp only [Act.put, List.setIfInBounds_toArray, List.set_cons_zero, List.set_cons_succ]
    refine wpAnyIn_take (i := 1) (oi := { dst := some 6, op := Op.binOp BinOp.eql 48 (Operand.tmp 5) (Operand.const (Value.pointer none)) 48, type := 4, pos := "node.go:121", after := #[{ on := 0, ground := Ground.data }], guard := none }) (v := .bool false) hro rfl (by kernel_rfl) (by kernel_rfl) (by kernel_rfl) (fun _ _ _ h => h) ⟨Or.inl ⟨by rfl, by intro w; go_simp⟩, fun _ => rfl⟩ ?_
    simp only [Act.put, List.setIfInBounds_toArray, List.set_cons_zero, List.set_cons_succ]
    refine wpAnyIn_take (i := 2) (oi := { dst := some 7, op := Op.move (Operand.tmp 6), type := 4, pos := "node.go:121", after := #[{ on := 1, ground := Ground.data }], guard := none }) (v := .bool false) hro rfl (by kernel_rfl) (by kernel_rfl) (by kernel_rfl) (fun _ _ _ h => h) ⟨Or.inl ⟨by rfl, by intro w; go_simp⟩, fun _ => rfl⟩ ?_
    simp only [Act.put, List.setIfInBounds_toArray, List.set_cons_zero, List.set_cons_succ]
    refine wpAnyIn_take (i := 3) (oi := { dst := some 8, op := Op.move (Operand.tmp 0), type := 48, pos := "node.go:121", after := #[{ on := 2, ground := Ground.guard }], guard := some (2, false) }) (v := .pointer (some ⟨b, 0, none⟩)) hro rfl (by kernel_rfl) (by kernel_rfl) (by kernel_rfl) (fun _ _ _ h => h) ⟨Or.inl ⟨by rfl, by intro w; go_simp⟩, fun _ => rfl⟩ ?_
    simp only [Act.put, List.setIfInBounds_toArray, List.set_cons_zero, List.set_cons_succ]
    refine wpAnyIn_take (i := 4) (oi := { dst := some 9, op := Op.nilCheck (Operand.tmp 8), type := 0, pos := "node.go:121", after := #[{ on := 3, ground := Ground.data }, { on := 2, ground := Ground.guard }], guard := some (2, false) }) (v := .pointer (some ⟨b, 0, none⟩)) hro rfl (by kernel_rfl) (by kernel_rfl) (by kernel_rfl) (fun _ _ _ h => h) ⟨Or.inl ⟨by rfl, by intro w; go_simp⟩, fun _ => rfl⟩ ?_
    simp only [Act.put, List.setIfInBounds_toArray, List.set_cons_zero, List.set_cons_succ]
    refine wpAnyIn_take (i := 5) (oi := { dst := some 10, op := Op.fieldAddr 60 (Operand.tmp 9) 3, type := 0, pos := "node.go:121", after := #[{ on := 4, ground := Ground.data }, { on := 2, ground := Ground.guard }], guard := some (2, false) }) (v := .pointer (some ⟨b, 3, none⟩)) hro rfl (by kernel_rfl) (by kernel_rfl) (by kernel_rfl) (fun _ _ _ h => h) ⟨Or.inl ⟨by rfl, by intro w; go_simp⟩, fun _ => rfl⟩ ?_
    simp only [Act.put, List.setIfInBounds_toArray, List.set_cons_zero, List.set_cons_succ]
    refine wpAnyIn_take (i := 7) (oi := { dst := some 12, op := Op.move (Operand.tmp 1), type := 28, pos := "node.go:121", after := #[{ on := 2, ground := Ground.guard }], guard := some (2, false) }) (v := .func (.yield l) #[] #[]) hro rfl (by kernel_rfl) (by kernel_rfl) (by kernel_rfl) (fun _ _ _ h => h) ⟨Or.inl ⟨by rfl, by intro w; go_simp⟩, fun _ => rfl⟩ ?_
    simp only [Act.put, List.setIfInBounds_toArray, List.set_cons_zero, List.set_cons_succ]
    -- @6
    refine wpAnyIn_ready (rs := [6]) (by kernel_rfl) (by decide) (AllReadyIn.cons (o := { dst := some 11, op := Op.load 48 (Operand.tmp 10), type := 48, pos := "node.go:121", after := #[{ on := 5, ground := Ground.data }, { on := 2, ground := Ground.guard }], guard := some (2, false) }) rfl (fun K hK => ?_) AllReadyIn.nil)
    rw [if_pos (by rfl)]
    go_simp
    refine hK _ _ ?_
    clear hK K
    try simp only [Act.put, List.setIfInBounds_toArray, List.set_cons_zero, List.set_cons_succ]
    -- @7
    refine wpAnyIn_ready (rs := [8]) (by kernel_rfl) (by decide) (AllReadyIn.cons (o := { dst := some 13, op := Op.call { callee := Callee.value (Operand.func 32), args := #[Operand.tmp 11, Operand.tmp 12], argTypes := #[48, 28] }, type := 4, pos := "node.go:121", after := #[{ on := 6, ground := Ground.data }, { on := 7, ground := Ground.data }, { on := 2, ground := Ground.chain }, { on := 2, ground := Ground.guard }], guard := some (2, false) }) rfl (fun K hK => ?_) AllReadyIn.nil)
    rw [if_pos (by rfl)]
    go_simp
    try refine ⟨hdd _, ?_⟩
    try gi_at_call 32
    refine ih1.mono ?_
    clear ih1
    rintro e W1 (⟨rfl, c0', c1', fn, tmps, assign, body, hy, hR⟩ | ⟨rfl, q, hq, hx1⟩)
    · first | (refine hK _ _ ?_; clear hK K) | gi_wp2
      try (refine hK _ _ ?_; clear hK K)
      try simp only [Act.put, List.setIfInBounds_toArray, List.set_cons_zero, List.set_cons_succ]
      -- @8
      refine wpAnyIn_take (i := 9) (oi := { dst := some 14, op := Op.move (Operand.tmp 13), type := 4, pos := "node.go:121", after := #[{ on := 8, ground := Ground.data }, { on := 8, ground := Ground.chain }, { on := 2, ground := Ground.guard }], guard := some (2, false) }) (v := .bool true) hro rfl (by kernel_rfl) (by kernel_rfl) (by kernel_rfl) (fun _ _ _ h => h) ⟨Or.inl ⟨by rfl, by intro w; go_simp⟩, fun _ => rfl⟩ ?_
      simp only [Act.put, List.setIfInBounds_toArray, List.set_cons_zero, List.set_cons_succ]
      refine wpAnyIn_take (i := 10) (oi := { dst := some 15, op := Op.move (Operand.tmp 1), type := 28, pos := "node.go:121", after := #[{ on := 9, ground := Ground.guard }], guard := some (9, true) }) (v := .func (.yield l) #[] #[]) hro rfl (by kernel_rfl) (by kernel_rfl) (by kernel_rfl) (fun _ _ _ h => h) ⟨Or.inl ⟨by rfl, by intro w; go_simp⟩, fun _ => rfl⟩ ?_
      simp only [Act.put, List.setIfInBounds_toArray, List.set_cons_zero, List.set_cons_succ]
      refine wpAnyIn_take (i := 11) (oi := { dst := some 16, op := Op.move (Operand.tmp 0), type := 48, pos := "node.go:121", after := #[{ on := 9, ground := Ground.guard }], guard := some (9, true) }) (v := .pointer (some ⟨b, 0, none⟩)) hro rfl (by kernel_rfl) (by kernel_rfl) (by kernel_rfl) (fun _ _ _ h => h) ⟨Or.inl ⟨by rfl, by intro w; go_simp⟩, fun _ => rfl⟩ ?_
      simp only [Act.put, List.setIfInBounds_toArray, List.set_cons_zero, List.set_cons_succ]
      refine wpAnyIn_take (i := 12) (oi := { dst := some 17, op := Op.nilCheck (Operand.tmp 16), type := 0, pos := "node.go:121", after := #[{ on := 11, ground := Ground.data }, { on := 9, ground := Ground.guard }], guard := some (9, true) }) (v := .pointer (some ⟨b, 0, none⟩)) hro rfl (by kernel_rfl) (by kernel_rfl) (by kernel_rfl) (fun _ _ _ h => h) ⟨Or.inl ⟨by rfl, by intro w; go_simp⟩, fun _ => rfl⟩ ?_
      simp only [Act.put, List.setIfInBounds_toArray, List.set_cons_zero, List.set_cons_succ]
      refine wpAnyIn_take (i := 13) (oi := { dst := some 18, op := Op.fieldAddr 60 (Operand.tmp 17) 0, type := 0, pos := "node.go:121", after := #[{ on := 12, ground := Ground.data }, { on := 9, ground := Ground.guard }], guard := some (9, true) }) (v := .pointer (some ⟨b, 0, none⟩)) hro rfl (by kernel_rfl) (by kernel_rfl) (by kernel_rfl) (fun _ _ _ h => h) ⟨Or.inl ⟨by rfl, by intro w; go_simp⟩, fun _ => rfl⟩ ?_
      simp only [Act.put, List.setIfInBounds_toArray, List.set_cons_zero, List.set_cons_succ]
      refine wpAnyIn_take (i := 15) (oi := { dst := some 20, op := Op.move (Operand.tmp 0), type := 48, pos := "node.go:121", after := #[{ on := 9, ground := Ground.guard }], guard := some (9, true) }) (v := .pointer (some ⟨b, 0, none⟩)) hro rfl (by kernel_rfl) (by kernel_rfl) (by kernel_rfl) (fun _ _ _ h => h) ⟨Or.inl ⟨by rfl, by intro w; go_simp⟩, fun _ => rfl⟩ ?_
      simp only [Act.put, List.setIfInBounds_toArray, List.set_cons_zero, List.set_cons_succ]
      refine wpAnyIn_take (i := 16) (oi := { dst := some 21, op := Op.nilCheck (Operand.tmp 20), type := 0, pos := "node.go:121", after := #[{ on := 15, ground := Ground.data }, { on := 9, ground := Ground.guard }], guard := some (9, true) }) (v := .pointer (some ⟨b, 0, none⟩)) hro rfl (by kernel_rfl) (by kernel_rfl) (by kernel_rfl) (fun _ _ _ h => h) ⟨Or.inl ⟨by rfl, by intro w; go_simp⟩, fun _ => rfl⟩ ?_
      simp only [Act.put, List.setIfInBounds_toArray, List.set_cons_zero, List.set_cons_succ]
      refine wpAnyIn_take (i := 17) (oi := { dst := some 22, op := Op.fieldAddr 60 (Operand.tmp 21) 1, type := 0, pos := "node.go:121", after := #[{ on := 16, ground := Ground.data }, { on := 9, ground := Ground.guard }], guard := some (9, true) }) (v := .pointer (some ⟨b, 1, none⟩)) hro rfl (by kernel_rfl) (by kernel_rfl) (by kernel_rfl) (fun _ _ _ h => h) ⟨Or.inl ⟨by rfl, by intro w; go_simp⟩, fun _ => rfl⟩ ?_
      simp only [Act.put, List.setIfInBounds_toArray, List.set_cons_zero, List.set_cons_succ]
      -- @9
      refine wpAnyIn_ready (rs := [14, 18]) (by kernel_rfl) (by decide) (AllReadyIn.cons (o := { dst := some 19, op := Op.load 9 (Operand.tmp 18), type := 9, pos := "node.go:121", after := #[{ on := 13, ground := Ground.data }, { on := 9, ground := Ground.guard }], guard := some (9, true) }) rfl (fun K hK => ?_) (AllReadyIn.cons (o := { dst := some 23, op := Op.load 3 (Operand.tmp 22), type := 3, pos := "node.go:121", after := #[{ on := 17, ground := Ground.data }, { on := 9, ground := Ground.guard }], guard := some (9, true) }) rfl (fun K hK => ?_) AllReadyIn.nil))
      · rw [if_pos (by rfl)]
        go_simp
        refine hK _ _ ?_
        clear hK K
        try simp only [Act.put, List.setIfInBounds_toArray, List.set_cons_zero, List.set_cons_succ]
        refine wpAnyIn_ready (rs := [18]) (by kernel_rfl) (by decide) (AllReadyIn.cons (o := { dst := some 23, op := Op.load 3 (Operand.tmp 22), type := 3, pos := "node.go:121", after := #[{ on := 17, ground := Ground.data }, { on := 9, ground := Ground.guard }], guard := some (9, true) }) rfl (fun K hK => ?_) AllReadyIn.nil)
        rw [if_pos (by rfl)]
        go_simp
        refine hK _ _ ?_
        clear hK K
        try simp only [Act.put, List.setIfInBounds_toArray, List.set_cons_zero, List.set_cons_succ]
        -- @A14
        refine wpAnyIn_ready (rs := [19]) (by kernel_rfl) (by decide) (AllReadyIn.cons (o := { dst := some 24, op := Op.call { callee := Callee.value (Operand.tmp 15), args := #[Operand.tmp 19, Operand.tmp 23], argTypes := #[9, 3] }, type := 4, pos := "node.go:121", after := #[{ on := 10, ground := Ground.data }, { on := 14, ground := Ground.data }, { on := 18, ground := Ground.data }, { on := 9, ground := Ground.chain }, { on := 9, ground := Ground.guard }], guard := some (9, true) }) rfl (fun K hK => ?_) AllReadyIn.nil)
        rw [if_pos (by rfl)]
        go_simp
        try refine ⟨hdd _, ?_⟩
        refine hR.mono ?_
        clear hR
        rintro e W2 (⟨rfl, hJ2, hb2, c4', hr2⟩ | ⟨rfl, hx2⟩)
        · first | (refine hK _ _ ?_; clear hK K) | gi_wp2
          try (refine hK _ _ ?_; clear hK K)
          try simp only [Act.put, List.setIfInBounds_toArray, List.set_cons_zero, List.set_cons_succ]
          refine wpAnyIn_take (i := 20) (oi := { dst := some 25, op := Op.pick (Operand.tmp 14) (Operand.tmp 24) (Operand.const (Value.bool false)), type := 4, pos := "node.go:121", after := #[{ on := 9, ground := Ground.data }, { on := 19, ground := Ground.data }, { on := 2, ground := Ground.guard }], guard := some (2, false) }) (v := .bool true) hro rfl (by kernel_rfl) (by kernel_rfl) (by kernel_rfl) (fun _ _ _ h => h) ⟨Or.inl ⟨by rfl, by intro w; go_simp⟩, fun _ => rfl⟩ ?_
          simp only [Act.put, List.setIfInBounds_toArray, List.set_cons_zero, List.set_cons_succ]
          refine wpAnyIn_take (i := 21) (oi := { dst := some 26, op := Op.move (Operand.tmp 25), type := 4, pos := "node.go:121", after := #[{ on := 20, ground := Ground.data }, { on := 19, ground := Ground.chain }, { on := 2, ground := Ground.guard }], guard := some (2, false) }) (v := .bool true) hro rfl (by kernel_rfl) (by kernel_rfl) (by kernel_rfl) (fun _ _ _ h => h) ⟨Or.inl ⟨by rfl, by intro w; go_simp⟩, fun _ => rfl⟩ ?_
          simp only [Act.put, List.setIfInBounds_toArray, List.set_cons_zero, List.set_cons_succ]
          refine wpAnyIn_take (i := 22) (oi := { dst := some 27, op := Op.move (Operand.tmp 0), type := 48, pos := "node.go:121", after := #[{ on := 21, ground := Ground.guard }], guard := some (21, true) }) (v := .pointer (some ⟨b, 0, none⟩)) hro rfl (by kernel_rfl) (by kernel_rfl) (by kernel_rfl) (fun _ _ _ h => h) ⟨Or.inl ⟨by rfl, by intro w; go_simp⟩, fun _ => rfl⟩ ?_
          simp only [Act.put, List.setIfInBounds_toArray, List.set_cons_zero, List.set_cons_succ]
          refine wpAnyIn_take (i := 23) (oi := { dst := some 28, op := Op.nilCheck (Operand.tmp 27), type := 0, pos := "node.go:121", after := #[{ on := 22, ground := Ground.data }, { on := 21, ground := Ground.guard }], guard := some (21, true) }) (v := .pointer (some ⟨b, 0, none⟩)) hro rfl (by kernel_rfl) (by kernel_rfl) (by kernel_rfl) (fun _ _ _ h => h) ⟨Or.inl ⟨by rfl, by intro w; go_simp⟩, fun _ => rfl⟩ ?_
          simp only [Act.put, List.setIfInBounds_toArray, List.set_cons_zero, List.set_cons_succ]
          refine wpAnyIn_take (i := 24) (oi := { dst := some 29, op := Op.fieldAddr 60 (Operand.tmp 28) 4, type := 0, pos := "node.go:121", after := #[{ on := 23, ground := Ground.data }, { on := 21, ground := Ground.guard }], guard := some (21, true) }) (v := .pointer (some ⟨b, 4, none⟩)) hro rfl (by kernel_rfl) (by kernel_rfl) (by kernel_rfl) (fun _ _ _ h => h) ⟨Or.inl ⟨by rfl, by intro w; go_simp⟩, fun _ => rfl⟩ ?_
          simp only [Act.put, List.setIfInBounds_toArray, List.set_cons_zero, List.set_cons_succ]
          refine wpAnyIn_take (i := 26) (oi := { dst := some 31, op := Op.move (Operand.tmp 1), type := 28, pos := "node.go:121", after := #[{ on := 21, ground := Ground.guard }], guard := some (21, true) }) (v := .func (.yield l) #[] #[]) hro rfl (by kernel_rfl) (by kernel_rfl) (by kernel_rfl) (fun _ _ _ h => h) ⟨Or.inl ⟨by rfl, by intro w; go_simp⟩, fun _ => rfl⟩ ?_
          simp only [Act.put, List.setIfInBounds_toArray, List.set_cons_zero, List.set_cons_succ]
          refine wpAnyIn_ready (rs := [25]) (by kernel_rfl) (by decide) (AllReadyIn.cons (o := { dst := some 30, op := Op.load 48 (Operand.tmp 29), type := 48, pos := "node.go:121", after := #[{ on := 24, ground := Ground.data }, { on := 21, ground := Ground.guard }], guard := some (21, true) }) rfl (fun K hK => ?_) AllReadyIn.nil)
          rw [if_pos (by rfl)]
          go_simp
          refine hK _ _ ?_
          clear hK K
          try simp only [Act.put, List.setIfInBounds_toArray, List.set_cons_zero, List.set_cons_succ]
          refine wpAnyIn_ready (rs := [27]) (by kernel_rfl) (by decide) (AllReadyIn.cons (o := { dst := some 32, op := Op.call { callee := Callee.value (Operand.func 32), args := #[Operand.tmp 30, Operand.tmp 31], argTypes := #[48, 28] }, type := 4, pos := "node.go:121", after := #[{ on := 25, ground := Ground.data }, { on := 26, ground := Ground.data }, { on := 21, ground := Ground.chain }, { on := 21, ground := Ground.guard }], guard := some (21, true) }) rfl (fun K hK => ?_) AllReadyIn.nil)
          rw [if_pos (by rfl)]
          go_simp
          try refine ⟨hdd _, ?_⟩
          try gi_at_call 32
          refine (ihr (n - 1) pr _ _ hr2 hJ2 (by simp; omega)).mono ?_
          rintro e W3 (⟨rfl, hJ3, hb3⟩ | ⟨rfl, q, hq, hx3⟩)
          · first | (refine hK _ _ ?_; clear hK K) | gi_wp2
            try (refine hK _ _ ?_; clear hK K)
            try simp only [Act.put, List.setIfInBounds_toArray, List.set_cons_zero, List.set_cons_succ]
            refine wpAnyIn_take (i := 28) (oi := { dst := some 33, op := Op.pick (Operand.tmp 26) (Operand.tmp 32) (Operand.const (Value.bool false)), type := 4, pos := "node.go:121", after := #[{ on := 21, ground := Ground.data }, { on := 27, ground := Ground.data }, { on := 2, ground := Ground.guard }], guard := some (2, false) }) (v := .bool true) hro rfl (by kernel_rfl) (by kernel_rfl) (by kernel_rfl) (fun _ _ _ h => h) ⟨Or.inl ⟨by rfl, by intro w; go_simp⟩, fun _ => rfl⟩ ?_
            simp only [Act.put, List.setIfInBounds_toArray, List.set_cons_zero, List.set_cons_succ]
            refine wpAnyIn_take (i := 29) (oi := { dst := some 34, op := Op.pick (Operand.tmp 7) (Operand.const (Value.bool true)) (Operand.tmp 33), type := 4, pos := "node.go:121", after := #[{ on := 2, ground := Ground.data }, { on := 28, ground := Ground.data }], guard := none }) (v := .bool true) hro rfl (by kernel_rfl) (by kernel_rfl) (by kernel_rfl) (fun _ _ _ h => h) ⟨Or.inl ⟨by rfl, by intro w; go_simp⟩, fun _ => rfl⟩ ?_
            simp only [Act.put, List.setIfInBounds_toArray, List.set_cons_zero, List.set_cons_succ]
            refine wpAnyIn_ready (rs := [30]) (by kernel_rfl) (by decide) (AllReadyIn.cons rfl (fun K hK => ?_) AllReadyIn.nil)
            rw [if_pos (by rfl)]
            go_simp
            refine hK _ _ ?_
            clear hK K
            try simp only [Act.put, List.setIfInBounds_toArray, List.set_cons_zero, List.set_cons_succ]
            refine wpAnyIn_done (by kernel_rfl) ?_ _
            gi_wp2
            go_ret
            exact .inl ⟨rfl, by simpa [BT.toL, List.append_assoc] using hJ3, hb2.trans hb3⟩
          · first | (refine hK _ _ ?_; clear hK K) | gi_wp2
            try (refine hK _ _ ?_; clear hK K)
            try simp only [Act.put, List.setIfInBounds_toArray, List.set_cons_zero, List.set_cons_succ]
            refine wpAnyIn_take (i := 28) (oi := { dst := some 33, op := Op.pick (Operand.tmp 26) (Operand.tmp 32) (Operand.const (Value.bool false)), type := 4, pos := "node.go:121", after := #[{ on := 21, ground := Ground.data }, { on := 27, ground := Ground.data }, { on := 2, ground := Ground.guard }], guard := some (2, false) }) (v := .bool false) hro rfl (by kernel_rfl) (by kernel_rfl) (by kernel_rfl) (fun _ _ _ h => h) ⟨Or.inl ⟨by rfl, by intro w; go_simp⟩, fun _ => rfl⟩ ?_
            simp only [Act.put, List.setIfInBounds_toArray, List.set_cons_zero, List.set_cons_succ]
            refine wpAnyIn_take (i := 29) (oi := { dst := some 34, op := Op.pick (Operand.tmp 7) (Operand.const (Value.bool true)) (Operand.tmp 33), type := 4, pos := "node.go:121", after := #[{ on := 2, ground := Ground.data }, { on := 28, ground := Ground.data }], guard := none }) (v := .bool false) hro rfl (by kernel_rfl) (by kernel_rfl) (by kernel_rfl) (fun _ _ _ h => h) ⟨Or.inl ⟨by rfl, by intro w; go_simp⟩, fun _ => rfl⟩ ?_
            simp only [Act.put, List.setIfInBounds_toArray, List.set_cons_zero, List.set_cons_succ]
            refine wpAnyIn_ready (rs := [30]) (by kernel_rfl) (by decide) (AllReadyIn.cons rfl (fun K hK => ?_) AllReadyIn.nil)
            rw [if_pos (by rfl)]
            go_simp
            refine hK _ _ ?_
            clear hK K
            try simp only [Act.put, List.setIfInBounds_toArray, List.set_cons_zero, List.set_cons_succ]
            refine wpAnyIn_done (by kernel_rfl) ?_ _
            gi_wp2
            go_ret
            obtain ⟨r, hr'⟩ := hq
            exact .inr ⟨rfl, tl.toL ++ (k, v) :: q, ⟨r, by simp [BT.toL, ← hr']⟩, by simpa [List.append_assoc] using hx3⟩
        · first | (refine hK _ _ ?_; clear hK K) | gi_wp2
          try (refine hK _ _ ?_; clear hK K)
          try simp only [Act.put, List.setIfInBounds_toArray, List.set_cons_zero, List.set_cons_succ]
          refine wpAnyIn_take (i := 20) (oi := { dst := some 25, op := Op.pick (Operand.tmp 14) (Operand.tmp 24) (Operand.const (Value.bool false)), type := 4, pos := "node.go:121", after := #[{ on := 9, ground := Ground.data }, { on := 19, ground := Ground.data }, { on := 2, ground := Ground.guard }], guard := some (2, false) }) (v := .bool false) hro rfl (by kernel_rfl) (by kernel_rfl) (by kernel_rfl) (fun _ _ _ h => h) ⟨Or.inl ⟨by rfl, by intro w; go_simp⟩, fun _ => rfl⟩ ?_
          simp only [Act.put, List.setIfInBounds_toArray, List.set_cons_zero, List.set_cons_succ]
          refine wpAnyIn_take (i := 21) (oi := { dst := some 26, op := Op.move (Operand.tmp 25), type := 4, pos := "node.go:121", after := #[{ on := 20, ground := Ground.data }, { on := 19, ground := Ground.chain }, { on := 2, ground := Ground.guard }], guard := some (2, false) }) (v := .bool false) hro rfl (by kernel_rfl) (by kernel_rfl) (by kernel_rfl) (fun _ _ _ h => h) ⟨Or.inl ⟨by rfl, by intro w; go_simp⟩, fun _ => rfl⟩ ?_
          simp only [Act.put, List.setIfInBounds_toArray, List.set_cons_zero, List.set_cons_succ]
          refine wpAnyIn_take (i := 22) (oi := { dst := some 27, op := Op.move (Operand.tmp 0), type := 48, pos := "node.go:121", after := #[{ on := 21, ground := Ground.guard }], guard := some (21, true) }) (v := undef) hro rfl (by kernel_rfl) (by kernel_rfl) (by kernel_rfl) (fun _ _ _ h => h) ⟨Or.inr ⟨by rfl, rfl⟩, fun _ => rfl⟩ ?_
          simp only [Act.put, List.setIfInBounds_toArray, List.set_cons_zero, List.set_cons_succ]
          refine wpAnyIn_take (i := 23) (oi := { dst := some 28, op := Op.nilCheck (Operand.tmp 27), type := 0, pos := "node.go:121", after := #[{ on := 22, ground := Ground.data }, { on := 21, ground := Ground.guard }], guard := some (21, true) }) (v := undef) hro rfl (by kernel_rfl) (by kernel_rfl) (by kernel_rfl) (fun _ _ _ h => h) ⟨Or.inr ⟨by rfl, rfl⟩, fun _ => rfl⟩ ?_
          simp only [Act.put, List.setIfInBounds_toArray, List.set_cons_zero, List.set_cons_succ]
          refine wpAnyIn_take (i := 24) (oi := { dst := some 29, op := Op.fieldAddr 60 (Operand.tmp 28) 4, type := 0, pos := "node.go:121", after := #[{ on := 23, ground := Ground.data }, { on := 21, ground := Ground.guard }], guard := some (21, true) }) (v := undef) hro rfl (by kernel_rfl) (by kernel_rfl) (by kernel_rfl) (fun _ _ _ h => h) ⟨Or.inr ⟨by rfl, rfl⟩, fun _ => rfl⟩ ?_
          simp only [Act.put, List.setIfInBounds_toArray, List.set_cons_zero, List.set_cons_succ]
          refine wpAnyIn_take (i := 25) (oi := { dst := some 30, op := Op.load 48 (Operand.tmp 29), type := 48, pos := "node.go:121", after := #[{ on := 24, ground := Ground.data }, { on := 21, ground := Ground.guard }], guard := some (21, true) }) (v := undef) hro rfl (by kernel_rfl) (by kernel_rfl) (by kernel_rfl) (fun _ _ _ h => h) ⟨Or.inr ⟨by rfl, rfl⟩, fun _ => rfl⟩ ?_
          simp only [Act.put, List.setIfInBounds_toArray, List.set_cons_zero, List.set_cons_succ]
          refine wpAnyIn_take (i := 26) (oi := { dst := some 31, op := Op.move (Operand.tmp 1), type := 28, pos := "node.go:121", after := #[{ on := 21, ground := Ground.guard }], guard := some (21, true) }) (v := undef) hro rfl (by kernel_rfl) (by kernel_rfl) (by kernel_rfl) (fun _ _ _ h => h) ⟨Or.inr ⟨by rfl, rfl⟩, fun _ => rfl⟩ ?_
          simp only [Act.put, List.setIfInBounds_toArray, List.set_cons_zero, List.set_cons_succ]
          refine wpAnyIn_ready (rs := [27]) (by kernel_rfl) (by decide) (AllReadyIn.cons (o := { dst := some 32, op := Op.call { callee := Callee.value (Operand.func 32), args := #[Operand.tmp 30, Operand.tmp 31], argTypes := #[48, 28] }, type := 4, pos := "node.go:121", after := #[{ on := 25, ground := Ground.data }, { on := 26, ground := Ground.data }, { on := 21, ground := Ground.chain }, { on := 21, ground := Ground.guard }], guard := some (21, true) }) rfl (fun K hK => ?_) AllReadyIn.nil)
          rw [if_neg (by rw [show Region.wanted _ _ = false from rfl]; decide)]
          refine ⟨fun f hf => by cases hf; exact h6, hK _ _ ?_⟩
          clear hK K
          try simp only [Act.put, List.setIfInBounds_toArray, List.set_cons_zero, List.set_cons_succ]
          refine wpAnyIn_take (i := 28) (oi := { dst := some 33, op := Op.pick (Operand.tmp 26) (Operand.tmp 32) (Operand.const (Value.bool false)), type := 4, pos := "node.go:121", after := #[{ on := 21, ground := Ground.data }, { on := 27, ground := Ground.data }, { on := 2, ground := Ground.guard }], guard := some (2, false) }) (v := .bool false) hro rfl (by kernel_rfl) (by kernel_rfl) (by kernel_rfl) (fun _ _ _ h => h) ⟨Or.inl ⟨by rfl, by intro w; go_simp⟩, fun _ => rfl⟩ ?_
          simp only [Act.put, List.setIfInBounds_toArray, List.set_cons_zero, List.set_cons_succ]
          refine wpAnyIn_take (i := 29) (oi := { dst := some 34, op := Op.pick (Operand.tmp 7) (Operand.const (Value.bool true)) (Operand.tmp 33), type := 4, pos := "node.go:121", after := #[{ on := 2, ground := Ground.data }, { on := 28, ground := Ground.data }], guard := none }) (v := .bool false) hro rfl (by kernel_rfl) (by kernel_rfl) (by kernel_rfl) (fun _ _ _ h => h) ⟨Or.inl ⟨by rfl, by intro w; go_simp⟩, fun _ => rfl⟩ ?_
          simp only [Act.put, List.setIfInBounds_toArray, List.set_cons_zero, List.set_cons_succ]
          refine wpAnyIn_ready (rs := [30]) (by kernel_rfl) (by decide) (AllReadyIn.cons rfl (fun K hK => ?_) AllReadyIn.nil)
          rw [if_pos (by rfl)]
          go_simp
          refine hK _ _ ?_
          clear hK K
          try simp only [Act.put, List.setIfInBounds_toArray, List.set_cons_zero, List.set_cons_succ]
          refine wpAnyIn_done (by kernel_rfl) ?_ _
          gi_wp2
          go_ret
          exact .inr ⟨rfl, tl.toL ++ [(k, v)], ⟨tr.toL, by simp [BT.toL]⟩, by simpa [List.append_assoc] using hx2⟩
      · rw [if_pos (by rfl)]
        go_simp
        refine hK _ _ ?_
        clear hK K
        try simp only [Act.put, List.setIfInBounds_toArray, List.set_cons_zero, List.set_cons_succ]
        refine wpAnyIn_ready (rs := [14]) (by kernel_rfl) (by decide) (AllReadyIn.cons (o := { dst := some 19, op := Op.load 9 (Operand.tmp 18), type := 9, pos := "node.go:121", after := #[{ on := 13, ground := Ground.data }, { on := 9, ground := Ground.guard }], guard := some (9, true) }) rfl (fun K hK => ?_) AllReadyIn.nil)
        rw [if_pos (by rfl)]
        go_simp
        refine hK _ _ ?_
        clear hK K
        try simp only [Act.put, List.setIfInBounds_toArray, List.set_cons_zero, List.set_cons_succ]
        -- @A18
        refine wpAnyIn_ready (rs := [19]) (by kernel_rfl) (by decide) (AllReadyIn.cons (o := { dst := some 24, op := Op.call { callee := Callee.value (Operand.tmp 15), args := #[Operand.tmp 19, Operand.tmp 23], argTypes := #[9, 3] }, type := 4, pos := "node.go:121", after := #[{ on := 10, ground := Ground.data }, { on := 14, ground := Ground.data }, { on := 18, ground := Ground.data }, { on := 9, ground := Ground.chain }, { on := 9, ground := Ground.guard }], guard := some (9, true) }) rfl (fun K hK => ?_) AllReadyIn.nil)
        rw [if_pos (by rfl)]
        go_simp
        try refine ⟨hdd _, ?_⟩
        refine hR.mono ?_
        clear hR
        rintro e W2 (⟨rfl, hJ2, hb2, c4', hr2⟩ | ⟨rfl, hx2⟩)
        · first | (refine hK _ _ ?_; clear hK K) | gi_wp2
          try (refine hK _ _ ?_; clear hK K)
          try simp only [Act.put, List.setIfInBounds_toArray, List.set_cons_zero, List.set_cons_succ]
          refine wpAnyIn_take (i := 20) (oi := { dst := some 25, op := Op.pick (Operand.tmp 14) (Operand.tmp 24) (Operand.const (Value.bool false)), type := 4, pos := "node.go:121", after := #[{ on := 9, ground := Ground.data }, { on := 19, ground := Ground.data }, { on := 2, ground := Ground.guard }], guard := some (2, false) }) (v := .bool true) hro rfl (by kernel_rfl) (by kernel_rfl) (by kernel_rfl) (fun _ _ _ h => h) ⟨Or.inl ⟨by rfl, by intro w; go_simp⟩, fun _ => rfl⟩ ?_
          simp only [Act.put, List.setIfInBounds_toArray, List.set_cons_zero, List.set_cons_succ]
          refine wpAnyIn_take (i := 21) (oi := { dst := some 26, op := Op.move (Operand.tmp 25), type := 4, pos := "node.go:121", after := #[{ on := 20, ground := Ground.data }, { on := 19, ground := Ground.chain }, { on := 2, ground := Ground.guard }], guard := some (2, false) }) (v := .bool true) hro rfl (by kernel_rfl) (by kernel_rfl) (by kernel_rfl) (fun _ _ _ h => h) ⟨Or.inl ⟨by rfl, by intro w; go_simp⟩, fun _ => rfl⟩ ?_
          simp only [Act.put, List.setIfInBounds_toArray, List.set_cons_zero, List.set_cons_succ]
          refine wpAnyIn_take (i := 22) (oi := { dst := some 27, op := Op.move (Operand.tmp 0), type := 48, pos := "node.go:121", after := #[{ on := 21, ground := Ground.guard }], guard := some (21, true) }) (v := .pointer (some ⟨b, 0, none⟩)) hro rfl (by kernel_rfl) (by kernel_rfl) (by kernel_rfl) (fun _ _ _ h => h) ⟨Or.inl ⟨by rfl, by intro w; go_simp⟩, fun _ => rfl⟩ ?_
          simp only [Act.put, List.setIfInBounds_toArray, List.set_cons_zero, List.set_cons_succ]
          refine wpAnyIn_take (i := 23) (oi := { dst := some 28, op := Op.nilCheck (Operand.tmp 27), type := 0, pos := "node.go:121", after := #[{ on := 22, ground := Ground.data }, { on := 21, ground := Ground.guard }], guard := some (21, true) }) (v := .pointer (some ⟨b, 0, none⟩)) hro rfl (by kernel_rfl) (by kernel_rfl) (by kernel_rfl) (fun _ _ _ h => h) ⟨Or.inl ⟨by rfl, by intro w; go_simp⟩, fun _ => rfl⟩ ?_
          simp only [Act.put, List.setIfInBounds_toArray, List.set_cons_zero, List.set_cons_succ]
          refine wpAnyIn_take (i := 24) (oi := { dst := some 29, op := Op.fieldAddr 60 (Operand.tmp 28) 4, type := 0, pos := "node.go:121", after := #[{ on := 23, ground := Ground.data }, { on := 21, ground := Ground.guard }], guard := some (21, true) }) (v := .pointer (some ⟨b, 4, none⟩)) hro rfl (by kernel_rfl) (by kernel_rfl) (by kernel_rfl) (fun _ _ _ h => h) ⟨Or.inl ⟨by rfl, by intro w; go_simp⟩, fun _ => rfl⟩ ?_
          simp only [Act.put, List.setIfInBounds_toArray, List.set_cons_zero, List.set_cons_succ]
          refine wpAnyIn_take (i := 26) (oi := { dst := some 31, op := Op.move (Operand.tmp 1), type := 28, pos := "node.go:121", after := #[{ on := 21, ground := Ground.guard }], guard := some (21, true) }) (v := .func (.yield l) #[] #[]) hro rfl (by kernel_rfl) (by kernel_rfl) (by kernel_rfl) (fun _ _ _ h => h) ⟨Or.inl ⟨by rfl, by intro w; go_simp⟩, fun _ => rfl⟩ ?_
          simp only [Act.put, List.setIfInBounds_toArray, List.set_cons_zero, List.set_cons_succ]
          refine wpAnyIn_ready (rs := [25]) (by kernel_rfl) (by decide) (AllReadyIn.cons (o := { dst := some 30, op := Op.load 48 (Operand.tmp 29), type := 48, pos := "node.go:121", after := #[{ on := 24, ground := Ground.data }, { on := 21, ground := Ground.guard }], guard := some (21, true) }) rfl (fun K hK => ?_) AllReadyIn.nil)
          rw [if_pos (by rfl)]
          go_simp
          refine hK _ _ ?_
          clear hK K
          try simp only [Act.put, List.setIfInBounds_toArray, List.set_cons_zero, List.set_cons_succ]
          refine wpAnyIn_ready (rs := [27]) (by kernel_rfl) (by decide) (AllReadyIn.cons (o := { dst := some 32, op := Op.call { callee := Callee.value (Operand.func 32), args := #[Operand.tmp 30, Operand.tmp 31], argTypes := #[48, 28] }, type := 4, pos := "node.go:121", after := #[{ on := 25, ground := Ground.data }, { on := 26, ground := Ground.data }, { on := 21, ground := Ground.chain }, { on := 21, ground := Ground.guard }], guard := some (21, true) }) rfl (fun K hK => ?_) AllReadyIn.nil)
          rw [if_pos (by rfl)]
          go_simp
          try refine ⟨hdd _, ?_⟩
          try gi_at_call 32
          refine (ihr (n - 1) pr _ _ hr2 hJ2 (by simp; omega)).mono ?_
          rintro e W3 (⟨rfl, hJ3, hb3⟩ | ⟨rfl, q, hq, hx3⟩)
          · first | (refine hK _ _ ?_; clear hK K) | gi_wp2
            try (refine hK _ _ ?_; clear hK K)
            try simp only [Act.put, List.setIfInBounds_toArray, List.set_cons_zero, List.set_cons_succ]
            refine wpAnyIn_take (i := 28) (oi := { dst := some 33, op := Op.pick (Operand.tmp 26) (Operand.tmp 32) (Operand.const (Value.bool false)), type := 4, pos := "node.go:121", after := #[{ on := 21, ground := Ground.data }, { on := 27, ground := Ground.data }, { on := 2, ground := Ground.guard }], guard := some (2, false) }) (v := .bool true) hro rfl (by kernel_rfl) (by kernel_rfl) (by kernel_rfl) (fun _ _ _ h => h) ⟨Or.inl ⟨by rfl, by intro w; go_simp⟩, fun _ => rfl⟩ ?_
            simp only [Act.put, List.setIfInBounds_toArray, List.set_cons_zero, List.set_cons_succ]
            refine wpAnyIn_take (i := 29) (oi := { dst := some 34, op := Op.pick (Operand.tmp 7) (Operand.const (Value.bool true)) (Operand.tmp 33), type := 4, pos := "node.go:121", after := #[{ on := 2, ground := Ground.data }, { on := 28, ground := Ground.data }], guard := none }) (v := .bool true) hro rfl (by kernel_rfl) (by kernel_rfl) (by kernel_rfl) (fun _ _ _ h => h) ⟨Or.inl ⟨by rfl, by intro w; go_simp⟩, fun _ => rfl⟩ ?_
            simp only [Act.put, List.setIfInBounds_toArray, List.set_cons_zero, List.set_cons_succ]
            refine wpAnyIn_ready (rs := [30]) (by kernel_rfl) (by decide) (AllReadyIn.cons rfl (fun K hK => ?_) AllReadyIn.nil)
            rw [if_pos (by rfl)]
            go_simp
            refine hK _ _ ?_
            clear hK K
            try simp only [Act.put, List.setIfInBounds_toArray, List.set_cons_zero, List.set_cons_succ]
            refine wpAnyIn_done (by kernel_rfl) ?_ _
            gi_wp2
            go_ret
            exact .inl ⟨rfl, by simpa [BT.toL, List.append_assoc] using hJ3, hb2.trans hb3⟩
          · first | (refine hK _ _ ?_; clear hK K) | gi_wp2
            try (refine hK _ _ ?_; clear hK K)
            try simp only [Act.put, List.setIfInBounds_toArray, List.set_cons_zero, List.set_cons_succ]
            refine wpAnyIn_take (i := 28) (oi := { dst := some 33, op := Op.pick (Operand.tmp 26) (Operand.tmp 32) (Operand.const (Value.bool false)), type := 4, pos := "node.go:121", after := #[{ on := 21, ground := Ground.data }, { on := 27, ground := Ground.data }, { on := 2, ground := Ground.guard }], guard := some (2, false) }) (v := .bool false) hro rfl (by kernel_rfl) (by kernel_rfl) (by kernel_rfl) (fun _ _ _ h => h) ⟨Or.inl ⟨by rfl, by intro w; go_simp⟩, fun _ => rfl⟩ ?_
            simp only [Act.put, List.setIfInBounds_toArray, List.set_cons_zero, List.set_cons_succ]
            refine wpAnyIn_take (i := 29) (oi := { dst := some 34, op := Op.pick (Operand.tmp 7) (Operand.const (Value.bool true)) (Operand.tmp 33), type := 4, pos := "node.go:121", after := #[{ on := 2, ground := Ground.data }, { on := 28, ground := Ground.data }], guard := none }) (v := .bool false) hro rfl (by kernel_rfl) (by kernel_rfl) (by kernel_rfl) (fun _ _ _ h => h) ⟨Or.inl ⟨by rfl, by intro w; go_simp⟩, fun _ => rfl⟩ ?_
            simp only [Act.put, List.setIfInBounds_toArray, List.set_cons_zero, List.set_cons_succ]
            refine wpAnyIn_ready (rs := [30]) (by kernel_rfl) (by decide) (AllReadyIn.cons rfl (fun K hK => ?_) AllReadyIn.nil)
            rw [if_pos (by rfl)]
            go_simp
            refine hK _ _ ?_
            clear hK K
            try simp only [Act.put, List.setIfInBounds_toArray, List.set_cons_zero, List.set_cons_succ]
            refine wpAnyIn_done (by kernel_rfl) ?_ _
            gi_wp2
            go_ret
            obtain ⟨r, hr'⟩ := hq
            exact .inr ⟨rfl, tl.toL ++ (k, v) :: q, ⟨r, by simp [BT.toL, ← hr']⟩, by simpa [List.append_assoc] using hx3⟩
        · first | (refine hK _ _ ?_; clear hK K) | gi_wp2
          try (refine hK _ _ ?_; clear hK K)
          try simp only [Act.put, List.setIfInBounds_toArray, List.set_cons_zero, List.set_cons_succ]
          refine wpAnyIn_take (i := 20) (oi := { dst := some 25, op := Op.pick (Operand.tmp 14) (Operand.tmp 24) (Operand.const (Value.bool false)), type := 4, pos := "node.go:121", after := #[{ on := 9, ground := Ground.data }, { on := 19, ground := Ground.data }, { on := 2, ground := Ground.guard }], guard := some (2, false) }) (v := .bool false) hro rfl (by kernel_rfl) (by kernel_rfl) (by kernel_rfl) (fun _ _ _ h => h) ⟨Or.inl ⟨by rfl, by intro w; go_simp⟩, fun _ => rfl⟩ ?_
          simp only [Act.put, List.setIfInBounds_toArray, List.set_cons_zero, List.set_cons_succ]
          refine wpAnyIn_take (i := 21) (oi := { dst := some 26, op := Op.move (Operand.tmp 25), type := 4, pos := "node.go:121", after := #[{ on := 20, ground := Ground.data }, { on := 19, ground := Ground.chain }, { on := 2, ground := Ground.guard }], guard := some (2, false) }) (v := .bool false) hro rfl (by kernel_rfl) (by kernel_rfl) (by kernel_rfl) (fun _ _ _ h => h) ⟨Or.inl ⟨by rfl, by intro w; go_simp⟩, fun _ => rfl⟩ ?_
          simp only [Act.put, List.setIfInBounds_toArray, List.set_cons_zero, List.set_cons_succ]
          refine wpAnyIn_take (i := 22) (oi := { dst := some 27, op := Op.move (Operand.tmp 0), type := 48, pos := "node.go:121", after := #[{ on := 21, ground := Ground.guard }], guard := some (21, true) }) (v := undef) hro rfl (by kernel_rfl) (by kernel_rfl) (by kernel_rfl) (fun _ _ _ h => h) ⟨Or.inr ⟨by rfl, rfl⟩, fun _ => rfl⟩ ?_
          simp only [Act.put, List.setIfInBounds_toArray, List.set_cons_zero, List.set_cons_succ]
          refine wpAnyIn_take (i := 23) (oi := { dst := some 28, op := Op.nilCheck (Operand.tmp 27), type := 0, pos := "node.go:121", after := #[{ on := 22, ground := Ground.data }, { on := 21, ground := Ground.guard }], guard := some (21, true) }) (v := undef) hro rfl (by kernel_rfl) (by kernel_rfl) (by kernel_rfl) (fun _ _ _ h => h) ⟨Or.inr ⟨by rfl, rfl⟩, fun _ => rfl⟩ ?_
          simp only [Act.put, List.setIfInBounds_toArray, List.set_cons_zero, List.set_cons_succ]
          refine wpAnyIn_take (i := 24) (oi := { dst := some 29, op := Op.fieldAddr 60 (Operand.tmp 28) 4, type := 0, pos := "node.go:121", after := #[{ on := 23, ground := Ground.data }, { on := 21, ground := Ground.guard }], guard := some (21, true) }) (v := undef) hro rfl (by kernel_rfl) (by kernel_rfl) (by kernel_rfl) (fun _ _ _ h => h) ⟨Or.inr ⟨by rfl, rfl⟩, fun _ => rfl⟩ ?_
          simp only [Act.put, List.setIfInBounds_toArray, List.set_cons_zero, List.set_cons_succ]
          refine wpAnyIn_take (i := 25) (oi := { dst := some 30, op := Op.load 48 (Operand.tmp 29), type := 48, pos := "node.go:121", after := #[{ on := 24, ground := Ground.data }, { on := 21, ground := Ground.guard }], guard := some (21, true) }) (v := undef) hro rfl (by kernel_rfl) (by kernel_rfl) (by kernel_rfl) (fun _ _ _ h => h) ⟨Or.inr ⟨by rfl, rfl⟩, fun _ => rfl⟩ ?_
          simp only [Act.put, List.setIfInBounds_toArray, List.set_cons_zero, List.set_cons_succ]
          refine wpAnyIn_take (i := 26) (oi := { dst := some 31, op := Op.move (Operand.tmp 1), type := 28, pos := "node.go:121", after := #[{ on := 21, ground := Ground.guard }], guard := some (21, true) }) (v := undef) hro rfl (by kernel_rfl) (by kernel_rfl) (by kernel_rfl) (fun _ _ _ h => h) ⟨Or.inr ⟨by rfl, rfl⟩, fun _ => rfl⟩ ?_
          simp only [Act.put, List.setIfInBounds_toArray, List.set_cons_zero, List.set_cons_succ]
          refine wpAnyIn_ready (rs := [27]) (by kernel_rfl) (by decide) (AllReadyIn.cons (o := { dst := some 32, op := Op.call { callee := Callee.value (Operand.func 32), args := #[Operand.tmp 30, Operand.tmp 31], argTypes := #[48, 28] }, type := 4, pos := "node.go:121", after := #[{ on := 25, ground := Ground.data }, { on := 26, ground := Ground.data }, { on := 21, ground := Ground.chain }, { on := 21, ground := Ground.guard }], guard := some (21, true) }) rfl (fun K hK => ?_) AllReadyIn.nil)
          rw [if_neg (by rw [show Region.wanted _ _ = false from rfl]; decide)]
          refine ⟨fun f hf => by cases hf; exact h6, hK _ _ ?_⟩
          clear hK K
          try simp only [Act.put, List.setIfInBounds_toArray, List.set_cons_zero, List.set_cons_succ]
          refine wpAnyIn_take (i := 28) (oi := { dst := some 33, op := Op.pick (Operand.tmp 26) (Operand.tmp 32) (Operand.const (Value.bool false)), type := 4, pos := "node.go:121", after := #[{ on := 21, ground := Ground.data }, { on := 27, ground := Ground.data }, { on := 2, ground := Ground.guard }], guard := some (2, false) }) (v := .bool false) hro rfl (by kernel_rfl) (by kernel_rfl) (by kernel_rfl) (fun _ _ _ h => h) ⟨Or.inl ⟨by rfl, by intro w; go_simp⟩, fun _ => rfl⟩ ?_
          simp only [Act.put, List.setIfInBounds_toArray, List.set_cons_zero, List.set_cons_succ]
          refine wpAnyIn_take (i := 29) (oi := { dst := some 34, op := Op.pick (Operand.tmp 7) (Operand.const (Value.bool true)) (Operand.tmp 33), type := 4, pos := "node.go:121", after := #[{ on := 2, ground := Ground.data }, { on := 28, ground := Ground.data }], guard := none }) (v := .bool false) hro rfl (by kernel_rfl) (by kernel_rfl) (by kernel_rfl) (fun _ _ _ h => h) ⟨Or.inl ⟨by rfl, by intro w; go_simp⟩, fun _ => rfl⟩ ?_
          simp only [Act.put, List.setIfInBounds_toArray, List.set_cons_zero, List.set_cons_succ]
          refine wpAnyIn_ready (rs := [30]) (by kernel_rfl) (by decide) (AllReadyIn.cons rfl (fun K hK => ?_) AllReadyIn.nil)
          rw [if_pos (by rfl)]
          go_simp
          refine hK _ _ ?_
          clear hK K
          try simp only [Act.put, List.setIfInBounds_toArray, List.set_cons_zero, List.set_cons_succ]
          refine wpAnyIn_done (by kernel_rfl) ?_ _
          gi_wp2
          go_ret
          exact .inr ⟨rfl, tl.toL ++ [(k, v)], ⟨tr.toL, by simp [BT.toL]⟩, by simpa [List.append_assoc] using hx2⟩
    · first | (refine hK _ _ ?_; clear hK K) | gi_wp2
      try (refine hK _ _ ?_; clear hK K)
      try simp only [Act.put, List.setIfInBounds_toArray, List.set_cons_zero, List.set_cons_succ]
      -- @B
      refine wpAnyIn_take (i := 9) (oi := { dst := some 14, op := Op.move (Operand.tmp 13), type := 4, pos := "node.go:121", after := #[{ on := 8, ground := Ground.data }, { on := 8, ground := Ground.chain }, { on := 2, ground := Ground.guard }], guard := some (2, false) }) (v := .bool false) hro rfl (by kernel_rfl) (by kernel_rfl) (by kernel_rfl) (fun _ _ _ h => h) ⟨Or.inl ⟨by rfl, by intro w; go_simp⟩, fun _ => rfl⟩ ?_
      simp only [Act.put, List.setIfInBounds_toArray, List.set_cons_zero, List.set_cons_succ]
      refine wpAnyIn_take (i := 10) (oi := { dst := some 15, op := Op.move (Operand.tmp 1), type := 28, pos := "node.go:121", after := #[{ on := 9, ground := Ground.guard }], guard := some (9, true) }) (v := undef) hro rfl (by kernel_rfl) (by kernel_rfl) (by kernel_rfl) (fun _ _ _ h => h) ⟨Or.inr ⟨by rfl, rfl⟩, fun _ => rfl⟩ ?_
      simp only [Act.put, List.setIfInBounds_toArray, List.set_cons_zero, List.set_cons_succ]
      refine wpAnyIn_take (i := 11) (oi := { dst := some 16, op := Op.move (Operand.tmp 0), type := 48, pos := "node.go:121", after := #[{ on := 9, ground := Ground.guard }], guard := some (9, true) }) (v := undef) hro rfl (by kernel_rfl) (by kernel_rfl) (by kernel_rfl) (fun _ _ _ h => h) ⟨Or.inr ⟨by rfl, rfl⟩, fun _ => rfl⟩ ?_
      simp only [Act.put, List.setIfInBounds_toArray, List.set_cons_zero, List.set_cons_succ]
      refine wpAnyIn_take (i := 12) (oi := { dst := some 17, op := Op.nilCheck (Operand.tmp 16), type := 0, pos := "node.go:121", after := #[{ on := 11, ground := Ground.data }, { on := 9, ground := Ground.guard }], guard := some (9, true) }) (v := undef) hro rfl (by kernel_rfl) (by kernel_rfl) (by kernel_rfl) (fun _ _ _ h => h) ⟨Or.inr ⟨by rfl, rfl⟩, fun _ => rfl⟩ ?_
      simp only [Act.put, List.setIfInBounds_toArray, List.set_cons_zero, List.set_cons_succ]
      refine wpAnyIn_take (i := 13) (oi := { dst := some 18, op := Op.fieldAddr 60 (Operand.tmp 17) 0, type := 0, pos := "node.go:121", after := #[{ on := 12, ground := Ground.data }, { on := 9, ground := Ground.guard }], guard := some (9, true) }) (v := undef) hro rfl (by kernel_rfl) (by kernel_rfl) (by kernel_rfl) (fun _ _ _ h => h) ⟨Or.inr ⟨by rfl, rfl⟩, fun _ => rfl⟩ ?_
      simp only [Act.put, List.setIfInBounds_toArray, List.set_cons_zero, List.set_cons_succ]
      refine wpAnyIn_take (i := 14) (oi := { dst := some 19, op := Op.load 9 (Operand.tmp 18), type := 9, pos := "node.go:121", after := #[{ on := 13, ground := Ground.data }, { on := 9, ground := Ground.guard }], guard := some (9, true) }) (v := undef) hro rfl (by kernel_rfl) (by kernel_rfl) (by kernel_rfl) (fun _ _ _ h => h) ⟨Or.inr ⟨by rfl, rfl⟩, fun _ => rfl⟩ ?_
      simp only [Act.put, List.setIfInBounds_toArray, List.set_cons_zero, List.set_cons_succ]
      refine wpAnyIn_take (i := 15) (oi := { dst := some 20, op := Op.move (Operand.tmp 0), type := 48, pos := "node.go:121", after := #[{ on := 9, ground := Ground.guard }], guard := some (9, true) }) (v := undef) hro rfl (by kernel_rfl) (by kernel_rfl) (by kernel_rfl) (fun _ _ _ h => h) ⟨Or.inr ⟨by rfl, rfl⟩, fun _ => rfl⟩ ?_
      simp only [Act.put, List.setIfInBounds_toArray, List.set_cons_zero, List.set_cons_succ]
      refine wpAnyIn_take (i := 16) (oi := { dst := some 21, op := Op.nilCheck (Operand.tmp 20), type := 0, pos := "node.go:121", after := #[{ on := 15, ground := Ground.data }, { on := 9, ground := Ground.guard }], guard := some (9, true) }) (v := undef) hro rfl (by kernel_rfl) (by kernel_rfl) (by kernel_rfl) (fun _ _ _ h => h) ⟨Or.inr ⟨by rfl, rfl⟩, fun _ => rfl⟩ ?_
      simp only [Act.put, List.setIfInBounds_toArray, List.set_cons_zero, List.set_cons_succ]
      refine wpAnyIn_take (i := 17) (oi := { dst := some 22, op := Op.fieldAddr 60 (Operand.tmp 21) 1, type := 0, pos := "node.go:121", after := #[{ on := 16, ground := Ground.data }, { on := 9, ground := Ground.guard }], guard := some (9, true) }) (v := undef) hro rfl (by kernel_rfl) (by kernel_rfl) (by kernel_rfl) (fun _ _ _ h => h) ⟨Or.inr ⟨by rfl, rfl⟩, fun _ => rfl⟩ ?_
      simp only [Act.put, List.setIfInBounds_toArray, List.set_cons_zero, List.set_cons_succ]
      refine wpAnyIn_take (i := 18) (oi := { dst := some 23, op := Op.load 3 (Operand.tmp 22), type := 3, pos := "node.go:121", after := #[{ on := 17, ground := Ground.data }, { on := 9, ground := Ground.guard }], guard := some (9, true) }) (v := undef) hro rfl (by kernel_rfl) (by kernel_rfl) (by kernel_rfl) (fun _ _ _ h => h) ⟨Or.inr ⟨by rfl, rfl⟩, fun _ => rfl⟩ ?_
      simp only [Act.put, List.setIfInBounds_toArray, List.set_cons_zero, List.set_cons_succ]
      refine wpAnyIn_take (i := 19) (oi := { dst := some 24, op := Op.call { callee := Callee.value (Operand.tmp 15), args := #[Operand.tmp 19, Operand.tmp 23], argTypes := #[9, 3] }, type := 4, pos := "node.go:121", after := #[{ on := 10, ground := Ground.data }, { on := 14, ground := Ground.data }, { on := 18, ground := Ground.data }, { on := 9, ground := Ground.chain }, { on := 9, ground := Ground.guard }], guard := some (9, true) }) (v := undef) hro rfl (by kernel_rfl) (by kernel_rfl) (by kernel_rfl) (fun _ _ _ h => h) ⟨Or.inr ⟨by rfl, rfl⟩, fun _ => rfl⟩ ?_
      simp only [Act.put, List.setIfInBounds_toArray, List.set_cons_zero, List.set_cons_succ]
      refine wpAnyIn_take (i := 20) (oi := { dst := some 25, op := Op.pick (Operand.tmp 14) (Operand.tmp 24) (Operand.const (Value.bool false)), type := 4, pos := "node.go:121", after := #[{ on := 9, ground := Ground.data }, { on := 19, ground := Ground.data }, { on := 2, ground := Ground.guard }], guard := some (2, false) }) (v := .bool false) hro rfl (by kernel_rfl) (by kernel_rfl) (by kernel_rfl) (fun _ _ _ h => h) ⟨Or.inl ⟨by rfl, by intro w; go_simp⟩, fun _ => rfl⟩ ?_
      simp only [Act.put, List.setIfInBounds_toArray, List.set_cons_zero, List.set_cons_succ]
      refine wpAnyIn_take (i := 21) (oi := { dst := some 26, op := Op.move (Operand.tmp 25), type := 4, pos := "node.go:121", after := #[{ on := 20, ground := Ground.data }, { on := 19, ground := Ground.chain }, { on := 2, ground := Ground.guard }], guard := some (2, false) }) (v := .bool false) hro rfl (by kernel_rfl) (by kernel_rfl) (by kernel_rfl) (fun _ _ _ h => h) ⟨Or.inl ⟨by rfl, by intro w; go_simp⟩, fun _ => rfl⟩ ?_
      simp only [Act.put, List.setIfInBounds_toArray, List.set_cons_zero, List.set_cons_succ]
      refine wpAnyIn_take (i := 22) (oi := { dst := some 27, op := Op.move (Operand.tmp 0), type := 48, pos := "node.go:121", after := #[{ on := 21, ground := Ground.guard }], guard := some (21, true) }) (v := undef) hro rfl (by kernel_rfl) (by kernel_rfl) (by kernel_rfl) (fun _ _ _ h => h) ⟨Or.inr ⟨by rfl, rfl⟩, fun _ => rfl⟩ ?_
      simp only [Act.put, List.setIfInBounds_toArray, List.set_cons_zero, List.set_cons_succ]
      refine wpAnyIn_take (i := 23) (oi := { dst := some 28, op := Op.nilCheck (Operand.tmp 27), type := 0, pos := "node.go:121", after := #[{ on := 22, ground := Ground.data }, { on := 21, ground := Ground.guard }], guard := some (21, true) }) (v := undef) hro rfl (by kernel_rfl) (by kernel_rfl) (by kernel_rfl) (fun _ _ _ h => h) ⟨Or.inr ⟨by rfl, rfl⟩, fun _ => rfl⟩ ?_
      simp only [Act.put, List.setIfInBounds_toArray, List.set_cons_zero, List.set_cons_succ]
      refine wpAnyIn_take (i := 24) (oi := { dst := some 29, op := Op.fieldAddr 60 (Operand.tmp 28) 4, type := 0, pos := "node.go:121", after := #[{ on := 23, ground := Ground.data }, { on := 21, ground := Ground.guard }], guard := some (21, true) }) (v := undef) hro rfl (by kernel_rfl) (by kernel_rfl) (by kernel_rfl) (fun _ _ _ h => h) ⟨Or.inr ⟨by rfl, rfl⟩, fun _ => rfl⟩ ?_
      simp only [Act.put, List.setIfInBounds_toArray, List.set_cons_zero, List.set_cons_succ]
      refine wpAnyIn_take (i := 25) (oi := { dst := some 30, op := Op.load 48 (Operand.tmp 29), type := 48, pos := "node.go:121", after := #[{ on := 24, ground := Ground.data }, { on := 21, ground := Ground.guard }], guard := some (21, true) }) (v := undef) hro rfl (by kernel_rfl) (by kernel_rfl) (by kernel_rfl) (fun _ _ _ h => h) ⟨Or.inr ⟨by rfl, rfl⟩, fun _ => rfl⟩ ?_
      simp only [Act.put, List.setIfInBounds_toArray, List.set_cons_zero, List.set_cons_succ]
      refine wpAnyIn_take (i := 26) (oi := { dst := some 31, op := Op.move (Operand.tmp 1), type := 28, pos := "node.go:121", after := #[{ on := 21, ground := Ground.guard }], guard := some (21, true) }) (v := undef) hro rfl (by kernel_rfl) (by kernel_rfl) (by kernel_rfl) (fun _ _ _ h => h) ⟨Or.inr ⟨by rfl, rfl⟩, fun _ => rfl⟩ ?_
      simp only [Act.put, List.setIfInBounds_toArray, List.set_cons_zero, List.set_cons_succ]
      refine wpAnyIn_ready (rs := [27]) (by kernel_rfl) (by decide) (AllReadyIn.cons (o := { dst := some 32, op := Op.call { callee := Callee.value (Operand.func 32), args := #[Operand.tmp 30, Operand.tmp 31], argTypes := #[48, 28] }, type := 4, pos := "node.go:121", after := #[{ on := 25, ground := Ground.data }, { on := 26, ground := Ground.data }, { on := 21, ground := Ground.chain }, { on := 21, ground := Ground.guard }], guard := some (21, true) }) rfl (fun K hK => ?_) AllReadyIn.nil)
      rw [if_neg (by rw [show Region.wanted _ _ = false from rfl]; decide)]
      refine ⟨fun f hf => by cases hf; exact h6, hK _ _ ?_⟩
      clear hK K
      try simp only [Act.put, List.setIfInBounds_toArray, List.set_cons_zero, List.set_cons_succ]
      refine wpAnyIn_take (i := 28) (oi := { dst := some 33, op := Op.pick (Operand.tmp 26) (Operand.tmp 32) (Operand.const (Value.bool false)), type := 4, pos := "node.go:121", after := #[{ on := 21, ground := Ground.data }, { on := 27, ground := Ground.data }, { on := 2, ground := Ground.guard }], guard := some (2, false) }) (v := .bool false) hro rfl (by kernel_rfl) (by kernel_rfl) (by kernel_rfl) (fun _ _ _ h => h) ⟨Or.inl ⟨by rfl, by intro w; go_simp⟩, fun _ => rfl⟩ ?_
      simp only [Act.put, List.setIfInBounds_toArray, List.set_cons_zero, List.set_cons_succ]
      refine wpAnyIn_take (i := 29) (oi := { dst := some 34, op := Op.pick (Operand.tmp 7) (Operand.const (Value.bool true)) (Operand.tmp 33), type := 4, pos := "node.go:121", after := #[{ on := 2, ground := Ground.data }, { on := 28, ground := Ground.data }], guard := none }) (v := .bool false) hro rfl (by kernel_rfl) (by kernel_rfl) (by kernel_rfl) (fun _ _ _ h => h) ⟨Or.inl ⟨by rfl, by intro w; go_simp⟩, fun _ => rfl⟩ ?_
      simp only [Act.put, List.setIfInBounds_toArray, List.set_cons_zero, List.set_cons_succ]
      refine wpAnyIn_ready (rs := [30]) (by kernel_rfl) (by decide) (AllReadyIn.cons rfl (fun K hK => ?_) AllReadyIn.nil)
      rw [if_pos (by rfl)]
      go_simp
      refine hK _ _ ?_
      clear hK K
      try simp only [Act.put, List.setIfInBounds_toArray, List.set_cons_zero, List.set_cons_succ]
      refine wpAnyIn_done (by kernel_rfl) ?_ _
      gi_wp2
      go_ret
      exact .inr ⟨rfl, q, hq.trans (by simp [BT.toL]), hx1⟩

end TS
end Go.Proofs.Ytbdnniaajiiimaa
