/- TableWalks: what is known in a round of the range (own text of the verifier). -/
import Derived.Test.YtbdnniaajiiimaaWkC
import Derived.Test.YtbdnniaajiiimaaAlW
namespace Go.Proofs.Ytbdnniaajiiimaa
namespace TS
open Go.RowKit Go.Shelf

theorem cells_of_cell {w : World} {p : Addr} {v : Value} {o : Obj} (h : w.cell? p = some v) (ho : w.heap[p.block]? = some o) : o.isCells = true := by
  unfold World.cell? at h
  rw [ho] at h
  cases o <;> simp_all [Obj.isCells]
theorem Tr.own {w w' : World} {t : BT ByteArray} {p : Option Addr} {row : Option Nat} (h : Tr w t p) (g : w.grownBy w' row) (hr : ∀ r, row = some r → ∃ o : Obj, w.heap[r]? = some o ∧ o.isCells = false) : Tr w' t p := by
  induction t generalizing p with
  | E => exact h
  | N k v s l r il ir =>
    obtain ⟨b, pl, pr, e, c0, c1, c2, c3, c4, hl, hr'⟩ := h
    have hb : b < w.heap.size := World.block_lt_of_cell? _ _ c0
    have hne : some b ≠ row := fun e => by
      obtain ⟨o, ho, hc⟩ := hr b e.symm
      rw [cells_of_cell c0 ho] at hc
      cases hc
    have o : ∀ i, w'.cell? ⟨b, i, none⟩ = w.cell? ⟨b, i, none⟩ := fun i => World.cell?_of_block (w := w) (w' := w') (a := ⟨b, i, none⟩) (g.block b hb hne)
    exact ⟨b, pl, pr, e, (o 0).trans c0, (o 1).trans c1, (o 2).trans c2, (o 3).trans c3, (o 4).trans c4, il hl, ir hr'⟩
theorem Tab.own {w w' : World} {t : BT ByteArray} {T : Nat} {row : Option Nat} (h : Tab w T t) (g : w.grownBy w' row) (hr : ∀ r, row = some r → ∃ o : Obj, w.heap[r]? = some o ∧ o.isCells = false) : Tab w' T t := by
  obtain ⟨p, cu, fu, tr, ok⟩ := h
  have hb : T < w.heap.size := World.block_lt_of_cell? _ _ cu
  have hne : some T ≠ row := fun e => by
    obtain ⟨o, ho, hc⟩ := hr T e.symm
    rw [cells_of_cell cu ho] at hc
    cases hc
  have e := g.block T hb hne
  exact ⟨p, (World.cell?_of_block (w := w) (w' := w') (a := ⟨T, 0, none⟩) e).trans cu, (World.frozen?_of_block (w := w) (w' := w') (a := ⟨T, 0, none⟩) e).trans fu, tr.own g hr, ok⟩

/-- All as it was but for two blocks. -/
structure K2 (A B : Nat) (a b : World) : Prop where
  os : b.os = a.os
  tape : b.tape = a.tape
  output : b.output = a.output
  size : a.heap.size ≤ b.heap.size
  block : ∀ k, k < a.heap.size → k ≠ A → k ≠ B → b.heap[k]? = a.heap[k]?
theorem K2.refl (A B : Nat) (a : World) : K2 A B a a := ⟨rfl, rfl, rfl, Nat.le_refl _, fun _ _ _ _ => rfl⟩
theorem K2.grown {A B : Nat} {a b c : World} {row : Option Nat} (h : K2 A B a b) (g : b.grownBy c row) (hr : ∀ r, row = some r → r = A ∨ r = B ∨ a.heap.size ≤ r) : K2 A B a c :=
  ⟨g.os.trans h.os, g.tape.trans h.tape, g.output.trans h.output, Nat.le_trans h.size g.size, fun k hk h1 h2 => (g.block k (Nat.lt_of_lt_of_le hk h.size) (fun e => by rcases hr k e.symm with e | e | e <;> omega)).trans (h.block k hk h1 h2)⟩
theorem K2.set {A B : Nat} {a b : World} {v : Value} (h : K2 A B a b) : K2 A B a (b.setCell ⟨B, 0, none⟩ v) :=
  h.grown (grownBy_setCell' b B v) (fun _ e => .inr (.inl (Option.some.inj e).symm))
theorem K2.boxed {A B C : Nat} {a b : World} {ty : TypeId} {v : Value} (h : K2 A B a b) (x : Boxed a C ty v) (h1 : C ≠ A) (h2 : C ≠ B) : Boxed b C ty v := (h.block C x.lt h1 h2).trans x
theorem K2.below {A B C : Nat} {a b : World} (h : K2 A B a b) (hA : C ≤ A) (hB : C ≤ B) (hs : C ≤ a.heap.size) : Below C a b := ⟨h.os, h.tape, h.output, h.size, fun k hk => h.block k (by omega) (by omega) (by omega)⟩
theorem K2.cell {A B : Nat} {a b : World} (h : K2 A B a b) {p : Addr} {v : Value} (c : a.cell? p = some v) (h1 : p.block ≠ A) (h2 : p.block ≠ B) : b.cell? p = some v :=
  (World.cell?_of_block (w := a) (w' := b) (a := p) (h.block p.block (World.block_lt_of_cell? _ _ c) h1 h2)).trans c

/-- In the range over From: seen so far, the table as it is now, the rest as it was. -/
structure RJ (W0 : World) (T S : Nat) (FR : PL) (pre : PL) (W : World) : Prop where
  sn : Boxed W S 3 (.int .i64 (pre.length : Int))
  pf : pre <+: FR
  tb : ∃ u, Tab W T u ∧ u.cnt ≤ 1048576 + pre.length
  kp : K2 T S W0 W
theorem RJ.own {W0 : World} {T S : Nat} {FR : PL} (hS : S < W0.heap.size) : OwnFrom W0.heap.size (RJ W0 T S FR) := fun pre W W' row h g hr =>
  ⟨h.sn.kept g (fun e => by have := (hr S e.symm).1; omega), h.pf, by
    obtain ⟨u, hu, hc⟩ := h.tb
    exact ⟨u, hu.own g (fun r e => (hr r e).2), hc⟩, h.kp.grown g (fun r e => .inr (.inr (hr r e).1))⟩

/-- The walk from k on gives the rising list behind k's rank. -/
theorem fr_filter (k : ByteArray) : ∀ t : BT ByteArray, BT.Srt ltK t.toL → frT k t = t.toL.filter (fun a => !ltK a.1 k)
  | .E, _ => rfl
  | .N x v s l r, h => by
    obtain ⟨h1, h2, h3, h4⟩ := BT.Srt.parts (lt := ltK) (A := l.toL) (B := r.toL) (x := (x, v)) h
    cases hx : ltK x k with
    | true =>
      have e1 : l.toL.filter (fun a => !ltK a.1 k) = [] := List.filter_eq_nil_iff.2 (fun a ha => by rw [ordS.tra _ _ _ (h3 a ha) hx]; decide)
      rw [frT_lt hx, fr_filter k r h2, BT.toL, List.filter_append, e1, List.filter_cons, if_neg (by rw [hx]; decide), List.nil_append]
    | false =>
      have e1 : r.toL.filter (fun a => !ltK a.1 k) = r.toL := List.filter_eq_self.2 (fun a ha => by
        have hb := h4 a ha
        cases hak : ltK a.1 k with
        | false => rfl
        | true => rw [ordS.tra _ _ _ hb hak] at hx; cases hx)
      rw [frT_ge hx, fr_filter k l h1, BT.toL, List.filter_append, List.filter_cons, if_pos (by rw [hx]; decide), e1]
theorem filter_drop (k : ByteArray) : ∀ M : PL, BT.Srt ltK M → M.filter (fun a => !ltK a.1 k) = M.drop (BT.rkL ltK k M)
  | [], _ => rfl
  | a :: M, h => by
    obtain ⟨h1, h2⟩ := BT.srt_cons h
    unfold BT.rkL
    cases hx : ltK a.1 k with
    | true =>
      rw [List.filter_cons, if_neg (by rw [hx]; decide), List.filter_cons, if_pos hx, List.length_cons, List.drop_succ_cons, filter_drop k M h1]
      rfl
    | false =>
      have hall : ∀ b ∈ M, ltK b.1 k = false := fun b hb => by
        cases hbk : ltK b.1 k with
        | false => rfl
        | true => rw [ordS.tra _ _ _ (h2 b hb) hbk] at hx; cases hx
      rw [List.filter_eq_self.2 (fun b hb => by
        rcases List.mem_cons.1 hb with rfl | hb
        · rw [hx]; rfl
        · rw [hall b hb]; rfl), List.filter_eq_nil_iff.2 (fun b hb => by
        rcases List.mem_cons.1 hb with rfl | hb
        · rw [hx]; decide
        · rw [hall b hb]; decide)]
      rfl
theorem fr_drop (k : ByteArray) (t : BT ByteArray) (h : BT.Srt ltK t.toL) : frT k t = t.toL.drop (BT.rkL ltK k t.toL) := (fr_filter k t h).trans (filter_drop k _ h)
end TS
end Go.Proofs.Ytbdnniaajiiimaa
