/- TablePlays: two tables, the slice that holds them, the array that holds the document's lists (own text of the verifier). -/
import Derived.Test.YtbdnniaajiiimaaPpB
namespace Go.Proofs.Ytbdnniaajiiimaa
namespace TS
open Go.RowKit

theorem Tr.keep {w w' : World} {t : BT ByteArray} {p : Option Addr} {b : Nat} {x : Value} (h : Tr w t p) (c : w.cell? ⟨b, 0, none⟩ = some x) (hx : ∀ s, x ≠ .string s) (hk : ∀ k, k < w.heap.size → k ≠ b → w'.heap[k]? = w.heap[k]?) : Tr w' t p := by
  induction t generalizing p with
  | E => exact h
  | N k xx s l r il ir =>
    obtain ⟨g, pl, pr, e, c0, c1, c2, c3, c4, hl, hr⟩ := h
    have hg : g ≠ b := fun e => by
      rw [e, c] at c0
      injection c0 with c0
      exact hx _ c0
    have hb : g < w.heap.size := World.block_lt_of_cell? _ _ c0
    have o : ∀ i, w'.cell? ⟨g, i, none⟩ = w.cell? ⟨g, i, none⟩ := fun i => World.cell?_of_block (w := w) (w' := w') (a := ⟨g, i, none⟩) (hk g hb hg)
    exact ⟨g, pl, pr, e, (o 0).trans c0, (o 1).trans c1, (o 2).trans c2, (o 3).trans c3, (o 4).trans c4, il hl, ir hr⟩
theorem Tab.setO {w : World} {t : BT ByteArray} {U b i : Nat} {x y : Value} (h : Tab w U t) (c : w.cell? ⟨b, 0, none⟩ = some x) (hx : ∀ s, x ≠ .string s) (hne : U ≠ b) : Tab (w.setCell ⟨b, i, none⟩ y) U t := by
  obtain ⟨p, cu, fu, tr, ok⟩ := h
  have e : ∀ k, k ≠ b → (w.setCell ⟨b, i, none⟩ y).heap[k]? = w.heap[k]? := fun k hk => Below.heap_setCell w ⟨b, i, none⟩ y k hk
  exact ⟨p, (World.cell?_of_block (w := w) (w' := w.setCell ⟨b, i, none⟩ y) (a := ⟨U, 0, none⟩) (e U hne)).trans cu, by rw [World.frozen?_setCell]; exact fu, tr.keep c hx (fun k _ hk => e k hk), ok⟩
/-- The fork of a table. -/
theorem Tab.fork {w : World} {t : BT ByteArray} {U : Nat} {p : Option Addr} (h : Tab w U t) (c : w.cell? ⟨U, 0, none⟩ = some (.pointer p)) : Tab (w.alloc (.cells #[.pointer p] 50)) w.heap.size t := by
  obtain ⟨q, cu, fu, tr, ok⟩ := h
  obtain rfl : q = p := by rw [c] at cu; injection cu with cu; injection cu with cu; exact cu.symm
  have hl : U < w.heap.size := World.block_lt_of_cell? _ _ c
  exact ⟨q, by simp, by simp, tr.below ((Below.refl _ _).alloc (Nat.le_refl _) _) (Nat.le_refl _), ok⟩

def up {α : Type} (f : Nat → α) (i : Nat) (a : α) : Nat → α := fun k => if k = i then a else f k
theorem up_same {α : Type} (f : Nat → α) (i : Nat) (a : α) : up f i a i = a := if_pos rfl
theorem up_ne {α : Type} (f : Nat → α) {i k : Nat} (a : α) (h : k ≠ i) : up f i a k = f k := if_neg h

structure YP (w0 W : World) (Bl Bw : Nat) (T : Nat → Nat) (t : Nat → BT ByteArray) (v : Nat → Value) (L : Nat → PL) : Prop where
  cl : ∀ i, i < 2 → W.cell? ⟨Bl, i, none⟩ = some (.pointer (some ⟨T i, 0, none⟩))
  fl : ∀ i, i < 2 → W.frozen? ⟨Bl, i, none⟩ = false
  cw : ∀ i, i < 2 → W.cell? ⟨Bw, i, none⟩ = some (v i)
  fw : ∀ i, i < 2 → W.frozen? ⟨Bw, i, none⟩ = false
  tb : ∀ i, i < 2 → Tab W (T i) (t i)
  ow : ∀ i, i < 2 → OwnP W 0 (v i) (L i)
  ob : ∀ i, i < 2 → ∀ b, (v i).ownBlock = some b → b ≠ Bl ∧ b ≠ Bw ∧ ∀ k, k < 2 → b ≠ T k
  nt : ∀ i k, i < 2 → k < 2 → i ≠ k → T i ≠ T k
  nb : Bl ≠ Bw
  nl : ∀ i, i < 2 → T i ≠ Bl ∧ T i ≠ Bw
  lo : w0.heap.size ≤ Bl ∧ w0.heap.size ≤ Bw ∧ ∀ i, i < 2 → w0.heap.size ≤ T i
  be : Below w0.heap.size w0 W

variable {w0 W : World} {Bl Bw : Nat} {T : Nat → Nat} {t : Nat → BT ByteArray} {v : Nat → Value} {L : Nat → PL}

theorem YP.ltl (h : YP w0 W Bl Bw T t v L) : Bl < W.heap.size := World.block_lt_of_cell? _ _ (h.cl 0 (by omega))
theorem YP.ltw (h : YP w0 W Bl Bw T t v L) : Bw < W.heap.size := World.block_lt_of_cell? _ _ (h.cw 0 (by omega))
theorem YP.at (h : YP w0 W Bl Bw T t v L) {i : Nat} (hi : i < 2) : PL.At W (v i) (L i) := (h.ow i hi).at
theorem YP.slice (h : YP w0 W Bl Bw T t v L) {i : Nat} (hi : i < 2) : ∃ x c, v i = .slice x (L i).length c := by
  obtain ⟨x, c, e, _⟩ := h.at hi
  exact ⟨x, c, e⟩

/-- The world grows. -/
theorem YP.below (h : YP w0 W Bl Bw T t v L) {W' : World} (b : Below W.heap.size W W') : YP w0 W' Bl Bw T t v L where
  cl i hi := (b.cell (p := ⟨Bl, i, none⟩) h.ltl).trans (h.cl i hi)
  fl i hi := (b.frozen (p := ⟨Bl, i, none⟩) h.ltl).trans (h.fl i hi)
  cw i hi := (b.cell (p := ⟨Bw, i, none⟩) h.ltw).trans (h.cw i hi)
  fw i hi := (b.frozen (p := ⟨Bw, i, none⟩) h.ltw).trans (h.fw i hi)
  tb i hi := (h.tb i hi).below b (Nat.le_refl _)
  ow i hi := (h.ow i hi).below b (Nat.le_refl _)
  ob := h.ob
  nt := h.nt
  nb := h.nb
  nl := h.nl
  lo := h.lo
  be := h.be.trans (b.mono h.be.size)

/-- A table changes. -/
theorem YP.put (h : YP w0 W Bl Bw T t v L) {W' : World} {i : Nat} {t' : BT ByteArray} (hi : i < 2) (q : Tab W' (T i) t') (g : W.grownBy W' (some (T i))) : YP w0 W' Bl Bw T (up t i t') v L := by
  have nT : ∀ b, b ≠ T i → some (T i) ≠ some b := fun b hb e => hb (by injection e with e; exact e.symm)
  have hl := h.nl i hi
  obtain ⟨p, hp⟩ := (h.tb i hi).ptr
  have eb : ∀ b, b < W.heap.size → b ≠ T i → W'.heap[b]? = W.heap[b]? := fun b hb hn => g.block b hb (fun e => nT b hn (by rw [e]))
  exact {
    cl := fun k hk => (World.cell?_of_block (w := W) (w' := W') (a := ⟨Bl, k, none⟩) (eb Bl h.ltl hl.1.symm)).trans (h.cl k hk)
    fl := fun k hk => (World.frozen?_of_block (w := W) (w' := W') (a := ⟨Bl, k, none⟩) (eb Bl h.ltl hl.1.symm)).trans (h.fl k hk)
    cw := fun k hk => (World.cell?_of_block (w := W) (w' := W') (a := ⟨Bw, k, none⟩) (eb Bw h.ltw hl.2.symm)).trans (h.cw k hk)
    fw := fun k hk => (World.frozen?_of_block (w := W) (w' := W') (a := ⟨Bw, k, none⟩) (eb Bw h.ltw hl.2.symm)).trans (h.fw k hk)
    tb := fun k hk => by
      by_cases e : k = i
      · subst e; rw [up_same]; exact q
      · rw [up_ne _ _ e]; exact (h.tb k hk).grown g (h.nt k i hk hi e) hp
    ow := fun k hk => (h.ow k hk).same (fun b hb => eb b ((h.ow k hk).lt b hb).2 ((h.ob k hk b hb).2.2 i hi))
    ob := h.ob
    nt := h.nt
    nb := h.nb
    nl := h.nl
    lo := h.lo
    be := h.be.trans (gb_bel g (fun k hk => by injection hk with hk; rw [← hk]; exact h.lo.2.2 i hi) h.be.size) }

/-- A list changes. -/
theorem YP.setw (h : YP w0 W Bl Bw T t v L) {i : Nat} {v' : Value} {L' : PL} (hi : i < 2) (q : OwnP W 0 v' L') (o : ∀ b, v'.ownBlock = some b → b ≠ Bl ∧ b ≠ Bw ∧ ∀ k, k < 2 → b ≠ T k) : YP w0 (W.setCell ⟨Bw, i, none⟩ v') Bl Bw T t (up v i v') (up L i L') := by
  have eb : ∀ b, b ≠ Bw → (W.setCell ⟨Bw, i, none⟩ v').heap[b]? = W.heap[b]? := fun b hb => Below.heap_setCell W ⟨Bw, i, none⟩ v' b hb
  obtain ⟨x0, c0, e0⟩ := h.slice (i := 0) (by omega)
  have cw0 := h.cw 0 (by omega)
  rw [e0] at cw0
  exact {
    cl := fun k hk => (World.cell?_of_block (w := W) (w' := W.setCell ⟨Bw, i, none⟩ v') (a := ⟨Bl, k, none⟩) (eb Bl h.nb)).trans (h.cl k hk)
    fl := fun k hk => by rw [World.frozen?_setCell]; exact h.fl k hk
    cw := fun k hk => by
      by_cases e : k = i
      · subst e; rw [up_same]; exact World.cell?_setCell_same _ _ _ (h.cw k hk)
      · rw [up_ne _ _ e]
        exact (World.cell?_setCell_other _ _ _ _ (by intro q; injection q with _ q; exact e q.symm)).trans (h.cw k hk)
    fw := fun k hk => by rw [World.frozen?_setCell]; exact h.fw k hk
    tb := fun k hk => (h.tb k hk).setO cw0 (fun s => by simp) (h.nl k hk).2
    ow := fun k hk => by
      by_cases e : k = i
      · subst e; rw [up_same, up_same]; exact q.same (fun b hb => eb b (o b hb).2.1)
      · rw [up_ne _ _ e, up_ne _ _ e]; exact (h.ow k hk).same (fun b hb => eb b (h.ob k hk b hb).2.1)
    ob := fun k hk b hb => by
      by_cases e : k = i
      · subst e; rw [up_same] at hb; exact o b hb
      · rw [up_ne _ _ e] at hb; exact h.ob k hk b hb
    nt := h.nt
    nb := h.nb
    nl := h.nl
    lo := h.lo
    be := h.be.setCell h.lo.2.1 _ }

/-- A table stands in another's place. -/
theorem YP.setl (h : YP w0 W Bl Bw T t v L) {i T' : Nat} {t' : BT ByteArray} (hi : i < 2) (q : Tab W T' t') (hb : T' ≠ Bl ∧ T' ≠ Bw) (hT : ∀ k, k < 2 → k ≠ i → T' ≠ T k) (ho : ∀ k, k < 2 → ∀ b, (v k).ownBlock = some b → b ≠ T') (hl : w0.heap.size ≤ T') : YP w0 (W.setCell ⟨Bl, i, none⟩ (.pointer (some ⟨T', 0, none⟩))) Bl Bw (up T i T') (up t i t') v L := by
  have eb : ∀ b, b ≠ Bl → (W.setCell ⟨Bl, i, none⟩ (.pointer (some ⟨T', 0, none⟩))).heap[b]? = W.heap[b]? := fun b hb => Below.heap_setCell W ⟨Bl, i, none⟩ _ b hb
  have cl0 := h.cl 0 (by omega)
  exact {
    cl := fun k hk => by
      by_cases e : k = i
      · subst e; rw [up_same]; exact World.cell?_setCell_same _ _ _ (h.cl k hk)
      · rw [up_ne _ _ e]
        exact (World.cell?_setCell_other _ _ _ _ (by intro q; injection q with _ q; exact e q.symm)).trans (h.cl k hk)
    fl := fun k hk => by rw [World.frozen?_setCell]; exact h.fl k hk
    cw := fun k hk => (World.cell?_of_block (w := W) (w' := W.setCell ⟨Bl, i, none⟩ (.pointer (some ⟨T', 0, none⟩))) (a := ⟨Bw, k, none⟩) (eb Bw h.nb.symm)).trans (h.cw k hk)
    fw := fun k hk => by rw [World.frozen?_setCell]; exact h.fw k hk
    tb := fun k hk => by
      by_cases e : k = i
      · subst e; rw [up_same, up_same]; exact q.setO cl0 (fun s => by simp) hb.1
      · rw [up_ne _ _ e, up_ne _ _ e]; exact (h.tb k hk).setO cl0 (fun s => by simp) (h.nl k hk).1
    ow := fun k hk => (h.ow k hk).same (fun b hb => eb b (h.ob k hk b hb).1)
    ob := fun k hk b hb => ⟨(h.ob k hk b hb).1, (h.ob k hk b hb).2.1, fun m hm => by
      by_cases e : m = i
      · subst e; rw [up_same]; exact ho k hk b hb
      · rw [up_ne _ _ e]; exact (h.ob k hk b hb).2.2 m hm⟩
    nt := fun a b ha hb hne => by
      by_cases e : a = i
      · subst e
        rw [up_same, up_ne _ _ (fun e => hne e.symm)]
        exact hT b hb (fun e => hne e.symm)
      · rw [up_ne _ _ e]
        by_cases e2 : b = i
        · subst e2; rw [up_same]; exact (hT a ha e).symm
        · rw [up_ne _ _ e2]; exact h.nt a b ha hb hne
    nb := h.nb
    nl := fun k hk => by
      by_cases e : k = i
      · subst e; rw [up_same]; exact hb
      · rw [up_ne _ _ e]; exact h.nl k hk
    lo := ⟨h.lo.1, h.lo.2.1, fun k hk => by
      by_cases e : k = i
      · subst e; rw [up_same]; exact hl
      · rw [up_ne _ _ e]; exact h.lo.2.2 k hk⟩
    be := h.be.setCell h.lo.1 _ }
end TS
end Go.Proofs.Ytbdnniaajiiimaa
