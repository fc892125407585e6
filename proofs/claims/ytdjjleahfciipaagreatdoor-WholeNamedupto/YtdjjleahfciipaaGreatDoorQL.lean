/- Gathered: ScF. -/
import Derived.Laws.IdiomStrings
import Derived.RangeFuncBox
import Derived.Deep.RegionHeld3
import Derived.Test.YtdjjleahfciipaaGreatDoorQK
/- scan.Rewriter: what it is in memory; its closure, walked (own text of the verifier). -/
namespace Go.Proofs.YtdjjleahfciipaaGreatDoor
open Go.RowKit
namespace Sc

def pv_ (Ps : List Nat) : List Value := Ps.map fun (i : Nat) => Value.int .i64 (i : Int)
/-- Block g is a rewriter. -/
structure RM (W : World) (g n : Nat) (kept f t : List UInt8) (Ps : List Nat) (cl : Bool) (pv : Value) : Prop where
  win : Win W g n kept
  cf : W.cell? ⟨g, 33, none⟩ = some (.string (ba f))
  ct : W.cell? ⟨g, 34, none⟩ = some (.string (ba t))
  cp : W.cell? ⟨g, 35, none⟩ = some pv
  fp : W.frozen? ⟨g, 35, none⟩ = false
  cc : W.cell? ⟨g, 36, none⟩ = some (.bool cl)
  fc : W.frozen? ⟨g, 36, none⟩ = false
  pr : W.ownsRow 0 3 1 pv Ps.length (pv_ Ps)
  pg : pv.ownBlock ≠ some g
theorem RM.same {W W' : World} {g n : Nat} {kept f t : List UInt8} {Ps : List Nat} {cl : Bool} {pv : Value} (h : RM W g n kept f t Ps cl pv) (e : W'.heap[g]? = W.heap[g]?) (ep : ∀ k, pv.ownBlock = some k → W'.heap[k]? = W.heap[k]?) : RM W' g n kept f t Ps cl pv := by
  have c : ∀ i, W'.cell? ⟨g, i, none⟩ = W.cell? ⟨g, i, none⟩ := fun i => World.cell?_of_block (w := W) (w' := W') (a := ⟨g, i, none⟩) e
  have fz : ∀ i, W'.frozen? ⟨g, i, none⟩ = W.frozen? ⟨g, i, none⟩ := fun i => World.frozen?_of_block (w := W) (w' := W') (a := ⟨g, i, none⟩) e
  exact ⟨h.win.same e, (c _).trans h.cf, (c _).trans h.ct, (c _).trans h.cp, (fz _).trans h.fp, (c _).trans h.cc, (fz _).trans h.fc, row_same h.pr ep, h.pg⟩
theorem RM.lt {W : World} {g n : Nat} {kept f t : List UInt8} {Ps : List Nat} {cl : Bool} {pv : Value} (h : RM W g n kept f t Ps cl pv) : g < W.heap.size := h.win.lt
theorem RM.below {W W' : World} {g n : Nat} {kept f t : List UInt8} {Ps : List Nat} {cl : Bool} {pv : Value} (h : RM W g n kept f t Ps cl pv) (b : Below W.heap.size W W') : RM W' g n kept f t Ps cl pv :=
  h.same (b.block g h.lt) (fun k hk => b.block k (h.pr.lt k hk).2)
/-- All but block g and the places' old row is as it was. -/
structure KX (g : Nat) (pb : Option Nat) (a b : World) : Prop where
  os : b.os = a.os
  tape : b.tape = a.tape
  output : b.output = a.output
  size : a.heap.size ≤ b.heap.size
  block : ∀ k, k < a.heap.size → k ≠ g → some k ≠ pb → b.heap[k]? = a.heap[k]?
theorem KX.refl (g : Nat) (pb : Option Nat) (a : World) : KX g pb a a := ⟨rfl, rfl, rfl, Nat.le_refl _, fun _ _ _ _ => rfl⟩
theorem KX.grown {g : Nat} {pb r : Option Nat} {a b c : World} (h : KX g pb a b) (k : b.grownBy c r) (hr : ∀ j, r = some j → j = g ∨ some j = pb ∨ a.heap.size ≤ j) : KX g pb a c :=
  ⟨k.os.trans h.os, k.tape.trans h.tape, k.output.trans h.output, Nat.le_trans h.size k.size, fun i h1 h2 h3 => (k.block i (Nat.lt_of_lt_of_le h1 h.size) (fun e => by rcases hr i e.symm with q | q | q; exact h2 q; exact h3 q; omega)).trans (h.block i h1 h2 h3)⟩
theorem KX.below {g B : Nat} {pb : Option Nat} {a b c : World} (h : KX g pb a b) (k : Below B b c) (hB : a.heap.size ≤ B) : KX g pb a c :=
  ⟨k.os.trans h.os, k.tape.trans h.tape, k.output.trans h.output, Nat.le_trans h.size k.size, fun i h1 h2 h3 => (k.block i (by omega)).trans (h.block i h1 h2 h3)⟩

/-- In the midst of a Feed: all but what the text says. -/
structure FJ0 (W0 W : World) (g S2 S5 S6 S7 S8 n o : Nat) (kept text f t : List UInt8) (pb : Option Nat) (xv : Value) (wr : Nat) (O : List UInt8) (Ps : List Nat) (pv : Value) : Prop where
  rm : RM W g n kept f t Ps false pv
  b2 : Boxed W S2 70 (.pointer (some ⟨g, 0, none⟩))
  b5 : Boxed W S5 3 (.int .i64 (o : Int))
  b6 : Boxed W S6 45 xv
  b8 : Boxed W S8 3 (.int .i64 (wr : Int))
  bd : BdS 54 W S7 O
  tx : Txt W xv text
  ap : ∀ k, pv.ownBlock = some k → k ≠ S2 ∧ k ≠ S5 ∧ k ≠ S6 ∧ k ≠ S7 ∧ k ≠ S8
  ord : g < S2 ∧ S2 < S5 ∧ S5 < S6 ∧ S6 < S7 ∧ S7 < S8
  px : pv.ownBlock = pb ∨ ∀ k, pv.ownBlock = some k → W0.heap.size ≤ k
  kx : KX g pb W0 W
  xb : ∀ a l c, xv = .slice (some a) l c → a.block < S6 ∧ ∀ k, pv.ownBlock = some k → k ≠ a.block
  w0 : W0.heap.size ≤ S2
theorem FJ0.below {W0 W W' : World} {g S2 S5 S6 S7 S8 n o : Nat} {kept text f t : List UInt8} {pb : Option Nat} {xv : Value} {wr : Nat} {O : List UInt8} {Ps : List Nat} {pv : Value} (h : FJ0 W0 W g S2 S5 S6 S7 S8 n o kept text f t pb xv wr O Ps pv) (b : Below W.heap.size W W') : FJ0 W0 W' g S2 S5 S6 S7 S8 n o kept text f t pb xv wr O Ps pv :=
  ⟨h.rm.below b, (b.block _ h.b2.lt).trans h.b2, (b.block _ h.b5.lt).trans h.b5, (b.block _ h.b6.lt).trans h.b6, (b.block _ h.b8.lt).trans h.b8, h.bd.below b, h.tx.below b, h.ap, h.ord, h.px, h.kx.below b h.kx.size, h.xb, h.w0⟩
theorem Txt.same {W W' : World} {v : Value} {l : List UInt8} (h : Txt W v l) (e : ∀ a n c, v = .slice (some a) n c → a.block < W.heap.size → W'.heap[a.block]? = W.heap[a.block]?) : Txt W' v l := by
  obtain ⟨x, c, hv, hc, hlc⟩ := h
  refine ⟨x, c, hv, fun i y hy => ?_, hlc⟩
  obtain ⟨a, o, h1, h2⟩ := hc i y hy
  have hb : a < W.heap.size := World.block_lt_of_cell? _ _ h2
  exact ⟨a, o, h1, (World.cell?_of_block (w := W) (w' := W') (a := ⟨a, o + i, none⟩) (e ⟨a, o, none⟩ _ _ (by rw [hv, h1]) hb)).trans h2⟩
theorem Bd_keep {T : TypeId} {w w' : World} {g : Nat} {l : List UInt8} (h : BdS T w g l) (e : w'.heap[g]? = w.heap[g]?) (hr : ∀ k, g < k → k < w.heap.size → (∃ cur fz, w.heap[k]? = some (.cells cur 5 fz)) → w'.heap[k]? = w.heap[k]?) : BdS T w' g l := by
  obtain ⟨ad, v, hb, h1, h2⟩ := h
  exact ⟨ad, v, e.trans hb, h1, row_same h2 (fun k hk => hr k (by have := (h2.lt k hk).1; omega) (h2.lt k hk).2 (row_u8 h2 k hk))⟩
theorem row_i64 {w : World} {B : Nat} {v : Value} {n : Nat} {xs : List Value} (h : w.ownsRow B 3 1 v n xs) : ∀ k, v.ownBlock = some k → ∃ cur fz, w.heap[k]? = some (.cells cur 3 fz) := by
  intro k hk
  rcases h.2 with ⟨rfl, _⟩ | ⟨g, cap, cur, rfl, _, hg, _⟩
  · cases hk
  · cases hk; exact ⟨cur, _, hg⟩
/-- What is written to the builder. -/
theorem FJ0.wrote {W0 W W' : World} {g S2 S5 S6 S7 S8 n o : Nat} {kept text f t : List UInt8} {pb : Option Nat} {xv : Value} {wr : Nat} {O O' : List UInt8} {Ps : List Nat} {pv : Value} (h : FJ0 W0 W g S2 S5 S6 S7 S8 n o kept text f t pb xv wr O Ps pv) (bd : BdS 54 W' S7 O') (b : Below S7 W W') (k : Bk S7 W W') : FJ0 W0 W' g S2 S5 S6 S7 S8 n o kept text f t pb xv wr O' Ps pv := by
  obtain ⟨o1, o2, o3, o4, o5⟩ := h.ord
  have k8 : W'.heap[S8]? = W.heap[S8]? := k.keep S8 h.b8.lt (by omega) (fun cur fz e => by rw [show W.heap[S8]? = _ from h.b8] at e; injection e with e; injection e with _ e _; cases e)
  refine ⟨h.rm.same (b.block g (by omega)) (fun j hj => ?_), (b.block _ (by omega)).trans h.b2, (b.block _ (by omega)).trans h.b5, (b.block _ (by omega)).trans h.b6, k8.trans h.b8, bd, h.tx.same (fun a l c hv ha => b.block _ (by have := (h.xb a l c hv).1; omega)), h.ap, h.ord, h.px, h.kx.below b (by have := h.w0; omega), h.xb, h.w0⟩
  obtain ⟨cur, fz, hc⟩ := row_i64 h.rm.pr j hj
  exact k.keep j (h.rm.pr.lt j hj).2 (h.ap j hj).2.2.2.1 (fun cur' fz' e => by rw [hc] at e; injection e with e; injection e with _ e _; cases e)
/-- The box of what is written is set. -/
theorem FJ0.set8 {W0 W : World} {g S2 S5 S6 S7 S8 n o : Nat} {kept text f t : List UInt8} {pb : Option Nat} {xv : Value} {wr : Nat} {O : List UInt8} {Ps : List Nat} {pv : Value} (h : FJ0 W0 W g S2 S5 S6 S7 S8 n o kept text f t pb xv wr O Ps pv) (m : Nat) : FJ0 W0 (W.setCell ⟨S8, 0, none⟩ (.int .i64 (m : Int))) g S2 S5 S6 S7 S8 n o kept text f t pb xv m O Ps pv := by
  obtain ⟨o1, o2, o3, o4, o5⟩ := h.ord
  have e : ∀ k, k ≠ S8 → (W.setCell ⟨S8, 0, none⟩ (.int .i64 (m : Int))).heap[k]? = W.heap[k]? := fun k hk => Below.heap_setCell W ⟨S8, 0, none⟩ _ k hk
  refine ⟨h.rm.same (e g (by omega)) (fun j hj => e j (h.ap j hj).2.2.2.2), (e _ (by omega)).trans h.b2, (e _ (by omega)).trans h.b5, (e _ (by omega)).trans h.b6, h.b8.set _, Bd_keep h.bd (e _ (by omega)) (fun k _ _ hk => e k (fun q => ?_)), h.tx.same (fun a l c hv _ => e _ (by have := (h.xb a l c hv).1; omega)), h.ap, h.ord, h.px, h.kx.grown (gb_setC W S8 0 _) (fun j hj => .inr (.inr (by injection hj with hj; have := h.w0; omega))), h.xb, h.w0⟩
  obtain ⟨cur, fz, hc⟩ := hk
  rw [q, show W.heap[S8]? = _ from h.b8] at hc
  injection hc with hc
  injection hc with _ hc _
  cases hc
/-- A place more. -/
theorem FJ0.place {W0 W W1 W2 : World} {g S2 S5 S6 S7 S8 n o : Nat} {kept text f t : List UInt8} {pb : Option Nat} {xv : Value} {wr : Nat} {O : List UInt8} {Ps Ps' : List Nat} {pv pv' : Value} (h : FJ0 W0 W g S2 S5 S6 S7 S8 n o kept text f t pb xv wr O Ps pv) (b : Below W.heap.size W W1) (G : W1.grownBy W2 pv.ownBlock) (own : W2.ownsRow 0 3 1 pv' Ps'.length (pv_ Ps')) (hb : pv'.ownBlock = pv.ownBlock ∨ pv'.ownBlock = some W1.heap.size) (hxg : ∀ a l c, xv = .slice (some a) l c → a.block ≠ g) :
    FJ0 W0 (W2.setCell ⟨g, 35, none⟩ pv') g S2 S5 S6 S7 S8 n o kept text f t pb xv wr O Ps' pv' ∧ W2.cell? ⟨g, 35, none⟩ = some pv ∧ W2.frozen? ⟨g, 35, none⟩ = false := by
  obtain ⟨o1, o2, o3, o4, o5⟩ := h.ord
  have h1 := h.below b
  have z1 : W.heap.size ≤ W1.heap.size := b.size
  have e2 : ∀ k, k < W1.heap.size → pv.ownBlock ≠ some k → W2.heap[k]? = W1.heap[k]? := fun k hk hn => G.block k hk (fun q => hn q.symm)
  have e3 : ∀ k, k ≠ g → (W2.setCell ⟨g, 35, none⟩ pv').heap[k]? = W2.heap[k]? := fun k hk => Below.heap_setCell W2 ⟨g, 35, none⟩ pv' k hk
  have e : ∀ k, k < W1.heap.size → k ≠ g → pv.ownBlock ≠ some k → (W2.setCell ⟨g, 35, none⟩ pv').heap[k]? = W1.heap[k]? := fun k hk h1 h2 => (e3 k h1).trans (e2 k hk h2)
  have ap' : ∀ k, pv'.ownBlock = some k → pv.ownBlock = some k ∨ k = W1.heap.size := fun k hk => by
    rcases hb with q | q
    · left; rw [← q]; exact hk
    · right; rw [q] at hk; exact (Option.some.inj hk).symm
  have l2 := h1.b2.lt
  have l5 := h1.b5.lt
  have l6 := h1.b6.lt
  have l7 := h1.bd.lt
  have l8 := h1.b8.lt
  have lg := h1.rm.lt
  have np : ∀ k, k = S2 ∨ k = S5 ∨ k = S6 ∨ k = S7 ∨ k = S8 → pv.ownBlock ≠ some k := fun k hk q => by
    obtain ⟨a1, a2, a3, a4, a5⟩ := h.ap k q
    rcases hk with r | r | r | r | r
    · exact a1 r
    · exact a2 r
    · exact a3 r
    · exact a4 r
    · exact a5 r
  have eg : W2.heap[g]? = W1.heap[g]? := e2 g lg h.rm.pg
  have c : ∀ i, W2.cell? ⟨g, i, none⟩ = W1.cell? ⟨g, i, none⟩ := fun i => World.cell?_of_block (w := W1) (w' := W2) (a := ⟨g, i, none⟩) eg
  have c35 : W2.cell? ⟨g, 35, none⟩ = some pv := (c 35).trans h1.rm.cp
  have f35 : W2.frozen? ⟨g, 35, none⟩ = false := (World.frozen?_of_block (w := W1) (w' := W2) (a := ⟨g, 35, none⟩) eg).trans h1.rm.fp
  have co : ∀ i, i ≠ 35 → (W2.setCell ⟨g, 35, none⟩ pv').cell? ⟨g, i, none⟩ = W1.cell? ⟨g, i, none⟩ := fun i hi => (World.cell?_setCell_other _ _ _ _ (by intro q; injection q with _ q; exact hi q.symm)).trans (c i)
  have fo : ∀ i, (W2.setCell ⟨g, 35, none⟩ pv').frozen? ⟨g, i, none⟩ = W1.frozen? ⟨g, i, none⟩ := fun i => by rw [World.frozen?_setCell]; exact World.frozen?_of_block (w := W1) (w' := W2) (a := ⟨g, i, none⟩) eg
  have hw := h1.rm.win
  have hsh := hw.sh
  have pg' : pv'.ownBlock ≠ some g := fun q => by
    rcases ap' g q with r | r
    · exact h.rm.pg r
    · omega
  refine ⟨⟨⟨⟨(co 0 (by omega)).trans hw.c0, (fo 0).trans hw.f0, (co 1 (by omega)).trans hw.c1, (fo 1).trans hw.f1, fun i b hb => (co _ (by have := (List.getElem?_eq_some_iff.1 hb).1; omega)).trans (hw.kp i b hb), fun i hi => by rw [co _ (by omega)]; exact hw.rm i hi, fun i hi => (fo _).trans (hw.fr i hi), hsh⟩, (co _ (by omega)).trans h1.rm.cf, (co _ (by omega)).trans h1.rm.ct, World.cell?_setCell_same _ _ _ c35, by rw [World.frozen?_setCell]; exact f35, (co _ (by omega)).trans h1.rm.cc, (fo _).trans h1.rm.fc, row_same own (fun k hk => e3 k (fun q => pg' (by rw [← q]; exact hk))), pg'⟩,
    (e _ l2 (by omega) (np _ (by simp))).trans h1.b2, (e _ l5 (by omega) (np _ (by simp))).trans h1.b5, (e _ l6 (by omega) (np _ (by simp))).trans h1.b6, (e _ l8 (by omega) (np _ (by simp))).trans h1.b8,
    Bd_keep h1.bd (e _ l7 (by omega) (np _ (by simp))) (fun k hk1 hk2 hk3 => e k hk2 (by omega) (fun q => ?_)), h1.tx.same (fun a l c hv ha => ?_), fun k hk => ?_, h.ord, ?_, ?_, ?_, h.w0⟩, c35, f35⟩
  · obtain ⟨cur, fz, hc⟩ := hk3
    obtain ⟨cur', fz', hc'⟩ := row_i64 h1.rm.pr k q
    rw [hc] at hc'
    injection hc' with hc'
    injection hc' with _ hc' _
    cases hc'
  · have hx := h.xb a l c hv
    exact e _ ha (hxg a l c hv) (fun q => hx.2 _ q rfl)
  · rcases ap' k hk with r | r
    · exact h.ap k r
    · subst r; exact ⟨by omega, by omega, by omega, by omega, by omega⟩
  · rcases hb with q | q
    · rcases h.px with r | r
      · left; rw [q]; exact r
      · right; rw [q]; exact r
    · right
      intro k hk
      rw [q] at hk
      have := Option.some.inj hk
      have := h.kx.size
      omega
  · refine (h1.kx.grown G (fun j hj => ?_)).grown (gb_setC W2 g 35 pv') (fun j hj => .inl (Option.some.inj hj).symm)
    rcases h.px with r | r
    · exact .inr (.inl (by rw [← r]; exact hj.symm))
    · exact .inr (.inr (r j hj))
  · intro a l c hv
    refine ⟨(h.xb a l c hv).1, fun k hk => ?_⟩
    rcases ap' k hk with r | r
    · exact (h.xb a l c hv).2 k r
    · have := (h.xb a l c hv).1
      omega
/-- In the midst of a Feed. -/
structure FJ (W0 W : World) (g S2 S5 S6 S7 S8 n o : Nat) (kept text f t : List UInt8) (pb : Option Nat) (Ps0 : List Nat) (xv : Value) (at_ wr : Nat) (O : List UInt8) (Ps : List Nat) (pv : Value) : Prop where
  rs : RS f t text o at_ wr O Ps
  z : FJ0 W0 W g S2 S5 S6 S7 S8 n o kept text f t pb xv wr O (Ps0 ++ Ps) pv
theorem und41 : Tryz.prog.underlying 32 = some (.slice 3) := by kernel_rfl
theorem info3 : (Tryz.prog.info? 3).map (fun i => (i.zero, i.size, i.bytes)) = some (some (.int .i64 0), 1, 8) := by kernel_rfl
/-- append(places, m). -/
theorem app_place (W : World) (xp : Option Addr) (np cp : Nat) (Ps : List Nat) (m : Nat) (hr : W.ownsRow 0 3 1 (.slice xp np cp) Ps.length (pv_ Ps)) (hl : Ps.length ≤ 1099511627776) :
    ∃ xq nq cq W2, (Builtin.append_ #[32, 32] 32 #[.slice xp np cp, .slice (some ⟨W.heap.size, 0, none⟩) 1 1]).run Tryz.prog (W.alloc (.cells #[.int .i64 (m : Int)] 3)) = .ok (.slice xq nq cq) W2 ∧ W2.ownsRow 0 3 1 (.slice xq nq cq) (Ps ++ [m]).length (pv_ (Ps ++ [m])) ∧ (W.alloc (.cells #[.int .i64 (m : Int)] 3)).grownBy W2 (Value.slice xp np cp).ownBlock ∧ ((Value.slice xq nq cq).ownBlock = (Value.slice xp np cp).ownBlock ∨ (Value.slice xq nq cq).ownBlock = some (W.alloc (.cells #[.int .i64 (m : Int)] 3)).heap.size) := by
  obtain ⟨i0, hi, hz0, hz1, hz2⟩ := info_parts info3
  obtain ⟨v', w2, h1, h2, h3, _, h5⟩ := run_append_own_at (P := Tryz.prog) (W.alloc (.cells #[.int .i64 (m : Int)] 3)) 0 32 32 3 i0 (.int .i64 0) 1 8 und41 hi hz0 hz1 hz2 rfl (by decide) (.slice xp np cp) Ps.length (pv_ Ps) (hr.alloc _) ⟨W.heap.size, 0, none⟩ 1 1 [.int .i64 (m : Int)] rfl (fun j u hj =>
      match j, hj with
      | 0, hj => by simp at hj; subst hj; exact (World.cell?_alloc_new W _ _ 0).trans rfl) (by intro u hu; simp at hu; subst hu; rfl) (by unfold maxLen; omega) (by omega) (Nat.zero_le _)
  obtain ⟨xq, cq, rfl⟩ := slice_of_row h2
  refine ⟨xq, _, cq, w2, h1, ?_, h3, h5⟩
  rw [List.length_append, show pv_ (Ps ++ [m]) = pv_ Ps ++ [.int .i64 (m : Int)] by unfold pv_; simp]
  exact h2
theorem operWp_app {o : Oper} {a : Act} {w : World} {K : Act → World → Prop} {Q : Exit → Act → World → Prop} (t u : TypeId) (s x : Operand)
    (ho : o.op = .call { callee := .builtin .append, args := #[s, x], argTypes := #[t, u] }) (v y v' : Value) (w' : World) (hs : a.eval s = v) (hx : a.eval x = y)
    (hr : (Builtin.append_ #[t, u] o.type #[v, y]).run Tryz.prog w = .ok v' w') (h : K (a.put o.dst v') w') : o.wp Tryz.prog a w K Q := by
  unfold Oper.wp
  simp [execOp, ho, resolve, invoke, builtin, hs, hx, hr, Result.andThen]
  exact h
theorem conv_win {W : World} {l : List UInt8} {A o c : Nat} (h : Txt W (.slice (some ⟨A, o, none⟩) l.length c) l) {p q : Nat} (hpq : p ≤ q) (hq : q ≤ l.length) (cap : Nat) :
    (convert 45 9 (.slice (some ⟨A, o + p, none⟩) (q - p) cap)).run Tryz.prog W = .ok (.string (ba ((l.take q).drop p))) W := by
  have hlen : ((l.take q).drop p).length = q - p := by rw [List.length_drop, List.length_take]; omega
  have hr := run_convert_bytes_back (P := Tryz.prog) W 45 9 5 ⟨A, o + p, none⟩ cap ((l.take q).drop p) und30 Tryz.underlying5 Tryz.underlying9 (fun j hj => by
    rw [hlen] at hj
    obtain ⟨x, c', e, hc, _⟩ := h
    have hb : l[p + j]? = some (((l.take q).drop p)[j]'(by rw [hlen]; exact hj)) := by
      rw [← List.getElem?_eq_getElem, List.getElem?_drop, List.getElem?_take, if_pos (by omega)]
    obtain ⟨a', o', e1, h2⟩ := hc _ _ hb
    injection e with e2 _ _
    rw [← e2] at e1
    injection e1 with e1
    injection e1 with e3 e4
    subst e3; subst e4
    rw [Addr.add_lit, Nat.add_assoc]
    exact h2)
  rw [hlen] at hr
  exact hr
theorem Txt.sub {W : World} {l : List UInt8} {A o c : Nat} (h : Txt W (.slice (some ⟨A, o, none⟩) l.length c) l) {p q : Nat} (hpq : p ≤ q) (hq : q ≤ l.length) : Txt W (.slice (some ⟨A, o + p, none⟩) (q - p) (c - p)) ((l.take q).drop p) := by
  have hlen : ((l.take q).drop p).length = q - p := by rw [List.length_drop, List.length_take]; omega
  obtain ⟨x, c', e, hc, hlc⟩ := h
  injection e with e2 _ e3
  subst e2; subst e3
  refine ⟨_, c - p, by rw [hlen], fun i b hb => ?_, by rw [hlen]; omega⟩
  have hi : i < q - p := by rw [← hlen]; exact (List.getElem?_eq_some_iff.1 hb).1
  rw [List.getElem?_drop, List.getElem?_take, if_pos (by omega)] at hb
  obtain ⟨a', o', e1, h2⟩ := hc _ _ hb
  injection e1 with e1
  injection e1 with e3 e4
  subst e3; subst e4
  exact ⟨A, o + p, rfl, by rw [Nat.add_assoc]; exact h2⟩
theorem win_td (l : List UInt8) (p : Nat) : (l.take (p + 32)).drop p = win l p := by
  unfold win
  rw [List.drop_take]
  congr 1
  omega

theorem FJ.below {W0 W W' : World} {g S2 S5 S6 S7 S8 n o : Nat} {kept text f t : List UInt8} {pb : Option Nat} {Ps0 : List Nat} {xv : Value} {a wr : Nat} {O : List UInt8} {Ps : List Nat} {pv : Value} (h : FJ W0 W g S2 S5 S6 S7 S8 n o kept text f t pb Ps0 xv a wr O Ps pv) (b : Below W.heap.size W W') : FJ W0 W' g S2 S5 S6 S7 S8 n o kept text f t pb Ps0 xv a wr O Ps pv := ⟨h.rs, h.z.below b⟩
theorem FJ.rs' {W0 W : World} {g S2 S5 S6 S7 S8 n o : Nat} {kept text f t : List UInt8} {pb : Option Nat} {Ps0 : List Nat} {xv : Value} {a a' wr : Nat} {O : List UInt8} {Ps : List Nat} {pv : Value} (h : FJ W0 W g S2 S5 S6 S7 S8 n o kept text f t pb Ps0 xv a wr O Ps pv) (r : RS f t text o a' wr O Ps) : FJ W0 W g S2 S5 S6 S7 S8 n o kept text f t pb Ps0 xv a' wr O Ps pv := ⟨r, h.z⟩

set_option maxRecDepth 100000 in
set_option maxHeartbeats 4000000 in
theorem rfeedc_any (W0 W : World) (g S2 S5 S6 S7 S8 n o : Nat) (kept text f t : List UInt8) (pb : Option Nat) (Ps0 : List Nat) (xv : Value) (a wr : Nat) (O : List UInt8) (Ps : List Nat) (pv : Value)
    (h : FJ W0 W g S2 S5 S6 S7 S8 n o kept text f t pb Ps0 xv a wr O Ps pv) (hat : a + 32 ≤ text.length) (htl : text.length ≤ 536870912) (hon : o ≤ 1099511627776) (hf : f.length = 32) (ht : t.length = 32) (hol : O.length = wr) (hpl : Ps.length ≤ a) (hp0 : Ps0.length ≤ 549755813888) (hxg : ∀ x l c, xv = .slice (some x) l c → x.block ≠ g) :
    Calls Tryz.prog 57 #[.int .i64 (a : Int), .pointer (some ⟨S6, 0, none⟩), .pointer (some ⟨S2, 0, none⟩), .pointer (some ⟨S5, 0, none⟩), .pointer (some ⟨S7, 0, none⟩), .pointer (some ⟨S8, 0, none⟩)] W fun e W' =>
      ∃ s : Nat, (s = 1 ∨ s = 32) ∧ e = .returned (.int .i64 (s : Int)) ∧ ∃ wr' O' Ps' pv', FJ W0 W' g S2 S5 S6 S7 S8 n o kept text f t pb Ps0 xv (a + s) wr' O' Ps' pv' ∧ O'.length = wr' ∧ Ps'.length ≤ a + s := by
  obtain ⟨A, oo, c, hxv, hA, _, hlc⟩ := h.z.tx.at (by omega)
  have HT : ∀ q, Txt (W.drewN q) (.slice (some ⟨A, oo, none⟩) text.length c) text := fun q => by rw [← hxv]; exact h.z.tx.below (bel_drewN (Below.refl _ _) q)
  have hcv : ∀ q cap, (convert 45 9 (.slice (some ⟨A, oo + a, none⟩) 32 cap)).run Tryz.prog (W.drewN q) = .ok (.string (ba (win text a))) (W.drewN q) := fun q cap => by
    have := conv_win (HT q) (p := a) (q := a + 32) (by omega) hat cap
    rw [win_td, show a + 32 - a = 32 by omega] at this
    exact this
  have c6 := h.z.b6.cell
  rw [hxv] at c6
  have c2 := h.z.b2.cell
  have cf := h.z.rm.cf
  have h1 : (a : Int) + 32 ≤ (c : Int) := by omega
  have h2 : IntKind.i64.wrap ((a : Int) + 32) = (a : Int) + 32 := by rw [IntKind.wrap_i64]; omega
  have h3 : a + 32 ≤ c := by omega
  have hrs := h.rs
  have hwa : wr ≤ a := hrs.wl
  have HF : Hid (FJ W0 W g S2 S5 S6 S7 S8 n o kept text f t pb Ps0 xv a wr O Ps pv) := h
  clear h HT
  generalize htx : text.length = tl at *
  by_cases hw : win text a = f
  · have e1 : ((ba (win text a)).toList != (ba f).toList) = false := by rw [hw]; simp
    have e2 : ((ba (win text a)).toList == (ba f).toList) = true := by rw [hw]; simp
    have e3 : (ba (win text a)).toList = (ba f).toList := by rw [hw]
    go_enter Tryz.func57, Tryz.ntmps57
    go_wp2
    go_quiet (fail)
    go_wp2
    have HF1 : Hid (FJ W0 (W.drewN nq).drew g S2 S5 S6 S7 S8 n o kept text f t pb Ps0 xv a wr O Ps pv) := HF.out.below ((bel_drewN (Below.refl _ _) _).drew)
    have c6' : (W.drewN nq).drew.cell? ⟨S6, 0, none⟩ = some (.slice (some ⟨A, oo, none⟩) tl c) := by rw [← hxv]; exact HF1.out.z.b6.cell
    have c2' := HF1.out.z.b2.cell
    have c5' := HF1.out.z.b5.cell
    clear hcv c6 c2 cf e1 e2 e3 HF hA
    refine wp_region_held_drew (S := fun V => V.cell? ⟨S2, 0, none⟩ = some (.pointer (some ⟨g, 0, none⟩)) ∧ V.cell? ⟨S5, 0, none⟩ = some (.int .i64 (o : Int))) (by kernel_rfl) ⟨c2', c5'⟩ (fun hH => ?_)
    generalize (W.drewN nq).drew = wd at *
    obtain ⟨m, hm⟩ : ∃ m : Nat, o + a = m := ⟨_, rfl⟩
    have HM : Hid (o + a = m) := hm
    have hm1 : (o : Int) + (a : Int) = (m : Int) := by omega
    have hm2 : IntKind.i64.wrap (m : Int) = (m : Int) := by rw [IntKind.wrap_i64]; omega
    clear hm
    obtain ⟨xp, cp, hpv⟩ := slice_of_row HF1.out.z.rm.pr
    generalize (Ps0 ++ Ps).length = np at hpv
    subst hpv
    obtain ⟨xq, nq', cq, W2, hap, hown, hgr, hbl⟩ := app_place wd xp np cp (Ps0 ++ Ps) m HF1.out.z.rm.pr (by rw [List.length_append]; omega)
    obtain ⟨HZ, z35, y35⟩ := HF1.out.z.place ((Below.refl _ _).alloc (Nat.le_refl _) _) hgr hown hbl hxg
    have HZ' : Hid _ := HZ
    have hgS := HF1.out.z.ord
    have d2 : W2.cell? ⟨S2, 0, none⟩ = some (.pointer (some ⟨g, 0, none⟩)) := (World.cell?_setCell_other W2 ⟨g, 35, none⟩ ⟨S2, 0, none⟩ (.slice xq nq' cq) (by intro q; injection q with q; omega)).symm.trans HZ.b2.cell
    have d5 : W2.cell? ⟨S5, 0, none⟩ = some (.int .i64 (o : Int)) := (World.cell?_setCell_other W2 ⟨g, 35, none⟩ ⟨S5, 0, none⟩ (.slice xq nq' cq) (by intro q; injection q with q; omega)).symm.trans HZ.b5.cell
    have hHe : (W2.setCell ⟨g, 35, none⟩ (.slice xq nq' cq)).cell? ⟨S2, 0, none⟩ = some (.pointer (some ⟨g, 0, none⟩)) ∧ (W2.setCell ⟨g, 35, none⟩ (.slice xq nq' cq)).cell? ⟨S5, 0, none⟩ = some (.int .i64 (o : Int)) := ⟨HZ.b2.cell, HZ.b5.cell⟩
    have bA : Below wd.heap.size wd (wd.alloc (.cells #[.int .i64 (m : Int)] 3)) := (Below.refl _ _).alloc (Nat.le_refl _) _
    have hHa : (wd.alloc (.cells #[.int .i64 (m : Int)] 3)).cell? ⟨S2, 0, none⟩ = some (.pointer (some ⟨g, 0, none⟩)) ∧ (wd.alloc (.cells #[.int .i64 (m : Int)] 3)).cell? ⟨S5, 0, none⟩ = some (.int .i64 (o : Int)) := ⟨(bA.cell (p := ⟨S2, 0, none⟩) HF1.out.z.b2.lt).trans c2', (bA.cell (p := ⟨S5, 0, none⟩) HF1.out.z.b5.lt).trans c5'⟩
    have e35 : (wd.alloc (.cells #[.int .i64 (m : Int)] 3)).cell? ⟨g, 35, none⟩ = some (.slice xp np cp) := (bA.cell (p := ⟨g, 35, none⟩) HF1.out.z.rm.lt).trans HF1.out.z.rm.cp
    clear HZ hown hgr hbl hgS bA
    have cp35 := HF1.out.z.rm.cp
    have fp35 := HF1.out.z.rm.fp
    -- @R3
    refine wpAnyH_take (i := 0) (oi := { dst := some 19, op := Op.load 70 (Operand.tmp 2), type := 70, pos := "rewrite.go:47", after := #[], guard := none }) (v := .pointer (some ⟨g, 0, none⟩)) rfl (by kernel_rfl) (by kernel_rfl) (by kernel_rfl) (fun _ _ _ h => h) (Or.inl ⟨by rfl, by intro w' s'; have q0 := s'.1; go_simp⟩) hH ?_
    simp only [Act.put, List.setIfInBounds_toArray, List.set_cons_zero, List.set_cons_succ]
    refine wpAnyH_take (i := 1) (oi := { dst := some 20, op := Op.load 70 (Operand.tmp 2), type := 70, pos := "rewrite.go:47", after := #[], guard := none }) (v := .pointer (some ⟨g, 0, none⟩)) rfl (by kernel_rfl) (by kernel_rfl) (by kernel_rfl) (fun _ _ _ h => h) (Or.inl ⟨by rfl, by intro w' s'; have q0 := s'.1; go_simp⟩) hH ?_
    simp only [Act.put, List.setIfInBounds_toArray, List.set_cons_zero, List.set_cons_succ]
    refine wpAnyH_take (i := 2) (oi := { dst := some 21, op := Op.nilCheck (Operand.tmp 20), type := 0, pos := "rewrite.go:47", after := #[{ on := 1, ground := Ground.data }], guard := none }) (v := .pointer (some ⟨g, 0, none⟩)) rfl (by kernel_rfl) (by kernel_rfl) (by kernel_rfl) (fun _ _ _ h => h) (Or.inl ⟨by rfl, by intro w _; go_simp⟩) hH ?_
    simp only [Act.put, List.setIfInBounds_toArray, List.set_cons_zero, List.set_cons_succ]
    refine wpAnyH_take (i := 3) (oi := { dst := some 22, op := Op.fieldAddr 119 (Operand.tmp 21) 3, type := 0, pos := "rewrite.go:47", after := #[{ on := 2, ground := Ground.data }], guard := none }) (v := .pointer (some ⟨g, 35, none⟩)) rfl (by kernel_rfl) (by kernel_rfl) (by kernel_rfl) (fun _ _ _ h => h) (Or.inl ⟨by rfl, by intro w _; go_simp⟩) hH ?_
    simp only [Act.put, List.setIfInBounds_toArray, List.set_cons_zero, List.set_cons_succ]
    refine wpAnyH_take (i := 5) (oi := { dst := some 24, op := Op.load 3 (Operand.tmp 3), type := 3, pos := "rewrite.go:47", after := #[], guard := none }) (v := .int .i64 (o : Int)) rfl (by kernel_rfl) (by kernel_rfl) (by kernel_rfl) (fun _ _ _ h => h) (Or.inl ⟨by rfl, by intro w' s'; have q0 := s'.2; go_simp⟩) hH ?_
    simp only [Act.put, List.setIfInBounds_toArray, List.set_cons_zero, List.set_cons_succ]
    refine wpAnyH_take (i := 6) (oi := { dst := some 25, op := Op.move (Operand.tmp 0), type := 3, pos := "rewrite.go:47", after := #[], guard := none }) (v := .int .i64 (a : Int)) rfl (by kernel_rfl) (by kernel_rfl) (by kernel_rfl) (fun _ _ _ h => h) (Or.inl ⟨by rfl, by intro w _; go_simp⟩) hH ?_
    simp only [Act.put, List.setIfInBounds_toArray, List.set_cons_zero, List.set_cons_succ]
    refine wpAnyH_take (i := 7) (oi := { dst := some 26, op := Op.binOp BinOp.add 3 (Operand.tmp 24) (Operand.tmp 25) 3, type := 3, pos := "rewrite.go:47", after := #[{ on := 5, ground := Ground.data }, { on := 6, ground := Ground.data }], guard := none }) (v := .int .i64 (m : Int)) rfl (by kernel_rfl) (by kernel_rfl) (by kernel_rfl) (fun _ _ _ h => h) (Or.inl ⟨by rfl, by intro w _; go_simp⟩) hH ?_
    simp only [Act.put, List.setIfInBounds_toArray, List.set_cons_zero, List.set_cons_succ]
    refine wpAnyH_ready (rs := [4, 8]) (by kernel_rfl) (by decide) (AllReadyH.cons rfl (fun K hK => ?_) (AllReadyH.cons rfl (fun K hK => ?_) AllReadyH.nil))
    · rw [if_pos (by rfl)]
      go_simp
      refine hK.out _ _ hH (fun _ => ?_)
      clear hK K
      try simp only [Act.put, List.setIfInBounds_toArray, List.set_cons_zero, List.set_cons_succ]
      refine wpAnyH_ready (rs := [8]) (by kernel_rfl) (by decide) (AllReadyH.cons rfl (fun K hK => ?_) AllReadyH.nil)
      rw [if_pos (by rfl)]
      go_simp
      refine hK.out _ _ hHa (fun _ => ?_)
      clear hK K
      try simp only [Act.put, List.setIfInBounds_toArray, List.set_cons_zero, List.set_cons_succ]
      refine wpAnyH_ready (rs := [9]) (by kernel_rfl) (by decide) (AllReadyH.cons rfl (fun K hK => ?_) AllReadyH.nil)
      rw [if_pos (by rfl)]
      refine operWp_app 32 32 (.tmp 23) (.tmp 27) (by rfl) _ _ _ _ (by rfl) (by rfl) hap ?_
      refine hK.out _ _ ⟨d2, d5⟩ (fun _ => ?_)
      clear hK K
      try simp only [Act.put, List.setIfInBounds_toArray]
      refine wpAnyH_take (i := 10) (oi := { dst := some 29, op := Op.nilCheck (Operand.tmp 19), type := 0, pos := "rewrite.go:47", after := #[{ on := 0, ground := Ground.data }, { on := 0, ground := Ground.phase }, { on := 1, ground := Ground.phase }, { on := 2, ground := Ground.phase }, { on := 3, ground := Ground.phase }, { on := 4, ground := Ground.phase }, { on := 5, ground := Ground.phase }, { on := 6, ground := Ground.phase }, { on := 7, ground := Ground.phase }, { on := 8, ground := Ground.phase }, { on := 9, ground := Ground.phase }], guard := none }) (v := .pointer (some ⟨g, 0, none⟩)) rfl (by kernel_rfl) (by kernel_rfl) (by kernel_rfl) (fun _ _ _ h => h) (Or.inl ⟨by rfl, by intro w _; go_simp⟩) ⟨d2, d5⟩ ?_
      simp only [Act.put]
      refine wpAnyH_take (i := 11) (oi := { dst := some 30, op := Op.fieldAddr 119 (Operand.tmp 29) 3, type := 0, pos := "rewrite.go:47", after := #[{ on := 10, ground := Ground.data }, { on := 0, ground := Ground.phase }, { on := 1, ground := Ground.phase }, { on := 2, ground := Ground.phase }, { on := 3, ground := Ground.phase }, { on := 4, ground := Ground.phase }, { on := 5, ground := Ground.phase }, { on := 6, ground := Ground.phase }, { on := 7, ground := Ground.phase }, { on := 8, ground := Ground.phase }, { on := 9, ground := Ground.phase }], guard := none }) (v := .pointer (some ⟨g, 35, none⟩)) rfl (by kernel_rfl) (by kernel_rfl) (by kernel_rfl) (fun _ _ _ h => h) (Or.inl ⟨by rfl, by intro w _; go_simp⟩) ⟨d2, d5⟩ ?_
      simp only [Act.put]
      refine wpAnyH_ready (rs := [12]) (by kernel_rfl) (by decide) (AllReadyH.cons rfl (fun K hK => ?_) AllReadyH.nil)
      rw [if_pos (by rfl)]
      go_simp
      refine hK.out _ _ hHe (fun _ => ?_)
      clear hK K
      refine wpAnyH_done (by kernel_rfl) ?_ _
      clear hap z35 y35 d2 d5 hHa e35 hH c2' c5' c6' cp35 fp35 HF1
      generalize W2.setCell ⟨g, 35, none⟩ (.slice xq nq' cq) = w3 at *
      have HT3 : Txt w3 (.slice (some ⟨A, oo, none⟩) text.length c) text := by have := HZ'.out.tx; rw [hxv] at this; rw [htx]; exact this
      have c6 := HZ'.out.b6.cell
      rw [hxv] at c6
      have c8 := HZ'.out.b8.cell
      have hord := HZ'.out.ord
      have hxb := (HZ'.out.xb ⟨A, oo, none⟩ tl c hxv).1
      have g1 : (wr : Int) ≤ (a : Int) := by omega
      have g2 : (a : Int) ≤ (c : Int) := by omega
      have g3 : wr ≤ a := hwa
      have g4 : a ≤ c := by omega
      have CW := wbytesK_any 54 (.inl rfl) S7 O ((text.take a).drop wr) (.slice (some ⟨A, oo + wr, none⟩) (a - wr) (c - wr)) w3 HZ'.out.bd (HT3.sub hwa (by omega)) (fun x n cc e => by injection e with e _ _; injection e with e; subst e; show A < S7; have := hord; have h9 : A < S6 := hxb; omega) (by rw [List.length_drop, List.length_take]; omega)
      clear hord hxb HT3
      go_wp2_with fail
      refine CW.mono ?_
      rintro e w4 ⟨rfl, bd4, b4, k4⟩
      clear CW
      have Z4 : Hid _ := HZ'.out.wrote bd4 b4 k4
      clear bd4 b4 k4 HZ' c6 c8 hHe
      have c2 := Z4.out.b2.cell
      have ct := Z4.out.rm.ct
      have CS := wstrK_any 54 (.inl rfl) S7 (O ++ (text.take a).drop wr) t w4 Z4.out.bd (by rw [List.length_append, List.length_drop, List.length_take]; omega)
      go_wp2_with fail
      refine CS.mono ?_
      rintro e w5 ⟨rfl, bd5, b5, k5⟩
      clear CS
      have Z5 : Hid _ := Z4.out.wrote bd5 b5 k5
      clear bd5 b5 k5 Z4 c2 ct
      have c8 := Z5.out.b8.cell
      have f8 := Z5.out.b8.frozen
      have Z6 := Z5.out.set8 (a + 32)
      have e9 : ((a + 32 : Nat) : Int) = (a : Int) + 32 := by omega
      rw [e9] at Z6
      have Z6' : Hid _ := Z6
      clear Z6 e9 Z5
      go_wp2
      go_ret
      refine ⟨32, .inr rfl, rfl, a + 32, O ++ ((text.take a).drop wr ++ t), Ps ++ [o + a], .slice xq nq' cq, ⟨hrs.hit (by omega) hw, ?_⟩, ?_, ?_⟩
      · rw [← List.append_assoc O, ← List.append_assoc Ps0, HM.out]; exact Z6'.out
      · rw [List.length_append, List.length_append, List.length_drop, List.length_take]; omega
      · rw [List.length_append]; simp; omega
    · rw [if_pos (by rfl)]
      go_simp
      refine hK.out _ _ hHa (fun _ => ?_)
      clear hK K
      try simp only [Act.put, List.setIfInBounds_toArray, List.set_cons_zero, List.set_cons_succ]
      refine wpAnyH_ready (rs := [4]) (by kernel_rfl) (by decide) (AllReadyH.cons rfl (fun K hK => ?_) AllReadyH.nil)
      rw [if_pos (by rfl)]
      go_simp
      refine hK.out _ _ hHa (fun _ => ?_)
      clear hK K
      try simp only [Act.put, List.setIfInBounds_toArray, List.set_cons_zero, List.set_cons_succ]
      refine wpAnyH_ready (rs := [9]) (by kernel_rfl) (by decide) (AllReadyH.cons rfl (fun K hK => ?_) AllReadyH.nil)
      rw [if_pos (by rfl)]
      refine operWp_app 32 32 (.tmp 23) (.tmp 27) (by rfl) _ _ _ _ (by rfl) (by rfl) hap ?_
      refine hK.out _ _ ⟨d2, d5⟩ (fun _ => ?_)
      clear hK K
      try simp only [Act.put, List.setIfInBounds_toArray]
      refine wpAnyH_take (i := 10) (oi := { dst := some 29, op := Op.nilCheck (Operand.tmp 19), type := 0, pos := "rewrite.go:47", after := #[{ on := 0, ground := Ground.data }, { on := 0, ground := Ground.phase }, { on := 1, ground := Ground.phase }, { on := 2, ground := Ground.phase }, { on := 3, ground := Ground.phase }, { on := 4, ground := Ground.phase }, { on := 5, ground := Ground.phase }, { on := 6, ground := Ground.phase }, { on := 7, ground := Ground.phase }, { on := 8, ground := Ground.phase }, { on := 9, ground := Ground.phase }], guard := none }) (v := .pointer (some ⟨g, 0, none⟩)) rfl (by kernel_rfl) (by kernel_rfl) (by kernel_rfl) (fun _ _ _ h => h) (Or.inl ⟨by rfl, by intro w _; go_simp⟩) ⟨d2, d5⟩ ?_
      simp only [Act.put]
      refine wpAnyH_take (i := 11) (oi := { dst := some 30, op := Op.fieldAddr 119 (Operand.tmp 29) 3, type := 0, pos := "rewrite.go:47", after := #[{ on := 10, ground := Ground.data }, { on := 0, ground := Ground.phase }, { on := 1, ground := Ground.phase }, { on := 2, ground := Ground.phase }, { on := 3, ground := Ground.phase }, { on := 4, ground := Ground.phase }, { on := 5, ground := Ground.phase }, { on := 6, ground := Ground.phase }, { on := 7, ground := Ground.phase }, { on := 8, ground := Ground.phase }, { on := 9, ground := Ground.phase }], guard := none }) (v := .pointer (some ⟨g, 35, none⟩)) rfl (by kernel_rfl) (by kernel_rfl) (by kernel_rfl) (fun _ _ _ h => h) (Or.inl ⟨by rfl, by intro w _; go_simp⟩) ⟨d2, d5⟩ ?_
      simp only [Act.put]
      refine wpAnyH_ready (rs := [12]) (by kernel_rfl) (by decide) (AllReadyH.cons rfl (fun K hK => ?_) AllReadyH.nil)
      rw [if_pos (by rfl)]
      go_simp
      refine hK.out _ _ hHe (fun _ => ?_)
      clear hK K
      refine wpAnyH_done (by kernel_rfl) ?_ _
      clear hap z35 y35 d2 d5 hHa e35 hH c2' c5' c6' cp35 fp35 HF1
      generalize W2.setCell ⟨g, 35, none⟩ (.slice xq nq' cq) = w3 at *
      have HT3 : Txt w3 (.slice (some ⟨A, oo, none⟩) text.length c) text := by have := HZ'.out.tx; rw [hxv] at this; rw [htx]; exact this
      have c6 := HZ'.out.b6.cell
      rw [hxv] at c6
      have c8 := HZ'.out.b8.cell
      have hord := HZ'.out.ord
      have hxb := (HZ'.out.xb ⟨A, oo, none⟩ tl c hxv).1
      have g1 : (wr : Int) ≤ (a : Int) := by omega
      have g2 : (a : Int) ≤ (c : Int) := by omega
      have g3 : wr ≤ a := hwa
      have g4 : a ≤ c := by omega
      have CW := wbytesK_any 54 (.inl rfl) S7 O ((text.take a).drop wr) (.slice (some ⟨A, oo + wr, none⟩) (a - wr) (c - wr)) w3 HZ'.out.bd (HT3.sub hwa (by omega)) (fun x n cc e => by injection e with e _ _; injection e with e; subst e; show A < S7; have := hord; have h9 : A < S6 := hxb; omega) (by rw [List.length_drop, List.length_take]; omega)
      clear hord hxb HT3
      go_wp2_with fail
      refine CW.mono ?_
      rintro e w4 ⟨rfl, bd4, b4, k4⟩
      clear CW
      have Z4 : Hid _ := HZ'.out.wrote bd4 b4 k4
      clear bd4 b4 k4 HZ' c6 c8 hHe
      have c2 := Z4.out.b2.cell
      have ct := Z4.out.rm.ct
      have CS := wstrK_any 54 (.inl rfl) S7 (O ++ (text.take a).drop wr) t w4 Z4.out.bd (by rw [List.length_append, List.length_drop, List.length_take]; omega)
      go_wp2_with fail
      refine CS.mono ?_
      rintro e w5 ⟨rfl, bd5, b5, k5⟩
      clear CS
      have Z5 : Hid _ := Z4.out.wrote bd5 b5 k5
      clear bd5 b5 k5 Z4 c2 ct
      have c8 := Z5.out.b8.cell
      have f8 := Z5.out.b8.frozen
      have Z6 := Z5.out.set8 (a + 32)
      have e9 : ((a + 32 : Nat) : Int) = (a : Int) + 32 := by omega
      rw [e9] at Z6
      have Z6' : Hid _ := Z6
      clear Z6 e9 Z5
      go_wp2
      go_ret
      refine ⟨32, .inr rfl, rfl, a + 32, O ++ ((text.take a).drop wr ++ t), Ps ++ [o + a], .slice xq nq' cq, ⟨hrs.hit (by omega) hw, ?_⟩, ?_, ?_⟩
      · rw [← List.append_assoc O, ← List.append_assoc Ps0, HM.out]; exact Z6'.out
      · rw [List.length_append, List.length_append, List.length_drop, List.length_take]; omega
      · rw [List.length_append]; simp; omega
    -- @E3
  · have e1 : ((ba (win text a)).toList != (ba f).toList) = true := by rw [bne_iff_ne]; exact fun e => hw (by rw [ba_toList, ba_toList] at e; exact e)
    have e2 : ((ba (win text a)).toList == (ba f).toList) = false := by rw [beq_eq_false_iff_ne]; exact fun e => hw (by rw [ba_toList, ba_toList] at e; exact e)
    go_enter Tryz.func57, Tryz.ntmps57
    go_wp2
    go_quiet (fail)
    go_wp2
    go_ret
    exact ⟨1, .inl rfl, rfl, wr, O, Ps, pv, (HF.out.below (bel_drewN (Below.refl _ _) _)).rs' (HF.out.rs.no hf (by omega) hw), hol, by omega⟩

end Sc
end Go.Proofs.YtdjjleahfciipaaGreatDoor
