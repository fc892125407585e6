/- NyO NyA NyB NyC NxL NvA, gathered (own text of the verifier). -/
import Derived.Test.YtpbgmknebhnonaaNb1
import Derived.Test.YtpbgmknebhnonaaRows
import Derived.ProofKit
import Derived.OpenShut
import Derived.ChangeOld
import Derived.SizedLaws
import Derived.ChangeArms
import Derived.Test.YtpbgmknebhnonaaXQ
import Derived.Test.YtpbgmknebhnonaaNxKx
import Derived.Test.YtpbgmknebhnonaaNa7
namespace Go.Proofs.Ytpbgmknebhnonaa.Ny
open Go.ChangeShapes Go.WideShapes Go.ChangeAt Go.RowKit
open Go.Proofs.Ytpbgmknebhnonaa.NB (ba ba_list ba_size)
def preB (t : Nat → List UInt8) : Nat → Nat
  | 0 => 0
  | k + 1 => preB t k + (t k).length
theorem preB_mono (t : Nat → List UInt8) (k n : Nat) (h : k ≤ n) : preB t k ≤ preB t n := by
  induction n with
  | zero => rw [show k = 0 by omega]; exact Nat.le_refl _
  | succ n ih =>
    by_cases e : k = n + 1
    · rw [e]; exact Nat.le_refl _
    · have := ih (by omega)
      show preB t k ≤ preB t n + (t n).length
      omega
/-- Calls that came in: Close, or Feed of a text. -/
structure OpRow (w : World) (x : Option Addr) (n : Nat) (cl : Nat → Bool) (t : Nat → List UInt8) : Prop where
  cell : ∀ k, k < n → ∃ b o : Nat, x = some ⟨b, o, none⟩ ∧ b < w.heap.size ∧ w.cell? ⟨b, o + k * 2, none⟩ = some (.bool (cl k)) ∧ w.cell? ⟨b, o + k * 2 + 1, none⟩ = some (.string (ba (t k)))
theorem nc4 : Try.prog.cellsOf 4 = 1 := by kernel_rfl
theorem nc9 : Try.prog.cellsOf 9 = 1 := by kernel_rfl
theorem ncNT : Try.prog.cellsOf 48 = 2 := by kernel_rfl
theorem two_cells {w : World} {a : Addr} {l : List Value} (h : w.cells? 0 a 2 = some l) : ∃ v0 v1, l = [v0, v1] ∧ w.cell? (a.add 0) = some v0 ∧ w.cell? (a.add 1) = some v1 := by
  unfold World.cells? at h
  rw [if_pos (Nat.zero_le _)] at h
  have e : List.range 2 = [0, 1] := rfl
  rw [e] at h
  simp only [List.mapM_cons, List.mapM_nil] at h
  cases h0 : w.cell? (a.add 0) <;> rw [h0] at h <;> simp at h
  cases h1 : w.cell? (a.add 1) <;> rw [h1] at h <;> simp at h
  exact ⟨_, _, h.symm, rfl, rfl⟩
theorem spotN {w : World} {a : Addr} {v : Value} (h : w.cell? a = some v) : a.spot = none := by
  unfold World.cell? at h
  split at h
  · split at h
    · cases h
    · rename_i hs; simpa using hs
  · cases h
theorem bulk_app {H : Type} (l : List (DataW H)) (d : DataW H) : Rows.uptoBulkAll (l ++ [d]) = Rows.uptoBulkAll l + Rows.uptoBulk d := by
  induction l with
  | nil => simp [Rows.uptoBulkAll]
  | cons a l ih => rw [List.cons_append, Rows.uptoBulkAll, Rows.uptoBulkAll, ih]; omega
theorem bulk_take {H : Type} (l : List (DataW H)) (t : Nat → List UInt8) (h : ∀ i d, l[i]? = some d → (t i).length + 1 ≤ Rows.uptoBulk d) (k : Nat) : k ≤ l.length → preB t k + k ≤ Rows.uptoBulkAll (l.take k) := by
  induction k with
  | zero => intro _; exact Nat.zero_le _
  | succ k ih =>
    intro hk
    have hg : l[k]? = some (l[k]'(by omega)) := List.getElem?_eq_getElem (by omega)
    rw [List.take_add_one, hg, Option.toList_some, bulk_app]
    have := ih (by omega)
    have := h k _ hg
    show preB t k + (t k).length + (k + 1) ≤ _
    omega
set_option maxHeartbeats 2000000 in
set_option maxRecDepth 20000 in
theorem open_ops {H : Type} {enc : TypeId × Value → H} {w : World} {sp : Nat → Bool} {held : Bool} (fuel : Nat) (z : Option Addr) (n c : Nat) (x : DataW H × List MemPlace) (h : DataW.trod enc Try.prog w 0 sp held fuel 41 [.slice z n c] = some x) (hb : Rows.uptoBulk x.1 ≤ 1048576) :
    ∃ L : (Nat → Bool) × (Nat → List UInt8), OpRow w z n L.1 L.2 ∧ n ≤ 1048576 ∧ preB L.2 n ≤ 1048576 := by
  rcases DataW.trod_slice Try.underlying41 h with ⟨hc, _⟩ | ⟨a, len, cap, elems, rest, n2, rfl, hc, hx, _, hlc, _, hel, hE, _, _⟩
  · simp at hc
    obtain ⟨rfl, rfl, rfl⟩ := hc
    exact ⟨(fun _ => false, fun _ => []), ⟨fun k hk => absurd hk (by omega)⟩, Nat.zero_le _, Nat.zero_le _⟩
  · simp at hc
    obtain ⟨rfl, rfl, rfl⟩ := hc
    have each : ∀ i, i < n → ∃ it : Bool × List UInt8, w.cell? ((a.add (i * 2)).add 0) = some (.bool it.1) ∧ w.cell? ((a.add (i * 2)).add 1) = some (.string (ba it.2)) ∧ ∀ d, (elems.map (·.1))[i]? = some d → it.2.length + 1 ≤ Rows.uptoBulk d := by
      intro i hi
      have hi' := hE i hi
      rw [ncNT] at hi'
      obtain ⟨zi, hz⟩ : ∃ zi, elems[i]? = some zi := ⟨_, List.getElem?_eq_getElem (by omega)⟩
      rw [hz, Option.bind_eq_some_iff] at hi'
      obtain ⟨l, hl3, htr⟩ := hi'
      obtain ⟨v0, v1, rfl, c0, c1⟩ := two_cells hl3
      obtain ⟨ys, n3, rfl, rfl, _, hyl, hys⟩ := DataW.trod_struct Try.underlying48 htr
      have r0 : DataW.trod enc Try.prog w 0 sp held n3 4 (([v0, v1].drop 0).take 1) = ys[0]? := by have := hys 0 _ rfl; rw [← nc4]; exact this
      have r1 : DataW.trod enc Try.prog w 0 sp held n3 9 (([v0, v1].drop 1).take 1) = ys[1]? := by have := hys 1 _ rfl; rw [← nc9]; exact this
      have hyl : ys.length = 2 := hyl
      match ys, hyl with
      | [w0, w1], _ =>
        obtain ⟨bo, hbo, _⟩ := DataW.trod_bool Try.underlying4 (x := w0) r0
        obtain ⟨tx, htx, hyt, _⟩ := DataW.trod_string Try.underlying9 (x := w1) r1
        simp at hbo htx
        subst hbo htx
        refine ⟨(bo, tx.data.toList), c0, ?_, fun d hd => ?_⟩
        · rw [c1]
          show some (Value.string tx) = some (.string (ba tx.data.toList))
          rw [ba_list]
        rw [List.getElem?_map, hz] at hd
        simp at hd
        subst hd
        simp only [Rows.uptoBulk, Rows.uptoBulkAll, hyt]
        show tx.data.toList.length + 1 ≤ _
        omega
    let ft : Nat → Bool × List UInt8 := fun i => if hi : i < n then (each i hi).choose else (false, [])
    have sp' : ∀ i (hi : i < n), w.cell? ((a.add (i * 2)).add 0) = some (.bool (ft i).1) ∧ w.cell? ((a.add (i * 2)).add 1) = some (.string (ba (ft i).2)) ∧ ∀ d, (elems.map (·.1))[i]? = some d → (ft i).2.length + 1 ≤ Rows.uptoBulk d := fun i hi => by
      have := (each i hi).choose_spec
      simp only [ft, hi, dif_pos]
      exact this
    have hlen : (elems.map (·.1)).length = n := by rw [List.length_map]; exact hel
    have hbk := bulk_take (elems.map (·.1)) (fun i => (ft i).2) (fun i d hd => (sp' i (by have := (List.getElem?_eq_some_iff.1 hd).1; omega)).2.2 d hd) n (by omega)
    rw [List.take_of_length_le (by omega)] at hbk
    rw [hx] at hb
    simp only [Rows.uptoBulk] at hb
    refine ⟨(fun i => (ft i).1, fun i => (ft i).2), ⟨fun i hi => ?_⟩, by omega, by show preB (fun i => (ft i).2) n ≤ _; omega⟩
    obtain ⟨c0, c1, _⟩ := sp' i hi
    have hsp : a.spot = none := by
      have h0 := (sp' 0 (by omega)).1
      have e : (a.add (0 * 2)).add 0 = a := by simp [Addr.add]
      rw [e] at h0
      exact spotN h0
    have hadd : ∀ j, (a.add (i * 2)).add j = ⟨a.block, a.off + i * 2 + j, none⟩ := fun j => by
      obtain ⟨g, o, s⟩ := a
      simp only at hsp
      subst hsp
      rw [Addr.add_lit, Addr.add_lit]
    rw [hadd] at c0 c1
    have ha : a = ⟨a.block, a.off, none⟩ := by obtain ⟨g, o, s⟩ := a; simp only at hsp; subst hsp; rfl
    exact ⟨a.block, a.off, by rw [← ha], (by have := World.block_lt_of_cell? _ _ c0; exact this), c0, c1⟩
theorem open_opsF {H : Type} {enc : TypeId × Value → H} {w : World} {sp : Nat → Bool} {held : Bool} (fuel : Nat) (z : Option Addr) (n c : Nat) (x : DataW H × List MemPlace) (h : DataW.trod enc Try.prog w 0 sp held fuel 41 [.slice z n c] = some x) (hb : Rows.uptoBulk x.1 ≤ 1048576) :
    ∃ L : (Nat → Bool) × (Nat → List UInt8), ∃ z2 n2 c2, Value.slice z n c = .slice z2 n2 c2 ∧ OpRow w z2 n2 L.1 L.2 ∧ n2 ≤ 1048576 ∧ preB L.2 n2 ≤ 1048576 := by
  obtain ⟨L, h1⟩ := open_ops fuel z n c x h hb
  exact ⟨L, z, n, c, rfl, h1⟩

end Go.Proofs.Ytpbgmknebhnonaa.Ny
namespace Go.Proofs.Ytpbgmknebhnonaa.Ny
open Go.RowKit Go.Proofs.Ytpbgmknebhnonaa

theorem fat0 : ∀ (l : List UInt8) (p : PS), p.fat = 0 → (p.run l).code = 0 → (p.run l).fat = 0
  | [], _, h, _ => h
  | b :: l, p, h, hc => by
    rw [PS.run_cons] at hc ⊢
    by_cases h1 : p.part = true ∧ p.c.next = 17
    · rw [if_pos h1]; exact h
    rw [if_neg h1] at hc ⊢
    by_cases h2 : (p.step b).code ≠ 0
    · rw [if_pos h2] at hc; exact absurd hc h2
    rw [if_neg h2] at hc ⊢
    refine fat0 l _ ?_ hc
    unfold PS.step at h2 ⊢
    by_cases h3 : (p.take b).1.1 ≠ 0
    · rw [if_pos h3] at h2; exact absurd h3 h2
    · rw [if_neg h3]; rfl
theorem run_shut : ∀ (l : List UInt8) (p : PS), (p.run l).closed = p.closed
  | [], _ => rfl
  | b :: l, p => by
    have hs : (p.step b).closed = p.closed := by
      have := (p.take_keep b).2.2.1
      unfold PS.step
      split
      · exact this
      · exact this
    rw [PS.run_cons]
    split
    · rfl
    split
    · exact hs
    · rw [run_shut l, hs]
theorem fin_a (p : PS) (h : p.code = 0 ∧ p.c.next ≠ 17) : p.fin = (p.sf 4 p.taken).shut := by unfold PS.fin; rw [if_pos h]
theorem fin_b (p : PS) (h : ¬ (p.code = 0 ∧ p.c.next ≠ 17)) : p.fin = p.shut := by unfold PS.fin; rw [if_neg h]
theorem fin_fin (p : PS) : p.fin.fin = p.fin := by
  by_cases h : p.code = 0 ∧ p.c.next ≠ 17
  · rw [fin_a p h]; rw [fin_b _ (fun c => by have := c.1; unfold PS.shut PS.sf at this; simp at this)]; rfl
  · rw [fin_b p h]; rw [fin_b p.shut (fun c => h c)]; rfl
theorem fin_closed (p : PS) : p.fin.closed = true := rfl
theorem fin_feed (p : PS) (l : List UInt8) : p.fin.feed l = p.fin := if_pos (Or.inl (fin_closed p))
theorem fin_taken (p : PS) : p.fin.taken = p.taken := by unfold PS.fin; split <;> rfl
theorem fin_held (p : PS) : p.fin.held = p.held := by unfold PS.fin; split <;> rfl
theorem fin_c (p : PS) : p.fin.c = p.c := by unfold PS.fin; split <;> rfl
theorem fin_next (p : PS) (h : p.fin.code = 0) : p.code = 0 ∧ p.c.next = 17 ∧ p.fin = p.shut := by
  by_cases hc : p.code = 0 ∧ p.c.next ≠ 17
  · rw [fin_a p hc] at h; unfold PS.shut PS.sf at h; simp at h
  · have e := fin_b p hc
    rw [e] at h
    have h0 : p.code = 0 := h
    refine ⟨h0, ?_, e⟩
    exact Decidable.byContradiction fun hn => hc ⟨h0, hn⟩

/-- The parser that is fed A, and is closed behind it or not. -/
def stP (st : Bool) (A : List UInt8) (sh : Bool) : PS := if sh then ((PS.new (!st)).run A).fin else (PS.new (!st)).run A
theorem stP_new (st : Bool) : stP st [] false = PS.new (!st) := rfl
theorem stP_fin (st : Bool) (A : List UInt8) (sh : Bool) : (stP st A sh).fin = stP st A true := by
  cases sh
  · rfl
  · exact fin_fin _
theorem stP_feed (st : Bool) (A u : List UInt8) : (stP st A false).feed u = stP st (A ++ u) false := (run_app A u (PS.new (!st)) rfl rfl).symm
theorem stP_off (st : Bool) (A u : List UInt8) : (stP st A true).feed u = stP st A true := fin_feed _ u
theorem stP_inv (st : Bool) (A : List UInt8) (sh : Bool) : ((stP st A sh).code = 0 → PI (stP st A sh)) ∧ lnT (stP st A sh).c.root ∧ (stP st A sh).taken ≤ A.length := by
  obtain ⟨a, b, c, d⟩ := run_inv A (PS.new (!st)) (PI.new _) RI.new rfl
  have d' : ((PS.new (!st)).run A).taken ≤ A.length := by have e : (PS.new (!st)).taken = 0 := rfl; omega
  cases sh
  · exact ⟨a, b.rt, d'⟩
  · refine ⟨fun h => ?_, ?_, ?_⟩
    · obtain ⟨h0, _, e⟩ := fin_next _ h
      have I := a h0
      show PI ((PS.new (!st)).run A).fin
      rw [e]
      exact ⟨I.tk, I.hd, I.ln, I.l8, I.ci⟩
    · show lnT ((PS.new (!st)).run A).fin.c.root
      rw [fin_c]
      exact b.rt
    · show ((PS.new (!st)).run A).fin.taken ≤ _
      rw [fin_taken]
      exact d'
theorem stP_fat (st : Bool) (A : List UInt8) (sh : Bool) (h : (stP st A sh).code = 0) : (stP st A sh).fat = 0 := by
  cases sh
  · exact fat0 A _ rfl h
  · obtain ⟨h0, _, e⟩ := fin_next _ h
    show ((PS.new (!st)).run A).fin.fat = 0
    rw [e]
    exact fat0 A (PS.new (!st)) rfl h0
/-- What Close answers is what the state has. -/
theorem stP_ans (st : Bool) (A : List UInt8) (sh : Bool) : (stP st A sh).ansF = ((stP st A true).code, (stP st A true).fat) := by
  unfold PS.ansF
  rw [stP_fin]
  by_cases h : (stP st A true).code = 0
  · rw [if_neg (by simpa using h), h, stP_fat st A true h]
  · rw [if_pos h]
theorem stP_whole (st : Bool) (A : List UInt8) (sh : Bool) : (stP st A sh).c.next = ((PS.new (!st)).run A).c.next ∧ (stP st A sh).c.op = ((PS.new (!st)).run A).c.op ∧ (stP st A sh).c.root = ((PS.new (!st)).run A).c.root ∧ (stP st A sh).taken = ((PS.new (!st)).run A).taken ∧ (stP st A sh).held = ((PS.new (!st)).run A).held := by
  cases sh
  · exact ⟨rfl, rfl, rfl, rfl, rfl⟩
  · show ((PS.new (!st)).run A).fin.c.next = _ ∧ ((PS.new (!st)).run A).fin.c.op = _ ∧ ((PS.new (!st)).run A).fin.c.root = _ ∧ ((PS.new (!st)).run A).fin.taken = _ ∧ ((PS.new (!st)).run A).fin.held = _
    rw [fin_c, fin_taken, fin_held]
    exact ⟨rfl, rfl, rfl, rfl, rfl⟩

end Go.Proofs.Ytpbgmknebhnonaa.Ny
namespace Go.Proofs.Ytpbgmknebhnonaa.Ny
open Go.RowKit Go.Proofs.Ytpbgmknebhnonaa

/-- Block G is the Got of the machine q, but for its code c and its place a. -/
def GT (wr : World) (B G : Nat) (q : PS) (c a : Int) (fr : List Nat) : Prop :=
  ∃ (k : Int) (e : Bool) (t : ByteArray) (x : Option Addr) (n m : Nat), St wr G (gotC k e t (.slice x n m) (decide (q.c.next = 17)) c a (q.taken : Int) (q.c.op.length : Int) (q.held : Int)) ∧
    (q.c.next = 17 → q.c.root.k = k ∧ q.c.root.e = e ∧ q.c.root.t = t ∧ TrV wr B q.c.root (.slice x n m) fr) ∧
    (q.c.next ≠ 17 → k = 0 ∧ e = false ∧ t = ⟨#[]⟩ ∧ x = none ∧ n = 0 ∧ m = 0 ∧ fr = [])
theorem GT.same {wr w' : World} {B G : Nat} {q : PS} {c a : Int} {fr : List Nat} (h : GT wr B G q c a fr) (hs : wr.heap.size ≤ w'.heap.size) (hG : w'.heap[G]? = wr.heap[G]?) (hf : ∀ b ∈ fr, w'.heap[b]? = wr.heap[b]?) : GT w' B G q c a fr := by
  obtain ⟨k, e, t, x, n, m, S, h1, h2⟩ := h
  exact ⟨k, e, t, x, n, m, S.same hs hG, fun hn => ⟨(h1 hn).1, (h1 hn).2.1, (h1 hn).2.2.1, TrV.same _ _ _ (h1 hn).2.2.2 hf⟩, h2⟩
theorem GT.lt {wr : World} {B G : Nat} {q : PS} {c a : Int} {fr : List Nat} (h : GT wr B G q c a fr) : ∀ b ∈ fr, B ≤ b ∧ b < wr.heap.size := fun b hb => by
  obtain ⟨k, e, t, x, n, m, S, h1, h2⟩ := h
  by_cases hn : q.c.next = 17
  · exact TrV.lt _ _ _ (h1 hn).2.2.2 b hb
  · rw [(h2 hn).2.2.2.2.2.2] at hb; cases hb
/-- The parser p in block g, in the blocks fp; the Got of q in block G. -/
structure YL (w0 wr : World) (g G : Nat) (p : PS) (fp : List Nat) (q : PS) (c a : Int) : Prop where
  par : PW wr g (g + 1) p fp
  got : ∃ fr, GT wr w0.heap.size G q c a fr ∧ ∀ x ∈ fr, x ∉ fp ∧ x ≠ g ∧ x ≠ G
  off : G ∉ fp
  ne : g ≠ G
  lt : G < wr.heap.size
  be : Below w0.heap.size w0 wr
  hg : w0.heap.size ≤ g
  hG : w0.heap.size ≤ G
theorem YL.move {w0 wr w' : World} {g G : Nat} {p p' q : PS} {fp : List Nat} {c a : Int} (h : YL w0 wr g G p fp q c a) (m : PM wr w' g (g + 1) fp p') : ∃ fp', YL w0 w' g G p' fp' q c a := by
  obtain ⟨fp', P', F, S⟩ := m
  obtain ⟨fr, T, hT⟩ := h.got
  have hl := h.par.lt
  refine ⟨fp', P', ⟨fr, T.same F.size (F.keep G h.lt (fun e => h.ne e.symm) h.off) (fun b hb => F.keep b (T.lt b hb).2 (hT b hb).2.1 (hT b hb).1), fun x hx => ⟨fun hm => ?_, (hT x hx).2⟩⟩, fun hm => ?_, h.ne, Nat.lt_of_lt_of_le h.lt F.size, h.be.trans (F.below h.be.size h.hg (fun x hx => ?_)), h.hg, h.hG⟩
  · rcases S x hm with h1 | h1
    · exact (hT x hx).1 h1
    · have := (T.lt x hx).2; omega
  · rcases S G hm with h1 | h1
    · exact h.off h1
    · have := h.lt; omega
  · have := (hl.2.2 x hx).1; have := h.hg; omega
theorem YL.below {w0 wr w' : World} {g G : Nat} {p q : PS} {fp : List Nat} {c a : Int} (h : YL w0 wr g G p fp q c a) (b : Below wr.heap.size wr w') : YL w0 w' g G p fp q c a := by
  obtain ⟨fr, T, hT⟩ := h.got
  exact ⟨h.par.below b, ⟨fr, T.same b.size (b.block _ h.lt) (fun x hx => b.block _ (T.lt x hx).2), hT⟩, h.off, h.ne, Nat.lt_of_lt_of_le h.lt b.size, h.be.trans (b.mono h.be.size), h.hg, h.hG⟩
theorem YL.drewN {w0 wr : World} {g G : Nat} {p q : PS} {fp : List Nat} {c a : Int} (h : YL w0 wr g G p fp q c a) (n : Nat) : YL w0 (wr.drewN n) g G p fp q c a :=
  h.below ⟨rfl, rfl, rfl, Nat.le_refl _, fun _ _ => rfl⟩
theorem YL.alloc {w0 wr : World} {g G : Nat} {p q : PS} {fp : List Nat} {c a : Int} (h : YL w0 wr g G p fp q c a) (o : Obj) : YL w0 (wr.alloc o) g G p fp q c a :=
  h.below ((Below.refl _ _).alloc (Nat.le_refl _) o)
/-- A new block of the law's own is stored into. -/
theorem YL.own {w0 wr : World} {g G : Nat} {p q : PS} {fp : List Nat} {c a : Int} (h : YL w0 wr g G p fp q c a) (j i : Nat) (x : Value) (hj : w0.heap.size ≤ j) (h1 : j ≠ g) (h2 : j ≠ G) (h3 : j ∉ fp) (h4 : ∀ fr, GT wr w0.heap.size G q c a fr → j ∉ fr) : YL w0 (wr.setCell ⟨j, i, none⟩ x) g G p fp q c a := by
  obtain ⟨fr, T, hT⟩ := h.got
  have hs : wr.heap.size ≤ (wr.setCell ⟨j, i, none⟩ x).heap.size := ((Below.refl 0 wr).setCell (p := ⟨j, i, none⟩) (Nat.zero_le _) x).size
  have e : ∀ b, b ≠ j → (wr.setCell ⟨j, i, none⟩ x).heap[b]? = wr.heap[b]? := fun b hb => Below.heap_setCell _ _ _ b hb
  exact ⟨h.par.same hs (e g (fun k => h1 k.symm)) (fun b hb => e b (fun k => h3 (k ▸ hb))), ⟨fr, T.same hs (e G (fun k => h2 k.symm)) (fun b hb => e b (fun k => h4 fr T (k ▸ hb))), hT⟩, h.off, h.ne, Nat.lt_of_lt_of_le h.lt hs, h.be.setCell (p := ⟨j, i, none⟩) hj x, h.hg, h.hG⟩
/-- The first Close turns the Got's code and place. -/
theorem YL.turn {w0 wr : World} {g G : Nat} {p q : PS} {fp : List Nat} {c a : Int} (h : YL w0 wr g G p fp q c a) (c' a' : Int) : YL w0 ((wr.setCell ⟨G, 5, none⟩ (.int .i64 c')).setCell ⟨G, 6, none⟩ (.int .i64 a')) g G p fp q c' a' := by
  obtain ⟨fr, ⟨k, e, t, x, n, m, S, h1, h2⟩, hT⟩ := h.got
  have B2 : Below w0.heap.size w0 ((wr.setCell ⟨G, 5, none⟩ (.int .i64 c')).setCell ⟨G, 6, none⟩ (.int .i64 a')) := (h.be.setCell (p := ⟨G, 5, none⟩) h.hG _).setCell (p := ⟨G, 6, none⟩) h.hG _
  have hs : wr.heap.size ≤ ((wr.setCell ⟨G, 5, none⟩ (.int .i64 c')).setCell ⟨G, 6, none⟩ (.int .i64 a')).heap.size := (((Below.refl 0 wr).setCell (p := ⟨G, 5, none⟩) (Nat.zero_le _) _).setCell (p := ⟨G, 6, none⟩) (Nat.zero_le _) _).size
  have ee : ∀ b, b ≠ G → ((wr.setCell ⟨G, 5, none⟩ (.int .i64 c')).setCell ⟨G, 6, none⟩ (.int .i64 a')).heap[b]? = wr.heap[b]? := fun b hb => (Below.heap_setCell _ _ _ b hb).trans (Below.heap_setCell _ _ _ b hb)
  have S2 := (S.set 5 (.int .i64 c') (by show 5 < 10; decide)).set 6 (.int .i64 a') (by show 6 < 10; decide)
  exact ⟨h.par.same hs (ee g h.ne) (fun b hb => ee b (fun k => h.off (k ▸ hb))), ⟨fr, ⟨k, e, t, x, n, m, S2, fun hn => ⟨(h1 hn).1, (h1 hn).2.1, (h1 hn).2.2.1, TrV.same _ _ _ (h1 hn).2.2.2 (fun b hb => ee b (hT b hb).2.2)⟩, h2⟩, hT⟩, h.off, h.ne, Nat.lt_of_lt_of_le h.lt hs, B2, h.hg, h.hG⟩
/-- Read's answer is stored over the Got. -/
theorem YL.read {w0 wr w' : World} {g G : Nat} {p q : PS} {fp : List Nat} {c a : Int} (h : YL w0 wr g G p fp q c a) (A : List UInt8) (st : Bool) (en : Ending) (r : RdP A st wr en w') :
    ∃ (k : Int) (e : Bool) (t : ByteArray) (x : Option Addr) (n m : Nat), en = .returned (gotV k e t (.slice x n m) (decide ((stP st A false).c.next = 17)) (stP st A false).code (stP st A false).fat ((stP st A false).taken : Int) ((stP st A false).c.op.length : Int) ((stP st A false).held : Int)) ∧
      YL w0 w' g G p fp q c a ∧ YL w0 (set10 w' G k e t (.slice x n m) (decide ((stP st A false).c.next = 17)) (stP st A false).code (stP st A false).fat ((stP st A false).taken : Int) ((stP st A false).c.op.length : Int) ((stP st A false).held : Int)) g G p fp (stP st A false) (stP st A false).code (stP st A false).fat := by
  obtain ⟨k, e, t, x, n, m, rfl, B, r1, r2⟩ := r
  have Y := h.below B
  refine ⟨k, e, t, x, n, m, rfl, Y, ?_⟩
  obtain ⟨fr0, ⟨k0, e0, t0, x0, n0, m0, S0, _, _⟩, _⟩ := Y.got
  have S1 := set10_st S0 k e t (.slice x n m) (decide ((stP st A false).c.next = 17)) (stP st A false).code (stP st A false).fat ((stP st A false).taken : Int) ((stP st A false).c.op.length : Int) ((stP st A false).held : Int)
  have B1 := set10_below Y.be Y.hG k e t (.slice x n m) (decide ((stP st A false).c.next = 17)) (stP st A false).code (stP st A false).fat ((stP st A false).taken : Int) ((stP st A false).c.op.length : Int) ((stP st A false).held : Int)
  have hs := (set10_below (B := 0) (Below.refl 0 w') (G := G) (Nat.zero_le _) k e t (.slice x n m) (decide ((stP st A false).c.next = 17)) (stP st A false).code (stP st A false).fat ((stP st A false).taken : Int) ((stP st A false).c.op.length : Int) ((stP st A false).held : Int)).size
  have ee := fun b => set10_other w' G k e t (.slice x n m) (decide ((stP st A false).c.next = 17)) (stP st A false).code (stP st A false).fat ((stP st A false).taken : Int) ((stP st A false).c.op.length : Int) ((stP st A false).held : Int) b
  have hl := h.par.lt
  have hLG := h.lt
  have hb0 := h.be.size
  refine ⟨Y.par.same hs (ee g Y.ne) (fun b hb => ee b (fun k => Y.off (k ▸ hb))), ?_, Y.off, Y.ne, Nat.lt_of_lt_of_le Y.lt hs, B1, Y.hg, Y.hG⟩
  by_cases hn : (stP st A false).c.next = 17
  · obtain ⟨fr, a1, a2, a3, a4, _⟩ := r1 hn
    have hfr := TrV.lt _ _ _ a4
    refine ⟨fr, ⟨k, e, t, x, n, m, S1, fun _ => ⟨a1, a2, a3, TrV.same _ _ _ (TrV.low hb0 _ _ _ a4) (fun b hb => ee b (fun k => by have := (hfr b hb).1; omega))⟩, fun k => absurd hn k⟩, fun b hb => ⟨fun hm => ?_, ?_, ?_⟩⟩
    · have := (hl.2.2 b hm).2; have := (hfr b hb).1; omega
    · have := (hfr b hb).1; have := hl.1; have := hl.2.1; omega
    · have := (hfr b hb).1; omega
  · obtain ⟨a1, a2, a3, a4, a5, a6⟩ := r2 hn
    exact ⟨[], ⟨k, e, t, x, n, m, S1, fun k => absurd k hn, fun _ => ⟨a1, a2, a3, a4, a5, a6, rfl⟩⟩, fun b hb => by cases hb⟩

end Go.Proofs.Ytpbgmknebhnonaa.Ny
namespace Go.Proofs.Ytpbgmknebhnonaa.Ny
open Go.RowKit Go.Proofs.Ytpbgmknebhnonaa

theorem _root_.Go.Proofs.Ytpbgmknebhnonaa.TrV.belowY {w w' : World} {B : Nat} {T : Tr} {v : Value} {fp : List Nat} (h : TrV w B T v fp) (b : Below w.heap.size w w') : TrV w' B T v fp := TrV.same _ _ _ h (fun x hx => b.block x (TrV.lt _ _ _ h x hx).2)
/-- Two blocks with a node and a fault. -/
theorem two_new (w : World) (T : Tr) (v : Value) (F1 F2 : Int) : St ((w.alloc (.cells #[.int .i64 T.k, .bool T.e, .string T.t, v] 25)).alloc (.cells #[.int .i64 F1, .int .i64 F2] 34)) w.heap.size [.int .i64 T.k, .bool T.e, .string T.t, v] ∧ St ((w.alloc (.cells #[.int .i64 T.k, .bool T.e, .string T.t, v] 25)).alloc (.cells #[.int .i64 F1, .int .i64 F2] 34)) (w.heap.size + 1) [.int .i64 F1, .int .i64 F2] ∧ Below w.heap.size w ((w.alloc (.cells #[.int .i64 T.k, .bool T.e, .string T.t, v] 25)).alloc (.cells #[.int .i64 F1, .int .i64 F2] 34)) ∧ ((w.alloc (.cells #[.int .i64 T.k, .bool T.e, .string T.t, v] 25)).alloc (.cells #[.int .i64 F1, .int .i64 F2] 34)).heap.size = w.heap.size + 2 := by
  refine ⟨(St.new w _ _).same (by simp only [World.size_alloc]; omega) (Below.heap_alloc _ _ _ (by rw [World.size_alloc]; omega)), ?_, ((Below.refl _ _).alloc (Nat.le_refl _) _).alloc (by rw [World.size_alloc]; omega) _, by simp only [World.size_alloc]⟩
  have := St.new (w.alloc (.cells #[.int .i64 T.k, .bool T.e, .string T.t, v] 25)) #[.int .i64 F1, .int .i64 F2] 34
  rw [World.size_alloc] at this
  exact this

/-- The tree that Close answers, and the Got's of a machine that is closed. -/
theorem stP_zero (st : Bool) (A : List UInt8) (sh : Bool) (h : (stP st A true).code ≠ 0) : (stP st A sh).ansT = .mk 0 false ⟨#[]⟩ [] [] := by
  unfold PS.ansT
  rw [stP_fin, if_pos h]
theorem stP_root (st : Bool) (A : List UInt8) (sh : Bool) (h : (stP st A true).code = 0) : (stP st A sh).ansT = (stP st A false).c.root ∧ (stP st A false).c.next = 17 := by
  unfold PS.ansT
  rw [stP_fin, if_neg (by simpa using h)]
  exact ⟨(stP_whole st A sh).2.2.1, (fin_next _ h).2.1⟩
theorem YL.want {w0 wr : World} {g G : Nat} {st sh : Bool} {A : List UInt8} {fp : List Nat} {p : PS} {c a : Int} (h : YL w0 wr g G p fp (stP st A false) c a) (h0 : (stP st A true).code = 0) :
    ∃ x n m, St wr G (gotC (stP st A sh).ansT.k (stP st A sh).ansT.e (stP st A sh).ansT.t (.slice x n m) true c a ((stP st A false).taken : Int) ((stP st A false).c.op.length : Int) ((stP st A false).held : Int)) ∧ ∃ M, At wr M (.agg #[.int .i64 (stP st A sh).ansT.k, .bool (stP st A sh).ansT.e, .string (stP st A sh).ansT.t, .slice x n m]) (stP st A sh).ansT := by
  obtain ⟨e1, e2⟩ := stP_root st A sh h0
  obtain ⟨fr, ⟨k, e, t, x, n, m, S, h1, _⟩, _⟩ := h.got
  obtain ⟨rfl, rfl, rfl, a4⟩ := h1 e2
  rw [e1]
  rw [decide_eq_true e2] at S
  exact ⟨x, n, m, S, TrV.at _ _ _ a4 (stP_inv st A false).2.1⟩
/-- A tree that Close answers is At its value. -/
theorem ans_at {w : World} {B : Nat} {st sh : Bool} {A : List UInt8} {v : Value} {fr : List Nat} (h : TrV w B (stP st A sh).ansT v fr) : ∃ M, At w M (.agg #[.int .i64 (stP st A sh).ansT.k, .bool (stP st A sh).ansT.e, .string (stP st A sh).ansT.t, v]) (stP st A sh).ansT := by
  refine TrV.at _ _ _ h ?_
  by_cases h0 : (stP st A true).code = 0
  · rw [(stP_root st A sh h0).1]; exact (stP_inv st A false).2.1
  · rw [stP_zero st A sh h0, lnT]; exact ⟨by simp, by rw [lnL]; trivial⟩

end Go.Proofs.Ytpbgmknebhnonaa.Ny
namespace Go.Proofs.Ytpbgmknebhnonaa
open Go.RowKit

theorem ret_nii {f : Func} {tmps : Array Value} {W : World} {K1 : Nat} {i j m : Nat} {k : Int} {e : Bool} {t : ByteArray} {v : Value} {a b : Int} {R : Ending → World → Prop} (hf : f.results = #[.cell i 25, .tmp j, .tmp m]) (h1 : tmps[i]?.getD undef = .pointer (some ⟨K1, 0, none⟩)) (h2 : tmps[j]?.getD undef = .int .i64 a) (h3 : tmps[m]?.getD undef = .int .i64 b)
    (q : St W K1 [.int .i64 k, .bool e, .string t, v]) (hR : R (.returned (.tuple #[.agg #[.int .i64 k, .bool e, .string t, v], .int .i64 a, .int .i64 b])) W) :
    bodyPost Try.prog f R .ret { tmps := tmps, defers := [] } W := by
  have q0 := q.get 0 _ rfl
  have q1 := q.get 1 _ rfl
  have q2 := q.get 2 _ rfl
  have q3 := q.get 3 _ rfl
  exact bodyPost_ret (v := .tuple #[.agg #[.int .i64 k, .bool e, .string t, v], .int .i64 a, .int .i64 b]) (by simp [results, hf, go_sem, h1, h2, h3, q0, q1, q2, q3]) rfl hR
theorem set4_below {W w : World} {B G : Nat} (hB : Below B w W) (hG : B ≤ G) (k : Int) (e : Bool) (t : ByteArray) (v : Value) : Below B w (set4 W G 0 k e t v) :=
  (((hB.setCell (p := ⟨G, 0, none⟩) hG _).setCell (p := ⟨G, 0 + 1, none⟩) hG _).setCell (p := ⟨G, 0 + 2, none⟩) hG _).setCell (p := ⟨G, 0 + 3, none⟩) hG _
/-- What the document's Parse answers. -/
def RPaP (l : List UInt8) (w : World) (en : Ending) (w' : World) : Prop := ∃ (x : Option Addr) (n c : Nat) (fr : List Nat), en = .returned (.tuple #[.agg #[.int .i64 (prs l).ansT.k, .bool (prs l).ansT.e, .string (prs l).ansT.t, .slice x n c], .int .i64 (prs l).ansF.1, .int .i64 (prs l).ansF.2]) ∧ TrV w' w.heap.size (prs l).ansT (.slice x n c) fr ∧ Below w.heap.size w w'

set_option maxHeartbeats 16000000 in
set_option maxRecDepth 10000 in
theorem rparse_any (l : List UInt8) (w : World) (hl : l.length ≤ 1048576) : Calls Try.prog 13 #[.string (NB.ba l)] w (RPaP l w) := by
  have bA : Hid (Below w.heap.size w (w.alloc (.cells #[.int .i64 0, .bool false, .string ⟨#[]⟩, .slice none 0 0] 25))) := (Below.refl _ _).alloc (Nat.le_refl _) _
  have s1 : Hid (St (w.alloc (.cells #[.int .i64 0, .bool false, .string ⟨#[]⟩, .slice none 0 0] 25)) w.heap.size [.int .i64 0, .bool false, .string ⟨#[]⟩, .slice none 0 0]) := St.new w _ _
  have hq : (PS.new (!true)).run l = prs l := (prs_run l).symm
  go_enter Try.func13, Try.ntmps13
  go_upto_region 1 with fail
  obtain ⟨G, hG⟩ : ∃ G, w.heap.size = G := ⟨_, rfl⟩
  have HG : Hid (w.heap.size = G) := hG
  rw [hG] at bA s1 ⊢
  clear hG
  generalize w.alloc (.cells _ 25) = w1 at *
  have CR := rread_any l true w1 hl
  unfold RdP at CR
  rw [hq] at CR
  clear hq
  by_cases hc : (prs l).code = 0
  · by_cases hn : (prs l).c.next = 17
    · obtain ⟨a1, a2⟩ := fin_whole hc hn
      have HA : Hid ((prs l).ansT = (prs l).c.root ∧ (prs l).ansF = (0, 0) ∧ (prs l).c.next = 17) := ⟨a1, a2, hn⟩
      rw [hc, hn] at CR
      go_wp2_with fail
      refine CR.mono ?_
      rintro e2 w2 ⟨k, e, t, x, n, c, rfl, b2, hW, hN⟩
      clear CR
      unfold gotV
      simp only [decide_true]
      have f1 : Hid (St w2 G [.int .i64 0, .bool false, .string ⟨#[]⟩, .slice none 0 0]) := s1.out.bel b2
      have FB : Hid (Below G w w2) := bA.out.trans (b2.mono (by have := s1.out.lt; omega))
      have hG1 : Hid (G < w1.heap.size) := s1.out.lt
      have bE : Below w2.heap.size w2 (w2.alloc (.cells (gotC k e t (.slice x n c) true 0 ((prs l).fat) ((prs l).taken : Int) ((prs l).c.op.length : Int) ((prs l).held : Int)).toArray 45)) := (Below.refl _ _).alloc (Nat.le_refl _) _
      have eE : Hid (St (w2.alloc (.cells (gotC k e t (.slice x n c) true 0 ((prs l).fat) ((prs l).taken : Int) ((prs l).c.op.length : Int) ((prs l).held : Int)).toArray 45)) w2.heap.size (gotC k e t (.slice x n c) true 0 ((prs l).fat) ((prs l).taken : Int) ((prs l).c.op.length : Int) ((prs l).held : Int))) := St.new w2 _ _
      have gG : Hid (St (w2.alloc (.cells (gotC k e t (.slice x n c) true 0 ((prs l).fat) ((prs l).taken : Int) ((prs l).c.op.length : Int) ((prs l).held : Int)).toArray 45)) G [.int .i64 0, .bool false, .string ⟨#[]⟩, .slice none 0 0]) := f1.out.bel bE
      have BE : Hid (Below G w (w2.alloc (.cells (gotC k e t (.slice x n c) true 0 ((prs l).fat) ((prs l).taken : Int) ((prs l).c.op.length : Int) ((prs l).held : Int)).toArray 45)) ∧ Below w2.heap.size w2 (w2.alloc (.cells (gotC k e t (.slice x n c) true 0 ((prs l).fat) ((prs l).taken : Int) ((prs l).c.op.length : Int) ((prs l).held : Int)).toArray 45))) := ⟨FB.out.trans (bE.mono (by have := f1.out.lt; omega)), bE⟩
      have hGl : Hid (G < w2.heap.size) := f1.out.lt
      clear bE f1 FB s1 bA
      unfold gotC at eE
      unfold gotC at BE
      unfold gotC at gG
      go_upto_region 2 with fail
      obtain ⟨E, hE⟩ : ∃ E, w2.heap.size = E := ⟨_, rfl⟩
      have hEE : Hid (w2.heap.size = E) := hE
      rw [hE] at eE BE hGl ⊢
      clear hE
      generalize w2.alloc (.cells _ 45) = w3 at *
      have pe := eE.out
      have p1 := gG
      have hGE : G ≠ E := by have := hGl.out; omega
      have e0 := pe.get 0 _ rfl
      have e1 := pe.get 1 _ rfl
      have e2 := pe.get 2 _ rfl
      have e3 := pe.get 3 _ rfl
      have e4 := pe.get 4 _ rfl
      have e5 := pe.get 5 _ rfl
      have e6 := pe.get 6 _ rfl
      have e7 := pe.get 7 _ rfl
      have e8 := pe.get 8 _ rfl
      have e9 := pe.get 9 _ rfl
      have v0 := p1.out.fr 0 (by show 0 < 4; decide)
      have v1 := p1.out.fr 1 (by show 1 < 4; decide)
      have v2 := p1.out.fr 2 (by show 2 < 4; decide)
      have v3 := p1.out.fr 3 (by show 3 < 4; decide)
      have u0 := p1.out.get 0 _ rfl
      have u1 := p1.out.get 1 _ rfl
      have u2 := p1.out.get 2 _ rfl
      have u3 := p1.out.get 3 _ rfl
      go_wp2
      have hst0 : St (set4 w3 G 0 k e t (.slice x n c)) G [.int .i64 k, .bool e, .string t, (.slice x n c)] := ((((p1.out.set 0 (.int .i64 k) (by show 0 < 4; decide)).set 1 (.bool e) (by show 1 < 4; decide)).set 2 (.string t) (by show 2 < 4; decide)).set 3 ((.slice x n c)) (by show 3 < 4; decide)).cast rfl
      have hst : St (set4 w3 G 0 k e t (.slice x n c)) G [.int .i64 k, .bool e, .string t, (.slice x n c)] := hst0
      have hb0 : Below G w (set4 w3 G 0 k e t (.slice x n c)) := set4_below BE.out.1 (Nat.le_refl G) k e t (.slice x n c)
      have hbel : Below w.heap.size w (set4 w3 G 0 k e t (.slice x n c)) := by rw [HG.out]; exact hb0
      have hoth : ∀ b, b ≠ G → (set4 w3 G 0 k e t (.slice x n c)).heap[b]? = w3.heap[b]? := fun b hb => set4_other w3 G 0 k e t (.slice x n c) b hb
      change bodyPost Try.prog _ _ _ _ (set4 w3 G 0 k e t (.slice x n c))
      generalize (set4 w3 G 0 k e t (.slice x n c)) = wq at *
      refine ret_nii rfl rfl rfl rfl hst ?_
      obtain ⟨fr, r1, r2, r3, r4, r5⟩ := hW (by first | rfl | trivial)
      have hTF : TrV wq w.heap.size (prs l).c.root (.slice x n c) fr := TrV.low (by have := HG.out; have := hG1.out; omega) _ _ _ (TrV.same _ _ _ r4 (fun b hb => (hoth b (by have := (TrV.lt _ _ _ r4 b hb).1; have := hG1.out; omega)).trans (BE.out.2.block b (by have := (TrV.lt _ _ _ r4 b hb).2; have := hEE.out; omega))))
      refine ⟨x, n, c, fr, ?_, by rw [HA.out.1]; exact hTF, hbel⟩
      rw [HA.out.1, HA.out.2.1, r1, r2, r3]
    · have e0 : (prs l).fin = ((prs l).sf 4 (prs l).taken).shut := by unfold PS.fin; rw [if_pos ⟨hc, hn⟩]
      have hc4 : (prs l).fin.code ≠ 0 := by rw [e0]; show (4 : Int) ≠ 0; decide
      have HA : Hid ((prs l).ansT = .mk 0 false ⟨#[]⟩ [] [] ∧ (prs l).ansF = (4, ((prs l).taken : Int))) := ⟨by unfold PS.ansT; rw [if_pos hc4], by unfold PS.ansF; rw [if_pos hc4, e0]; rfl⟩
      clear e0 hc4
      rw [hc, decide_eq_false hn] at CR
      go_wp2_with fail
      refine CR.mono ?_
      rintro e2 w2 ⟨k, e, t, x, n, c, rfl, b2, hW, hN⟩
      clear CR
      unfold gotV
      obtain ⟨rfl, rfl, rfl, rfl, rfl, rfl⟩ := hN (by first | exact hn | trivial)
      clear hN hW
      have f1 : Hid (St w2 G [.int .i64 0, .bool false, .string ⟨#[]⟩, .slice none 0 0]) := s1.out.bel b2
      have FB : Hid (Below G w w2) := bA.out.trans (b2.mono (by have := s1.out.lt; omega))
      have hG1 : Hid (G < w1.heap.size) := s1.out.lt
      have bE : Below w2.heap.size w2 (w2.alloc (.cells (gotC 0 false ⟨#[]⟩ (.slice none 0 0) false 0 ((prs l).fat) ((prs l).taken : Int) ((prs l).c.op.length : Int) ((prs l).held : Int)).toArray 45)) := (Below.refl _ _).alloc (Nat.le_refl _) _
      have eE : Hid (St (w2.alloc (.cells (gotC 0 false ⟨#[]⟩ (.slice none 0 0) false 0 ((prs l).fat) ((prs l).taken : Int) ((prs l).c.op.length : Int) ((prs l).held : Int)).toArray 45)) w2.heap.size (gotC 0 false ⟨#[]⟩ (.slice none 0 0) false 0 ((prs l).fat) ((prs l).taken : Int) ((prs l).c.op.length : Int) ((prs l).held : Int))) := St.new w2 _ _
      have gG : Hid (St (w2.alloc (.cells (gotC 0 false ⟨#[]⟩ (.slice none 0 0) false 0 ((prs l).fat) ((prs l).taken : Int) ((prs l).c.op.length : Int) ((prs l).held : Int)).toArray 45)) G [.int .i64 0, .bool false, .string ⟨#[]⟩, .slice none 0 0]) := f1.out.bel bE
      have BE : Hid (Below G w (w2.alloc (.cells (gotC 0 false ⟨#[]⟩ (.slice none 0 0) false 0 ((prs l).fat) ((prs l).taken : Int) ((prs l).c.op.length : Int) ((prs l).held : Int)).toArray 45)) ∧ Below w2.heap.size w2 (w2.alloc (.cells (gotC 0 false ⟨#[]⟩ (.slice none 0 0) false 0 ((prs l).fat) ((prs l).taken : Int) ((prs l).c.op.length : Int) ((prs l).held : Int)).toArray 45))) := ⟨FB.out.trans (bE.mono (by have := f1.out.lt; omega)), bE⟩
      have hGl : Hid (G < w2.heap.size) := f1.out.lt
      clear bE f1 FB s1 bA
      unfold gotC at eE
      unfold gotC at BE
      unfold gotC at gG
      go_upto_region 2 with fail
      obtain ⟨E, hE⟩ : ∃ E, w2.heap.size = E := ⟨_, rfl⟩
      have hEE : Hid (w2.heap.size = E) := hE
      rw [hE] at eE BE hGl ⊢
      clear hE
      generalize w2.alloc (.cells _ 45) = w3 at *
      have pe := eE.out
      have p1 := gG
      have hGE : G ≠ E := by have := hGl.out; omega
      have e0 := pe.get 0 _ rfl
      have e1 := pe.get 1 _ rfl
      have e2 := pe.get 2 _ rfl
      have e3 := pe.get 3 _ rfl
      have e4 := pe.get 4 _ rfl
      have e5 := pe.get 5 _ rfl
      have e6 := pe.get 6 _ rfl
      have e7 := pe.get 7 _ rfl
      have e8 := pe.get 8 _ rfl
      have e9 := pe.get 9 _ rfl
      have v0 := p1.out.fr 0 (by show 0 < 4; decide)
      have v1 := p1.out.fr 1 (by show 1 < 4; decide)
      have v2 := p1.out.fr 2 (by show 2 < 4; decide)
      have v3 := p1.out.fr 3 (by show 3 < 4; decide)
      have u0 := p1.out.get 0 _ rfl
      have u1 := p1.out.get 1 _ rfl
      have u2 := p1.out.get 2 _ rfl
      have u3 := p1.out.get 3 _ rfl
      go_upto_region 3 with fail
      go_region
      go_wp2
      have hst0 : St (set4 w3 G 0 0 false ⟨#[]⟩ (.slice none 0 0)) G [.int .i64 0, .bool false, .string ⟨#[]⟩, (.slice none 0 0)] := ((((p1.out.set 0 (.int .i64 0) (by show 0 < 4; decide)).set 1 (.bool false) (by show 1 < 4; decide)).set 2 (.string ⟨#[]⟩) (by show 2 < 4; decide)).set 3 ((.slice none 0 0)) (by show 3 < 4; decide)).cast rfl
      have hst : St (set4 w3 G 0 0 false ⟨#[]⟩ (.slice none 0 0)).drew G [.int .i64 0, .bool false, .string ⟨#[]⟩, (.slice none 0 0)] := hst0.drew
      have hb0 : Below G w (set4 w3 G 0 0 false ⟨#[]⟩ (.slice none 0 0)).drew := belR_drewN (set4_below BE.out.1 (Nat.le_refl G) 0 false ⟨#[]⟩ (.slice none 0 0)) 1
      have hbel : Below w.heap.size w (set4 w3 G 0 0 false ⟨#[]⟩ (.slice none 0 0)).drew := by rw [HG.out]; exact hb0
      have hoth : ∀ b, b ≠ G → (set4 w3 G 0 0 false ⟨#[]⟩ (.slice none 0 0)).drew.heap[b]? = w3.heap[b]? := fun b hb => (drew_at _ b).trans (set4_other w3 G 0 0 false ⟨#[]⟩ (.slice none 0 0) b hb)
      change bodyPost Try.prog _ _ _ _ (set4 w3 G 0 0 false ⟨#[]⟩ (.slice none 0 0)).drew
      generalize (set4 w3 G 0 0 false ⟨#[]⟩ (.slice none 0 0)).drew = wq at *
      refine ret_nii rfl rfl rfl rfl hst ?_
      refine ⟨none, 0, 0, [], ?_, by rw [HA.out.1]; exact leafV _ _ _ _ _, hbel⟩
      rw [HA.out.1, HA.out.2]
      rfl
  · have e0 : (prs l).fin = (prs l).shut := by unfold PS.fin; rw [if_neg (fun h => hc h.1)]
    have hc4 : (prs l).fin.code ≠ 0 := by rw [e0]; exact hc
    have HA : Hid ((prs l).ansT = .mk 0 false ⟨#[]⟩ [] [] ∧ (prs l).ansF = ((prs l).code, (prs l).fat)) := ⟨by unfold PS.ansT; rw [if_pos hc4], by unfold PS.ansF; rw [if_pos hc4, e0]; rfl⟩
    clear e0 hc4
    go_wp2_with fail
    refine CR.mono ?_
    rintro e2 w2 ⟨k, e, t, x, n, c, rfl, b2, hW, hN⟩
    clear CR
    unfold gotV
    clear hN hW
    have f1 : Hid (St w2 G [.int .i64 0, .bool false, .string ⟨#[]⟩, .slice none 0 0]) := s1.out.bel b2
    have FB : Hid (Below G w w2) := bA.out.trans (b2.mono (by have := s1.out.lt; omega))
    have hG1 : Hid (G < w1.heap.size) := s1.out.lt
    have bE : Below w2.heap.size w2 (w2.alloc (.cells (gotC k e t (.slice x n c) (decide ((prs l).c.next = 17)) ((prs l).code) ((prs l).fat) ((prs l).taken : Int) ((prs l).c.op.length : Int) ((prs l).held : Int)).toArray 45)) := (Below.refl _ _).alloc (Nat.le_refl _) _
    have eE : Hid (St (w2.alloc (.cells (gotC k e t (.slice x n c) (decide ((prs l).c.next = 17)) ((prs l).code) ((prs l).fat) ((prs l).taken : Int) ((prs l).c.op.length : Int) ((prs l).held : Int)).toArray 45)) w2.heap.size (gotC k e t (.slice x n c) (decide ((prs l).c.next = 17)) ((prs l).code) ((prs l).fat) ((prs l).taken : Int) ((prs l).c.op.length : Int) ((prs l).held : Int))) := St.new w2 _ _
    have gG : Hid (St (w2.alloc (.cells (gotC k e t (.slice x n c) (decide ((prs l).c.next = 17)) ((prs l).code) ((prs l).fat) ((prs l).taken : Int) ((prs l).c.op.length : Int) ((prs l).held : Int)).toArray 45)) G [.int .i64 0, .bool false, .string ⟨#[]⟩, .slice none 0 0]) := f1.out.bel bE
    have BE : Hid (Below G w (w2.alloc (.cells (gotC k e t (.slice x n c) (decide ((prs l).c.next = 17)) ((prs l).code) ((prs l).fat) ((prs l).taken : Int) ((prs l).c.op.length : Int) ((prs l).held : Int)).toArray 45)) ∧ Below w2.heap.size w2 (w2.alloc (.cells (gotC k e t (.slice x n c) (decide ((prs l).c.next = 17)) ((prs l).code) ((prs l).fat) ((prs l).taken : Int) ((prs l).c.op.length : Int) ((prs l).held : Int)).toArray 45))) := ⟨FB.out.trans (bE.mono (by have := f1.out.lt; omega)), bE⟩
    have hGl : Hid (G < w2.heap.size) := f1.out.lt
    clear bE f1 FB s1 bA
    unfold gotC at eE
    unfold gotC at BE
    unfold gotC at gG
    go_upto_region 2 with fail
    obtain ⟨E, hE⟩ : ∃ E, w2.heap.size = E := ⟨_, rfl⟩
    have hEE : Hid (w2.heap.size = E) := hE
    rw [hE] at eE BE hGl ⊢
    clear hE
    generalize w2.alloc (.cells _ 45) = w3 at *
    have pe := eE.out
    have p1 := gG
    have hGE : G ≠ E := by have := hGl.out; omega
    have e0 := pe.get 0 _ rfl
    have e1 := pe.get 1 _ rfl
    have e2 := pe.get 2 _ rfl
    have e3 := pe.get 3 _ rfl
    have e4 := pe.get 4 _ rfl
    have e5 := pe.get 5 _ rfl
    have e6 := pe.get 6 _ rfl
    have e7 := pe.get 7 _ rfl
    have e8 := pe.get 8 _ rfl
    have e9 := pe.get 9 _ rfl
    have v0 := p1.out.fr 0 (by show 0 < 4; decide)
    have v1 := p1.out.fr 1 (by show 1 < 4; decide)
    have v2 := p1.out.fr 2 (by show 2 < 4; decide)
    have v3 := p1.out.fr 3 (by show 3 < 4; decide)
    have u0 := p1.out.get 0 _ rfl
    have u1 := p1.out.get 1 _ rfl
    have u2 := p1.out.get 2 _ rfl
    have u3 := p1.out.get 3 _ rfl
    have hcb : ((prs l).code == 0) = false := by simp [hc]
    have hcn : ((prs l).code != 0) = true := by simp [hc]
    go_upto_region 5 with fail
    go_region
    go_wp2
    have hst0 : St (set4 w3 G 0 0 false ⟨#[]⟩ (.slice none 0 0)) G [.int .i64 0, .bool false, .string ⟨#[]⟩, (.slice none 0 0)] := ((((p1.out.set 0 (.int .i64 0) (by show 0 < 4; decide)).set 1 (.bool false) (by show 1 < 4; decide)).set 2 (.string ⟨#[]⟩) (by show 2 < 4; decide)).set 3 ((.slice none 0 0)) (by show 3 < 4; decide)).cast rfl
    have hst : St (set4 w3 G 0 0 false ⟨#[]⟩ (.slice none 0 0)).drew G [.int .i64 0, .bool false, .string ⟨#[]⟩, (.slice none 0 0)] := hst0.drew
    have hb0 : Below G w (set4 w3 G 0 0 false ⟨#[]⟩ (.slice none 0 0)).drew := belR_drewN (set4_below BE.out.1 (Nat.le_refl G) 0 false ⟨#[]⟩ (.slice none 0 0)) 1
    have hbel : Below w.heap.size w (set4 w3 G 0 0 false ⟨#[]⟩ (.slice none 0 0)).drew := by rw [HG.out]; exact hb0
    have hoth : ∀ b, b ≠ G → (set4 w3 G 0 0 false ⟨#[]⟩ (.slice none 0 0)).drew.heap[b]? = w3.heap[b]? := fun b hb => (drew_at _ b).trans (set4_other w3 G 0 0 false ⟨#[]⟩ (.slice none 0 0) b hb)
    change bodyPost Try.prog _ _ _ _ (set4 w3 G 0 0 false ⟨#[]⟩ (.slice none 0 0)).drew
    generalize (set4 w3 G 0 0 false ⟨#[]⟩ (.slice none 0 0)).drew = wq at *
    refine ret_nii rfl rfl rfl rfl hst ?_
    refine ⟨none, 0, 0, [], ?_, by rw [HA.out.1]; exact leafV _ _ _ _ _, hbel⟩
    rw [HA.out.1, HA.out.2]
    rfl

set_option maxHeartbeats 16000000 in
set_option maxRecDepth 10000 in
theorem nreads_walk (b : ByteArray) (w : World) (hb : b.size ≤ 1048576) :
    Calls Try.prog 4 #[.string b] w fun en w' => en = .returned (.bool true) ∧ Below w.heap.size w w' := by
  obtain ⟨l, rfl⟩ : ∃ l, b = NB.ba l := ⟨b.data.toList, (NB.ba_list b).symm⟩
  have hz1 : (NB.ba l).size = l.length := NB.ba_size l
  have hl : l.length ≤ 1048576 := by rw [hz1] at hb; exact hb
  have HLN : Hid (lnT (prs l).ansT) := by
    unfold Hid PS.ansT
    by_cases hc : (prs l).fin.code ≠ 0
    · rw [if_pos hc]; exact ln_zero
    · rw [if_neg hc]; exact (prs_inv l).2.1.rt
  clear hb
  go_enter Try.func4, Try.ntmps4
  go_wp2_with fail
  refine (awN w).mono ?_
  rintro e1 w1 ⟨rfl, b1⟩
  have HB1 : Hid (Below w.heap.size w w1) := b1
  clear b1
  have CP := parse_any l w1 (by omega)
  go_wp2_with fail
  refine CP.mono ?_
  rintro e2 w2 ⟨⟨v, fr, rfl, hT, _⟩, b2⟩
  clear CP
  have HB2 : Hid (Below w.heap.size w w2) := HB1.out.trans (b2.mono HB1.out.size)
  obtain ⟨xx, nn, cc, rfl⟩ : ∃ x n c, v = .slice x n c := by obtain ⟨x, c, h⟩ := hT.shape; exact ⟨x, _, c, h⟩
  have HT : Hid (TrV w2 w1.heap.size (prs l).ansT (.slice xx nn cc) fr) := hT
  clear hT b2 HB1
  obtain ⟨s1, s2, b3⟩ := two_blk w2 (prs l).ansT (.slice xx nn cc) (prs l).ansF.1 (prs l).ansF.2
  have CQ := rparse_any l ((w2.alloc (.cells #[.int .i64 (prs l).ansT.k, .bool (prs l).ansT.e, .string (prs l).ansT.t, .slice xx nn cc] 25)).alloc (.cells #[.int .i64 (prs l).ansF.1, .int .i64 (prs l).ansF.2] 34)) hl
  unfold RPaP at CQ
  obtain ⟨T, hTT⟩ : ∃ T, (prs l).ansT = T := ⟨_, rfl⟩
  obtain ⟨F, hFF⟩ : ∃ F, (prs l).ansF = F := ⟨_, rfl⟩
  rw [hTT] at HT HLN
  rw [hTT, hFF] at s1 s2 b3 CQ ⊢
  clear hTT hFF
  obtain ⟨f1, f2⟩ := F
  dsimp only at s1 s2 b3 CQ ⊢
  obtain ⟨M, hM⟩ := TrV.at T _ fr HT.out HLN.out
  have HM : Hid (At ((w2.alloc (.cells #[.int .i64 T.k, .bool T.e, .string T.t, .slice xx nn cc] 25)).alloc (.cells #[.int .i64 f1, .int .i64 f2] 34)) M (.agg #[.int .i64 T.k, .bool T.e, .string T.t, .slice xx nn cc]) T) := hM.below b3
  have HB3 : Hid (Below w.heap.size w ((w2.alloc (.cells #[.int .i64 T.k, .bool T.e, .string T.t, .slice xx nn cc] 25)).alloc (.cells #[.int .i64 f1, .int .i64 f2] 34))) := HB2.out.trans (b3.mono HB2.out.size)
  clear hM HT HB2 b3
  go_upto_region 4 with fail
  obtain ⟨D, hD⟩ : ∃ D, w2.heap.size = D := ⟨_, rfl⟩
  rw [hD] at s1 s2 ⊢
  clear hD
  generalize (w2.alloc (.cells #[.int .i64 T.k, .bool T.e, .string T.t, .slice xx nn cc] 25)).alloc (.cells #[.int .i64 f1, .int .i64 f2] 34) = w3 at *
  have HS : Hid (St w3 D [.int .i64 T.k, .bool T.e, .string T.t, .slice xx nn cc] ∧ St w3 (D + 1) [.int .i64 f1, .int .i64 f2]) := ⟨s1, s2⟩
  clear s1 s2
  go_wp2_with fail
  refine CQ.mono ?_
  rintro e4 w4 ⟨x4, n4, c4, fr4, rfl, hT4, b4⟩
  clear CQ
  have bE : Below w4.heap.size w4 (w4.alloc (.cells #[.int .i64 T.k, .bool T.e, .string T.t, .slice x4 n4 c4] 25)) := (Below.refl _ _).alloc (Nat.le_refl _) _
  obtain ⟨M4, hM4⟩ := TrV.at T _ fr4 hT4 HLN.out
  have HM4 : Hid (At (w4.alloc (.cells #[.int .i64 T.k, .bool T.e, .string T.t, .slice x4 n4 c4] 25)) M4 (.agg #[.int .i64 T.k, .bool T.e, .string T.t, .slice x4 n4 c4]) T) := hM4.below bE
  have b5 : Below w3.heap.size w3 (w4.alloc (.cells #[.int .i64 T.k, .bool T.e, .string T.t, .slice x4 n4 c4] 25)) := b4.trans (bE.mono b4.size)
  have HM5 : Hid (At (w4.alloc (.cells #[.int .i64 T.k, .bool T.e, .string T.t, .slice x4 n4 c4] 25)) M (.agg #[.int .i64 T.k, .bool T.e, .string T.t, .slice xx nn cc]) T) := HM.out.below b5
  have p1 : Hid (St (w4.alloc (.cells #[.int .i64 T.k, .bool T.e, .string T.t, .slice x4 n4 c4] 25)) D [.int .i64 T.k, .bool T.e, .string T.t, .slice xx nn cc]) := HS.out.1.bel b5
  have p2 : Hid (St (w4.alloc (.cells #[.int .i64 T.k, .bool T.e, .string T.t, .slice x4 n4 c4] 25)) (D + 1) [.int .i64 f1, .int .i64 f2]) := HS.out.2.bel b5
  have p3 : Hid (St (w4.alloc (.cells #[.int .i64 T.k, .bool T.e, .string T.t, .slice x4 n4 c4] 25)) w4.heap.size [.int .i64 T.k, .bool T.e, .string T.t, .slice x4 n4 c4]) := St.new w4 _ _
  have HB5 : Hid (Below w.heap.size w (w4.alloc (.cells #[.int .i64 T.k, .bool T.e, .string T.t, .slice x4 n4 c4] 25))) := HB3.out.trans (b5.mono HB3.out.size)
  clear bE hM4 hT4 b4 b5 HM HB3 HS
  go_upto_region 5 with fail
  obtain ⟨E, hE⟩ : ∃ E, w4.heap.size = E := ⟨_, rfl⟩
  rw [hE] at p3 ⊢
  clear hE
  generalize w4.alloc (.cells #[.int .i64 T.k, .bool T.e, .string T.t, .slice x4 n4 c4] 25) = w5 at *
  have x0 := p1.out.get 0 _ rfl
  have x1 := p1.out.get 1 _ rfl
  have x2 := p1.out.get 2 _ rfl
  have x3 := p1.out.get 3 _ rfl
  have y0 := p2.out.get 0 _ rfl
  have y1 := p2.out.get 1 _ rfl
  have z0 := p3.out.get 0 _ rfl
  have z1 := p3.out.get 1 _ rfl
  have z2 := p3.out.get 2 _ rfl
  have z3 := p3.out.get 3 _ rfl
  have q1 : (f1 == f1) = true := by simp
  have q2 : (f2 == f2) = true := by simp
  have CE := requal_any (max M M4) _ _ T T w5 (HM5.out.upto (Nat.le_max_left _ _)) (HM4.out.upto (Nat.le_max_right _ _))
  go_wp2_with fail
  refine CE.mono ?_
  rintro e8 w8 ⟨⟨r, rfl, hr⟩, b8⟩
  have hrt : r = true := by simpa using hr
  subst hrt
  have HB8 : Hid (Below w.heap.size w w8) := HB5.out.trans (b8.mono HB5.out.size)
  clear CE b8 hr
  go_wp2
  go_ret
  exact ⟨rfl, HB8.out⟩
end Go.Proofs.Ytpbgmknebhnonaa
namespace Go.Proofs.Ytpbgmknebhnonaa
open Go.RowKit

set_option maxHeartbeats 1000000 in
theorem fault_any (g : Nat) (a b : Int) (w : World) (h2 : w.cell? ⟨g, 2, none⟩ = some (.int .i64 a)) (h3 : w.cell? ⟨g, 3, none⟩ = some (.int .i64 b)) : Calls Try.prog 20 #[.pointer (some ⟨g, 0, none⟩)] w fun e w' => e = .returned (.agg #[.int .i64 a, .int .i64 b]) ∧ Below w.heap.size w w' := by
  have bA : Hid (Below w.heap.size w (w.alloc (.cells #[.int .i64 a, .int .i64 b] 34))) := (Below.refl _ _).alloc (Nat.le_refl _) _
  have sA : Hid (St (w.alloc (.cells #[.int .i64 a, .int .i64 b] 34)) w.heap.size [.int .i64 a, .int .i64 b]) := St.new w _ _
  have hl := World.block_lt_of_cell? _ _ h2
  go_enter Try.func20, Try.ntmps20
  go_wp2
  exact ret_fault rfl rfl sA.out ⟨rfl, bA.out⟩

theorem acc_same (c : PC) (s : ByteArray) (h : (c.accept s).1 ≠ 0) : (c.accept s).2 = c := by
  unfold PC.accept at h ⊢
  by_cases h7 : c.next = 7
  · rw [if_pos h7] at h; exact absurd rfl h
  rw [if_neg h7] at h ⊢
  by_cases h9 : c.next = 9
  · rw [if_pos h9] at h ⊢
    by_cases ht : tgt s ≠ 0
    · rw [if_pos ht]
    · rw [if_neg ht] at h; exact absurd rfl h
  rw [if_neg h9] at h ⊢
  by_cases h14 : c.next = 14
  · rw [if_pos h14] at h ⊢
    cases ho : c.op with
    | nil => rfl
    | cons o R =>
      rw [ho] at h
      dsimp only at h ⊢
      by_cases hc : ceP o.nms.getLast? s ≠ 0
      · rw [if_pos hc]
      · rw [if_neg hc] at h; exact absurd rfl h
  rw [if_neg h14] at h ⊢
  unfold PC.fixed at h ⊢
  by_cases hb : (bhP c.next s).2 = false
  · rw [if_pos hb]
  rw [if_neg hb] at h ⊢
  by_cases h1 : c.next = 1 ∧ c.op.length = 32
  · rw [if_pos h1]
  rw [if_neg h1] at h ⊢
  by_cases h2 : c.next = 1
  · rw [if_pos h2] at h; exact absurd rfl h
  rw [if_neg h2] at h ⊢
  by_cases h3 : c.next = 3
  · rw [if_pos h3] at h; exact absurd rfl h
  rw [if_neg h3] at h ⊢
  by_cases h4 : s = wExec
  · rw [if_pos h4] at h; exact absurd rfl h
  rw [if_neg h4] at h ⊢
  by_cases h5 : (bhP c.next s).1 = 16
  · rw [if_pos h5] at h; exact absurd rfl h
  · rw [if_neg h5] at h; exact absurd rfl h

/-- The length with the next byte. -/
def PS.ll (p : PS) (b : UInt8) : Nat := if p.held < 8 then p.nl b else p.len
/-- What one byte comes to. -/
def StepP (p : PS) (b : UInt8) : Prop :=
  ((p.step b).code ≠ 0 ∧ (p.step b).held = p.held ∧ (p.step b).c.op.length ≤ 32 ∧ (p.held = 7 → 1048576 < p.ll b → (p.step b).code = 6 ∧ (p.step b).fat = (p.taken : Int) - 7)) ∨
  ((p.step b).code = 0 ∧ (p.held = 7 → ¬ 1048576 < p.ll b) ∧ (p.step b).c.op.length ≤ 32 ∧ PI (p.step b) ∧ (p.step b).taken = p.taken + 1 ∧ (p.taken + 1 - (p.step b).held) % 8 = 0 ∧ (p.step b).part = p.part ∧ (p.step b).closed = p.closed ∧
    (((p.step b).held = p.held + 1 ∧ (p.step b).len = p.ll b ∧ p.held + 1 ≠ 8 + p.ll b + padN (p.ll b)) ∨ ((p.step b).held = 0 ∧ (p.step b).len = 0 ∧ p.held + 1 = 8 + p.ll b + padN (p.ll b))))
theorem pad8 (n : Nat) : (8 + n + padN n) % 8 = 0 := by unfold padN; omega
theorem step_ends {p q : PS} {b : UInt8} (hI : PI p) (hn : p.c.next ≠ 17) (ht : p.taken ≠ 1048576) (hm : (p.taken - p.held) % 8 = 0) (hp : p.put b = ((0, 0), q)) (hq : q.taken = p.taken ∧ q.held = p.held ∧ q.c = p.c ∧ q.len = p.ll b) (h7 : p.held = 7 → ¬ 1048576 < p.ll b) : StepP p b := by
  have hhd := hI.hd
  have hdp := hI.ci.dp
  have e : p.take b = q.ends := by unfold PS.take; rw [if_neg hn, if_neg ht, hp, if_neg (by show ¬ (0 : Int) ≠ 0; decide)]
  obtain ⟨q1, q2, q3, q4⟩ := hq
  have hk := p.take_keep b
  by_cases he : q.held + 1 ≠ 8 + q.len + padN q.len
  · rw [ends_go he] at e
    have h0 : (p.take b).1.1 = 0 := by rw [e]
    have hs := PS.step_ok h0
    have hst := hI.step b (by rw [hs]; rfl)
    refine Or.inr ⟨by rw [hs]; rfl, h7, ?_, hst.1, hst.2, ?_, ?_, ?_, Or.inl ⟨?_, ?_, by rw [← q2, ← q4]; exact he⟩⟩
    · rw [hs, e]; show q.c.op.length ≤ 32; rw [q3]; exact hdp
    · rw [hs, e]; show (p.taken + 1 - (q.held + 1)) % 8 = 0; rw [q2]; omega
    · rw [hs]; exact hk.2.1
    · rw [hs]; exact hk.2.2.1
    · rw [hs, e]; show q.held + 1 = _; rw [q2]
    · rw [hs, e]; exact q4
  · have he' : q.held + 1 = 8 + q.len + padN q.len := by omega
    by_cases ha : (q.c.accept (NB.ba q.text)).1 ≠ 0
    · rw [ends_bad he' ha] at e
      have h0 : (p.take b).1.1 ≠ 0 := by rw [e]; exact ha
      have hs := PS.step_bad h0
      refine Or.inl ⟨by rw [hs]; exact h0, by rw [hs, e]; exact q2, ?_, fun h1 h2 => absurd h2 (h7 h1)⟩
      rw [hs, e]
      show (q.c.accept (NB.ba q.text)).2.op.length ≤ 32
      rw [acc_same _ _ ha, q3]
      exact hdp
    · rw [ends_ok he' (by omega)] at e
      have h0 : (p.take b).1.1 = 0 := by rw [e]
      have hs := PS.step_ok h0
      have hst := hI.step b (by rw [hs]; rfl)
      refine Or.inr ⟨by rw [hs]; rfl, h7, hst.1.ci.dp, hst.1, hst.2, ?_, by rw [hs]; exact hk.2.1, by rw [hs]; exact hk.2.2.1, Or.inr ⟨by rw [hs, e]; rfl, by rw [hs, e]; rfl, by rw [← q2, ← q4]; exact he'⟩⟩
      rw [hs, e]
      show (p.taken + 1 - 0) % 8 = 0
      have h8 := pad8 q.len
      rw [q2] at he'
      omega
theorem step_cases {p : PS} (hI : PI p) (hn : p.c.next ≠ 17) (hm : (p.taken - p.held) % 8 = 0) (b : UInt8) : StepP p b := by
  have hhd := hI.hd
  have hdp := hI.ci.dp
  by_cases ht : p.taken = 1048576
  · have e : p.take b = ((2, (p.taken : Int)), p) := by unfold PS.take; rw [if_neg hn, if_pos ht]
    have h0 : (p.take b).1.1 ≠ 0 := by rw [e]; show (2 : Int) ≠ 0; decide
    have hs := PS.step_bad h0
    refine Or.inl ⟨by rw [hs]; exact h0, by rw [hs, e]; rfl, by rw [hs, e]; exact hdp, fun h7 _ => ?_⟩
    exfalso
    omega
  by_cases h8 : p.held < 8
  · have hll : p.ll b = p.nl b := if_pos h8
    by_cases h7 : p.held = 7 ∧ 1048576 < p.nl b
    · have e : p.take b = ((6, (p.taken : Int) - p.held), p.sl (p.nl b)) := by
        have e : p.put b = ((6, (p.taken : Int) - p.held), p.sl (p.nl b)) := by unfold PS.put; rw [if_pos h8, if_pos h7]
        unfold PS.take
        rw [if_neg hn, if_neg ht, e, if_pos (by show (6 : Int) ≠ 0; decide)]
      have h0 : (p.take b).1.1 ≠ 0 := by rw [e]; show (6 : Int) ≠ 0; decide
      have hs := PS.step_bad h0
      refine Or.inl ⟨by rw [hs]; exact h0, by rw [hs, e]; rfl, by rw [hs, e]; exact hdp, fun _ _ => ⟨by rw [hs, e]; rfl, ?_⟩⟩
      rw [hs, e]
      show (p.taken : Int) - p.held = _
      rw [h7.1]
      rfl
    · exact step_ends (q := p.sl (p.nl b)) hI hn ht hm (by unfold PS.put; rw [if_pos h8, if_neg h7]) ⟨rfl, rfl, rfl, hll.symm⟩ (fun h1 h2 => h7 ⟨h1, by rw [← hll]; exact h2⟩)
  · have hll : p.ll b = p.len := if_neg h8
    by_cases hlt : p.text.length < p.len
    · exact step_ends (q := p.st (p.text ++ [b])) hI hn ht hm (by unfold PS.put; rw [if_neg h8, if_pos hlt]) ⟨rfl, rfl, rfl, hll.symm⟩ (fun h1 => by omega)
    · by_cases hb : b ≠ 0
      · have e : p.take b = ((7, (p.taken : Int)), p) := by
          have e : p.put b = ((7, (p.taken : Int)), p) := by unfold PS.put; rw [if_neg h8, if_neg hlt, if_pos hb]
          unfold PS.take
          rw [if_neg hn, if_neg ht, e, if_pos (by show (7 : Int) ≠ 0; decide)]
        have h0 : (p.take b).1.1 ≠ 0 := by rw [e]; show (7 : Int) ≠ 0; decide
        have hs := PS.step_bad h0
        exact Or.inl ⟨by rw [hs]; exact h0, by rw [hs, e]; rfl, by rw [hs, e]; exact hdp, fun h7 _ => by omega⟩
      · exact step_ends hI hn ht hm (by unfold PS.put; rw [if_neg h8, if_neg hlt, if_neg hb]) ⟨rfl, rfl, rfl, hll.symm⟩ (fun h1 => by omega)
end Go.Proofs.Ytpbgmknebhnonaa
