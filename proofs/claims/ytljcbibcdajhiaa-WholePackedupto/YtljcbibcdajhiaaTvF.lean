/- Rows of a walk; what the document's walk leaves alone. -/
import Derived.Test.YtljcbibcdajhiaaTvE
namespace Go.Proofs.Ytljcbibcdajhiaa
open Go.RowKit

/-- A row: path, kind, mark, text. -/
abbrev RW := ByteArray × Int × Bool × ByteArray
def rwC (r : RW) : List Value := [.string r.1, .int .i64 r.2.1, .bool r.2.2.1, .string r.2.2.2]
mutual
def rwT (ns : List ByteArray) : Tr → List RW
  | .mk k e t nms ks => (joinB ns, k, e, t) :: rwL ns nms ks
def rwL (ns : List ByteArray) : List ByteArray → List Tr → List RW
  | s :: nms, T :: ks => rwT (ns ++ [s]) T ++ rwL ns nms ks
  | _, _ => []
end
theorem rwL_take (ns : List ByteArray) (nms : List ByteArray) : ∀ (ks : List Tr) (i : Nat) (s : ByteArray) (T : Tr), nms[i]? = some s → ks[i]? = some T → rwL ns (nms.take (i + 1)) (ks.take (i + 1)) = rwL ns (nms.take i) (ks.take i) ++ rwT (ns ++ [s]) T := by
  induction nms with
  | nil => intro ks i s T h; simp at h
  | cons a nms ih =>
    intro ks i s T h1 h2
    cases ks with
    | nil => simp at h2
    | cons K ks =>
      cases i with
      | zero =>
        simp at h1 h2
        subst h1 h2
        simp [rwL]
      | succ i =>
        have := ih ks i s T (by simpa using h1) (by simpa using h2)
        rw [List.take_succ_cons, List.take_succ_cons, List.take_succ_cons, List.take_succ_cons, rwL, rwL, this, List.append_assoc]
theorem nbP_pos (k : Int) (e : Bool) (t : ByteArray) : 48 ≤ nbP k e t := by
  have := fr_bd t.size
  unfold nbP
  split
  · cases e <;> simp <;> omega
  · split
    · omega
    · split <;> omega

/-- From w to w' nothing has turned but rows of cells of type ty from B on, and new blocks. -/
structure Fk (B : Nat) (ty : TypeId) (w w' : World) : Prop where
  os : w'.os = w.os
  tape : w'.tape = w.tape
  output : w'.output = w.output
  size : w.heap.size ≤ w'.heap.size
  low : ∀ k, k < B → w'.heap[k]? = w.heap[k]?
  mid : ∀ (k : Nat) (C : Array Value) (T : TypeId) (fz : Nat × Nat), w.heap[k]? = some (Obj.cells C T fz) → T ≠ ty → w'.heap[k]? = w.heap[k]?
theorem Fk.refl (B : Nat) (ty : TypeId) (w : World) : Fk B ty w w := ⟨rfl, rfl, rfl, Nat.le_refl _, fun _ _ => rfl, fun _ _ _ _ _ _ => rfl⟩
theorem Fk.trans {B : Nat} {ty : TypeId} {a b c : World} (h : Fk B ty a b) (k : Fk B ty b c) : Fk B ty a c :=
  ⟨k.os.trans h.os, k.tape.trans h.tape, k.output.trans h.output, Nat.le_trans h.size k.size, fun i hi => (k.low i hi).trans (h.low i hi), fun i C T fz e1 e2 => (k.mid i C T fz ((h.mid i C T fz e1 e2).trans e1) e2).trans (h.mid i C T fz e1 e2)⟩
theorem Fk.of_below {B : Nat} {ty : TypeId} {w w' : World} (h : Below w.heap.size w w') (hB : B ≤ w.heap.size) : Fk B ty w w' :=
  ⟨h.os, h.tape, h.output, h.size, fun k hk => h.block k (by omega), fun k _ _ _ e _ => h.block k (heap_lt e)⟩
theorem Fk.below {B : Nat} {ty : TypeId} {w w' : World} (h : Fk B ty w w') : Below B w w' := ⟨h.os, h.tape, h.output, h.size, h.low⟩
theorem Fk.drewN {B : Nat} {ty : TypeId} {a w : World} (h : Fk B ty a w) (n : Nat) : Fk B ty a (w.drewN n) := ⟨h.os, h.tape, h.output, h.size, h.low, h.mid⟩
/-- A store into a block that is new since a. -/
theorem Fk.over {B : Nat} {ty : TypeId} {a w : World} (h : Fk B ty a w) (hB : B ≤ a.heap.size) (g j : Nat) (u : Value) (hg : a.heap.size ≤ g) : Fk B ty a (w.setCell ⟨g, j, none⟩ u) :=
  ⟨h.os, h.tape, h.output, by rw [World.size_setCell]; exact h.size, fun k hk => (Below.heap_setCell _ _ _ k (by show k ≠ g; omega)).trans (h.low k hk), fun k C T fz e1 e2 => (Below.heap_setCell _ _ _ k (by have := heap_lt e1; show k ≠ g; omega)).trans (h.mid k C T fz e1 e2)⟩
/-- Behind an append onto a row of type ty. -/
theorem Fk.grown {B size n : Nat} {ty : TypeId} {v : Value} {xs : List Value} {w w' : World} (hown : w.ownsRow B ty size v n xs) (hg : w.grownBy w' v.ownBlock) (hB : B ≤ w.heap.size) : Fk B ty w w' :=
  ⟨hg.os, hg.tape, hg.output, hg.size, fun k hk => hg.block k (by omega) (fun e => by have := (hown.lt k e.symm).1; omega), fun k C T fz e1 e2 => hg.block k (heap_lt e1) (fun e => by
    obtain ⟨c', fz', hk⟩ := Lib.ownsRow_kind hown k e.symm
    rw [hk] at e1
    injection e1 with e1
    injection e1 with _ e1
    exact e2 e1.symm)⟩

theorem wpList_app_is {w : World} {ops : Array Oper} {rest : List Oper} {o : Oper} {a : Act} {Q : Exit → Act → World → Prop} (hgd : o.guard = none) (t u : TypeId) (s x : Operand)
    (ho : o.op = .call { callee := .builtin .append, args := #[s, x], argTypes := #[t, u] }) (v y v' : Value) (w' : World) (hs : a.eval s = v) (hx : a.eval x = y)
    (hr : (Builtin.append_ #[t, u] o.type #[v, y]).run Try.prog w = .ok v' w') (h : wpList Try.prog ops Q rest (a.put o.dst v') w') : wpList Try.prog ops Q (o :: rest) a w := by
  refine wpList_plain hgd fun K hK' => ?_
  unfold Oper.wp
  simp [execOp, ho, resolve, invoke, builtin, hs, hx, hr, Result.andThen]
  exact hK' _ _ h

/-- v is a slice of these rows, which the call itself made from block B on; ty: the rows' type. -/
def Rws (ty : TypeId) (w : World) (B : Nat) (v : Value) (L : List RW) : Prop := w.ownsRow B ty 4 v L.length (L.flatMap rwC)
theorem Rws.shape {ty : TypeId} {w : World} {B : Nat} {v : Value} {L : List RW} (h : Rws ty w B v L) : ∃ x c, v = .slice x L.length c := by
  rcases h.2 with ⟨hv, h0⟩ | ⟨q, cap, cur, hv, _⟩
  · exact ⟨none, 0, by rw [hv, h0]⟩
  · exact ⟨_, _, hv⟩
theorem Rws.same {ty : TypeId} {w w' : World} {B : Nat} {v : Value} {L : List RW} (h : Rws ty w B v L) (e : ∀ k, v.ownBlock = some k → w'.heap[k]? = w.heap[k]?) : Rws ty w' B v L := by
  refine ⟨h.1, ?_⟩
  rcases h.2 with hn | ⟨g, cap, cur, rfl, hb, hg, rest⟩
  · exact .inl hn
  · exact .inr ⟨g, cap, cur, rfl, hb, (e g rfl).trans hg, rest⟩
theorem Rws.below {ty : TypeId} {w w' : World} {B : Nat} {v : Value} {L : List RW} (h : Rws ty w B v L) (b : Below w.heap.size w w') : Rws ty w' B v L := h.same fun k hk => b.block k (World.ownsRow.lt h k hk).2
/-- A store elsewhere: into a block of another type. -/
theorem Rws.over {ty : TypeId} {w : World} {B : Nat} {v : Value} {L : List RW} (h : Rws ty w B v L) {g : Nat} {C : Array Value} {T : TypeId} {fz : Nat × Nat} (hg : w.heap[g]? = some (.cells C T fz)) (hT : T ≠ ty) (j : Nat) (u : Value) : Rws ty (w.setCell ⟨g, j, none⟩ u) B v L :=
  h.same fun k hk => Below.heap_setCell _ _ _ k (by
    show k ≠ g
    intro e
    subst e
    obtain ⟨c', fz', hh⟩ := Lib.ownsRow_kind h k hk
    rw [hg] at hh
    injection hh with hh
    injection hh with _ hh
    exact hT hh)
theorem flat_rw (L : List RW) : ∀ (i : Nat) (r : RW), L[i]? = some r → (L.flatMap rwC)[i * 4]? = some (.string r.1) ∧ (L.flatMap rwC)[i * 4 + 1]? = some (.int .i64 r.2.1) ∧ (L.flatMap rwC)[i * 4 + 2]? = some (.bool r.2.2.1) ∧ (L.flatMap rwC)[i * 4 + 3]? = some (.string r.2.2.2) := by
  induction L with
  | nil => intro i r h; simp at h
  | cons a L ih =>
    intro i r h
    cases i with
    | zero =>
      simp at h
      subst h
      exact ⟨rfl, rfl, rfl, rfl⟩
    | succ i =>
      have := ih i r (by simpa using h)
      have e : ∀ j, ((a :: L).flatMap rwC)[(i + 1) * 4 + j]? = (L.flatMap rwC)[i * 4 + j]? := fun j => by
        rw [List.flatMap_cons, List.getElem?_append_right (by show 4 ≤ _; omega)]
        congr 1
        show (i + 1) * 4 + j - 4 = _
        omega
      exact ⟨(e 0).trans this.1, (e 1).trans this.2.1, (e 2).trans this.2.2.1, (e 3).trans this.2.2.2⟩
/-- The cells of a row of rows. -/
theorem Rws.at {ty : TypeId} {w : World} {B : Nat} {v : Value} {L : List RW} (h : Rws ty w B v L) {i : Nat} {r : RW} (hr : L[i]? = some r) : ∃ g c, v = .slice (some ⟨g, 0, none⟩) L.length c ∧ B ≤ g ∧ g < w.heap.size ∧ w.cell? ⟨g, i * 4, none⟩ = some (.string r.1) ∧ w.cell? ⟨g, i * 4 + 1, none⟩ = some (.int .i64 r.2.1) ∧ w.cell? ⟨g, i * 4 + 2, none⟩ = some (.bool r.2.2.1) ∧ w.cell? ⟨g, i * 4 + 3, none⟩ = some (.string r.2.2.2) := by
  have hi : i < L.length := (List.getElem?_eq_some_iff.1 hr).1
  obtain ⟨g, c, rfl, hb, hl⟩ := World.ownsRow.form h (by omega)
  have f := flat_rw L i r hr
  exact ⟨g, c, rfl, hb, hl, (World.ownsRow.cellAt h _ (by omega)).trans f.1, (World.ownsRow.cellAt h _ (by omega)).trans f.2.1, (World.ownsRow.cellAt h _ (by omega)).trans f.2.2.1, (World.ownsRow.cellAt h _ (by omega)).trans f.2.2.2⟩
/-- A row more. -/
theorem Rws.app {ty lty : TypeId} {w : World} {B : Nat} {v : Value} {L : List RW} (h : Rws ty w B v L) (hinf : (Try.prog.info? ty).map (fun i => (i.zero, i.size, i.bytes)) = some (some (.agg #[.string ⟨#[]⟩, .int .i64 0, .bool false, .string ⟨#[]⟩]), 4, 48)) (hund : Try.prog.underlying lty = some (.slice ty)) (r : RW) (hB : B ≤ w.heap.size) (hl : L.length ≤ 1073741824) :
    ∃ p c w', (Builtin.append_ #[lty, lty] lty #[v, .slice (some ⟨w.heap.size, 0, none⟩) 1 1]).run Try.prog (w.alloc (.cells #[.string r.1, .int .i64 r.2.1, .bool r.2.2.1, .string r.2.2.2] ty)) = .ok (.slice p (L.length + 1) c) w' ∧ Rws ty w' B (.slice p (L.length + 1) c) (L ++ [r]) ∧ Fk B ty w w' := by
  obtain ⟨i0, hi, hz0, hz1, hz2⟩ := info_parts hinf
  have hown : (w.alloc (.cells #[.string r.1, .int .i64 r.2.1, .bool r.2.2.1, .string r.2.2.2] ty)).ownsRow B ty 4 v L.length (L.flatMap rwC) := World.ownsRow.alloc h _
  obtain ⟨g, cap, w', hr, ho, hg, hat, hlt⟩ := run_append_lies (P := Try.prog) (w.alloc (.cells #[.string r.1, .int .i64 r.2.1, .bool r.2.2.1, .string r.2.2.2] ty)) lty lty B ty i0 (.agg #[.string ⟨#[]⟩, .int .i64 0, .bool false, .string ⟨#[]⟩]) 4 48 hund hi hz0 hz1 hz2 rfl (by decide) v L.length (L.flatMap rwC) hown ⟨w.heap.size, 0, none⟩ 1 1 (rwC r) rfl (fun j u hj => by
      rw [Addr.add_lit, Nat.zero_add]
      match j, hj with
      | 0, hj => exact (World.cell?_alloc_new w _ _ 0).trans hj
      | 1, hj => exact (World.cell?_alloc_new w _ _ 1).trans hj
      | 2, hj => exact (World.cell?_alloc_new w _ _ 2).trans hj
      | 3, hj => exact (World.cell?_alloc_new w _ _ 3).trans hj) (by intro u hu; simp [rwC] at hu; rcases hu with rfl | rfl | rfl | rfl <;> rfl) (by decide) (by unfold maxLen; omega) (by omega) (by rw [World.size_alloc]; omega) _ rfl
  refine ⟨some ⟨g, 0, none⟩, cap, w', hr, ?_, ?_⟩
  · unfold Rws
    rw [List.length_append, List.flatMap_append]
    have : [r].flatMap rwC = rwC r := by simp
    rw [this]
    exact ho
  · exact (Fk.of_below ((Below.refl _ _).alloc (Nat.le_refl _) _) hB).trans (Fk.grown hown hg (by rw [World.size_alloc]; omega))

end Go.Proofs.Ytljcbibcdajhiaa
