/- NkQ NcC NkP NkO NkW, gathered (own text of the verifier). -/
import Derived.Test.YtpbgmknebhnonabNp5
import Derived.Test.YtpbgmknebhnonabNcE
import Derived.Lib.AppendZeros
import Derived.Lib.SmallJoins
import Derived.Test.YtpbgmknebhnonabNa3
import Derived.Test.YtpbgmknebhnonabNuB
import Derived.Deep.AppendLies
import Derived.Laws.OwnMore
import Derived.Lib.LazyBuf
import Derived.Test.YtpbgmknebhnonabTvO
import Derived.Test.YtpbgmknebhnonabTwD
import Derived.ProofKit
import Derived.OpenShut
import Derived.ChangeOld
import Derived.SizedLaws
import Derived.ChangeArms
import Derived.Deep.QuietTactic
import Derived.BigQuiet
namespace Go.Proofs.Ytpbgmknebhnonab
open Go.RowKit

theorem TC.outQ {w W : World} {g B K1 K2 : Nat} {fp : List Nat} {p : PS} (h : TC w W g B K1 K2 fp p) (k : Int) (e : Bool) (t : ByteArray) (v : Value) (a b : Int) :
    St (put6 W K1 K2 k e t v a b) K1 [.int .i64 k, .bool e, .string t, v] ∧ St (put6 W K1 K2 k e t v a b) K2 [.int .i64 a, .int .i64 b] ∧ (PW (put6 W K1 K2 k e t v a b) g B p fp ∧ Ff g fp w (put6 W K1 K2 k e t v a b)) := by
  have s1 : St (set4 W K1 0 k e t v) K1 [.int .i64 k, .bool e, .string t, v] := ((((h.s1.set 0 (.int .i64 k) (by show 0 < 4; decide)).set 1 (.bool e) (by show 1 < 4; decide)).set 2 (.string t) (by show 2 < 4; decide)).set 3 v (by show 3 < 4; decide)).cast rfl
  have s2 : St (set4 W K1 0 k e t v) K2 [.int .i64 0, .int .i64 0] := h.s2.same (by rw [set4_size]; exact Nat.le_refl _) (set4_other W K1 0 k e t v K2 (fun e => h.ne e.symm))
  refine ⟨s1.same ?_ ?_, ((s2.set 0 (.int .i64 a) (by show 0 < 2; decide)).set 1 (.int .i64 b) (by show 1 < 2; decide)).cast rfl, ?_, ?_⟩
  · unfold put6; rw [World.size_setCell, World.size_setCell]; exact Nat.le_refl _
  · exact (Below.heap_setCell _ ⟨K2, 1, none⟩ _ K1 h.ne).trans (Below.heap_setCell _ ⟨K2, 0, none⟩ _ K1 h.ne)
  · refine h.pw.same (by rw [put6_size]; exact Nat.le_refl _) (put6_other _ _ _ _ _ _ _ _ _ g (fun e => h.n1.2.1 e.symm) (fun e => h.n2.2.1 e.symm)) (fun x hx => put6_other _ _ _ _ _ _ _ _ _ x (fun e => h.n1.2.2 (e ▸ hx)) (fun e => h.n2.2.2 (e ▸ hx)))
  · exact (((((h.ff.set K1 _ _ (Or.inr (Or.inr h.n1.1))).set K1 _ _ (Or.inr (Or.inr h.n1.1))).set K1 _ _ (Or.inr (Or.inr h.n1.1))).set K1 _ _ (Or.inr (Or.inr h.n1.1))).set K2 _ _ (Or.inr (Or.inr h.n2.1))).set K2 _ _ (Or.inr (Or.inr h.n2.1))

def ClQ (p : PS) (w : World) (g B : Nat) (fp : List Nat) (e : Ending) (w' : World) : Prop := (∃ v fr, e = .returned (.tuple #[.agg #[.int .i64 p.ansT.k, .bool p.ansT.e, .string p.ansT.t, v], .agg #[.int .i64 p.ansF.1, .int .i64 p.ansF.2]]) ∧ TrV w' w.heap.size p.ansT v fr ∧ fr.Nodup) ∧ (PW w' g B p.fin fp ∧ Ff g fp w w')

set_option maxHeartbeats 8000000 in
set_option maxRecDepth 8000 in
theorem close_okQ (g B : Nat) (p : PS) (fp : List Nat) (w : World) (H : PW w g B p fp) (hc : p.code = 0) (hn : p.c.next = 17) (hl : lnT p.c.root) :
    Calls Try.prog 24 #[.pointer (some ⟨g, 0, none⟩)] w (ClQ p w g B fp) := by
  have T0 : Hid (TC w ((w.alloc (.cells #[.int .i64 0, .bool false, .string ⟨#[]⟩, .slice none 0 0] 25)).alloc (.cells #[.int .i64 0, .int .i64 0] 34)) g B w.heap.size (w.heap.size + 1) fp p) := TC.start H
  have HFN : Hid (p.fin = p.shut) := by unfold Hid PS.fin; rw [if_neg (fun h => h.2 hn)]
  have HCD : Hid (p.code = 0) := hc
  have HLN : Hid (lnT p.c.root) := hl
  have hnb : (p.c.next == 17) = true := by rw [hn]; rfl
  clear H hl
  go_enter Try.func24, Try.ntmps24
  go_upto_region 1 with fail
  obtain ⟨K1, hK1⟩ : ∃ K, w.heap.size = K := ⟨_, rfl⟩
  have HKW : Hid (w.heap.size = K1) := hK1
  rw [hK1] at T0 ⊢
  generalize (w.alloc (.cells #[.int .i64 0, .bool false, .string ⟨#[]⟩, .slice none 0 0] 25)).alloc (.cells #[.int .i64 0, .int .i64 0] 34) = w1 at *
  obtain ⟨c0, -, c2, c3, -, c5, c6, -, hfz⟩ := T0.out.pw.cells
  have f5 := hfz 5 (by decide)
  rw [hc] at c2
  have WH := whole_any g p.c.next w1 c6
  rw [hnb] at WH
  clear hfz hK1 c6 hnb hc hn
  have T1 : Hid (TC w (w1.setCell ⟨g, 5, none⟩ (.bool true)) g B K1 (K1 + 1) fp p.shut) := T0.out.cell 5 _ p.shut (by decide) (fun _ _ _ => rfl) rfl rfl rfl
  clear T0
  go_wp2_with fail
  refine WH.mono ?_
  rintro e1 w1' ⟨rfl, rfl⟩
  clear WH
  go_upto_region 4 with fail
  clear c0 c2 c3 c5 f5
  generalize w1'.setCell ⟨g, 5, none⟩ (.bool true) = w2 at *
  obtain ⟨-, -, c2, -, -, -, -, -, -⟩ := T1.out.pw.cells
  change w2.cell? ⟨g, 2, none⟩ = some (.int .i64 p.code) at c2
  rw [HCD.out] at c2
  -- the root
  obtain ⟨tv, ov, rv, cs, fo, fr, hpv, hfp⟩ := T1.out.pw
  have r0 : w2.cell? ⟨g, 10, none⟩ = some (.int .i64 p.c.root.k) := hpv.st.get 10 _ rfl
  have r1 : w2.cell? ⟨g, 11, none⟩ = some (.bool p.c.root.e) := hpv.st.get 11 _ rfl
  have r2 : w2.cell? ⟨g, 12, none⟩ = some (.string p.c.root.t) := hpv.st.get 12 _ rfl
  have r3 : w2.cell? ⟨g, 13, none⟩ = some rv := hpv.st.get 13 _ rfl
  obtain ⟨m, hAt⟩ := TrV.at p.c.root rv fr hpv.ro HLN.out
  obtain ⟨xr, cr, hrv⟩ := hpv.ro.shape
  have hrv : rv = .slice xr p.c.root.nms.length cr := hrv
  have CC := copyV_any m _ p.c.root w2 hAt
  rw [hrv] at r3 CC
  clear hpv hfp hAt hrv
  obtain ⟨T, hT⟩ : ∃ T, p.c.root = T := ⟨_, rfl⟩
  have HTT : Hid (p.c.root = T) := hT
  rw [hT] at r0 r1 r2 r3 CC
  clear hT
  go_wp2_with fail
  refine CC.mono ?_
  rintro e3 w3 ⟨⟨xv, fv, rfl, hTv, hNv⟩, b3⟩
  clear CC
  obtain ⟨xx, nn, cc, hxv⟩ : ∃ x n c, xv = .slice x n c := by obtain ⟨x, c, h⟩ := hTv.shape; exact ⟨x, _, c, h⟩
  subst hxv
  have T3 : Hid (TC w w3 g B K1 (K1 + 1) fp p.shut) := T1.out.below b3
  have HV : Hid (TrV w3 w2.heap.size T (.slice xx nn cc) fv ∧ fv.Nodup ∧ K1 < w2.heap.size ∧ K1 + 1 < w2.heap.size) := ⟨hTv, hNv, T1.out.s1.lt, T1.out.s2.lt⟩
  have HWS : Hid (w.heap.size ≤ w2.heap.size) := T1.out.ff.size
  clear hTv hNv b3 T1 r0 r1 r2 r3 c2
  have x0 := T3.out.s1.get 0 _ rfl
  have x1 := T3.out.s1.get 1 _ rfl
  have x2 := T3.out.s1.get 2 _ rfl
  have x3 := T3.out.s1.get 3 _ rfl
  have y0 := T3.out.s1.fr 0 (by show 0 < 4; decide)
  have y1 := T3.out.s1.fr 1 (by show 1 < 4; decide)
  have y2 := T3.out.s1.fr 2 (by show 2 < 4; decide)
  have y3 := T3.out.s1.fr 3 (by show 3 < 4; decide)
  have z0 := T3.out.s2.get 0 _ rfl
  have z1 := T3.out.s2.get 1 _ rfl
  have v0 := T3.out.s2.fr 0 (by show 0 < 2; decide)
  have v1 := T3.out.s2.fr 1 (by show 1 < 2; decide)
  go_wp2
  obtain ⟨q1, q2, q3⟩ := T3.out.outQ T.k T.e T.t (.slice xx nn cc) 0 0
  change bodyPost Try.prog _ _ _ _ (put6 w3 K1 (K1 + 1) T.k T.e T.t (.slice xx nn cc) 0 0)
  refine ret_nf rfl rfl rfl q1 q2 ⟨⟨.slice xx nn cc, fv, ?_, ?_, HV.out.2.1⟩, by rw [HFN.out]; exact q3⟩
  · have eT : p.ansT = T := by unfold PS.ansT; rw [if_neg (by rw [HFN.out]; show ¬ p.code ≠ 0; rw [HCD.out]; decide), HTT.out]
    have eF : p.ansF = (0, 0) := by unfold PS.ansF; rw [if_neg (by rw [HFN.out]; show ¬ p.code ≠ 0; rw [HCD.out]; decide)]
    rw [eT, eF]
  · have eT : p.ansT = T := by unfold PS.ansT; rw [if_neg (by rw [HFN.out]; show ¬ p.code ≠ 0; rw [HCD.out]; decide), HTT.out]
    rw [eT]
    refine TrV.low HWS.out _ _ _ (TrV.same _ _ _ HV.out.1 (fun b hb => put6_other _ _ _ _ _ _ _ _ _ b (fun e => ?_) (fun e => ?_)))
    · have := (TrV.lt _ _ _ HV.out.1 b hb).1; have := HV.out.2.2.1; omega
    · have := (TrV.lt _ _ _ HV.out.1 b hb).1; have := HV.out.2.2.2; omega


end Go.Proofs.Ytpbgmknebhnonab
namespace Go.Proofs.Ytpbgmknebhnonab
open Go.RowKit

theorem put4 {w : World} {R : Nat} {a b c d : Value} {ty : TypeId} (h : w.heap[R]? = some (.cells #[a, b, c, d] ty (0, 0))) (a' b' c' d' : Value) : (w.setCells R 0 [a', b', c', d']).heap[R]? = some (.cells #[a', b', c', d'] ty (0, 0)) := by
  have h1 := Go.Joins.block_setCell (i := 0) h a'
  have h2 := Go.Joins.block_setCell (i := 1) h1 b'
  have h3 := Go.Joins.block_setCell (i := 2) h2 c'
  have h4 := Go.Joins.block_setCell (i := 3) h3 d'
  exact h4
/-- An append whose run is known, as a step of a region that draws its order. -/
theorem step_append_runI {P : Program} {ops : Array Oper} {o : Oper} {a : Act} {w : World} {K : Act → World → Prop} {Q : Exit → Act → World → Prop} {E : Prop} (hg : o.guard = none) (s x : Operand) (t tn : TypeId) (hop : o.op = Op.call { callee := Callee.builtin Builtin.append, args := #[s, x], argTypes := #[t, tn] })
    (vs vx : Value) (hs : a.eval s = vs) (hx : a.eval x = vx) {v' : Value} {w' : World} (hr : (Builtin.append_ #[t, tn] o.type #[vs, vx]).run P w = .ok v' w') (hK : K (a.put o.dst v') w') :
    if Region.wanted o (yielded ops a.tmps) = true then Oper.wp P o a w K Q else E := by
  have hw : Region.wanted o (yielded ops a.tmps) = true := by simp [Region.wanted, hg]
  rw [if_pos hw]
  exact Lib.wp_append_run w s x t tn hop vs vx hs hx v' w' hr hK

theorem lnL_at : ∀ (ks : List Tr) (i : Nat) (K : Tr), lnL ks → ks[i]? = some K → lnT K
  | [], i, K, _, h => by simp at h
  | T :: ks, 0, K, hl, h => by
    rw [lnL] at hl
    simp at h
    rw [← h]; exact hl.1
  | T :: ks, i + 1, K, hl, h => by
    rw [lnL] at hl
    exact lnL_at ks i K hl.2 (by simpa using h)
/-- Between two rounds of Clone: i kids are cloned. -/
def ClI (w0 : World) (G : Nat) (A : Array Value) (k : Int) (e : Bool) (t : ByteArray) (ns : List ByteArray) (ks : List Tr) (i : Nat) (y : Option Addr) (cp : Nat) (fp : List Nat) (w : World) : Prop :=
  w.heap[G]? = some (.cells A 25 (0, 0)) ∧ w.heap[G + 1]? = some (.cells #[Value.int IntKind.i64 0, Value.bool false, Value.string ⟨#[]⟩, Value.slice none 0 0] 25 (0, 0)) ∧ w.heap[G + 1 + 1]? = some (.cells #[Value.int IntKind.i64 k, Value.bool e, Value.string t, Value.slice y i cp] 25 (0, 0)) ∧
  TrV w (G + 1 + 1 + 1) (.mk k e t (ns.take i) (ks.take i)) (.slice y i cp) fp ∧ fp.Nodup ∧ G + 1 + 1 < w.heap.size ∧ Below G w0 w
theorem ClI.on {w0 w w' : World} {G : Nat} {A : Array Value} {k : Int} {e : Bool} {t : ByteArray} {ns : List ByteArray} {ks : List Tr} {i : Nat} {y : Option Addr} {cp : Nat} {fp : List Nat} (h : ClI w0 G A k e t ns ks i y cp fp w) (b : Below w.heap.size w w') : ClI w0 G A k e t ns ks i y cp fp w' := by
  obtain ⟨h1, h2, h3, h4, h5, h6, h7⟩ := h
  exact ⟨(b.block _ (by omega)).trans h1, (b.block _ (by omega)).trans h2, (b.block _ (by omega)).trans h3, TrV.same _ _ _ h4 (fun x hx => b.block x (TrV.lt _ _ _ h4 x hx).2), h5, Nat.lt_of_lt_of_le h6 b.size, h7.trans (b.mono (by omega))⟩

set_option maxHeartbeats 8000000 in
set_option maxRecDepth 10000 in
theorem clone_any (m : Nat) : ∀ (v : Value) (T : Tr) (w : World), At w m v T → lnT T → Calls Try.prog 23 #[v] w (CvP T w) := by
  induction m with
  | zero => intro v T w h; exact h.elim
  | succ m IH =>
    rintro v ⟨k, e, t, ns, ks⟩ w ⟨x, n, c, rfl, l1, l2, l3, l4, hx⟩ hln
    have EX : Hid (Ents w m x n ns ks) := At.ents hx
    have LL : Hid (ns.length = n ∧ ks.length = n ∧ n ≤ 1073741824 ∧ lnL ks) := by
      rw [lnT] at hln
      exact ⟨l1, l2, by omega, hln.2⟩
    clear hx l1 l2 hln
    go_enter Try.func23, Try.ntmps23
    go_wp2
    have hs1 : (w.alloc (Obj.cells #[Value.int IntKind.i64 k, Value.bool e, Value.string t, Value.slice x n c] 25)).heap.size = w.heap.size + 1 := World.size_alloc _ _
    have hs2 : ((w.alloc (Obj.cells #[Value.int IntKind.i64 k, Value.bool e, Value.string t, Value.slice x n c] 25)).alloc (Obj.cells #[Value.int IntKind.i64 0, Value.bool false, Value.string ⟨#[]⟩, Value.slice none 0 0] 25)).heap.size = w.heap.size + 1 + 1 := by rw [World.size_alloc, hs1]
    have b1 : Below w.heap.size w (w.alloc (Obj.cells #[Value.int IntKind.i64 k, Value.bool e, Value.string t, Value.slice x n c] 25)) := (Below.refl _ _).alloc (Nat.le_refl _) _
    have I0 : Hid (ClI w w.heap.size #[Value.int IntKind.i64 k, Value.bool e, Value.string t, Value.slice x n c] k e t ns ks 0 none 0 [] (((w.alloc (Obj.cells #[Value.int IntKind.i64 k, Value.bool e, Value.string t, Value.slice x n c] 25)).alloc (Obj.cells #[Value.int IntKind.i64 0, Value.bool false, Value.string ⟨#[]⟩, Value.slice none 0 0] 25)).alloc (Obj.cells #[Value.int IntKind.i64 k, Value.bool e, Value.string t, Value.slice none 0 0] 25))) := by
      refine ⟨?_, ?_, ?_, TrV.zero _ _ _ _ _ rfl rfl, List.nodup_nil, by rw [World.size_alloc, hs2]; omega, (b1.alloc (by rw [hs1]; omega) _).alloc (by rw [hs2]; omega) _⟩
      · rw [Below.heap_alloc _ _ _ (by rw [hs2]; omega), Below.heap_alloc _ _ _ (by rw [hs1]; omega)]; exact heap_alloc_new w _
      · rw [Below.heap_alloc _ _ _ (by rw [hs2]; omega), ← hs1]; exact heap_alloc_new _ _
      · rw [← hs2]; exact heap_alloc_new _ _
    clear hs1 hs2 b1
    obtain ⟨G, hG⟩ : ∃ G, w.heap.size = G := ⟨_, rfl⟩
    have HG : Hid (w.heap.size = G) := hG
    generalize (((w.alloc (Obj.cells #[Value.int IntKind.i64 k, Value.bool e, Value.string t, Value.slice x n c] 25)).alloc (Obj.cells #[Value.int IntKind.i64 0, Value.bool false, Value.string ⟨#[]⟩, Value.slice none 0 0] 25)).alloc (Obj.cells #[Value.int IntKind.i64 k, Value.bool e, Value.string t, Value.slice none 0 0] 25)) = w2 at *
    rw [hG] at I0 ⊢
    clear hG
    go_loopw [4] (fun xi wr => ∃ (i : Nat) (y : Option Addr) (cp : Nat) (fp : List Nat), i ≤ n ∧ xi = .int .i64 i ∧ Hid (ClI w G #[Value.int IntKind.i64 k, Value.bool e, Value.string t, Value.slice x n c] k e t ns ks i y cp fp wr)) (fun i _ => n - (intOf i).toNat)
    case atStart => exact ⟨0, none, 0, [], Nat.zero_le _, rfl, I0⟩
    case round =>
      obtain ⟨i, y, cp, fp, hi, rfl, hI⟩ := hrel
      by_cases hlt : i < n
      · obtain ⟨l1, l2, _, l4'⟩ := LL.out
        obtain ⟨s, hs⟩ : ∃ s, ns[i]? = some s := ⟨_, List.getElem?_eq_getElem (by omega)⟩
        obtain ⟨K, hK⟩ : ∃ s, ks[i]? = some s := ⟨_, List.getElem?_eq_getElem (by omega)⟩
        have HE : Hid (ns[i]? = some s ∧ ks[i]? = some K ∧ lnT K) := ⟨hs, hK, lnL_at _ _ _ l4' hK⟩
        have hB : Below w.heap.size w wr := by rw [HG.out]; exact hI.out.2.2.2.2.2.2
        obtain ⟨g, o, a, b, d, f, p, q, rfl, hg, c0, c1, c2, c3, c4, hA⟩ := EX.out.below hB i s K hlt hs hK
        have HA : Hid (At wr m (.agg #[.int .i64 a, .bool b, .string d, .slice f p q]) K) := hA
        have HC0 : Hid (wr.cell? ⟨g, o + i * 5, none⟩ = some (.string s) ∧ g < wr.heap.size) := ⟨c0, hg⟩
        clear hA hs hK l1 l2 l4' hB
        obtain ⟨u0, u1, u2, u3, _⟩ := cell4n hI.out.1
        go_wp2_with fail
        refine (IH _ K wr HA.out HE.out.2.2).mono ?_
        rintro e5 w5 ⟨⟨v5, fp5, rfl, hv, hnd⟩, b5⟩
        obtain ⟨x5, q5, rfl⟩ := hv.shape
        have I5 := hI.out.on b5
        have HV5 : Hid (TrV w5 wr.heap.size K (.slice x5 K.nms.length q5) fp5 ∧ fp5.Nodup ∧ (∀ b ∈ fp, b < wr.heap.size) ∧ G + 1 + 1 < wr.heap.size) := ⟨hv, hnd, fun b hb => (TrV.lt _ _ _ hI.out.2.2.2.1 b hb).2, hI.out.2.2.2.2.2.1⟩
        have HC5 : Hid (w5.cell? ⟨g, o + i * 5, none⟩ = some (.string s) ∧ g < w5.heap.size ∧ wr.heap.size ≤ w5.heap.size) := ⟨(b5.cell (p := ⟨g, o + i * 5, none⟩) HC0.out.2).trans HC0.out.1, Nat.lt_of_lt_of_le HC0.out.2 b5.size, b5.size⟩
        have HI5 : Hid (ClI w G #[Value.int IntKind.i64 k, Value.bool e, Value.string t, Value.slice (some ⟨g, o, none⟩) n c] k e t ns ks i y cp fp w5) := I5
        clear hv hnd b5 I5 c0 c1 c2 c3 c4 u0 u1 u2 u3 hg HA HC0 hI
        go_upto_region 6 with fail
        have bE : Below w5.heap.size w5 (w5.alloc (Obj.cells #[Value.int IntKind.i64 K.k, Value.bool K.e, Value.string K.t, Value.slice x5 K.nms.length q5] 25)) := (Below.refl _ _).alloc (Nat.le_refl _) _
        have HI6 : Hid (ClI w G #[Value.int IntKind.i64 k, Value.bool e, Value.string t, Value.slice (some ⟨g, o, none⟩) n c] k e t ns ks i y cp fp (w5.alloc (Obj.cells #[Value.int IntKind.i64 K.k, Value.bool K.e, Value.string K.t, Value.slice x5 K.nms.length q5] 25))) := HI5.out.on bE
        have hE6 : (w5.alloc (Obj.cells #[Value.int IntKind.i64 K.k, Value.bool K.e, Value.string K.t, Value.slice x5 K.nms.length q5] 25)).heap[w5.heap.size]? = some (.cells #[Value.int IntKind.i64 K.k, Value.bool K.e, Value.string K.t, Value.slice x5 K.nms.length q5] 25 (0, 0)) := heap_alloc_new _ _
        have HV6 : Hid (TrV (w5.alloc (Obj.cells #[Value.int IntKind.i64 K.k, Value.bool K.e, Value.string K.t, Value.slice x5 K.nms.length q5] 25)) wr.heap.size K (.slice x5 K.nms.length q5) fp5) := TrV.same _ _ _ HV5.out.1 (fun b hb => bE.block b (TrV.lt _ _ _ HV5.out.1 b hb).2)
        have a0 : (w5.alloc (Obj.cells #[Value.int IntKind.i64 K.k, Value.bool K.e, Value.string K.t, Value.slice x5 K.nms.length q5] 25)).cell? ⟨g, o + i * 5, none⟩ = some (.string s) := (bE.cell (p := ⟨g, o + i * 5, none⟩) HC5.out.2.1).trans HC5.out.1
        have hg6 : g < (w5.alloc (Obj.cells #[Value.int IntKind.i64 K.k, Value.bool K.e, Value.string K.t, Value.slice x5 K.nms.length q5] 25)).heap.size := Nat.lt_of_lt_of_le HC5.out.2.1 bE.size
        have HS6 : Hid (wr.heap.size ≤ w5.heap.size ∧ w5.heap.size < (w5.alloc (Obj.cells #[Value.int IntKind.i64 K.k, Value.bool K.e, Value.string K.t, Value.slice x5 K.nms.length q5] 25)).heap.size) := ⟨HC5.out.2.2, by rw [World.size_alloc]; omega⟩
        clear bE HI5 HC5
        obtain ⟨E, hE⟩ : ∃ E, w5.heap.size = E := ⟨_, rfl⟩
        rw [hE] at hE6 HS6 ⊢
        clear hE
        generalize w5.alloc (Obj.cells #[Value.int IntKind.i64 K.k, Value.bool K.e, Value.string K.t, Value.slice x5 K.nms.length q5] 25) = w6 at *
        obtain ⟨y0, y1, y2, y3, yf⟩ := cell4n HI6.out.2.2.1
        have yf3 := yf 3
        obtain ⟨u0, u1, u2, u3, _⟩ := cell4n HI6.out.1
        obtain ⟨q0, q1, q2, q3, _⟩ := cell4n hE6
        have HL : Hid ((ns.take i).length = i) := by show (ns.take i).length = i; rw [List.length_take, LL.out.1]; omega
        have bN : Below w6.heap.size w6 (w6.alloc (Obj.cells #[Value.string s, Value.int IntKind.i64 K.k, Value.bool K.e, Value.string K.t, Value.slice x5 K.nms.length q5] 59)).drew := ((Below.refl _ _).alloc (Nat.le_refl _) _).trans ⟨rfl, rfl, rfl, Nat.le_refl _, fun _ _ => rfl⟩
        have hz6 := HI6.out.2.2.2.2.2.1
        obtain ⟨g2, cap, w8, hr, ⟨fp8, hV8, hn8, hs8⟩, hgr, hcap⟩ := TrV.app (w := (w6.alloc (Obj.cells #[Value.string s, Value.int IntKind.i64 K.k, Value.bool K.e, Value.string K.t, Value.slice x5 K.nms.length q5] 59)).drew) (B := G + 1 + 1 + 1) (T := .mk k e t (ns.take i) (ks.take i)) (v := .slice y i cp) (fp := fp) (TrV.same _ _ _ HI6.out.2.2.2.1 (fun b hb => bN.block b (TrV.lt _ _ _ HI6.out.2.2.2.1 b hb).2)) s K (.slice x5 K.nms.length q5) fp5 (TrV.low (by have := HV5.out.2.2.2; omega) _ _ _ (TrV.same _ _ _ HV6.out (fun b hb => bN.block b (TrV.lt _ _ _ HV6.out b hb).2))) (List.nodup_append.2 ⟨HI6.out.2.2.2.2.1, HV5.out.2.1, fun a ha b hb hab => by
          have p1 := HV5.out.2.2.1 a ha
          have p2 := (TrV.lt _ _ _ HV6.out b hb).1
          omega⟩) ⟨w6.heap.size, 0, none⟩ 1 (fun j x hj => by
            rw [Addr.add_lit, Nat.zero_add]
            show (w6.alloc (Obj.cells #[Value.string s, Value.int IntKind.i64 K.k, Value.bool K.e, Value.string K.t, Value.slice x5 K.nms.length q5] 59)).cell? ⟨w6.heap.size, j, none⟩ = some x
            rw [World.cell?_alloc_new, ← Array.getElem?_toList]; exact hj) (by have := bN.size; omega) (by show (ns.take i).length ≤ _; have := HL.out; have := LL.out.2.2.1; omega)
        have hr' : (Builtin.append_ #[23, 23] 23 #[.slice y i cp, .slice (some ⟨w6.heap.size, 0, none⟩) 1 1]).run Try.prog (w6.alloc (Obj.cells #[Value.string s, Value.int IntKind.i64 K.k, Value.bool K.e, Value.string K.t, Value.slice x5 K.nms.length q5] 59)).drew = .ok (.slice (some ⟨g2, 0, none⟩) (i + 1) cap) w8 := by
          have := hr
          rw [show (Tr.mk k e t (ns.take i) (ks.take i)).nms.length = i from HL.out] at this
          exact this
        have hyo : ∀ b, b < w6.heap.size → b ∉ fp → w8.heap[b]? = w6.heap[b]? := fun b hb hbf => by
          have := bN.size
          refine (hgr.block b (by omega) (fun hh => hbf ?_)).trans (bN.block b hb)
          have h4 := HI6.out.2.2.2.1
          rw [TrV] at h4
          obtain ⟨_, fq, _, _, rfl⟩ := h4
          simp [blkL, ← hh]
        have HF : ∀ b, b ∈ fp → G + 1 + 1 + 1 ≤ b := fun b hb => (TrV.lt _ _ _ HI6.out.2.2.2.1 b hb).1
        have HGG : w8.heap[G + 1 + 1]? = w6.heap[G + 1 + 1]? := hyo _ (by omega) (fun hh => by have := HF _ hh; omega)
        obtain ⟨_, _, _, z3, zf⟩ := cell4n (HGG.trans HI6.out.2.2.1)
        have zf3 := zf 3
        have HN : Hid (ClI w G #[Value.int IntKind.i64 k, Value.bool e, Value.string t, Value.slice (some ⟨g, o, none⟩) n c] k e t ns ks (i + 1) (some ⟨g2, 0, none⟩) cap fp8 (w8.setCell ⟨G + 1 + 1, 3, none⟩ (.slice (some ⟨g2, 0, none⟩) (i + 1) cap))) := by
          have b8 : Below G w6 w8 := ⟨hgr.os.trans bN.os, hgr.tape.trans bN.tape, hgr.output.trans bN.output, Nat.le_trans bN.size hgr.size, fun b hb => hyo b (by omega) (fun hh => by have := HF _ hh; omega)⟩
          refine ⟨?_, ?_, ?_, ?_, hn8, ?_, ?_⟩
          · exact (Below.heap_setCell _ ⟨G + 1 + 1, 3, none⟩ _ G (by show G ≠ G + 1 + 1; omega)).trans ((hyo G (by omega) (fun hh => by have := HF _ hh; omega)).trans HI6.out.1)
          · exact (Below.heap_setCell _ ⟨G + 1 + 1, 3, none⟩ _ (G + 1) (by show G + 1 ≠ G + 1 + 1; omega)).trans ((hyo (G + 1) (by omega) (fun hh => by have := HF _ hh; omega)).trans HI6.out.2.1)
          · exact Go.Joins.block_setCell (i := 3) (HGG.trans HI6.out.2.2.1) _
          · rw [List.take_add_one, HE.out.1, List.take_add_one, HE.out.2.1]
            have h9 := TrV.same (w' := w8.setCell ⟨G + 1 + 1, 3, none⟩ (.slice (some ⟨g2, 0, none⟩) (i + 1) cap)) _ _ _ hV8 (fun b hb => Below.heap_setCell _ ⟨G + 1 + 1, 3, none⟩ _ b (fun hh => by have := (TrV.lt _ _ _ hV8 b hb).1; have : b = G + 1 + 1 := hh; omega))
            rw [show (Tr.mk k e t (ns.take i) (ks.take i)).nms.length = i from HL.out] at h9
            exact h9
          · rw [World.size_setCell]
            have := bN.size
            have := hgr.size
            omega
          · exact (HI6.out.2.2.2.2.2.2.trans b8).setCell (by show G ≤ G + 1 + 1; omega) _
        clear hr hV8 hn8 hs8 hgr hcap hyo HF HGG bN yf zf
        go_region_law (refine step_append_runI rfl (.tmp 28) (.tmp 37) 23 23 rfl _ _ (by simp [Act.eval]) (by simp [Act.eval]) hr' ?_)
        all_goals
          clear hr' z3 zf3 a0 q0 q1 q2 q3 y0 y1 y2 y3 yf3 u0 u1 u2 u3
          generalize w8.setCell ⟨G + 1 + 1, 3, none⟩ (.slice (some ⟨g2, 0, none⟩) (i + 1) cap) = w9 at *
          go_wp2
          go_roundw
          case rel => exact ⟨i + 1, some ⟨g2, 0, none⟩, cap, fp8, by omega, by go_num, HN⟩
          case measure => simp [intOf]; omega
      · obtain rfl : i = n := by omega
        obtain ⟨y0, y1, y2, y3, _⟩ := cell4n hI.out.2.2.1
        obtain ⟨u0, u1, u2, u3, uf⟩ := cell4n hI.out.2.1
        obtain ⟨_, _, _, a3, _⟩ := cell4n hI.out.1
        have v0 := uf 0
        have v1 := uf 1
        have v2 := uf 2
        have v3 := uf 3
        clear uf
        go_wp2
        have hq := put4 hI.out.2.1 (Value.int .i64 k) (.bool e) (.string t) (.slice y i cp)
        have hB : Below w.heap.size w (wr.setCells (G + 1) 0 [Value.int .i64 k, .bool e, .string t, .slice y i cp]) := belowE_setCells _ _ _ (by rw [HG.out]; omega) (by rw [HG.out]; exact hI.out.2.2.2.2.2.2)
        have hVE := TrV.low (show w.heap.size ≤ G + 1 + 1 + 1 by rw [HG.out]; omega) _ _ _ (TrV.same (w' := wr.setCells (G + 1) 0 [Value.int .i64 k, .bool e, .string t, .slice y i cp]) _ _ _ hI.out.2.2.2.1 (fun b hb => heapE_setCells (G + 1) _ _ b (fun hh => by have := (TrV.lt _ _ _ hI.out.2.2.2.1 b hb).1; omega) wr))
        rw [List.take_of_length_le (by rw [LL.out.1]; exact Nat.le_refl _), List.take_of_length_le (by rw [LL.out.2.1]; exact Nat.le_refl _)] at hVE
        change bodyPost _ _ _ _ _ (wr.setCells (G + 1) 0 [Value.int .i64 k, .bool e, .string t, .slice y i cp])
        generalize wr.setCells (G + 1) 0 [Value.int .i64 k, .bool e, .string t, .slice y i cp] = W at *
        obtain ⟨z0, z1, z2, z3, _⟩ := cell4n hq
        exact bodyPost_ret (v := .agg #[.int .i64 k, .bool e, .string t, .slice y i cp]) (by simp [results, Try.results23, go_sem, z0, z1, z2, z3]) rfl ⟨⟨_, fp, rfl, hVE, hI.out.2.2.2.2.1⟩, hB⟩
end Go.Proofs.Ytpbgmknebhnonab
namespace Go.Proofs.Ytpbgmknebhnonab.Nk
open Go.RowKit Go.Proofs.Ytpbgmknebhnonab

theorem size5 : ∀ w : World, (Go.sizeOf 5).run Try.prog w = .ok 1 w := fun w => by
  obtain ⟨i0, hi, hz0, hz1, hz2⟩ := info_parts infoU8
  simp [sizeOf, typeInfo, hi, hz1]
theorem setCells_only (g : Nat) : ∀ (l : List Value) (o : Nat) (w : World), (w.setCells g o l).heap.size = w.heap.size ∧ (∀ k, k ≠ g → (w.setCells g o l).heap[k]? = w.heap[k]?) ∧ (w.setCells g o l).os = w.os ∧ (w.setCells g o l).tape = w.tape ∧ (w.setCells g o l).output = w.output := by
  intro l
  induction l with
  | nil => intro o w; exact ⟨rfl, fun _ _ => rfl, rfl, rfl, rfl⟩
  | cons a l ih =>
    intro o w
    obtain ⟨h1, h2, h3, h4, h5⟩ := ih (o + 1) (w.setCell ⟨g, o, none⟩ a)
    exact ⟨h1.trans (by simp), fun k hk => (h2 k hk).trans (Below.heap_setCell w _ _ k hk), h3, h4, h5⟩
/-- copy(q, t). -/
theorem copy_str (w : World) (g m : Nat) (z : Nat → Int) (t : ByteArray) (ty : TypeId) (V : Row .u8 w g m z) (hm : t.size ≤ m) :
    ∃ w', (Builtin.copy_ #[37, 9] ty #[.slice (some ⟨g, 0, none⟩) m m, .string t]).run Try.prog w = .ok (goInt t.size) w' ∧ Row .u8 w' g m (fun j => if j < t.size then bt t j else z j) ∧ w.grownBy w' (some g) := by
  have hl : (t.data.toList.map fun x => Value.int .u8 (x.toNat : Int)).length = t.size := by rw [List.length_map, Array.length_toList]; rfl
  have hr := Go.run_copy_string (P := Try.prog) w 37 9 ty 5 g 0 m m t Try.underlying37 size5 hm (fun j hj => by rw [Nat.zero_add, V.cell j (by omega)]; rfl) (fun j hj => by rw [Nat.zero_add]; exact V.free j (by omega))
  obtain ⟨s1, s2, s3, s4, s5⟩ := setCells_only g (t.data.toList.map fun x => Value.int .u8 (x.toNat : Int)) 0 w
  refine ⟨_, hr, ⟨fun j hj => ?_, fun j hj => by rw [World.frozen?_setCells]; exact V.free j hj⟩, ⟨s3, s4, s5, by rw [s1]; exact Nat.le_refl _, fun k _ hk => s2 k (fun e => hk (by rw [e]))⟩⟩
  by_cases h : j < t.size
  · have := World.cell?_setCells_in g (t.data.toList.map fun x => Value.int .u8 (x.toNat : Int)) 0 w (fun i hi => by rw [Nat.zero_add, V.cell i (by omega)]; rfl) j (by omega)
    rw [Nat.zero_add] at this
    rw [this, if_pos h]
    unfold bt
    rw [dif_pos h]
    simp
    rfl
  · rw [if_neg h, World.cell?_setCells_out g _ 0 w _ (fun _ _ => by right; rw [hl]; show 0 + t.size ≤ j; omega)]
    exact V.cell j hj
theorem make_bytes (w : World) (n : Nat) (hn : n ≤ 1073741824) : (Instr.makeSlice 37 (.int .i64 (n : Int)) (.int .i64 (n : Int))).run Try.prog w = .ok (.slice (some ⟨w.heap.size, 0, none⟩) n n) (w.alloc (.cells (madeCells (Value.int .u8 0).cells n) 5)) := by
  obtain ⟨i0, hi, hz0, hz1, hz2⟩ := info_parts infoU8
  rw [run_make (P := Try.prog) w 37 5 i0 (.int .u8 0) Try.underlying37 hi hz0 .i64 .i64 _ _ (by omega) (by omega) (by rw [hz2]; omega) (by omega), Int.toNat_natCast, hz1, Nat.mul_one]

/-- The bytes, then marks up to k, then noughts. -/
def g1F (T : ByteArray) (n k : Nat) (mk : Int) (j : Nat) : Int := if j < n then bt T j else if j < k then mk else 0
/-- Marks up to k; then the bytes, then marks. -/
def g2F (T : ByteArray) (n k : Nat) (mk : Int) (j : Nat) : Int := if j < k then mk else if j < n then bt T j else mk
theorem g1F_set (T : ByteArray) (n k : Nat) (mk : Int) (h : n ≤ k) (j : Nat) : (if j = k then mk else g1F T n k mk j) = g1F T n (k + 1) mk j := by
  unfold g1F
  by_cases e : j = k
  · rw [if_pos e, if_neg (by omega), if_pos (by omega)]
  · rw [if_neg e]
    by_cases h1 : j < n
    · rw [if_pos h1, if_pos h1]
    · rw [if_neg h1, if_neg h1]
      by_cases h2 : j < k
      · rw [if_pos h2, if_pos (by omega)]
      · rw [if_neg h2, if_neg (by omega)]
theorem g2F_set (T : ByteArray) (n k : Nat) (mk : Int) (j : Nat) : (if j = k then mk else g2F T n k mk j) = g2F T n (k + 1) mk j := by
  unfold g2F
  by_cases e : j = k
  · rw [if_pos e, if_pos (by omega)]
  · rw [if_neg e]
    by_cases h1 : j < k
    · rw [if_pos h1, if_pos (by omega)]
    · rw [if_neg h1, if_neg (show ¬ j < k + 1 by omega)]
theorem grown_trans {a b c : World} {o : Option Nat} (h : a.grownBy b o) (k : b.grownBy c o) : a.grownBy c o :=
  ⟨k.os.trans h.os, k.tape.trans h.tape, k.output.trans h.output, Nat.le_trans h.size k.size, fun i hi ho => (k.block i (Nat.lt_of_lt_of_le hi h.size) ho).trans (h.block i hi ho)⟩
theorem grown_below {a b : World} {g B : Nat} (h : a.grownBy b (some g)) (hB : B ≤ g) (hs : B ≤ a.heap.size) : Below B a b := ⟨h.os, h.tape, h.output, h.size, fun i hi => h.block i (by omega) (fun e => by cases e; omega)⟩
theorem grown_refl (a : World) (o : Option Nat) : a.grownBy a o := ⟨rfl, rfl, rfl, Nat.le_refl _, fun _ _ _ => rfl⟩
theorem grown_set (a : World) (g j : Nat) (x : Value) : a.grownBy (a.setCell ⟨g, j, none⟩ x) (some g) := ⟨rfl, rfl, rfl, by simp, fun i _ ho => Below.heap_setCell a _ _ i (fun e => ho (by rw [e]))⟩


theorem TrV.belowY {w w' : World} {B : Nat} {T : Tr} {v : Value} {fp : List Nat} (h : TrV w B T v fp) (b : Below w.heap.size w w') : TrV w' B T v fp := TrV.same _ _ _ h (fun x hx => b.block x (TrV.lt _ _ _ h x hx).2)
/-- Two blocks with a node and a fault. -/
theorem two_new (w : World) (T : Tr) (v : Value) (F1 F2 : Int) : St ((w.alloc (.cells #[.int .i64 T.k, .bool T.e, .string T.t, v] 25)).alloc (.cells #[.int .i64 F1, .int .i64 F2] 34)) w.heap.size [.int .i64 T.k, .bool T.e, .string T.t, v] ∧ St ((w.alloc (.cells #[.int .i64 T.k, .bool T.e, .string T.t, v] 25)).alloc (.cells #[.int .i64 F1, .int .i64 F2] 34)) (w.heap.size + 1) [.int .i64 F1, .int .i64 F2] ∧ Below w.heap.size w ((w.alloc (.cells #[.int .i64 T.k, .bool T.e, .string T.t, v] 25)).alloc (.cells #[.int .i64 F1, .int .i64 F2] 34)) ∧ ((w.alloc (.cells #[.int .i64 T.k, .bool T.e, .string T.t, v] 25)).alloc (.cells #[.int .i64 F1, .int .i64 F2] 34)).heap.size = w.heap.size + 2 := by
  refine ⟨(St.new w _ _).same (by simp only [World.size_alloc]; omega) (Below.heap_alloc _ _ _ (by rw [World.size_alloc]; omega)), ?_, ((Below.refl _ _).alloc (Nat.le_refl _) _).alloc (by rw [World.size_alloc]; omega) _, by simp only [World.size_alloc]⟩
  have := St.new (w.alloc (.cells #[.int .i64 T.k, .bool T.e, .string T.t, v] 25)) #[.int .i64 F1, .int .i64 F2] 34
  rw [World.size_alloc] at this
  exact this


/-- Every entry of an owned row may be written over. -/
theorem own_over {w : World} {B : Nat} {K n cp i : Nat} {xs : List Value} (a b c d e : Value) (h : w.ownsRow B 59 5 (.slice (some ⟨K, 0, none⟩) n cp) n xs) :
    (∃ xs', (w.setCells K (i * 5) [a, b, c, d, e]).ownsRow B 59 5 (.slice (some ⟨K, 0, none⟩) n cp) n xs') := by
  have h1 := (World.ownsRow.stored h (i * 5) a).1
  have h2 := (World.ownsRow.stored h1 (i * 5 + 1) b).1
  have h3 := (World.ownsRow.stored h2 (i * 5 + 2) c).1
  have h4 := (World.ownsRow.stored h3 (i * 5 + 3) d).1
  have h5 := (World.ownsRow.stored h4 (i * 5 + 4) e).1
  exact ⟨_, h5⟩
theorem own_cell {w : World} {B : Nat} {K n cp : Nat} {xs : List Value} (h : w.ownsRow B 59 5 (.slice (some ⟨K, 0, none⟩) n cp) n xs) (j : Nat) (hj : j < n * 5) : (∃ v, w.cell? ⟨K, j, none⟩ = some v) ∧ w.frozen? ⟨K, j, none⟩ = false ∧ B ≤ K ∧ K < w.heap.size := by
  obtain ⟨hl, h0 | ⟨g, cap, cur, hv, hb, hg, hn, hm, hs, ht⟩⟩ := h
  · obtain ⟨hv, hn⟩ := h0; omega
  · injection hv with h1 h2 h3
    injection h1 with h1
    injection h1 with h1
    subst h1 h3
    have hj2 : j < cur.size := by rw [hs]; exact Nat.lt_of_lt_of_le hj (Nat.mul_le_mul_right 5 hn)
    refine ⟨⟨cur[j], ?_⟩, Lib.frozen_of_heap hg j, hb, (Array.getElem?_eq_some_iff.1 hg).1⟩
    rw [Lib.cell_of_heap hg]
    exact Array.getElem?_eq_getElem hj2

/-- The row of a tree's kids. -/
theorem _root_.Go.Proofs.Ytpbgmknebhnonab.TrV.ownK {w : World} {B : Nat} {T : Tr} {v : Value} {fp : List Nat} (h : TrV w B T v fp) : (∃ xs, w.ownsRow B 59 5 v T.nms.length xs) ∧ ∀ q, v.ownBlock = some q → q ∈ fp := by
  obtain ⟨k, e, t, nms, ks⟩ := T
  rw [TrV] at h
  obtain ⟨cs, fq, h1, h2, rfl⟩ := h
  exact ⟨⟨cs, h1⟩, fun q hq => List.mem_append.2 (.inl (by unfold blkL; rw [hq]; simp))⟩
/-- What Close answers behind the whole archive. -/
def CLA (T : Tr) (g : Nat) (fp : List Nat) (w : World) (en : Ending) (w' : World) : Prop :=
  (∃ x n c fr, en = .returned (.tuple #[.agg #[.int .i64 T.k, .bool T.e, .string T.t, .slice x n c], .agg #[.int .i64 0, .int .i64 0]]) ∧ TrV w' w.heap.size T (.slice x n c) fr ∧ fr.Nodup) ∧ PW w' g (g + 1) (arcS true T).fin fp ∧ Ff g fp w w'
theorem close_of (g : Nat) (T : Tr) (p : PS) (fp : List Nat) (w : World) (h0 : p.code = 0) (h1 : p.c.next = 17) (h2 : p.c.root = T) (h3 : p.fin = (arcS true T).fin) (H : PW w g (g + 1) p fp) (hl : lnT T) : Calls Try.prog 24 #[.pointer (some ⟨g, 0, none⟩)] w (CLA T g fp w) := by
  have h := close_okQ g (g + 1) p fp w H h0 h1 (by rw [h2]; exact hl)
  obtain ⟨aT, aF⟩ := fin_whole h0 h1
  unfold ClQ at h
  rw [aT, aF, h2, h3] at h
  refine h.mono ?_
  rintro e w' ⟨⟨v, fr, rfl, a, b⟩, c⟩
  obtain ⟨x, n, c2, rfl⟩ : ∃ x n c, v = .slice x n c := by obtain ⟨x, c, h⟩ := a.shape; exact ⟨x, _, c, h⟩
  exact ⟨⟨x, n, c2, fr, rfl, a, b⟩, c⟩
theorem close_a1 (g : Nat) (T : Tr) (fp : List Nat) (w : World) (H : PW w g (g + 1) (arcS true T) fp) (hl : lnT T) : Calls Try.prog 24 #[.pointer (some ⟨g, 0, none⟩)] w (CLA T g fp w) :=
  close_of g T _ fp w rfl rfl rfl rfl H hl
theorem close_a2 (g : Nat) (T : Tr) (fp : List Nat) (w : World) (H : PW w g (g + 1) (arcS true T).fin fp) (hl : lnT T) : Calls Try.prog 24 #[.pointer (some ⟨g, 0, none⟩)] w (CLA T g fp w) := by
  have e : (arcS true T).fin = (arcS true T).shut := by unfold PS.fin; rw [if_neg (fun h => h.2 rfl)]
  have e2 : (arcS true T).shut.fin = (arcS true T).shut := by unfold PS.fin; rw [if_neg (fun h => h.2 rfl)]; rfl
  refine close_of g T _ fp w ?_ ?_ ?_ ?_ H hl
  · rw [e]; rfl
  · rw [e]; rfl
  · rw [e]; rfl
  · rw [e, e2]

theorem at_len {w : World} {m : Nat} {k : Int} {e : Bool} {t : ByteArray} {x : Option Addr} {n c : Nat} {T : Tr} (h : At w m (.agg #[.int .i64 k, .bool e, .string t, .slice x n c]) T) : T.nms.length = n := by
  cases m with
  | zero => exact h.elim
  | succ m =>
    obtain ⟨k', e', t', ns, ks⟩ := T
    obtain ⟨x', n', c', hv, l1, -⟩ := h
    injection hv with hv
    simp at hv
    rw [hv.2.2.2.2.1]
    exact l1
theorem own_some {w : World} {B : Nat} {x : Option Addr} {n c : Nat} {xs : List Value} (h : w.ownsRow B 59 5 (.slice x n c) n xs) (hn : 0 < n) : ∃ g, x = some ⟨g, 0, none⟩ := by
  obtain ⟨hl, h0 | ⟨g, cap, cur, hv, -⟩⟩ := h
  · omega
  · injection hv with h1 h2 h3
    exact ⟨g, h1⟩
/-- Two entries more. -/
theorem app_two (w : World) (B : Nat) (x : Option Addr) (n c : Nat) (xs : List Value) (a b : ByteArray) (h : w.ownsRow B 59 5 (.slice x n c) n xs) (hn : n ≤ 1073741824) (hB : B ≤ w.heap.size) :
    ∃ g cp w', (Builtin.append_ #[23, 23] 23 #[.slice x n c, .slice (some ⟨w.heap.size, 0, none⟩) 2 2]).run Try.prog (w.alloc (.cells #[.string a, .int .i64 0, .bool false, .string ⟨#[]⟩, .slice none 0 0, .string b, .int .i64 0, .bool false, .string ⟨#[]⟩, .slice none 0 0] 59)) = .ok (.slice (some ⟨g, 0, none⟩) (n + 2) cp) w' ∧ (w.alloc (.cells #[.string a, .int .i64 0, .bool false, .string ⟨#[]⟩, .slice none 0 0, .string b, .int .i64 0, .bool false, .string ⟨#[]⟩, .slice none 0 0] 59)).grownBy w' (Value.ownBlock (.slice x n c)) := by
  obtain ⟨i0, hi, hz0, hz1, hz2⟩ := info_parts info_entE
  have h1 := own_same (w' := w.alloc (.cells #[.string a, .int .i64 0, .bool false, .string ⟨#[]⟩, .slice none 0 0, .string b, .int .i64 0, .bool false, .string ⟨#[]⟩, .slice none 0 0] 59)) h (fun q hq => by
    obtain ⟨hl, ⟨hv, h0⟩ | ⟨g, cap, cur, hv, hb, hg, -⟩⟩ := h
    · rw [hv] at hq; simp [blkL, Value.ownBlock] at hq
    · rw [hv] at hq; simp [blkL, Value.ownBlock] at hq; subst hq; exact Below.heap_alloc _ _ _ (Array.getElem?_eq_some_iff.1 hg).1)
  obtain ⟨v', w', hr, ho, hgr, -⟩ := run_append_own (P := Try.prog) (w.alloc (.cells #[.string a, .int .i64 0, .bool false, .string ⟨#[]⟩, .slice none 0 0, .string b, .int .i64 0, .bool false, .string ⟨#[]⟩, .slice none 0 0] 59)) B 23 23 59 i0 _ 5 72 Try.underlying23 hi hz0 hz1 hz2 rfl (by decide) (.slice x n c) n xs h1 ⟨w.heap.size, 0, none⟩ 2 2
    [.string a, .int .i64 0, .bool false, .string ⟨#[]⟩, .slice none 0 0, .string b, .int .i64 0, .bool false, .string ⟨#[]⟩, .slice none 0 0] rfl (fun j u hu => by
      rw [Addr.add_lit, Nat.zero_add, World.cell?_alloc_new]
      simpa using hu) (by intro u hu; simp at hu; rcases hu with rfl | rfl | rfl | rfl | rfl | rfl | rfl | rfl | rfl | rfl <;> rfl) (by unfold maxLen; omega) (by omega) (by rw [World.size_alloc]; omega)
  obtain ⟨hl, ⟨hv, h0⟩ | ⟨g, cap, cur, hv, -⟩⟩ := ho
  · omega
  · subst hv
    exact ⟨g, cap, w', hr, hgr⟩

theorem _root_.Go.Proofs.Ytpbgmknebhnonab.TrV.belowK {w w' : World} {B : Nat} {T : Tr} {v : Value} {fp : List Nat} (h : TrV w B T v fp) (b : Below w.heap.size w w') : TrV w' B T v fp := TrV.same _ _ _ h (fun x hx => b.block x (TrV.lt _ _ _ h x hx).2)

end Go.Proofs.Ytpbgmknebhnonab.Nk
namespace Go.Proofs.Ytpbgmknebhnonab
open Go.ChangeShapes Go.WideShapes Go.ChangeAt Go.RowKit

theorem lnL_iff : ∀ {ks : List Tr}, lnL ks ↔ ∀ T ∈ ks, lnT T
  | [] => by simp [lnL]
  | T :: ks => by rw [lnL, lnL_iff (ks := ks)]; simp

set_option maxHeartbeats 2000000 in
theorem open_nodeL {H : Type} {enc : TypeId × Value → H} {w : World} {sp : Nat → Bool} {held : Bool} (fuel : Nat) : ∀ (cs : List Value) (x : DataW H × List MemPlace), DataW.trod enc Try.prog w 0 sp held fuel 25 cs = some x → Rows.uptoBulk x.1 ≤ 1048576 →
    ∃ k e t z n c T, cs = [.int .i64 k, .bool e, .string t, .slice z n c] ∧ At w fuel (.agg #[.int .i64 k, .bool e, .string t, .slice z n c]) T ∧ smT T ∧ lnT T := by
  induction fuel using Nat.strongRecOn with
  | ind fuel IH =>
    intro cs x h hw
    obtain ⟨xs, n1, rfl, rfl, hl, hlen, hfs⟩ := DataW.trod_struct Try.underlying25 h
    rw [ncNT] at hl
    have g0 : DataW.trod enc Try.prog w 0 sp held n1 22 ((cs.drop 0).take (Try.prog.cellsOf 22)) = xs[0]? := hfs 0 _ rfl
    rw [ncKD] at g0
    have g1 : DataW.trod enc Try.prog w 0 sp held n1 4 ((cs.drop 1).take (Try.prog.cellsOf 4)) = xs[1]? := hfs 1 _ rfl
    rw [nc4] at g1
    have g2 : DataW.trod enc Try.prog w 0 sp held n1 9 ((cs.drop 2).take (Try.prog.cellsOf 9)) = xs[2]? := hfs 2 _ rfl
    rw [nc9] at g2
    have g3 : DataW.trod enc Try.prog w 0 sp held n1 23 ((cs.drop 3).take (Try.prog.cellsOf 23)) = xs[3]? := hfs 3 _ rfl
    rw [ncLET] at g3
    have hlen : xs.length = 4 := hlen
    clear hfs h
    match cs, hl, xs, hlen with
    | [u0, u1, u2, u3], _, [y0, y1, y2, y3], _ =>
      obtain ⟨k, hk, yk, _⟩ := DataW.trod_int Try.underlying22 (x := y0) g0
      obtain ⟨e, he, ye⟩ := DataW.trod_bool Try.underlying4 (x := y1) g1
      obtain ⟨t, ht, yt, _⟩ := DataW.trod_string Try.underlying9 (x := y2) g2
      have hw : Rows.uptoBulk y0.1 + (Rows.uptoBulk y1.1 + (Rows.uptoBulk y2.1 + (Rows.uptoBulk y3.1 + 0))) + 1 ≤ 1048576 := hw
      have htz : t.size ≤ 1048576 := by
        have e9 : Rows.uptoBulk y2.1 = t.data.toList.length + 1 := by rw [yt]; rfl
        have e8 : t.data.toList.length = t.size := by rw [Array.length_toList]; rfl
        omega
      have hw3 : Rows.uptoBulk y3.1 ≤ 1048576 := by omega
      simp at hk he ht
      subst hk he ht
      rcases DataW.trod_slice Try.underlying23 (x := y3) g3 with ⟨hc, _⟩ | ⟨a, len, cap, elems, rest, n2, rfl, hc, hx, _, hlc, _, hel, hE, _, _⟩
      · simp at hc
        subst hc
        exact ⟨k, e, t, none, 0, 0, .mk k e t [] [], rfl, ⟨none, 0, 0, rfl, rfl, rfl, Nat.le_refl _, by omega, Or.inl rfl⟩, by rw [smT]; exact ⟨htz, by rw [smL] <;> simp⟩, by rw [lnT, lnL]; exact ⟨by simp, trivial⟩⟩
      · simp at hc
        subst hc
        rw [hx] at hw3
        have hw4 : Rows.uptoBulkAll (elems.map Prod.fst) + Rows.uptoBulkAll (rest.map Prod.fst) + 1 ≤ 1048576 := hw3
        have hb6 : len ≤ 1048576 := by
          have := bulk_len (elems.map Prod.fst)
          rw [List.length_map] at this
          omega
        have hb : len ≤ 1954687338211 := by
          have := bulk_len (elems.map Prod.fst)
          rw [List.length_map] at this
          omega
        have each : ∀ i, i < len → ∃ (s : ByteArray) (T : Tr) (k' : Int) (e' : Bool) (t' : ByteArray) (z : Option Addr) (p q : Nat), w.cell? ((a.add (i * 5)).add 0) = some (.string s) ∧ w.cell? ((a.add (i * 5)).add 1) = some (.int .i64 k') ∧ w.cell? ((a.add (i * 5)).add 2) = some (.bool e') ∧ w.cell? ((a.add (i * 5)).add 3) = some (.string t') ∧ w.cell? ((a.add (i * 5)).add 4) = some (.slice z p q) ∧ At w (n2 + 1) (.agg #[.int .i64 k', .bool e', .string t', .slice z p q]) T ∧ s.size ≤ 1048576 ∧ smT T ∧ lnT T := by
          intro i hi
          have hi' := hE i hi
          rw [ncET] at hi'
          obtain ⟨zi, hz⟩ : ∃ zi, elems[i]? = some zi := ⟨_, List.getElem?_eq_getElem (by omega)⟩
          rw [hz, Option.bind_eq_some_iff] at hi'
          obtain ⟨l, hl5, htr⟩ := hi'
          obtain ⟨v0, v1, v2, v3, v4, rfl, c0, c1, c2, c3, c4⟩ := five_cells hl5
          obtain ⟨ys, n3, rfl, rfl, _, hyl, hys⟩ := DataW.trod_struct Try.underlying59 htr
          have r0 : DataW.trod enc Try.prog w 0 sp held n3 9 (([v0, v1, v2, v3, v4].drop 0).take (Try.prog.cellsOf 9)) = ys[0]? := hys 0 _ rfl
          rw [nc9] at r0
          have r1 : DataW.trod enc Try.prog w 0 sp held n3 25 (([v0, v1, v2, v3, v4].drop 1).take (Try.prog.cellsOf 25)) = ys[1]? := hys 1 _ rfl
          rw [ncNT] at r1
          have hyl : ys.length = 2 := hyl
          match ys, hyl with
          | [w0, w1], _ =>
            obtain ⟨s, hs, ys, _⟩ := DataW.trod_string Try.underlying9 (x := w0) r0
            have hw5 : Rows.uptoBulk (DataW.agg [w0.1, w1.1]) ≤ Rows.uptoBulkAll (elems.map Prod.fst) := bulk_part (List.mem_map.2 ⟨_, List.mem_of_getElem? hz, by simp⟩)
            have hw6 : Rows.uptoBulk w0.1 + (Rows.uptoBulk w1.1 + 0) + 1 ≤ Rows.uptoBulkAll (elems.map Prod.fst) := hw5
            have hsz : s.size ≤ 1048576 := by
              have e9 : Rows.uptoBulk w0.1 = s.data.toList.length + 1 := by rw [ys]; rfl
              have e8 : s.data.toList.length = s.size := by rw [Array.length_toList]; rfl
              omega
            obtain ⟨k', e', t', z, p, q, T, hcs, hA, hsT⟩ := IH n3 (by omega) _ w1 r1 (by omega)
            simp at hs hcs
            obtain ⟨rfl, rfl, rfl, rfl⟩ := hcs
            subst hs
            exact ⟨s, T, k', e', t', z, p, q, c0, c1, c2, c3, c4, hA.upto (by omega), hsz, hsT⟩
        by_cases h0 : len = 0
        · subst h0
          exact ⟨k, e, t, some a, 0, cap, .mk k e t [] [], rfl, ⟨some a, 0, cap, rfl, rfl, rfl, hlc, by omega, Or.inl rfl⟩, by rw [smT]; exact ⟨htz, by rw [smL] <;> simp⟩, by rw [lnT, lnL]; exact ⟨by simp, trivial⟩⟩
        · have hsp : a.spot = none := by
            obtain ⟨_, _, _, _, _, _, _, _, c0, _⟩ := each 0 (by omega)
            have : (a.add (0 * 5)).add 0 = a := by simp [Addr.add]
            rw [this] at c0
            exact spotN c0
          have hadd : ∀ i j, (a.add (i * 5)).add j = ⟨a.block, a.off + i * 5 + j, none⟩ := fun i j => by
            obtain ⟨g, o, s⟩ := a
            simp only at hsp
            subst hsp
            rw [Addr.add_lit, Addr.add_lit]
          have hblk : a.block < w.heap.size := by
            obtain ⟨_, _, _, _, _, _, _, _, c0, _⟩ := each 0 (by omega)
            rw [hadd] at c0
            have := World.block_lt_of_cell? (w := w) ⟨a.block, a.off + 0 * 5 + 0, none⟩ c0; exact this
          have ha : a = ⟨a.block, a.off, none⟩ := by obtain ⟨g, o, s⟩ := a; simp only at hsp; subst hsp; rfl
          let fs : Nat → ByteArray := fun i => if hi : i < len then (each i hi).choose else ByteArray.empty
          let ft : Nat → Tr := fun i => if hi : i < len then (each i hi).choose_spec.choose else .mk 0 false ByteArray.empty [] []
          refine ⟨k, e, t, some a, len, cap, .mk k e t ((List.range len).map fs) ((List.range len).map ft), rfl, ⟨some a, len, cap, rfl, by simp, by simp, hlc, hb, Or.inr ⟨a.block, a.off, by rw [← ha], hblk, fun j s T hs hT => ?_⟩⟩, by
            rw [smT]
            refine ⟨htz, smL_of _ _ (fun j s T hs hT => ?_)⟩
            have hj : j < len := by have := (List.getElem?_eq_some_iff.1 hs).1; simpa using this
            have es : s = (each j hj).choose := by simp [hj] at hs; rw [← hs]; simp [fs, hj]
            have eT : T = (each j hj).choose_spec.choose := by simp [hj] at hT; rw [← hT]; simp [ft, hj]
            obtain ⟨k', e', t', z, p, q, c0, c1, c2, c3, c4, hA, h8, h9⟩ := (each j hj).choose_spec.choose_spec
            rw [es, eT]
            exact ⟨h8, h9.1⟩, by
            rw [lnT]
            refine ⟨by simp; omega, lnL_iff.2 (fun T hT => ?_)⟩
            obtain ⟨j, hj, rfl⟩ := List.mem_map.1 hT
            have hj : j < len := by simpa using hj
            have eT : ft j = (each j hj).choose_spec.choose := by simp [ft, hj]
            obtain ⟨k', e', t', z, p, q, c0, c1, c2, c3, c4, hA, h8, h9⟩ := (each j hj).choose_spec.choose_spec
            rw [eT]
            exact h9.2⟩
          have hj : j < len := by have := (List.getElem?_eq_some_iff.1 hs).1; simpa using this
          have es : s = (each j hj).choose := by simp [hj] at hs; rw [← hs]; simp [fs, hj]
          have eT : T = (each j hj).choose_spec.choose := by simp [hj] at hT; rw [← hT]; simp [ft, hj]
          obtain ⟨k', e', t', z, p, q, c0, c1, c2, c3, c4, hA, -, -⟩ := (each j hj).choose_spec.choose_spec
          refine ⟨k', e', t', z, p, q, (congrArg w.cell? (hadd j 0)).symm.trans (c0.trans (by rw [es])), (congrArg w.cell? (hadd j 1)).symm.trans c1, (congrArg w.cell? (hadd j 2)).symm.trans c2, (congrArg w.cell? (hadd j 3)).symm.trans c3, (congrArg w.cell? (hadd j 4)).symm.trans c4, ?_⟩
          rw [eT]; exact hA


end Go.Proofs.Ytpbgmknebhnonab
namespace Go.Proofs.Ytpbgmknebhnonab.Nk
open Go.RowKit Go.Proofs.Ytpbgmknebhnonab

set_option maxHeartbeats 16000000 in
set_option maxRecDepth 100000 in
theorem nkeeps_walk (m : Nat) (k : Int) (e : Bool) (t : ByteArray) (x : Option Addr) (n c : Nat) (T : Tr) (mk : Int) (w : World) (hA : At w m (.agg #[Value.int IntKind.i64 k, Value.bool e, Value.string t, Value.slice x n c]) T) (hS : smT T) (hL : lnT T) (_ : 0 ≤ mk) (_ : mk ≤ 255) :
    Calls Try.prog 7 #[.agg #[Value.int IntKind.i64 k, Value.bool e, Value.string t, Value.slice x n c], .int .u8 mk] w fun en w' => en = .returned (.bool true) ∧ Below w.heap.size w w' := by
  have hW := At.wf _ _ _ hA
  have HH : Hid (At w m (.agg #[Value.int IntKind.i64 k, Value.bool e, Value.string t, Value.slice x n c]) T ∧ smT T ∧ wfT T) := ⟨hA, hS, hW⟩
  have HLN : Hid (lnT T) := hL
  clear hA hS hW hL
  have bA : Below w.heap.size w (w.alloc (Obj.cells #[Value.int IntKind.i64 k, Value.bool e, Value.string t, Value.slice x n c] 25)) := (Below.refl _ _).alloc (Nat.le_refl _) _
  have HG : Hid (St (w.alloc (Obj.cells #[Value.int IntKind.i64 k, Value.bool e, Value.string t, Value.slice x n c] 25)) w.heap.size [Value.int IntKind.i64 k, Value.bool e, Value.string t, Value.slice x n c] ∧ Below w.heap.size w (w.alloc (Obj.cells #[Value.int IntKind.i64 k, Value.bool e, Value.string t, Value.slice x n c] 25))) := ⟨St.new w _ _, bA⟩
  clear bA
  go_enter Try.func7, Try.ntmps7
  go_upto_region 1 with fail
  obtain ⟨G, hG⟩ : ∃ G, w.heap.size = G := ⟨_, rfl⟩
  have HGe : Hid (w.heap.size = G) := hG
  generalize w.alloc (Obj.cells #[Value.int IntKind.i64 k, Value.bool e, Value.string t, Value.slice x n c] 25) = w1 at *
  rw [hG] at HG ⊢
  clear hG
  have CW := awN w1
  go_wp2_with fail
  refine CW.mono ?_
  rintro e2 w2 ⟨rfl, b2⟩
  have HG2 : Hid (St w2 G [Value.int IntKind.i64 k, Value.bool e, Value.string t, Value.slice x n c] ∧ Below G w w2) := ⟨HG.out.1.same b2.size (b2.block _ HG.out.1.lt), HG.out.2.trans (b2.mono (by have := HG.out.1.lt; omega))⟩
  clear CW b2 HG
  have u0 := HG2.out.1.get 0 _ rfl
  have u1 := HG2.out.1.get 1 _ rfl
  have u2 := HG2.out.1.get 2 _ rfl
  have u3 := HG2.out.1.get 3 _ rfl
  have HA2 : Hid (At w2 m (.agg #[Value.int IntKind.i64 k, Value.bool e, Value.string t, Value.slice x n c]) T) := HH.out.1.below (by rw [HGe.out]; exact HG2.out.2)
  have CC := clone_any m _ T w2 HA2.out HLN.out
  go_wp2_with fail
  refine CC.mono ?_
  rintro e3 w3 ⟨⟨x3, f3, rfl, T3, N3⟩, b3⟩
  clear CC u0 u1 u2 u3
  obtain ⟨xx3, nn3, cc3, hx3⟩ : ∃ x n c, x3 = .slice x n c := by obtain ⟨x, c, h⟩ := T3.shape; exact ⟨x, _, c, h⟩
  subst hx3
  have HT3 : Hid (∃ M, At w3 M (.agg #[.int .i64 T.k, .bool T.e, .string T.t, .slice xx3 nn3 cc3]) T) := TrV.at _ _ _ T3 HLN.out
  have HG3 : Hid (St w3 G [Value.int IntKind.i64 k, Value.bool e, Value.string t, Value.slice x n c] ∧ Below G w w3) := ⟨HG2.out.1.same b3.size (b3.block _ HG2.out.1.lt), HG2.out.2.trans (b3.mono (by have := HG2.out.1.lt; omega))⟩
  clear T3 N3 b3 HG2 HA2
  have q4 : Hid (St (w3.alloc (.cells #[.int .i64 T.k, .bool T.e, .string T.t, .slice xx3 nn3 cc3] 25)) w3.heap.size [.int .i64 T.k, .bool T.e, .string T.t, .slice xx3 nn3 cc3] ∧ Below w3.heap.size w3 (w3.alloc (.cells #[.int .i64 T.k, .bool T.e, .string T.t, .slice xx3 nn3 cc3] 25))) := ⟨St.new w3 _ _, (Below.refl _ _).alloc (Nat.le_refl _) _⟩
  go_upto_region 4 with fail
  obtain ⟨D, hD⟩ : ∃ D, w3.heap.size = D := ⟨_, rfl⟩
  have HD3 : Hid (w3.heap.size = D) := hD
  rw [hD] at q4 ⊢
  clear hD
  generalize w3.alloc (.cells #[.int .i64 T.k, .bool T.e, .string T.t, .slice xx3 nn3 cc3] 25) = w4 at *
  have HG4 : Hid (St w4 G [Value.int IntKind.i64 k, Value.bool e, Value.string t, Value.slice x n c] ∧ Below G w w4) := ⟨HG3.out.1.same q4.out.2.size (q4.out.2.block _ (by have := HG3.out.1.lt; have := HD3.out; omega)), HG3.out.2.trans (q4.out.2.mono (by have := HG3.out.1.lt; have := HD3.out; omega))⟩
  have HT4 : Hid (∃ M, At w4 M (.agg #[.int .i64 T.k, .bool T.e, .string T.t, .slice xx3 nn3 cc3]) T) := by
    obtain ⟨M, h⟩ := HT3.out
    exact ⟨M, h.below (by rw [HD3.out]; exact q4.out.2)⟩
  clear HG3 HT3
  obtain ⟨M4, hA4⟩ := HT4.out
  have CS := nserial_any M4 _ _ _ _ _ _ T w4 hA4 HH.out.2.1 HH.out.2.2
  clear hA4
  obtain ⟨R, hR⟩ : ∃ R, serT T = R := ⟨_, rfl⟩
  have HR : Hid (serT T = R) := hR
  rw [hR] at CS
  clear hR
  obtain ⟨X, C⟩ := R
  dsimp only at CS
  have u0 := q4.out.1.get 0 _ rfl
  have u1 := q4.out.1.get 1 _ rfl
  have u2 := q4.out.1.get 2 _ rfl
  have u3 := q4.out.1.get 3 _ rfl
  go_wp2_with fail
  refine CS.mono ?_
  rintro e5 w5 ⟨rfl, b5⟩
  clear CS u0 u1 u2 u3
  have q5 : Hid (St w5 D [.int .i64 T.k, .bool T.e, .string T.t, .slice xx3 nn3 cc3]) := q4.out.1.same b5.size (b5.block _ q4.out.1.lt)
  have HG5 : Hid (St w5 G [Value.int IntKind.i64 k, Value.bool e, Value.string t, Value.slice x n c] ∧ Below G w w5) := ⟨HG4.out.1.same b5.size (b5.block _ HG4.out.1.lt), HG4.out.2.trans (b5.mono (by have := HG4.out.1.lt; omega))⟩
  have HT5 : Hid (∃ M, At w5 M (.agg #[.int .i64 T.k, .bool T.e, .string T.t, .slice xx3 nn3 cc3]) T) := by
    obtain ⟨M, h⟩ := HT4.out
    exact ⟨M, h.below b5⟩
  clear HG4 HT4 b5 q4
  have HCC : Hid (C = (ckT T).2) := by
    have h := HR.out
    unfold serT at h
    by_cases hc : (ckT T).2 ≠ 0
    · rw [if_pos hc] at h; injection h with h1 h2; exact h2.symm
    · rw [if_neg hc] at h; injection h with h1 h2; show C = (ckT T).2; omega
  obtain ⟨M5, hA5⟩ := HT5.out
  have CE := requal_any (max M5 m) _ _ T T w5 (hA5.upto (Nat.le_max_left _ _)) ((HH.out.1.below (by rw [HGe.out]; exact HG5.out.2)).upto (Nat.le_max_right _ _))
  clear hA5 HT5
  have u0 := q5.out.get 0 _ rfl
  have u1 := q5.out.get 1 _ rfl
  have u2 := q5.out.get 2 _ rfl
  have u3 := q5.out.get 3 _ rfl
  have v0 := HG5.out.1.get 0 _ rfl
  have v1 := HG5.out.1.get 1 _ rfl
  have v2 := HG5.out.1.get 2 _ rfl
  have v3 := HG5.out.1.get 3 _ rfl
  go_wp2_with fail
  refine CE.mono ?_
  rintro e6 w6 ⟨⟨ra, rfl, hra⟩, b6⟩
  have hrat : ra = true := by simpa using hra
  subst hrat
  clear CE hra u0 u1 u2 u3 v0 v1 v2 v3 q5
  have HG6 : Hid (St w6 G [Value.int IntKind.i64 k, Value.bool e, Value.string t, Value.slice x n c] ∧ Below G w w6) := ⟨HG5.out.1.same b6.size (b6.block _ HG5.out.1.lt), HG5.out.2.trans (b6.mono (by have := HG5.out.1.lt; omega))⟩
  clear HG5 b6
  by_cases hc : C = 0
  · subst hc
    have hc0 : (ckT T).2 = 0 := HCC.out.symm
    have hser : serT T = (NB.ba (arcT T), 0) := by unfold serT; rw [if_neg (by omega)]
    have e1 : X = NB.ba (arcT T) := by
      have := HR.out.symm.trans hser
      injection this with h1 h2
    subst e1
    have hal := arc_le2 HH.out.2.1 HH.out.2.2 hc0
    obtain ⟨a0, a1, a2, a4⟩ := stop_ans HH.out.2.1 HH.out.2.2 hc0 []
    rw [List.append_nil] at a0
    have HA0 : Hid ((PS.new true).run (arcT T) = arcS true T) := a0
    clear HR hser hc0 HCC a0 a1 a2 a4
    obtain ⟨l, hl⟩ : ∃ l, arcT T = l := ⟨_, rfl⟩
    rw [hl] at hal HA0 ⊢
    clear hl
    have hTs : (NB.ba l).size = l.length := NB.ba_size l
    have HFC : Hid (∀ (g Q c : Nat) (w : World), PW w g (g + 1) (PS.new true) [] → BSl w g [] (some ⟨Q, 0, none⟩) l → Calls Try.prog 20 #[.pointer (some ⟨g, 0, none⟩), .slice (some ⟨Q, 0, none⟩) l.length c] w fun e w' => (∃ z : Int, e = .returned (.int .i64 z)) ∧ PM w w' g (g + 1) [] (arcS true T)) := fun g Q c w R hX => by
      have h := feed_any g (g + 1) (PS.new true) [] (some ⟨Q, 0, none⟩) c l w R (fun _ => PI.new true) hX (by omega)
      have e1 : (PS.new true).feed l = arcS true T := by
        unfold PS.feed
        rw [if_neg (by show ¬ (false = true ∨ (0 : Int) ≠ 0); simp)]
        exact HA0.out
      rw [e1] at h
      exact h.mono fun e w' ⟨h1, h2⟩ => ⟨⟨_, h1⟩, h2⟩
    obtain ⟨n1, hn1⟩ : ∃ n1, l.length = n1 := ⟨_, rfl⟩
    rw [hn1] at hal hTs HFC
    have HMK : Hid (∀ w : World, (Instr.makeSlice 37 (.int .i64 ((n1 : Int) + 80)) (.int .i64 ((n1 : Int) + 80))).run Try.prog w = .ok (.slice (some ⟨w.heap.size, 0, none⟩) (n1 + 80) (n1 + 80)) (w.alloc (.cells (madeCells (Value.int .u8 0).cells (n1 + 80)) 5))) := fun w => by
      have h := make_bytes w (n1 + 80) (by omega)
      rw [show (((n1 + 80 : Nat)) : Int) = (n1 : Int) + 80 by omega] at h
      exact h
    have HCS : Hid (∀ (w : World) (g : Nat) (z : Nat → Int) (ty : TypeId), Row .u8 w g (n1 + 80) z → ∃ w', (Builtin.copy_ #[37, 9] ty #[.slice (some ⟨g, 0, none⟩) (n1 + 80) (n1 + 80), .string (NB.ba l)]).run Try.prog w = .ok (goInt n1) w' ∧ Row .u8 w' g (n1 + 80) (fun j => if j < n1 then bt (NB.ba l) j else z j) ∧ w.grownBy w' (some g)) := fun w g z ty V => by
      have h := copy_str w g (n1 + 80) z (NB.ba l) ty V (by omega)
      rw [hTs] at h
      exact h
    have HPS : Hid (∀ (w : World) (g Q m : Nat) (F : Nat → Int), Row .u8 w Q m F → n1 ≤ m → Q ≠ g → Q < w.heap.size → (∀ j, j < n1 → F j = bt (NB.ba l) j) → BSl w g [] (some ⟨Q, 0, none⟩) l) := fun w g Q m F V hm h1 h3 hF => .inr ⟨Q, 0, rfl, h1, by simp, h3, fun j hj => by
      rw [Nat.zero_add, V.cell j (by omega), hF j (by omega), NB.bt_ba _ _ hj]⟩
    clear HA0 hn1
    generalize hTT : NB.ba l = Tx at *
    clear hTT
    go_wp2_with fail
    rw [HMK.out]
    have V7 : Hid (Row .u8 (w6.alloc (.cells (madeCells (Value.int .u8 0).cells (n1 + 80)) 5)) w6.heap.size (n1 + 80) (fun _ => 0)) := Row.made rfl
    have HG7 : Hid (St (w6.alloc (.cells (madeCells (Value.int .u8 0).cells (n1 + 80)) 5)) G [Value.int IntKind.i64 k, Value.bool e, Value.string t, Value.slice x n c] ∧ Below G w (w6.alloc (.cells (madeCells (Value.int .u8 0).cells (n1 + 80)) 5))) := by
      have b : Below w6.heap.size w6 (w6.alloc (.cells (madeCells (Value.int .u8 0).cells (n1 + 80)) 5)) := (Below.refl _ _).alloc (Nat.le_refl _) _
      exact ⟨HG6.out.1.same b.size (b.block _ HG6.out.1.lt), HG6.out.2.trans (b.mono (by have := HG6.out.1.lt; omega))⟩
    have hQ7 : w6.heap.size < (w6.alloc (.cells (madeCells (Value.int .u8 0).cells (n1 + 80)) 5)).heap.size := by rw [World.size_alloc]; omega
    have hGQ : G < w6.heap.size := HG6.out.1.lt
    generalize w6.alloc (.cells (madeCells (Value.int .u8 0).cells (n1 + 80)) 5) = w7 at *
    generalize w6.heap.size = Q at *
    clear HG6 HMK
    go_wp2_with fail
    obtain ⟨w8, hcp, V8, G8⟩ := HCS.out w7 Q _ 3 V7.out
    rw [hcp]
    clear hcp
    have HV8 : Hid (Row .u8 w8 Q (n1 + 80) (g1F Tx n1 n1 mk)) := V8.congr (fun j _ => by unfold g1F; by_cases e : j < n1; rw [if_pos e, if_pos e]; rw [if_neg e, if_neg e, if_neg e])
    have HG8 : Hid (St w8 G [Value.int IntKind.i64 k, Value.bool e, Value.string t, Value.slice x n c] ∧ Below G w w8) := ⟨HG7.out.1.same G8.size (G8.block _ HG7.out.1.lt (fun e => by cases e; omega)), HG7.out.2.trans (grown_below G8 (by omega) (by omega))⟩
    have hQ8 : Q < w8.heap.size := by have := G8.size; omega
    clear V8 G8 V7 HG7 hQ7 HCS
    go_wp2
    go_loopw [9] (fun ix wr => ∃ k : Nat, n1 ≤ k ∧ k ≤ n1 + 80 ∧ ix = .int .i64 k ∧ Hid (Row .u8 wr Q (n1 + 80) (g1F Tx n1 k mk)) ∧ Hid (w8.grownBy wr (some Q))) (fun i _ => n1 + 80 - (intOf i).toNat)
    case atStart => exact ⟨n1, Nat.le_refl _, by omega, rfl, HV8, grown_refl _ _⟩
    case round =>
      clear HV8
      obtain ⟨kk, hk0, hk, rfl, hV, hB⟩ := hrel
      by_cases hlt : kk < n1 + 80
      · have d0 := hV.out.cell kk hlt
        have z0 := hV.out.free kk hlt
        go_wp2
        go_roundw
        case rel => exact ⟨kk + 1, by omega, by omega, by go_num, (hV.out.set kk mk hlt).congr (fun j _ => g1F_set Tx n1 kk mk hk0 j), grown_trans hB.out (grown_set _ _ _ _)⟩
        case measure => simp [intOf]; omega
      · obtain rfl : kk = n1 + 80 := by omega
        have HG9 : Hid (St wr G [Value.int IntKind.i64 k, Value.bool e, Value.string t, Value.slice x n c] ∧ Below G w wr) := ⟨HG8.out.1.same hB.out.size (hB.out.block _ HG8.out.1.lt (fun e => by cases e; omega)), HG8.out.2.trans (grown_below hB.out (by omega) (by omega))⟩
        have hQ9 : Q < wr.heap.size := by have := hB.out.size; omega
        have HV9 : Hid (Row .u8 wr Q (n1 + 80) (g1F Tx n1 (n1 + 80) mk)) := hV
        clear hB hV HG8 hQ8
        have CN := newpart_any wr
        go_wp2_with fail
        refine CN.mono ?_
        rintro e10 w10 ⟨rfl, hw10⟩
        clear CN
        obtain ⟨g, hg⟩ : ∃ g, wr.heap.size = g := ⟨_, rfl⟩
        have HP10 : Hid (PW w10 g (g + 1) (PS.new true) []) := by rw [hw10, ← hg]; exact PW.new wr true
        have hbl : Below wr.heap.size wr w10 := by rw [hw10]; exact (Below.refl _ _).alloc (Nat.le_refl _) _
        have HG10 : Hid (St w10 G [Value.int IntKind.i64 k, Value.bool e, Value.string t, Value.slice x n c] ∧ Below G w w10) := ⟨HG9.out.1.same hbl.size (hbl.block _ HG9.out.1.lt), HG9.out.2.trans (hbl.mono (by have := HG9.out.1.lt; omega))⟩
        have HV10 : Hid (Row .u8 w10 Q (n1 + 80) (g1F Tx n1 (n1 + 80) mk)) := HV9.out.below hbl hQ9
        have hg10 : g < w10.heap.size := by rw [hw10, World.size_alloc]; omega
        rw [hg] at hQ9 ⊢
        clear hw10 hg hbl HG9 HV9
        have FC := HFC.out g Q (n1 + 80) w10 HP10.out (HPS.out w10 g Q (n1 + 80) _ HV10.out (by omega) (by omega) (by omega) (fun j hj => by unfold g1F; rw [if_pos hj]))
        go_wp2_with fail
        refine FC.mono ?_
        rintro e11 w11 ⟨⟨z11, rfl⟩, M11⟩
        obtain ⟨fp, P11, F11, S11⟩ := M11
        have hGg : G < g := by omega
        have HP11 : Hid (PW w11 g (g + 1) (arcS true T) fp) := P11
        have HG11 : Hid (St w11 G [Value.int IntKind.i64 k, Value.bool e, Value.string t, Value.slice x n c] ∧ Below G w w11) := ⟨HG10.out.1.same F11.size (F11.keep _ HG10.out.1.lt (by omega) (by simp)), HG10.out.2.trans (F11.below (by omega) (by omega) (fun x hx => by cases hx))⟩
        have HV11 : Hid (Row .u8 w11 Q (n1 + 80) (g2F Tx n1 0 mk)) := (HV10.out.same (F11.keep Q (by omega) (by omega) (by simp))).congr (fun j hj => by unfold g1F g2F; rw [if_neg (show ¬ j < 0 by omega)]; by_cases e : j < n1; rw [if_pos e, if_pos e]; rw [if_neg e, if_neg e, if_pos hj])
        have hs11 : g < w11.heap.size := by have := F11.size; omega
        clear FC P11 F11 S11 HP10 HG10 HV10 HFC HPS
        go_wp2
        go_loopw [11, 62] (fun _ ix wr => ∃ k : Nat, k ≤ n1 + 80 ∧ ix = .int .i64 k ∧ Hid (Row .u8 wr Q (n1 + 80) (g2F Tx n1 k mk)) ∧ Hid (w11.grownBy wr (some Q))) (fun _ i _ => n1 + 80 - (intOf i).toNat)
        case atStart => exact ⟨0, Nat.zero_le _, rfl, HV11, grown_refl _ _⟩
        case round =>
          clear HV11
          obtain ⟨kk, hk, rfl, hV, hGr⟩ := hrel
          by_cases hlt : kk < n1 + 80
          · have z0 := hV.out.free kk hlt
            have hgb := get_bt Tx
            by_cases hkn : kk < n1
            · have d0 : wr.cell? ⟨Q, kk, none⟩ = some (.int .u8 (bt Tx kk)) := by rw [hV.out.cell kk hlt]; unfold g2F; rw [if_neg (Nat.lt_irrefl _), if_pos hkn]
              have e1 : decide (kk < n1) = true := by simpa using hkn
              have e2 : decide (n1 ≤ kk) = false := by simp; omega
              have e3 : decide ((kk : Int) < (n1 : Int)) = true := by simpa using hkn
              have e4 : decide ((n1 : Int) ≤ (kk : Int)) = false := by simp; omega
              have i1 : (kk : Int) < (n1 : Int) := by omega
              have i2 : (kk : Int) < (n1 : Int) + 80 := by omega
              have i3 : (0 : Int) ≤ (kk : Int) := by omega
              go_wp2
              go_quiet (fail)
              have V9 : Hid (Row .u8 (wr.drewN nq) Q (n1 + 80) (g2F Tx n1 kk mk)) := hV.out.drewN _
              have G9 : Hid (w11.grownBy (wr.drewN nq) (some Q)) := ⟨hGr.out.os, hGr.out.tape, hGr.out.output, hGr.out.size, hGr.out.block⟩
              have d9 : (wr.drewN nq).cell? ⟨Q, kk, none⟩ = some (.int .u8 (bt Tx kk)) := d0
              have z9 : (wr.drewN nq).frozen? ⟨Q, kk, none⟩ = false := z0
              generalize wr.drewN nq = w12 at *
              go_wp2
              go_roundw
              case rel => exact ⟨kk + 1, by omega, by go_num, (V9.out.set kk mk hlt).congr (fun j _ => g2F_set Tx n1 kk mk j), grown_trans G9.out (grown_set _ _ _ _)⟩
              case measure => simp [intOf]; omega
            · have d0 : wr.cell? ⟨Q, kk, none⟩ = some (.int .u8 mk) := by rw [hV.out.cell kk hlt]; unfold g2F; rw [if_neg (Nat.lt_irrefl _), if_neg hkn]
              have e1 : decide (kk < n1) = false := by simpa using hkn
              have e2 : decide (n1 ≤ kk) = true := by simp; omega
              have e3 : decide ((kk : Int) < (n1 : Int)) = false := by simp; omega
              have e4 : decide ((n1 : Int) ≤ (kk : Int)) = true := by simp; omega
              have i1 : (n1 : Int) ≤ (kk : Int) := by omega
              have i2 : (kk : Int) < (n1 : Int) + 80 := by omega
              have i3 : (0 : Int) ≤ (kk : Int) := by omega
              go_wp2
              go_quiet (fail)
              have V9 : Hid (Row .u8 (wr.drewN nq) Q (n1 + 80) (g2F Tx n1 kk mk)) := hV.out.drewN _
              have G9 : Hid (w11.grownBy (wr.drewN nq) (some Q)) := ⟨hGr.out.os, hGr.out.tape, hGr.out.output, hGr.out.size, hGr.out.block⟩
              have d9 : (wr.drewN nq).cell? ⟨Q, kk, none⟩ = some (.int .u8 mk) := d0
              have z9 : (wr.drewN nq).frozen? ⟨Q, kk, none⟩ = false := z0
              generalize wr.drewN nq = w12 at *
              go_wp2
              go_roundw
              case rel => exact ⟨kk + 1, by omega, by go_num, (V9.out.set kk mk hlt).congr (fun j _ => g2F_set Tx n1 kk mk j), grown_trans G9.out (grown_set _ _ _ _)⟩
              case measure => simp [intOf]; omega
          · obtain rfl : kk = n1 + 80 := by omega
            have hs12 : w11.heap.size ≤ wr.heap.size := hGr.out.size
            have HP12 : Hid (PW wr g (g + 1) (arcS true T) fp) := HP11.out.same hs12 (hGr.out.block g hs11 (fun e => by cases e; omega)) (fun q hq => hGr.out.block q (HP11.out.lt.2.2 q hq).2 (fun e => by cases e; have := (HP11.out.lt.2.2 _ hq).1; omega))
            have HG12 : Hid (St wr G [Value.int IntKind.i64 k, Value.bool e, Value.string t, Value.slice x n c] ∧ Below G w wr) := ⟨HG11.out.1.same hs12 (hGr.out.block _ HG11.out.1.lt (fun e => by cases e; omega)), HG11.out.2.trans (grown_below hGr.out (by omega) (by omega))⟩
            have hs13 : g < wr.heap.size := by omega
            clear hV hGr HP11 HG11 hs12
            have CL := close_a1 g T fp wr HP12.out HLN.out
            have hfp := HP12.out.lt.2.2
            have HFP : Hid (∀ b ∈ fp, g < b ∧ b < wr.heap.size) := fun b hb => ⟨by have := (hfp b hb).1; omega, (hfp b hb).2⟩
            clear hfp
            go_wp2_with fail
            refine CL.mono ?_
            rintro e13 w13 ⟨⟨xa, na, ca, fa, rfl, TA, NA⟩, P13, F13⟩
            clear CL
            have hFs := F13.size
            have HG13 : Hid (St w13 G [Value.int IntKind.i64 k, Value.bool e, Value.string t, Value.slice x n c] ∧ Below G w w13) := ⟨HG12.out.1.same hFs (F13.keep _ HG12.out.1.lt (by omega) (fun h => by have := (HFP.out _ h).1; omega)), HG12.out.2.trans (F13.below (by omega) (by omega) (fun b hb => by have := (HFP.out b hb).1; omega))⟩
            obtain ⟨s1, s2, bb, zz⟩ := two_new w13 T (.slice xa na ca) 0 0
            have HA14 : Hid (St ((w13.alloc (.cells #[.int .i64 T.k, .bool T.e, .string T.t, .slice xa na ca] 25)).alloc (.cells #[.int .i64 0, .int .i64 0] 34)) w13.heap.size [.int .i64 T.k, .bool T.e, .string T.t, .slice xa na ca] ∧ TrV ((w13.alloc (.cells #[.int .i64 T.k, .bool T.e, .string T.t, .slice xa na ca] 25)).alloc (.cells #[.int .i64 0, .int .i64 0] 34)) wr.heap.size T (.slice xa na ca) fa ∧ PW ((w13.alloc (.cells #[.int .i64 T.k, .bool T.e, .string T.t, .slice xa na ca] 25)).alloc (.cells #[.int .i64 0, .int .i64 0] 34)) g (g + 1) (arcS true T).fin fp ∧ St ((w13.alloc (.cells #[.int .i64 T.k, .bool T.e, .string T.t, .slice xa na ca] 25)).alloc (.cells #[.int .i64 0, .int .i64 0] 34)) G [Value.int IntKind.i64 k, Value.bool e, Value.string t, Value.slice x n c] ∧ Below G w ((w13.alloc (.cells #[.int .i64 T.k, .bool T.e, .string T.t, .slice xa na ca] 25)).alloc (.cells #[.int .i64 0, .int .i64 0] 34)) ∧ (∀ b ∈ fa, wr.heap.size ≤ b ∧ b < w13.heap.size)) :=
              ⟨s1, TrV.same _ _ _ TA (fun b hb => bb.block b (TrV.lt _ _ _ TA b hb).2), P13.below bb, HG13.out.1.same bb.size (bb.block _ HG13.out.1.lt), HG13.out.2.trans (bb.mono (by have := HG13.out.1.lt; omega)), TrV.lt _ _ _ TA⟩
            clear s1 s2 bb TA P13 F13 HG13 HP12 HG12
            go_upto_region 27 with fail
            obtain ⟨Aa, hAa⟩ : ∃ A, w13.heap.size = A := ⟨_, rfl⟩
            obtain ⟨Br, hBr⟩ : ∃ B, wr.heap.size = B := ⟨_, rfl⟩
            rw [hAa] at HA14 zz hFs ⊢
            rw [hBr] at HA14 HFP hs13 hFs
            clear hAa hBr
            generalize (w13.alloc (.cells #[.int .i64 T.k, .bool T.e, .string T.t, .slice xa na ca] 25)).alloc (.cells #[.int .i64 0, .int .i64 0] 34) = w14 at *
            have CL2 := close_a2 g T fp w14 HA14.out.2.2.1 HLN.out
            have HZ14 : Hid (w14.heap.size = Aa + 2) := zz
            clear zz
            go_wp2_with fail
            refine CL2.mono ?_
            rintro e15 w15 ⟨⟨xb, nb, cb, fb, rfl, TB, NB2⟩, P15, F15⟩
            clear CL2 P15
            have hFs2 := F15.size
            have hz14 := HZ14.out
            have HA15 : Hid (St w15 Aa [.int .i64 T.k, .bool T.e, .string T.t, .slice xa na ca] ∧ TrV w15 Br T (.slice xa na ca) fa ∧ St w15 G [Value.int IntKind.i64 k, Value.bool e, Value.string t, Value.slice x n c] ∧ Below G w w15 ∧ TrV w15 w14.heap.size T (.slice xb nb cb) fb) := by
              obtain ⟨q1, q2, q3, q4, q5, q6⟩ := HA14.out
              refine ⟨q1.same hFs2 (F15.keep _ q1.lt (by omega) (fun h => by have := (HFP.out _ h).2; omega)), TrV.same _ _ _ q2 (fun b hb => F15.keep b (by have := (q6 b hb).2; omega) (by have := (q6 b hb).1; omega) (fun h => by have := (HFP.out _ h).2; have := (q6 b hb).1; omega)), q4.same hFs2 (F15.keep _ q4.lt (by omega) (fun h => by have := (HFP.out _ h).1; omega)), q5.trans (F15.below (by have := q4.lt; omega) (by omega) (fun b hb => by have := (HFP.out b hb).1; omega)), TB⟩
            have HFA : Hid (∀ b ∈ fa, Br ≤ b ∧ b < Aa) := HA14.out.2.2.2.2.2
            clear TB F15 HA14
            obtain ⟨s1, s2, bb, zz⟩ := two_new w15 T (.slice xb nb cb) 0 0
            have HA16 : Hid (St ((w15.alloc (.cells #[.int .i64 T.k, .bool T.e, .string T.t, .slice xb nb cb] 25)).alloc (.cells #[.int .i64 0, .int .i64 0] 34)) Aa [.int .i64 T.k, .bool T.e, .string T.t, .slice xa na ca] ∧ St ((w15.alloc (.cells #[.int .i64 T.k, .bool T.e, .string T.t, .slice xb nb cb] 25)).alloc (.cells #[.int .i64 0, .int .i64 0] 34)) w15.heap.size [.int .i64 T.k, .bool T.e, .string T.t, .slice xb nb cb] ∧ St ((w15.alloc (.cells #[.int .i64 T.k, .bool T.e, .string T.t, .slice xb nb cb] 25)).alloc (.cells #[.int .i64 0, .int .i64 0] 34)) G [Value.int IntKind.i64 k, Value.bool e, Value.string t, Value.slice x n c] ∧ TrV ((w15.alloc (.cells #[.int .i64 T.k, .bool T.e, .string T.t, .slice xb nb cb] 25)).alloc (.cells #[.int .i64 0, .int .i64 0] 34)) Br T (.slice xa na ca) fa ∧ TrV ((w15.alloc (.cells #[.int .i64 T.k, .bool T.e, .string T.t, .slice xb nb cb] 25)).alloc (.cells #[.int .i64 0, .int .i64 0] 34)) w14.heap.size T (.slice xb nb cb) fb ∧ Below G w ((w15.alloc (.cells #[.int .i64 T.k, .bool T.e, .string T.t, .slice xb nb cb] 25)).alloc (.cells #[.int .i64 0, .int .i64 0] 34)) ∧ (∀ b ∈ fb, w14.heap.size ≤ b ∧ b < w15.heap.size)) := by
              obtain ⟨q1, q2, q3, q4, q5⟩ := HA15.out
              exact ⟨q1.same bb.size (bb.block _ q1.lt), s1, q3.same bb.size (bb.block _ q3.lt), TrV.same _ _ _ q2 (fun b hb => bb.block b (TrV.lt _ _ _ q2 b hb).2), TrV.same _ _ _ q5 (fun b hb => bb.block b (TrV.lt _ _ _ q5 b hb).2), q4.trans (bb.mono (by have := q3.lt; omega)), TrV.lt _ _ _ q5⟩
            clear s1 s2 bb HA15
            go_upto_region 28 with fail
            obtain ⟨Bb, hBb⟩ : ∃ A, w15.heap.size = A := ⟨_, rfl⟩
            have hAB : Aa + 2 ≤ Bb := by omega
            rw [hBb] at HA16 zz ⊢
            rw [hz14] at HA16
            clear hBb hFs2 hz14 HZ14
            generalize (w15.alloc (.cells #[.int .i64 T.k, .bool T.e, .string T.t, .slice xb nb cb] 25)).alloc (.cells #[.int .i64 0, .int .i64 0] 34) = w16 at *
            obtain ⟨q1, q2, q3, q4, q5, q6, q7⟩ := HA16.out
            obtain ⟨MA, hMA⟩ := TrV.at _ _ _ q4 HLN.out
            have HAN := HH.out.1.below (by rw [HGe.out]; exact q6)
            have CE := requal_any (max MA m) _ _ T T w16 (hMA.upto (Nat.le_max_left _ _)) (HAN.upto (Nat.le_max_right _ _))
            clear hMA HAN
            have a0 := q1.get 0 _ rfl
            have a1 := q1.get 1 _ rfl
            have a2 := q1.get 2 _ rfl
            have a3 := q1.get 3 _ rfl
            have v0 := q3.get 0 _ rfl
            have v1 := q3.get 1 _ rfl
            have v2 := q3.get 2 _ rfl
            have v3 := q3.get 3 _ rfl
            clear q1 q2 q3 q4 q5 q6 q7
            go_wp2_with fail
            refine CE.mono ?_
            rintro e17 w17 ⟨⟨rb, rfl, hrb⟩, b17⟩
            have hrbt : rb = true := by simpa using hrb
            subst hrbt
            clear CE hrb a0 a1 a2 a3 v0 v1 v2 v3
            have HA17 : Hid (St w17 Aa [.int .i64 T.k, .bool T.e, .string T.t, .slice xa na ca] ∧ St w17 Bb [.int .i64 T.k, .bool T.e, .string T.t, .slice xb nb cb] ∧ St w17 G [Value.int IntKind.i64 k, Value.bool e, Value.string t, Value.slice x n c] ∧ TrV w17 Br T (.slice xa na ca) fa ∧ TrV w17 (Aa + 2) T (.slice xb nb cb) fb ∧ Below G w w17 ∧ w16.heap.size ≤ w17.heap.size) := by
              obtain ⟨q1, q2, q3, q4, q5, q6, q7⟩ := HA16.out
              exact ⟨q1.same b17.size (b17.block _ q1.lt), q2.same b17.size (b17.block _ q2.lt), q3.same b17.size (b17.block _ q3.lt), q4.belowK b17, q5.belowK b17, q6.trans (b17.mono (by have := q3.lt; omega)), b17.size⟩
            have HFB : Hid (∀ b ∈ fb, Aa + 2 ≤ b ∧ b < Bb) := HA16.out.2.2.2.2.2.2
            clear HA16 b17
            obtain ⟨q1, q2, q3, q4, q5, q6, q7⟩ := HA17.out
            obtain ⟨MB, hMB⟩ := TrV.at _ _ _ q5 HLN.out
            have HAN := HH.out.1.below (by rw [HGe.out]; exact q6)
            have hna : na = n := by
              obtain ⟨MA, hMA⟩ := TrV.at _ _ _ q4 HLN.out
              rw [← at_len hMA, ← at_len HH.out.1]
            have CE := requal_any (max MB m) _ _ T T w17 (hMB.upto (Nat.le_max_left _ _)) (HAN.upto (Nat.le_max_right _ _))
            clear hMB HAN
            have a0 := q2.get 0 _ rfl
            have a1 := q2.get 1 _ rfl
            have a2 := q2.get 2 _ rfl
            have a3 := q2.get 3 _ rfl
            have v0 := q3.get 0 _ rfl
            have v1 := q3.get 1 _ rfl
            have v2 := q3.get 2 _ rfl
            have v3 := q3.get 3 _ rfl
            subst hna
            clear q1 q2 q3 q4 q5 q6 q7
            go_wp2_with fail
            refine CE.mono ?_
            rintro e18 w18 ⟨⟨rb, rfl, hrb⟩, b18⟩
            have hrbt : rb = true := by simpa using hrb
            subst hrbt
            clear CE hrb a0 a1 a2 a3 v0 v1 v2 v3
            have HA18 : Hid (St w18 Aa [.int .i64 T.k, .bool T.e, .string T.t, .slice xa na ca] ∧ St w18 Bb [.int .i64 T.k, .bool T.e, .string T.t, .slice xb nb cb] ∧ St w18 G [Value.int IntKind.i64 k, Value.bool e, Value.string t, Value.slice x na c] ∧ TrV w18 (Aa + 2) T (.slice xb nb cb) fb ∧ Below G w w18) := by
              obtain ⟨q1, q2, q3, q4, q5, q6, q7⟩ := HA17.out
              exact ⟨q1.same b18.size (b18.block _ q1.lt), q2.same b18.size (b18.block _ q2.lt), q3.same b18.size (b18.block _ q3.lt), q5.belowK b18, q6.trans (b18.mono (by have := q3.lt; omega))⟩
            have HOW : Hid ((∃ xs, w18.ownsRow Br 59 5 (.slice xa na ca) na xs) ∧ (∀ q, Value.ownBlock (.slice xa na ca) = some q → Br ≤ q ∧ q < Aa)) := by
              have q4 := HA17.out.2.2.2.1.belowK b18
              obtain ⟨h1, h2⟩ := q4.ownK
              have hl : T.nms.length = na := at_len HH.out.1
              rw [hl] at h1
              exact ⟨h1, fun q hq => HFA.out q (h2 q hq)⟩
            have hnl : na ≤ 1073741824 := by
              have h := HLN.out
              have hl : T.nms.length = na := at_len HH.out.1
              obtain ⟨_, _, _, nms, ks⟩ := T
              rw [lnT] at h
              have : nms.length = na := hl
              omega
            clear HA17 b18
            have a3 := HA18.out.1.get 3 _ rfl
            go_wp2
            clear a3
            go_loopw [16, 121] (fun _ ix wr => ∃ k : Nat, k ≤ na ∧ ix = .int .i64 k ∧ (∃ xs, Hid (wr.ownsRow Br 59 5 (.slice xa na ca) na xs)) ∧ Hid (w18.grownBy wr (Value.ownBlock (.slice xa na ca)))) (fun _ i _ => na - (intOf i).toNat)
            case atStart =>
              obtain ⟨xs, hxs⟩ := HOW.out.1
              exact ⟨0, Nat.zero_le _, rfl, ⟨xs, hxs⟩, grown_refl _ _⟩
            case round =>
              obtain ⟨kk, hk, rfl, ⟨xs, hX⟩, hGr⟩ := hrel
              have hAo : ∀ q, Value.ownBlock (.slice xa na ca) = some q → Aa ≠ q ∧ Bb ≠ q ∧ G ≠ q := fun q hq => by
                have := HOW.out.2 q hq
                omega
              have hA19 : Hid (St wr Aa [.int .i64 T.k, .bool T.e, .string T.t, .slice xa na ca]) := HA18.out.1.same hGr.out.size (hGr.out.block _ HA18.out.1.lt (fun e => (hAo _ e.symm).1 rfl))
              by_cases hlt : kk < na
              · obtain ⟨ga, rfl⟩ := own_some hX.out (by omega)
                have a3 := hA19.out.get 3 _ rfl
                have hka := HOW.out.2 ga rfl
                obtain ⟨⟨x0, c0⟩, f0, -, hgl⟩ := own_cell hX.out (kk * 5) (by omega)
                obtain ⟨⟨x1, c1⟩, f1, -, -⟩ := own_cell hX.out (kk * 5 + 1) (by omega)
                obtain ⟨⟨x2, c2⟩, f2, -, -⟩ := own_cell hX.out (kk * 5 + 2) (by omega)
                obtain ⟨⟨x3, c3⟩, f3, -, -⟩ := own_cell hX.out (kk * 5 + 3) (by omega)
                obtain ⟨⟨x4, c4⟩, f4, -, -⟩ := own_cell hX.out (kk * 5 + 4) (by omega)
                have HO := own_over (i := kk) (.string ⟨#[115, 112, 111, 105, 108, 116]⟩) (.int .i64 0) (.bool false) (.string ⟨#[]⟩) (.slice none 0 0) hX.out
                have HG' : Hid (wr.grownBy (wr.setCells ga (kk * 5) [.string ⟨#[115, 112, 111, 105, 108, 116]⟩, .int .i64 0, .bool false, .string ⟨#[]⟩, .slice none 0 0]) (some ga)) := grown_trans (grown_set _ _ _ _) (grown_trans (grown_set _ _ _ _) (grown_trans (grown_set _ _ _ _) (grown_trans (grown_set _ _ _ _) (grown_set _ _ _ _))))
                obtain ⟨xs', hxs'⟩ := HO
                have HX' : Hid ((wr.setCells ga (kk * 5) [.string ⟨#[115, 112, 111, 105, 108, 116]⟩, .int .i64 0, .bool false, .string ⟨#[]⟩, .slice none 0 0]).ownsRow Br 59 5 (.slice (some ⟨ga, 0, none⟩) na ca) na xs') := hxs'
                clear hxs' hX hAo
                go_wp2
                exact ⟨⟨kk + 1, by omega, by go_num, ⟨xs', HX'⟩, grown_trans hGr.out HG'.out⟩, by simp [intOf]; omega⟩
              · obtain rfl : kk = na := by omega
                have hB20 : Hid (St wr Bb [.int .i64 T.k, .bool T.e, .string T.t, .slice xb nb cb]) := HA18.out.2.1.same hGr.out.size (hGr.out.block _ HA18.out.2.1.lt (fun e => (hAo _ e.symm).2.1 rfl))
                have hG20 : Hid (St wr G [Value.int IntKind.i64 k, Value.bool e, Value.string t, Value.slice x kk c]) := HA18.out.2.2.1.same hGr.out.size (hGr.out.block _ HA18.out.2.2.1.lt (fun e => (hAo _ e.symm).2.2 rfl))
                have hT20 : Hid (TrV wr (Aa + 2) T (.slice xb nb cb) fb) := TrV.same _ _ _ HA18.out.2.2.2.1 (fun b hb => hGr.out.block b (TrV.lt _ _ _ HA18.out.2.2.2.1 b hb).2 (fun e => by have := HOW.out.2 b e.symm; have := HFB.out b hb; omega))
                have hW20 : Hid (Below G w wr) := HA18.out.2.2.2.2.trans ⟨hGr.out.os, hGr.out.tape, hGr.out.output, hGr.out.size, fun b hb => hGr.out.block b (by have := HA18.out.2.2.1.lt; omega) (fun e => by have := HOW.out.2 b e.symm; omega)⟩
                obtain ⟨gz, cz, w21, hap, hg21⟩ := app_two wr Br xa kk ca xs ⟨#[120]⟩ ⟨#[121]⟩ hX.out (by omega) (by have := hA19.out.lt; omega)
                have HAP : Hid _ := hap
                have bK : Below wr.heap.size wr (wr.alloc (.cells #[.string ⟨#[120]⟩, .int .i64 0, .bool false, .string ⟨#[]⟩, .slice none 0 0, .string ⟨#[121]⟩, .int .i64 0, .bool false, .string ⟨#[]⟩, .slice none 0 0] 59)) := (Below.refl _ _).alloc (Nat.le_refl _) _
                have hz21 : wr.heap.size ≤ w21.heap.size := Nat.le_trans bK.size hg21.size
                have kp : ∀ b, b < wr.heap.size → (∀ q, Value.ownBlock (.slice xa kk ca) = some q → b ≠ q) → w21.heap[b]? = wr.heap[b]? := fun b hb hq => (hg21.block b (Nat.lt_of_lt_of_le hb bK.size) (fun e => hq b e.symm rfl)).trans (bK.block b hb)
                have hA21 : Hid (St w21 Aa [.int .i64 T.k, .bool T.e, .string T.t, .slice xa kk ca]) := hA19.out.same hz21 (kp _ hA19.out.lt (fun q h => (hAo q h).1))
                have hB21 : Hid (St w21 Bb [.int .i64 T.k, .bool T.e, .string T.t, .slice xb nb cb]) := hB20.out.same hz21 (kp _ hB20.out.lt (fun q h => (hAo q h).2.1))
                have hG21 : Hid (St w21 G [Value.int IntKind.i64 k, Value.bool e, Value.string t, Value.slice x kk c]) := hG20.out.same hz21 (kp _ hG20.out.lt (fun q h => (hAo q h).2.2))
                have hT21 : Hid (TrV w21 (Aa + 2) T (.slice xb nb cb) fb) := TrV.same _ _ _ hT20.out (fun b hb => kp b (TrV.lt _ _ _ hT20.out b hb).2 (fun q h => by have := HOW.out.2 q h; have := HFB.out b hb; omega))
                have hW21 : Hid (Below G w w21) := hW20.out.trans ⟨hg21.os.trans bK.os, hg21.tape.trans bK.tape, hg21.output.trans bK.output, hz21, fun b hb => kp b (by have := hG20.out.lt; omega) (fun q h => by have := HOW.out.2 q h; omega)⟩
                have a3 := hA19.out.get 3 _ rfl
                clear hap hB20 hG20 hT20 hW20 kp bK hg21
                have a3' := hA21.out.get 3 _ rfl
                have f3' := hA21.out.fr 3 (by show 3 < 4; decide)
                have lt3 := hA21.out.lt
                have SW := hA21.out.set 3 (.slice (some ⟨gz, 0, none⟩) (kk + 2) cz) (by show 3 < 4; decide)
                have ee : ∀ b, b ≠ Aa → (w21.setCell ⟨Aa, 3, none⟩ (.slice (some ⟨gz, 0, none⟩) (kk + 2) cz)).heap[b]? = w21.heap[b]? := fun b hb => Below.heap_setCell _ _ _ b hb
                have hs22 : w21.heap.size ≤ (w21.setCell ⟨Aa, 3, none⟩ (.slice (some ⟨gz, 0, none⟩) (kk + 2) cz)).heap.size := by rw [World.size_setCell]; exact Nat.le_refl _
                have H22 : Hid (St (w21.setCell ⟨Aa, 3, none⟩ (.slice (some ⟨gz, 0, none⟩) (kk + 2) cz)) Aa [.int .i64 T.k, .bool T.e, .string T.t, .slice (some ⟨gz, 0, none⟩) (kk + 2) cz] ∧ St (w21.setCell ⟨Aa, 3, none⟩ (.slice (some ⟨gz, 0, none⟩) (kk + 2) cz)) Bb [.int .i64 T.k, .bool T.e, .string T.t, .slice xb nb cb] ∧ St (w21.setCell ⟨Aa, 3, none⟩ (.slice (some ⟨gz, 0, none⟩) (kk + 2) cz)) G [Value.int IntKind.i64 k, Value.bool e, Value.string t, Value.slice x kk c] ∧ TrV (w21.setCell ⟨Aa, 3, none⟩ (.slice (some ⟨gz, 0, none⟩) (kk + 2) cz)) (Aa + 2) T (.slice xb nb cb) fb ∧ Below G w (w21.setCell ⟨Aa, 3, none⟩ (.slice (some ⟨gz, 0, none⟩) (kk + 2) cz))) :=
                  ⟨SW, hB21.out.same hs22 (ee _ (by omega)), hG21.out.same hs22 (ee _ (by omega)), TrV.same _ _ _ hT21.out (fun b hb => ee b (by have := HFB.out b hb; omega)), hW21.out.setCell (p := ⟨Aa, 3, none⟩) (by show G ≤ Aa; omega) _⟩
                clear SW ee hs22 hA21 hB21 hG21 hT21 hW21
                go_upto_region 36 with (at_builtin; refine Lib.wpList_append_run _ rfl _ _ _ _ rfl _ _ rfl rfl _ _ HAP.out ?_)
                generalize w21.setCell ⟨Aa, 3, none⟩ (.slice (some ⟨gz, 0, none⟩) (kk + 2) cz) = w22 at H22 ⊢
                clear a3 a3' f3' lt3 HAP
                obtain ⟨q1, q2, q3, q4, q5⟩ := H22.out
                obtain ⟨MB, hMB⟩ := TrV.at _ _ _ q4 HLN.out
                have HAN := HH.out.1.below (by rw [HGe.out]; exact q5)
                have CE := requal_any (max MB m) _ _ T T w22 (hMB.upto (Nat.le_max_left _ _)) (HAN.upto (Nat.le_max_right _ _))
                clear hMB HAN
                have a0 := q2.get 0 _ rfl
                have a1 := q2.get 1 _ rfl
                have a2 := q2.get 2 _ rfl
                have a3 := q2.get 3 _ rfl
                have v0 := q3.get 0 _ rfl
                have v1 := q3.get 1 _ rfl
                have v2 := q3.get 2 _ rfl
                have v3 := q3.get 3 _ rfl
                clear q1 q2 q3 q4 q5
                go_wp2_with fail
                refine CE.mono ?_
                rintro e23 w23 ⟨⟨rb, rfl, hrb⟩, b23⟩
                have hrbt : rb = true := by simpa using hrb
                subst hrbt
                clear CE hrb a0 a1 a2 a3 v0 v1 v2 v3
                obtain ⟨q1, q2, q3, q4, q5⟩ := H22.out
                have a3 := (q1.same b23.size (b23.block _ q1.lt)).get 3 _ rfl
                have v3 := (q3.same b23.size (b23.block _ q3.lt)).get 3 _ rfl
                have HFin : Hid (Below G w w23) := q5.trans (b23.mono (by have := q3.lt; omega))
                clear q1 q2 q3 q4 q5 b23
                have hkI : ((kk : Int) + 2 == (kk : Int) + 2) = true := by simp
                go_wp2_with fail
                go_ret
                exact ⟨rfl, by rw [HGe.out]; exact HFin.out⟩
  · have hcb : (C != 0) = true := by simpa using hc
    go_wp2_with fail
    go_ret
    exact ⟨rfl, by rw [HGe.out]; exact HG6.out.2⟩

end Go.Proofs.Ytpbgmknebhnonab.Nk
