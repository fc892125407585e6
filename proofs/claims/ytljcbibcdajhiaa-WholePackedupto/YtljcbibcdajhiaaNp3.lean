/- NpF NpG NpH NpI, joined (own text of the verifier). -/
import Derived.Test.YtljcbibcdajhiaaNp2
import Derived.Test.YtljcbibcdajhiaaNa6
import Derived.Test.YtljcbibcdajhiaaNa5
import Derived.Test.YtljcbibcdajhiaaNa8
namespace Go.Proofs.Ytljcbibcdajhiaa
open Go.RowKit

theorem behind_any (a : Int) (h0 : 0 ≤ a) (h1 : a ≤ 17) (s : ByteArray) (w : World) : Calls Try.prog 66 #[.int .i64 a, .string s] w fun e w' => e = .returned (.tuple #[.int .i64 (bhP a s).1, .bool (bhP a s).2]) ∧ w' = w := by
  have h : a = 0 ∨ a = 1 ∨ a = 2 ∨ a = 3 ∨ a = 4 ∨ a = 5 ∨ a = 6 ∨ a = 7 ∨ a = 8 ∨ a = 9 ∨ a = 10 ∨ a = 11 ∨ a = 12 ∨ a = 13 ∨ a = 14 ∨ a = 15 ∨ a = 16 ∨ a = 17 := by omega
  rcases h with rfl | rfl | rfl | rfl | rfl | rfl | rfl | rfl | rfl | rfl | rfl | rfl | rfl | rfl | rfl | rfl | rfl | rfl
  · exact behind0 s w
  · exact behind1 s w
  · exact behind2 s w
  · exact behind3 s w
  · exact behind4 s w
  · exact behind5 s w
  · exact behind6 s w
  · exact behind7 s w
  · exact behind8 s w
  · exact behind9 s w
  · exact behind10 s w
  · exact behind11 s w
  · exact behind12 s w
  · exact behind13 s w
  · exact behind14 s w
  · exact behind15 s w
  · exact behind16 s w
  · exact behind17 s w
end Go.Proofs.Ytljcbibcdajhiaa

namespace Go.Proofs.Ytljcbibcdajhiaa
open Go.RowKit

/-- What holds of a parser's stack: n bounds the lists of kids. -/
structure CI (c : PC) (n : Nat) : Prop where
  n0 : 0 ≤ c.next
  n1 : c.next ≤ 17
  ne : c.next ≠ 0 → c.next ≠ 1 → c.next ≠ 17 → c.op ≠ []
  dp : c.op.length ≤ 32
  ln : ∀ o ∈ c.op, o.nms.length ≤ n ∧ o.ks.length = o.nms.length

theorem PW.cells {w : World} {g B : Nat} {p : PS} {fp : List Nat} (h : PW w g B p fp) : w.cell? ⟨g, 0, none⟩ = some (.int .i64 (p.taken : Int)) ∧ w.cell? ⟨g, 1, none⟩ = some (.int .i64 (p.held : Int)) ∧ w.cell? ⟨g, 2, none⟩ = some (.int .i64 p.code) ∧ w.cell? ⟨g, 3, none⟩ = some (.int .i64 p.fat) ∧ w.cell? ⟨g, 4, none⟩ = some (.bool p.part) ∧ w.cell? ⟨g, 5, none⟩ = some (.bool p.closed) ∧ w.cell? ⟨g, 6, none⟩ = some (.int .i64 p.c.next) ∧ w.cell? ⟨g, 7, none⟩ = some (.int .u64 (p.len : Int)) ∧ ∀ j, j < 14 → w.frozen? ⟨g, j, none⟩ = false := by
  obtain ⟨tv, ov, rv, cs, fo, fr, h, rfl⟩ := h
  exact ⟨h.st.get 0 _ rfl, h.st.get 1 _ rfl, h.st.get 2 _ rfl, h.st.get 3 _ rfl, h.st.get 4 _ rfl, h.st.get 5 _ rfl, h.st.get 6 _ rfl, h.st.get 7 _ rfl, fun j hj => h.st.fr j hj⟩
theorem PM.cell {w w' : World} {g B : Nat} {fp : List Nat} {p : PS} (h : PM w w' g B fp p) (j : Nat) (x : Value) (p' : PS) (hj : j < 14) (e : ∀ tv ov rv, (p.cells tv ov rv).set j x = p'.cells tv ov rv) (et : p'.text = p.text) (eo : p'.c.op = p.c.op) (er : p'.c.root = p.c.root) : PM w (w'.setCell ⟨g, j, none⟩ x) g B fp p' := by
  obtain ⟨fp', h1, h2, h3⟩ := h
  exact ⟨fp', h1.cell j x p' hj e et eo er, h2.set g j x (Or.inl rfl), h3⟩
theorem PM.next {w w' : World} {g B : Nat} {fp : List Nat} {p : PS} {c : PC} (h : PM w w' g B fp (p.sc c)) (n : Int) : PM w (w'.setCell ⟨g, 6, none⟩ (.int .i64 n)) g B fp (p.sc (c.to n)) :=
  h.cell 6 _ _ (by decide) (fun _ _ _ => rfl) rfl rfl rfl
theorem PM.cells {w w' : World} {g B : Nat} {fp : List Nat} {p : PS} (h : PM w w' g B fp p) : w'.cell? ⟨g, 6, none⟩ = some (.int .i64 p.c.next) ∧ w'.frozen? ⟨g, 6, none⟩ = false := by
  obtain ⟨fp', h1, h2, h3⟩ := h
  exact ⟨h1.cells.2.2.2.2.2.2.1, h1.cells.2.2.2.2.2.2.2.2 6 (by decide)⟩
theorem PM.refl {w : World} {g B : Nat} {fp : List Nat} {p : PS} (h : PW w g B p fp) : PM w w g B fp p := ⟨fp, h, Ff.refl _ _ _, fun _ hx => Or.inl hx⟩

theorem closen_any (g B : Nat) (p : PS) (fp : List Nat) (w : World) (H : PW w g B p fp) (I : CI p.c 1048576) (hne : p.c.op ≠ []) :
    Calls Try.prog 68 #[.pointer (some ⟨g, 0, none⟩)] w fun e w' => e = .returned (.int .i64 p.c.close.next) ∧ PM w w' g B fp (p.sc (p.c.close.to p.c.next)) := by
  match hop : p.c.op with
  | [] => exact absurd hop hne
  | [o] =>
    refine (closen_root g B p fp o w H hop).mono ?_
    rintro e w' ⟨rfl, h⟩
    refine ⟨?_, ?_⟩
    · unfold PC.close; rw [hop]
    · have e : p.c.close.to p.c.next = ⟨p.c.next, [], o.tr⟩ := by unfold PC.close PC.to; rw [hop]
      rw [e]; exact h
  | o :: h :: R =>
    have hd := I.dp
    rw [hop] at hd
    refine (closen_more g B p fp o h R w H hop (by simp at hd; omega) (I.ln h (by rw [hop]; simp)).1).mono ?_
    rintro e w' ⟨rfl, h1⟩
    refine ⟨?_, ?_⟩
    · unfold PC.close; rw [hop]
    · have e : p.c.close.to p.c.next = ⟨p.c.next, h.kid o.tr :: R, p.c.root⟩ := by unfold PC.close PC.to; rw [hop]
      rw [e]; exact h1

theorem bh_exec {a : Int} (h : (bhP a wExec).2 = true) : a = 4 := by
  by_cases h4 : a = 4
  · exact h4
  · exfalso
    have n1 : wExec ≠ wMagic := by decide +kernel
    have n2 : wExec ≠ wNode := by decide +kernel
    have n3 : wExec ≠ wOpen := by decide +kernel
    have n4 : wExec ≠ wType := by decide +kernel
    have n5 : wExec ≠ wRegular := by decide +kernel
    have n6 : wExec ≠ wSymlink := by decide +kernel
    have n7 : wExec ≠ wDirectory := by decide +kernel
    have n8 : wExec ≠ wClose := by decide +kernel
    have n9 : wExec ≠ wNone := by decide +kernel
    have n10 : wExec ≠ wContents := by decide +kernel
    have n11 : wExec ≠ wTarget := by decide +kernel
    have n12 : wExec ≠ wEntry := by decide +kernel
    have n13 : wExec ≠ wName := by decide +kernel
    simp [bhP, h4, n1, n2, n3, n4, n5, n6, n7, n8, n9, n10, n11, n12, n13] at h
theorem bh_end {a : Int} {s : ByteArray} (h : (bhP a s).1 = 16) : a = 10 ∨ a = 11 := by
  by_cases h10 : a = 10
  · exact Or.inl h10
  by_cases h11 : a = 11
  · exact Or.inr h11
  exfalso
  have key : ∀ (c : Prop) [Decidable c] (x y : Int × Bool), x.1 ≠ 16 → y.1 ≠ 16 → (if c then x else y).1 ≠ 16 := fun c _ x y hx hy => by
    by_cases hc : c
    · rw [if_pos hc]; exact hx
    · rw [if_neg hc]; exact hy
  refine absurd h ?_
  unfold bhP
  refine key _ _ _ (by decide) ?_
  refine key _ _ _ (by decide) ?_
  refine key _ _ _ (by decide) ?_
  refine key _ _ _ (by decide) ?_
  refine key _ _ _ (by decide) ?_
  refine key _ _ _ (by decide) ?_
  refine key _ _ _ (by decide) ?_
  refine key _ _ _ (by decide) ?_
  refine key _ _ _ (by decide) ?_
  refine key _ _ _ (by decide) ?_
  refine key _ _ _ (by decide) ?_
  refine key _ _ _ (by decide) ?_
  refine key _ _ _ (by decide) ?_
  rw [if_neg (fun hc => h10 hc.1), if_neg (fun hc => h11 hc.1)]
  refine key _ _ _ (by decide) ?_
  refine key _ _ _ (by decide) ?_
  refine key _ _ _ (by decide) ?_
  decide
end Go.Proofs.Ytljcbibcdajhiaa

namespace Go.Proofs.Ytljcbibcdajhiaa
open Go.RowKit

theorem wpList_appN_is {w : World} {ops : Array Oper} {rest : List Oper} {o : Oper} {a : Act} {Q : Exit → Act → World → Prop} (hgd : o.guard = none) (s x : Operand) (t : TypeId)
    (ho : o.op = .call { callee := .builtin .append, args := #[s, x], argTypes := #[t, t] }) (v u v' : Value) (w' : World) (hs : a.eval s = v) (hx : a.eval x = u)
    (hr : (Builtin.append_ #[t, t] o.type #[v, u]).run Try.prog w = .ok v' w') (h : wpList Try.prog ops Q rest (a.put o.dst v') w') : wpList Try.prog ops Q (o :: rest) a w := by
  refine wpList_plain hgd fun K hK' => ?_
  unfold Oper.wp
  simp [execOp, ho, resolve, invoke, builtin, hs, hx, hr, Result.andThen]
  exact hK' _ _ h

set_option maxHeartbeats 2000000 in
set_option maxRecDepth 8000 in
theorem accf_bad (g B : Nat) (p : PS) (fp : List Nat) (s : ByteArray) (w : World) (H : PW w g B p fp) (I : CI p.c 1048576) (hb : (bhP p.c.next s).2 = false) :
    Calls Try.prog 62 #[.pointer (some ⟨g, 0, none⟩), .string s] w fun e w' => e = .returned (.int .i64 70) ∧ w' = w := by
  have c6 := H.cells.2.2.2.2.2.2.1
  have CB := behind_any p.c.next I.n0 I.n1 s w
  rw [hb] at CB
  generalize (bhP p.c.next s).1 = A at CB
  clear H I hb
  generalize p.c.next = n at *
  go_enter Try.func62, Try.ntmps62
  go_wp2_with fail
  refine CB.mono ?_
  rintro e1 w1 ⟨rfl, rfl⟩
  clear CB
  go_wp2
  go_ret
  exact ⟨rfl, rfl⟩

set_option maxHeartbeats 2000000 in
set_option maxRecDepth 8000 in
theorem accf_deep (g B : Nat) (p : PS) (fp : List Nat) (s : ByteArray) (w : World) (H : PW w g B p fp) (I : CI p.c 1048576) (hb : (bhP p.c.next s).2 = true) (hn : p.c.next = 1) (hd : p.c.op.length = 32) :
    Calls Try.prog 62 #[.pointer (some ⟨g, 0, none⟩), .string s] w fun e w' => e = .returned (.int .i64 61) ∧ w' = w := by
  have c6 := H.cells.2.2.2.2.2.2.1
  obtain ⟨-, -, -, -, -, x9, c9, e9⟩ := H.rootCells
  rw [hd] at e9
  have CB := behind_any p.c.next I.n0 I.n1 s w
  rw [hb] at CB
  generalize (bhP p.c.next s).1 = A at CB
  rw [hn] at CB c6
  clear H I hb hn hd
  go_enter Try.func62, Try.ntmps62
  go_wp2_with fail
  refine CB.mono ?_
  rintro e1 w1 ⟨rfl, rfl⟩
  clear CB
  go_wp2
  go_ret
  exact ⟨rfl, rfl⟩

set_option maxHeartbeats 4000000 in
set_option maxRecDepth 8000 in
theorem accf_open (g B : Nat) (p : PS) (fp : List Nat) (s : ByteArray) (w : World) (H : PW w g B p fp) (I : CI p.c 1048576) (hb : (bhP p.c.next s).2 = true) (hn : p.c.next = 1) (hd : p.c.op.length < 32) :
    Calls Try.prog 62 #[.pointer (some ⟨g, 0, none⟩), .string s] w fun e w' => e = .returned (.int .i64 0) ∧ PM w w' g B fp (p.sc ⟨(bhP p.c.next s).1, ON.new :: p.c.op, p.c.root⟩) := by
  have c6 := H.cells.2.2.2.2.2.2.1
  have f9 := H.cells.2.2.2.2.2.2.2.2 9 (by decide)
  have f6 := H.cells.2.2.2.2.2.2.2.2 6 (by decide)
  have CB := behind_any p.c.next I.n0 I.n1 s w
  rw [hb] at CB
  obtain ⟨xo, co, g2, cap2, w', e9, hap, hkg, hgl, HPM⟩ := H.push (by omega)
  have HM : Hid (PM w (w'.setCell ⟨g, 9, none⟩ (.slice (some ⟨g2, 0, none⟩) (p.c.op.length + 1) cap2)) g B fp (p.sc ⟨p.c.next, ON.new :: p.c.op, p.c.root⟩)) := HPM
  have e9' : w'.cell? ⟨g, 9, none⟩ = some (.slice xo p.c.op.length co) := (World.cell?_of_block (w := w) (a := ⟨g, 9, none⟩) hkg).trans e9
  have f9' : w'.frozen? ⟨g, 9, none⟩ = false := (World.frozen?_of_block (w := w) (a := ⟨g, 9, none⟩) hkg).trans f9
  have e6' : w'.cell? ⟨g, 6, none⟩ = some (.int .i64 p.c.next) := (World.cell?_of_block (w := w) (a := ⟨g, 6, none⟩) hkg).trans c6
  have f6' : w'.frozen? ⟨g, 6, none⟩ = false := (World.frozen?_of_block (w := w) (a := ⟨g, 6, none⟩) hkg).trans f6
  obtain ⟨A, hA⟩ : ∃ A, (bhP p.c.next s).1 = A := ⟨_, rfl⟩
  rw [hA] at CB ⊢
  rw [hn] at CB c6 e6'
  have hl : ((p.c.op.length : Int) == 32) = false := by simp; omega
  have hl2 : ¬ ((p.c.op.length : Int) = 32) := by omega
  clear H I hb hn hd hA HPM f9 f6 hkg
  obtain ⟨L, hL⟩ : ∃ L, p.c.op.length = L := ⟨_, rfl⟩
  rw [hL] at *
  clear hL
  go_enter Try.func62, Try.ntmps62
  go_wp2_with fail
  refine CB.mono ?_
  rintro e1 w1 ⟨rfl, rfl⟩
  clear CB
  go_wp2_with (first | (refine wpList_appN_is (by rfl) (.tmp 43) (.tmp 45) 103 (by rfl) _ _ _ _ (by rfl) (by rfl) hap ?_))
  go_ret
  exact ⟨rfl, HM.out.next A⟩
end Go.Proofs.Ytljcbibcdajhiaa

namespace Go.Proofs.Ytljcbibcdajhiaa
open Go.RowKit

theorem PC.last_eq {c : PC} {o : ON} {R : List ON} (h : c.op = o :: R) (f : ON → ON) : c.last f = ⟨c.next, f o :: R, c.root⟩ := by unfold PC.last; rw [h]

set_option maxHeartbeats 4000000 in
set_option maxRecDepth 8000 in
theorem accf_kind (g B : Nat) (p : PS) (fp : List Nat) (s : ByteArray) (o : ON) (R : List ON) (w : World) (H : PW w g B p fp) (I : CI p.c 1048576) (hb : (bhP p.c.next s).2 = true) (hn : p.c.next = 3) (ho : p.c.op = o :: R) :
    Calls Try.prog 62 #[.pointer (some ⟨g, 0, none⟩), .string s] w fun e w' => e = .returned (.int .i64 0) ∧ PM w w' g B fp (p.sc ((p.c.last (fun o => ⟨kdP s, o.e, o.t, o.nms, o.ks, o.en⟩)).to (bhP p.c.next s).1)) := by
  have c6 := H.cells.2.2.2.2.2.2.1
  have CB := behind_any p.c.next I.n0 I.n1 s w
  rw [hb] at CB
  have hd := I.dp
  rw [ho] at hd
  have hRl : R.length ≤ 31 := by simp at hd; omega
  obtain ⟨q, co, u, HT⟩ := H.top ho
  have HTT : Hid (Top w g B p fp o R q co u) := HT
  have HH : Hid (PW w g B p fp) := H
  have HO : Hid (p.c.op = o :: R) := ho
  obtain ⟨A, hA⟩ : ∃ A, (bhP p.c.next s).1 = A := ⟨_, rfl⟩
  rw [hA] at CB ⊢
  rw [hn] at CB c6
  have CL := last_zero g q R.length co w HT.c9 (by omega)
  clear H I hb ho hd hA HT
  go_enter Try.func62, Try.ntmps62
  go_wp2_with fail
  refine CB.mono ?_
  rintro e1 w1 ⟨rfl, rfl⟩
  clear CB
  go_wp2_with fail
  refine CL.mono ?_
  rintro e2 w2 ⟨rfl, qd, rfl⟩
  clear CL c6
  have H2 : Hid (PW (w1.drewN qd) g B p fp) := HH.out.drewN qd
  have T2 : Hid (Top (w1.drewN qd) g B p fp o R q co u) := HTT.out.drewN HH.out HO.out qd
  have F2 : Hid (Ff g fp w1 (w1.drewN qd)) := (Ff.refl _ _ _).drewN qd
  clear HH HTT
  generalize w1.drewN qd = w2 at *
  have c6 := H2.out.cells.2.2.2.2.2.2.1
  have f6 := H2.out.cells.2.2.2.2.2.2.2.2 6 (by decide)
  have hgq := T2.out.hq
  have hqg : q ≠ g := fun e => hgq e.symm
  have d0 : w2.cell? ⟨q, R.length * 5, none⟩ = some (.int .i64 o.k) := T2.out.c 0 (by decide)
  have e0 := T2.out.f (R.length * 5)
  have HPW : Hid (PW (w2.setCell ⟨q, R.length * 5, none⟩ (.int .i64 (kdP s))) g B (p.sc ⟨p.c.next, (⟨kdP s, o.e, o.t, o.nms, o.ks, o.en⟩ : ON) :: R, p.c.root⟩) fp) := T2.out.put 0 _ ⟨kdP s, o.e, o.t, o.nms, o.ks, o.en⟩ (by decide) (fun v => ⟨by decide, rfl⟩) rfl rfl
  have HFQ : Hid (Ff g fp w1 (w2.setCell ⟨q, R.length * 5, none⟩ (.int .i64 (kdP s)))) := F2.out.set q _ _ (Or.inr (Or.inl T2.out.qf))
  have CK := kindof_any s w2
  rw [hn] at c6
  go_wp2_with fail
  refine CK.mono ?_
  rintro e3 w3 ⟨rfl, rfl⟩
  clear CK
  go_wp2
  go_ret
  refine ⟨rfl, ?_⟩
  rw [PC.last_eq HO.out]
  exact (PM.of HPW.out HFQ.out (fun x hx => Or.inl hx)).next A

set_option maxHeartbeats 4000000 in
set_option maxRecDepth 8000 in
theorem accf_exec (g B : Nat) (p : PS) (fp : List Nat) (s : ByteArray) (o : ON) (R : List ON) (w : World) (H : PW w g B p fp) (I : CI p.c 1048576) (hb : (bhP p.c.next s).2 = true) (hn : p.c.next = 4) (hs : s = wExec) (ho : p.c.op = o :: R) :
    Calls Try.prog 62 #[.pointer (some ⟨g, 0, none⟩), .string s] w fun e w' => e = .returned (.int .i64 0) ∧ PM w w' g B fp (p.sc ((p.c.last (fun o => ⟨o.k, true, o.t, o.nms, o.ks, o.en⟩)).to (bhP p.c.next s).1)) := by
  have c6 := H.cells.2.2.2.2.2.2.1
  have CB := behind_any p.c.next I.n0 I.n1 s w
  rw [hb] at CB
  have hd := I.dp
  rw [ho] at hd
  have hRl : R.length ≤ 31 := by simp at hd; omega
  obtain ⟨q, co, u, HT⟩ := H.top ho
  have HTT : Hid (Top w g B p fp o R q co u) := HT
  have HH : Hid (PW w g B p fp) := H
  have HO : Hid (p.c.op = o :: R) := ho
  obtain ⟨A, hA⟩ : ∃ A, (bhP p.c.next s).1 = A := ⟨_, rfl⟩
  rw [hA] at CB ⊢
  rw [hn] at CB c6
  have hp : s.toList = [101, 120, 101, 99, 117, 116, 97, 98, 108, 101] := by subst hs; rw [Lib.toList_data]; rfl
  clear hs
  have CL := last_zero g q R.length co w HT.c9 (by omega)
  clear H I hb ho hd hA HT
  go_enter Try.func62, Try.ntmps62
  go_wp2_with fail
  refine CB.mono ?_
  rintro e1 w1 ⟨rfl, rfl⟩
  clear CB
  go_wp2_with fail
  refine CL.mono ?_
  rintro e2 w2 ⟨rfl, qd, rfl⟩
  clear CL c6
  have H2 : Hid (PW (w1.drewN qd) g B p fp) := HH.out.drewN qd
  have T2 : Hid (Top (w1.drewN qd) g B p fp o R q co u) := HTT.out.drewN HH.out HO.out qd
  have F2 : Hid (Ff g fp w1 (w1.drewN qd)) := (Ff.refl _ _ _).drewN qd
  clear HH HTT
  generalize w1.drewN qd = w2 at *
  have c6 := H2.out.cells.2.2.2.2.2.2.1
  have f6 := H2.out.cells.2.2.2.2.2.2.2.2 6 (by decide)
  have hgq := T2.out.hq
  have hqg : q ≠ g := fun e => hgq e.symm
  have d0 : w2.cell? ⟨q, R.length * 5 + 1, none⟩ = some (.bool o.e) := T2.out.c 1 (by decide)
  have e0 := T2.out.f (R.length * 5 + 1)
  have HPW : Hid (PW (w2.setCell ⟨q, R.length * 5 + 1, none⟩ (.bool true)) g B (p.sc ⟨p.c.next, (⟨o.k, true, o.t, o.nms, o.ks, o.en⟩ : ON) :: R, p.c.root⟩) fp) := T2.out.put 1 _ ⟨o.k, true, o.t, o.nms, o.ks, o.en⟩ (by decide) (fun v => ⟨by decide, rfl⟩) rfl rfl
  have HFQ : Hid (Ff g fp w1 (w2.setCell ⟨q, R.length * 5 + 1, none⟩ (.bool true))) := F2.out.set q _ _ (Or.inr (Or.inl T2.out.qf))
  rw [hn] at c6
  go_wp2
  go_ret
  refine ⟨rfl, ?_⟩
  rw [PC.last_eq HO.out]
  exact (PM.of HPW.out HFQ.out (fun x hx => Or.inl hx)).next A

set_option maxHeartbeats 4000000 in
set_option maxRecDepth 8000 in
theorem accf_end (g B : Nat) (p : PS) (fp : List Nat) (s : ByteArray) (w : World) (H : PW w g B p fp) (I : CI p.c 1048576) (hb : (bhP p.c.next s).2 = true) (hn : p.c.next = 10 ∨ p.c.next = 11) (hs : s ≠ wExec) (he : (bhP p.c.next s).1 = 16) (hne : p.c.op ≠ []) :
    Calls Try.prog 62 #[.pointer (some ⟨g, 0, none⟩), .string s] w fun e w' => e = .returned (.int .i64 0) ∧ PM w w' g B fp (p.sc p.c.close) := by
  have c6 := H.cells.2.2.2.2.2.2.1
  have CB := behind_any p.c.next I.n0 I.n1 s w
  rw [hb, he] at CB
  have CC := closen_any g B p fp w H I hne
  have n0 : (s.toList == [101, 120, 101, 99, 117, 116, 97, 98, 108, 101]) = false := beq_eq_false_iff_ne.2 fun h => hs (ByteArray.ext (Array.toList_inj.1 (by rw [← Lib.toList_data, h]; rfl)))
  have h1 : (p.c.next == 1) = false := by rcases hn with h | h <;> rw [h] <;> decide
  have h3 : (p.c.next == 3) = false := by rcases hn with h | h <;> rw [h] <;> decide
  have h1' : ¬ p.c.next = 1 := by omega
  have h3' : ¬ p.c.next = 3 := by omega
  obtain ⟨M, hM⟩ : ∃ M, p.c.close.next = M := ⟨_, rfl⟩
  have HMM : Hid (p.c.close.next = M) := hM
  rw [hM] at CC
  obtain ⟨X, hX⟩ : ∃ X, p.c.next = X := ⟨_, rfl⟩
  have HXX : Hid (p.c.next = X) := hX
  rw [hX] at CB c6 h1 h3 h1' h3'
  clear H I hb hs he hne hM hX hn
  go_enter Try.func62, Try.ntmps62
  go_wp2_with fail
  refine CB.mono ?_
  rintro e1 w1 ⟨rfl, rfl⟩
  clear CB
  go_wp2_with fail
  refine CC.mono ?_
  rintro e2 w2 ⟨rfl, hp2⟩
  clear CC c6
  have HP : Hid (PM w1 w2 g B fp (p.sc (p.c.close.to p.c.next))) := hp2
  obtain ⟨c6, f6⟩ := hp2.cells
  change w2.cell? ⟨g, 6, none⟩ = some (.int .i64 p.c.next) at c6
  rw [HXX.out] at c6
  clear hp2
  go_wp2
  go_ret
  refine ⟨rfl, ?_⟩
  have h9 := HP.out.next M
  have e9 : (p.c.close.to p.c.next).to M = p.c.close := by rw [← HMM.out]; rfl
  rw [e9] at h9
  exact h9

set_option maxHeartbeats 4000000 in
set_option maxRecDepth 8000 in
theorem accf_on (g B : Nat) (p : PS) (fp : List Nat) (s : ByteArray) (w : World) (H : PW w g B p fp) (I : CI p.c 1048576) (hb : (bhP p.c.next s).2 = true) (h1 : p.c.next ≠ 1) (h3 : p.c.next ≠ 3) (hs : s ≠ wExec) (he : (bhP p.c.next s).1 ≠ 16) :
    Calls Try.prog 62 #[.pointer (some ⟨g, 0, none⟩), .string s] w fun e w' => e = .returned (.int .i64 0) ∧ PM w w' g B fp (p.sc (p.c.to (bhP p.c.next s).1)) := by
  have c6 := H.cells.2.2.2.2.2.2.1
  have f6 := H.cells.2.2.2.2.2.2.2.2 6 (by decide)
  have CB := behind_any p.c.next I.n0 I.n1 s w
  rw [hb] at CB
  have n0 : (s.toList == [101, 120, 101, 99, 117, 116, 97, 98, 108, 101]) = false := beq_eq_false_iff_ne.2 fun h => hs (ByteArray.ext (Array.toList_inj.1 (by rw [← Lib.toList_data, h]; rfl)))
  have n1 : (p.c.next == 1) = false := by simp [h1]
  have n3 : (p.c.next == 3) = false := by simp [h3]
  have HM : Hid (PM w w g B fp (p.sc p.c)) := PM.refl H
  obtain ⟨A, hA⟩ : ∃ A, (bhP p.c.next s).1 = A := ⟨_, rfl⟩
  rw [hA] at CB he ⊢
  have n16 : (A == 16) = false := by simp [he]
  obtain ⟨X, hX⟩ : ∃ X, p.c.next = X := ⟨_, rfl⟩
  rw [hX] at CB c6 h1 h3 n1 n3
  clear H I hb hs hA hX
  go_enter Try.func62, Try.ntmps62
  go_wp2_with fail
  refine CB.mono ?_
  rintro e1 w1 ⟨rfl, rfl⟩
  clear CB
  go_wp2
  go_ret
  exact ⟨rfl, HM.out.next A⟩

theorem accf_any (g B : Nat) (p : PS) (fp : List Nat) (s : ByteArray) (w : World) (H : PW w g B p fp) (I : CI p.c 1048576) :
    Calls Try.prog 62 #[.pointer (some ⟨g, 0, none⟩), .string s] w fun e w' => e = .returned (.int .i64 (p.c.fixed s).1) ∧ PM w w' g B fp (p.sc (p.c.fixed s).2) := by
  unfold PC.fixed
  by_cases hb : (bhP p.c.next s).2 = false
  · rw [if_pos hb]
    refine (accf_bad g B p fp s w H I hb).mono ?_
    rintro e w' ⟨rfl, rfl⟩
    exact ⟨rfl, PM.refl H⟩
  rw [if_neg hb]
  have hb' : (bhP p.c.next s).2 = true := by cases h : (bhP p.c.next s).2; exact absurd h hb; rfl
  by_cases h1 : p.c.next = 1 ∧ p.c.op.length = 32
  · rw [if_pos h1]
    refine (accf_deep g B p fp s w H I hb' h1.1 h1.2).mono ?_
    rintro e w' ⟨rfl, rfl⟩
    exact ⟨rfl, PM.refl H⟩
  rw [if_neg h1]
  by_cases h2 : p.c.next = 1
  · rw [if_pos h2]
    exact accf_open g B p fp s w H I hb' h2 (by have := I.dp; omega)
  rw [if_neg h2]
  by_cases h3 : p.c.next = 3
  · rw [if_pos h3]
    have hne := I.ne (by omega) (by omega) (by omega)
    cases ho : p.c.op with
    | nil => exact absurd ho hne
    | cons o R => exact accf_kind g B p fp s o R w H I hb' h3 ho
  rw [if_neg h3]
  by_cases h4 : s = wExec
  · rw [if_pos h4]
    have hn4 := bh_exec (a := p.c.next) (by rw [← h4]; exact hb')
    have hne := I.ne (by omega) (by omega) (by omega)
    cases ho : p.c.op with
    | nil => exact absurd ho hne
    | cons o R => exact accf_exec g B p fp s o R w H I hb' hn4 h4 ho
  rw [if_neg h4]
  by_cases h5 : (bhP p.c.next s).1 = 16
  · rw [if_pos h5]
    have hn := bh_end h5
    exact accf_end g B p fp s w H I hb' hn h4 h5 (I.ne (by omega) (by omega) (by omega))
  · rw [if_neg h5]
    exact accf_on g B p fp s w H I hb' h2 h3 h4 h5
end Go.Proofs.Ytljcbibcdajhiaa

namespace Go.Proofs.Ytljcbibcdajhiaa
open Go.RowKit

theorem PW.lastName {w : World} {g B : Nat} {p : PS} {fp : List Nat} (h : PW w g B p fp) {o : ON} {R : List ON} (ho : p.c.op = o :: R) {q co : Nat} {u : Value} (ht : Top w g B p fp o R q co u) {nm : List ByteArray} {s' : ByteArray} (hn : o.nms = nm ++ [s']) (hk : o.ks.length = o.nms.length) :
    ∃ gk cap, u = .slice (some ⟨gk, 0, none⟩) (nm.length + 1) cap ∧ w.cell? ⟨gk, nm.length * 5, none⟩ = some (.string s') := by
  obtain ⟨tv, ov, rv, cs, fo, fr, h, rfl⟩ := h
  obtain ⟨q', co', u', cs1, f1, f2, rfl, rfl, hl, hT, hR, rfl, hown⟩ := h.top ho
  have e9 := (h.st.get 9 _ rfl).symm.trans ht.c9
  injection e9 with e9
  injection e9 with e1 _ e3
  injection e1 with e1
  injection e1 with e1
  subst e1 e3
  have e3 := ht.c 3 (by decide)
  rw [World.ownsRow.cellAt hown (R.length * 5 + 3) (by omega), List.getElem?_append_right (by omega), hl, Nat.add_sub_cancel_left] at e3
  have e3 : some u' = some u := e3
  injection e3 with e3
  subst e3
  unfold ON.tr at hT
  rw [TrV] at hT
  obtain ⟨cs2, fq, h1, h2, _⟩ := hT
  have hkn : o.ks ≠ [] := fun e => by rw [e, hn] at hk; simp at hk
  have hks : o.ks = o.ks.dropLast ++ [o.ks.getLast hkn] := (List.dropLast_concat_getLast hkn).symm
  rw [hn, hks] at h2
  have hkl : nm.length = o.ks.dropLast.length := by rw [List.length_dropLast, hk, hn]; simp
  obtain ⟨cs', v, fq', fp', rfl, _, h4, _⟩ := KidV.unsnoc nm o.ks.dropLast cs2 fq s' (o.ks.getLast hkn) hkl h2
  have hcl := (KidV.len _ _ _ _ h4).1
  have hnl : o.nms.length = nm.length + 1 := by rw [hn]; simp
  rw [hnl] at h1
  obtain ⟨gk, cap, hv, _, _⟩ := World.ownsRow.form h1 (by omega)
  rw [hv] at h1
  refine ⟨gk, cap, hv, ?_⟩
  rw [World.ownsRow.cellAt h1 (nm.length * 5) (by omega), List.getElem?_append_right (by omega), hcl, Nat.sub_self]
  rfl

set_option maxHeartbeats 4000000 in
set_option maxRecDepth 8000 in
theorem acc_file (g B : Nat) (p : PS) (fp : List Nat) (s : ByteArray) (o : ON) (R : List ON) (w : World) (H : PW w g B p fp) (I : CI p.c 1048576) (hn : p.c.next = 7) (ho : p.c.op = o :: R) :
    Calls Try.prog 54 #[.pointer (some ⟨g, 0, none⟩), .string s] w fun e w' => e = .returned (.int .i64 0) ∧ PM w w' g B fp (p.sc ((p.c.last (fun o => ⟨o.k, o.e, s, o.nms, o.ks, o.en⟩)).to 10)) := by
  have c6 := H.cells.2.2.2.2.2.2.1
  rw [hn] at c6
  have hd := I.dp
  rw [ho] at hd
  have hRl : R.length ≤ 31 := by simp at hd; omega
  obtain ⟨q, co, u, HT⟩ := H.top ho
  have HTT : Hid (Top w g B p fp o R q co u) := HT
  have HH : Hid (PW w g B p fp) := H
  have HO : Hid (p.c.op = o :: R) := ho
  have CL := last_zero g q R.length co w HT.c9 (by omega)
  clear H I ho hd HT
  go_enter Try.func54, Try.ntmps54
  go_wp2_with fail
  refine CL.mono ?_
  rintro e2 w2 ⟨rfl, qd, rfl⟩
  clear CL c6
  have H2 : Hid (PW (w.drewN qd) g B p fp) := HH.out.drewN qd
  have T2 : Hid (Top (w.drewN qd) g B p fp o R q co u) := HTT.out.drewN HH.out HO.out qd
  have F2 : Hid (Ff g fp w (w.drewN qd)) := (Ff.refl _ _ _).drewN qd
  clear HH HTT
  generalize w.drewN qd = w2 at *
  have c6 := H2.out.cells.2.2.2.2.2.2.1
  rw [hn] at c6
  have f6 := H2.out.cells.2.2.2.2.2.2.2.2 6 (by decide)
  have hgq := T2.out.hq
  have hqg : q ≠ g := fun e => hgq e.symm
  have d0 : w2.cell? ⟨q, R.length * 5 + 2, none⟩ = some (.string o.t) := T2.out.c 2 (by decide)
  have e0 := T2.out.f (R.length * 5 + 2)
  have HPW : Hid (PW (w2.setCell ⟨q, R.length * 5 + 2, none⟩ (.string s)) g B (p.sc ⟨p.c.next, (⟨o.k, o.e, s, o.nms, o.ks, o.en⟩ : ON) :: R, p.c.root⟩) fp) := T2.out.put 2 _ ⟨o.k, o.e, s, o.nms, o.ks, o.en⟩ (by decide) (fun v => ⟨by decide, rfl⟩) rfl rfl
  have HFQ : Hid (Ff g fp w (w2.setCell ⟨q, R.length * 5 + 2, none⟩ (.string s))) := F2.out.set q _ _ (Or.inr (Or.inl T2.out.qf))
  go_wp2
  go_ret
  refine ⟨rfl, ?_⟩
  rw [PC.last_eq HO.out]
  exact (PM.of HPW.out HFQ.out (fun x hx => Or.inl hx)).next 10

set_option maxHeartbeats 4000000 in
set_option maxRecDepth 8000 in
theorem acc_notgt (g B : Nat) (p : PS) (fp : List Nat) (s : ByteArray) (w : World) (H : PW w g B p fp) (hn : p.c.next = 9) (ht : tgt s ≠ 0) :
    Calls Try.prog 54 #[.pointer (some ⟨g, 0, none⟩), .string s] w fun e w' => e = .returned (.int .i64 (tgt s)) ∧ w' = w := by
  have c6 := H.cells.2.2.2.2.2.2.1
  rw [hn] at c6
  have CT := target_any s w
  generalize tgt s = T at *
  have hT : (T != 0) = true := by simp [ht]
  clear H hn
  go_enter Try.func54, Try.ntmps54
  go_wp2_with fail
  refine CT.mono ?_
  rintro e2 w2 ⟨rfl, rfl⟩
  clear CT
  go_wp2
  go_ret
  exact ⟨rfl, rfl⟩

set_option maxHeartbeats 4000000 in
set_option maxRecDepth 8000 in
theorem acc_link (g B : Nat) (p : PS) (fp : List Nat) (s : ByteArray) (o : ON) (R : List ON) (w : World) (H : PW w g B p fp) (I : CI p.c 1048576) (hn : p.c.next = 9) (ht : tgt s = 0) (ho : p.c.op = o :: R) :
    Calls Try.prog 54 #[.pointer (some ⟨g, 0, none⟩), .string s] w fun e w' => e = .returned (.int .i64 0) ∧ PM w w' g B fp (p.sc ((p.c.last (fun o => ⟨o.k, o.e, s, o.nms, o.ks, o.en⟩)).to 10)) := by
  have c6 := H.cells.2.2.2.2.2.2.1
  rw [hn] at c6
  have hd := I.dp
  rw [ho] at hd
  have hRl : R.length ≤ 31 := by simp at hd; omega
  obtain ⟨q, co, u, HT⟩ := H.top ho
  have HTT : Hid (Top w g B p fp o R q co u) := HT
  have HH : Hid (PW w g B p fp) := H
  have HO : Hid (p.c.op = o :: R) := ho
  have CL := last_zero g q R.length co w HT.c9 (by omega)
  have CT := target_any s w
  rw [ht] at CT
  clear H I ho hd HT ht
  go_enter Try.func54, Try.ntmps54
  go_wp2_with fail
  refine CT.mono ?_
  rintro e1 w1 ⟨rfl, rfl⟩
  clear CT
  go_wp2_with fail
  refine CL.mono ?_
  rintro e2 w2 ⟨rfl, qd, rfl⟩
  clear CL c6
  have H2 : Hid (PW (w1.drewN qd) g B p fp) := HH.out.drewN qd
  have T2 : Hid (Top (w1.drewN qd) g B p fp o R q co u) := HTT.out.drewN HH.out HO.out qd
  have F2 : Hid (Ff g fp w1 (w1.drewN qd)) := (Ff.refl _ _ _).drewN qd
  clear HH HTT
  generalize w1.drewN qd = w2 at *
  have c6 := H2.out.cells.2.2.2.2.2.2.1
  rw [hn] at c6
  have f6 := H2.out.cells.2.2.2.2.2.2.2.2 6 (by decide)
  have hgq := T2.out.hq
  have hqg : q ≠ g := fun e => hgq e.symm
  have d0 : w2.cell? ⟨q, R.length * 5 + 2, none⟩ = some (.string o.t) := T2.out.c 2 (by decide)
  have e0 := T2.out.f (R.length * 5 + 2)
  have HPW : Hid (PW (w2.setCell ⟨q, R.length * 5 + 2, none⟩ (.string s)) g B (p.sc ⟨p.c.next, (⟨o.k, o.e, s, o.nms, o.ks, o.en⟩ : ON) :: R, p.c.root⟩) fp) := T2.out.put 2 _ ⟨o.k, o.e, s, o.nms, o.ks, o.en⟩ (by decide) (fun v => ⟨by decide, rfl⟩) rfl rfl
  have HFQ : Hid (Ff g fp w1 (w2.setCell ⟨q, R.length * 5 + 2, none⟩ (.string s))) := F2.out.set q _ _ (Or.inr (Or.inl T2.out.qf))
  go_wp2
  go_ret
  refine ⟨rfl, ?_⟩
  rw [PC.last_eq HO.out]
  exact (PM.of HPW.out HFQ.out (fun x hx => Or.inl hx)).next 10

/-- checkEntry at the top of the stack. -/
theorem chkent_top (g B : Nat) (p : PS) (fp : List Nat) (s : ByteArray) (o : ON) (R : List ON) (q co : Nat) (u : Value) (w : World) (H : PW w g B p fp) (ho : p.c.op = o :: R) (HT : Top w g B p fp o R q co u) (hk : o.nms.length ≤ 1048576 ∧ o.ks.length = o.nms.length) :
    Calls Try.prog 61 #[.pointer (some ⟨q, R.length * 5, none⟩), .string s] w fun e w' => e = .returned (.int .i64 (ceP o.nms.getLast? s)) ∧ w' = w := by
  obtain ⟨x, c, hu⟩ := HT.hu
  by_cases h0 : o.nms = []
  · rw [h0, List.getLast?_nil]
    refine chkent_none q (R.length * 5) c x s w ?_
    rw [HT.c 3 (by decide)]
    show some u = _
    rw [hu, h0]
    rfl
  · have hn : o.nms = o.nms.dropLast ++ [o.nms.getLast h0] := (List.dropLast_concat_getLast h0).symm
    rw [List.getLast?_eq_some_getLast h0]
    obtain ⟨gk, cap, hv, hc⟩ := H.lastName ho HT hn hk.2
    have hl : o.nms.dropLast.length ≤ 1048576 := by rw [List.length_dropLast]; omega
    refine chkent_some q (R.length * 5) cap o.nms.dropLast.length gk 0 _ s w hl ?_ (by rw [Nat.zero_add]; exact hc)
    rw [HT.c 3 (by decide)]
    show some u = _
    rw [hv]

set_option maxHeartbeats 4000000 in
set_option maxRecDepth 8000 in
theorem acc_noname (g B : Nat) (p : PS) (fp : List Nat) (s : ByteArray) (o : ON) (R : List ON) (w : World) (H : PW w g B p fp) (I : CI p.c 1048576) (hn : p.c.next = 14) (ho : p.c.op = o :: R) (hc : ceP o.nms.getLast? s ≠ 0) :
    Calls Try.prog 54 #[.pointer (some ⟨g, 0, none⟩), .string s] w fun e w' => e = .returned (.int .i64 (ceP o.nms.getLast? s)) ∧ ∃ q, w' = w.drewN q := by
  have c6 := H.cells.2.2.2.2.2.2.1
  rw [hn] at c6
  have hd := I.dp
  rw [ho] at hd
  have hRl : R.length ≤ 31 := by simp at hd; omega
  have hln := I.ln o (by rw [ho]; simp)
  obtain ⟨q, co, u, HT⟩ := H.top ho
  have HC : Hid (∀ n, Calls Try.prog 61 #[.pointer (some ⟨q, R.length * 5, none⟩), .string s] (w.drewN n) fun e w' => e = .returned (.int .i64 (ceP o.nms.getLast? s)) ∧ w' = w.drewN n) := fun n => chkent_top g B p fp s o R q co u (w.drewN n) (H.drewN n) ho (HT.drewN H ho n) hln
  have CL := last_zero g q R.length co w HT.c9 (by omega)
  generalize ceP o.nms.getLast? s = C at *
  have hC : (C != 0) = true := by simp [hc]
  clear H I ho hd HT hln
  go_enter Try.func54, Try.ntmps54
  go_wp2_with fail
  refine CL.mono ?_
  rintro e2 w2 ⟨rfl, qd, rfl⟩
  clear CL c6
  have CC := HC.out qd
  have HQ : Hid (∃ q, w.drewN qd = w.drewN q) := ⟨qd, rfl⟩
  generalize w.drewN qd = w2 at *
  go_wp2_with fail
  refine CC.mono ?_
  rintro e3 w3 ⟨rfl, rfl⟩
  clear CC
  go_wp2
  go_ret
  exact ⟨rfl, HQ.out⟩

set_option maxHeartbeats 4000000 in
set_option maxRecDepth 8000 in
theorem acc_name (g B : Nat) (p : PS) (fp : List Nat) (s : ByteArray) (o : ON) (R : List ON) (w : World) (H : PW w g B p fp) (I : CI p.c 1048576) (hn : p.c.next = 14) (ho : p.c.op = o :: R) (hc : ceP o.nms.getLast? s = 0) :
    Calls Try.prog 54 #[.pointer (some ⟨g, 0, none⟩), .string s] w fun e w' => e = .returned (.int .i64 0) ∧ PM w w' g B fp (p.sc ((p.c.last (fun o => ⟨o.k, o.e, o.t, o.nms, o.ks, s⟩)).to 15)) := by
  have c6 := H.cells.2.2.2.2.2.2.1
  rw [hn] at c6
  have hd := I.dp
  rw [ho] at hd
  have hRl : R.length ≤ 31 := by simp at hd; omega
  have hln := I.ln o (by rw [ho]; simp)
  obtain ⟨q, co, u, HT⟩ := H.top ho
  have HTT : Hid (Top w g B p fp o R q co u) := HT
  have HH : Hid (PW w g B p fp) := H
  have HO : Hid (p.c.op = o :: R) := ho
  have HLN : Hid (o.nms.length ≤ 1048576 ∧ o.ks.length = o.nms.length) := hln
  have HCE : Hid (ceP o.nms.getLast? s = 0) := hc
  have CL := last_zero g q R.length co w HT.c9 (by omega)
  clear H I ho hd HT hln hc
  go_enter Try.func54, Try.ntmps54
  go_wp2_with fail
  refine CL.mono ?_
  rintro e2 w2 ⟨rfl, qd, rfl⟩
  clear CL c6
  have H2 : Hid (PW (w.drewN qd) g B p fp) := HH.out.drewN qd
  have T2 : Hid (Top (w.drewN qd) g B p fp o R q co u) := HTT.out.drewN HH.out HO.out qd
  have F2 : Hid (Ff g fp w (w.drewN qd)) := (Ff.refl _ _ _).drewN qd
  clear HH HTT
  generalize w.drewN qd = w2 at *
  have CC := chkent_top g B p fp s o R q co u w2 H2.out HO.out T2.out HLN.out
  rw [HCE.out] at CC
  have CL2 := last_zero g q R.length co w2 T2.out.c9 (by omega)
  go_wp2_with fail
  refine CC.mono ?_
  rintro e3 w3 ⟨rfl, rfl⟩
  clear CC
  go_wp2_with fail
  refine CL2.mono ?_
  rintro e4 w4 ⟨rfl, qe, rfl⟩
  clear CL2
  have H4 : Hid (PW (w3.drewN qe) g B p fp) := H2.out.drewN qe
  have T4 : Hid (Top (w3.drewN qe) g B p fp o R q co u) := T2.out.drewN H2.out HO.out qe
  have F4 : Hid (Ff g fp w (w3.drewN qe)) := F2.out.drewN qe
  clear H2 T2 F2
  generalize w3.drewN qe = w4 at *
  have c6 := H4.out.cells.2.2.2.2.2.2.1
  rw [hn] at c6
  have f6 := H4.out.cells.2.2.2.2.2.2.2.2 6 (by decide)
  have hgq := T4.out.hq
  have hqg : q ≠ g := fun e => hgq e.symm
  have d0 : w4.cell? ⟨q, R.length * 5 + 4, none⟩ = some (.string o.en) := T4.out.c 4 (by decide)
  have e0 := T4.out.f (R.length * 5 + 4)
  have HPW : Hid (PW (w4.setCell ⟨q, R.length * 5 + 4, none⟩ (.string s)) g B (p.sc ⟨p.c.next, (⟨o.k, o.e, o.t, o.nms, o.ks, s⟩ : ON) :: R, p.c.root⟩) fp) := T4.out.put 4 _ ⟨o.k, o.e, o.t, o.nms, o.ks, s⟩ (by decide) (fun v => ⟨by decide, rfl⟩) rfl rfl
  have HFQ : Hid (Ff g fp w (w4.setCell ⟨q, R.length * 5 + 4, none⟩ (.string s))) := F4.out.set q _ _ (Or.inr (Or.inl T4.out.qf))
  go_wp2
  go_ret
  refine ⟨rfl, ?_⟩
  rw [PC.last_eq HO.out]
  exact (PM.of HPW.out HFQ.out (fun x hx => Or.inl hx)).next 15

set_option maxHeartbeats 4000000 in
set_option maxRecDepth 8000 in
theorem acc_fixed (g B : Nat) (p : PS) (fp : List Nat) (s : ByteArray) (w : World) (H : PW w g B p fp) (I : CI p.c 1048576) (h7 : p.c.next ≠ 7) (h9 : p.c.next ≠ 9) (h14 : p.c.next ≠ 14) :
    Calls Try.prog 54 #[.pointer (some ⟨g, 0, none⟩), .string s] w fun e w' => e = .returned (.int .i64 (p.c.fixed s).1) ∧ PM w w' g B fp (p.sc (p.c.fixed s).2) := by
  have c6 := H.cells.2.2.2.2.2.2.1
  have CF := accf_any g B p fp s w H I
  generalize (p.c.fixed s).1 = C at *
  generalize p.c.next = X at *
  have n7 : (X == 7) = false := by simp [h7]
  have n9 : (X == 9) = false := by simp [h9]
  have n14 : (X == 14) = false := by simp [h14]
  clear H I
  go_enter Try.func54, Try.ntmps54
  go_wp2_with fail
  refine CF.mono ?_
  rintro e2 w2 ⟨rfl, hp⟩
  have HP : Hid (PM w w2 g B fp (p.sc (p.c.fixed s).2)) := hp
  clear CF hp
  go_wp2
  go_ret
  exact ⟨rfl, HP.out⟩

theorem acc_any (g B : Nat) (p : PS) (fp : List Nat) (s : ByteArray) (w : World) (H : PW w g B p fp) (I : CI p.c 1048576) :
    Calls Try.prog 54 #[.pointer (some ⟨g, 0, none⟩), .string s] w fun e w' => e = .returned (.int .i64 (p.c.accept s).1) ∧ PM w w' g B fp (p.sc (p.c.accept s).2) := by
  unfold PC.accept
  by_cases h7 : p.c.next = 7
  · rw [if_pos h7]
    have hne := I.ne (by omega) (by omega) (by omega)
    cases ho : p.c.op with
    | nil => exact absurd ho hne
    | cons o R => exact acc_file g B p fp s o R w H I h7 ho
  rw [if_neg h7]
  by_cases h9 : p.c.next = 9
  · rw [if_pos h9]
    by_cases ht : tgt s ≠ 0
    · rw [if_pos ht]
      refine (acc_notgt g B p fp s w H h9 ht).mono ?_
      rintro e w' ⟨rfl, rfl⟩
      exact ⟨rfl, PM.refl H⟩
    · rw [if_neg ht]
      have hne := I.ne (by omega) (by omega) (by omega)
      cases ho : p.c.op with
      | nil => exact absurd ho hne
      | cons o R => exact acc_link g B p fp s o R w H I h9 (by omega) ho
  rw [if_neg h9]
  by_cases h14 : p.c.next = 14
  · rw [if_pos h14]
    have hne := I.ne (by omega) (by omega) (by omega)
    cases ho : p.c.op with
    | nil => exact absurd ho hne
    | cons o R =>
      dsimp only
      by_cases hc : ceP o.nms.getLast? s ≠ 0
      · rw [if_pos hc]
        refine (acc_noname g B p fp s o R w H I h14 ho hc).mono ?_
        rintro e w' ⟨rfl, q, rfl⟩
        exact ⟨rfl, fp, H.drewN q, (Ff.refl _ _ _).drewN q, fun _ hx => Or.inl hx⟩
      · rw [if_neg hc]
        exact acc_name g B p fp s o R w H I h14 ho (by omega)
  rw [if_neg h14]
  exact acc_fixed g B p fp s w H I h7 h9 h14
end Go.Proofs.Ytljcbibcdajhiaa
