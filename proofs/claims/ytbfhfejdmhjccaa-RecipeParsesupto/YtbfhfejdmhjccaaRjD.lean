/- The document's steps, walked. -/
import Derived.Test.YtbfhfejdmhjccaaRjC
namespace Go.Proofs.Ytbfhfejdmhjccaa
open Go.RowKit

theorem stp_nl (n : Nat) (l : List UInt8) : stp n l = (ex [40] l).bind fun _ l => (nl 41 n l).bind fun ws l => .ok (ws.headD [], ws.tail) l := by
  unfold stp nl
  cases ex [40] l with
  | bad m => rfl
  | ok u m =>
    show (quo m).bind _ = ((quo m).bind _).bind _
    cases quo m with
    | bad k => rfl
    | ok op k =>
      show (lst 41 quo n false k).bind _ = ((lst 41 quo n false k).cons op).bind _
      cases lst 41 quo n false k with
      | bad j => rfl
      | ok a j => rfl
theorem nl_ok {cl : UInt8} {n : Nat} {l m : List UInt8} {L : List (List UInt8)} (h : nl cl n l = .ok L m) : ∃ op ar, L = op :: ar := by
  unfold nl at h
  cases hq : quo l with
  | bad k => rw [hq] at h; cases h
  | ok op k =>
    rw [hq] at h
    have h' : (lst cl quo n false k).cons op = .ok L m := h
    cases hl : lst cl quo n false k with
    | bad j => rw [hl] at h'; cases h'
    | ok a j =>
      rw [hl] at h'
      have : Rs.ok (op :: a) j = .ok L m := h'
      injection this with e1 e2
      exact ⟨op, a, e1.symm⟩
theorem nl_lt {n : Nat} {l m : List UInt8} {L : List (List UInt8)} (h : nl 41 n l = .ok L m) : m.length < l.length := by
  have e : stp n (40 :: l) = .ok (L.headD [], L.tail) m := by
    rw [stp_nl, show ex [40] (40 :: l) = .ok () l from rfl]
    show (nl 41 n l).bind _ = _
    rw [h]
    rfl
  have e1 := congrArg List.length (stp_one n _ _ _ e)
  unfold sT qT at e1
  rw [List.length_append] at e1
  simp at e1
  omega
/-- A step's words lie in a row of the call's own, apart from the row of steps. -/
def StW (w : World) (B : Nat) (v : Value) (p : Stp × Value) : Prop :=
  ∃ k c c' pa, TxS w B (.slice (some ⟨k, 0, none⟩) (p.1.2.length + 1) c) (p.1.1 :: p.1.2) ∧ p.2 = .slice pa p.1.2.length c' ∧ (0 < p.1.2.length → pa = some ⟨k, 1, none⟩) ∧ v.ownBlock ≠ some k
theorem StW.next {w w' : World} {B : Nat} {v v' : Value} {p : Stp × Value} (h : StW w B v p) (e : ∀ k, B ≤ k → k < w.heap.size → v.ownBlock ≠ some k → w'.heap[k]? = w.heap[k]? ∧ v'.ownBlock ≠ some k) : StW w' B v' p := by
  obtain ⟨k, c, c', pa, h1, h2, h3, h4⟩ := h
  have hk := h1.lt k rfl
  have he := e k hk.1 hk.2 h4
  exact ⟨k, c, c', pa, h1.same (fun j hj => by injection hj with hj; subst hj; exact he.1), h2, h3, he.2⟩
/-- What the document's steps answers. -/
def StepsP (s : List UInt8) (B : Nat) (R : Rs (List Stp)) (e : Ending) (w : World) : Prop :=
  match R with
  | .ok L m => ∃ v P, e = .returned (.tuple #[v, .int .i64 ((s.length - m.length : Nat) : Int), .bool true]) ∧ PlS w B v P ∧ P.map Prod.fst = L ∧ (∀ p ∈ P, StW w B v p) ∧ Sf s m
  | .bad m => e = .returned (.tuple #[.slice none 0 0, .int .i64 ((s.length - m.length : Nat) : Int), .bool false]) ∧ Sf s m
theorem PlS.shape {w : World} {B : Nat} {v : Value} {P : List (Stp × Value)} (h : PlS w B v P) : ∃ p c, v = .slice p P.length c := slice_of_row h
theorem txs_block {w : World} {B : Nat} {v : Value} {t : List UInt8} {L : List (List UInt8)} (h : TxS w B v (t :: L)) : ∃ k c, v = .slice (some ⟨k, 0, none⟩) (L.length + 1) c ∧ L.length + 1 ≤ c ∧ w.cell? ⟨k, 0, none⟩ = some (.string (ba t)) := by
  rcases h.2 with ⟨rfl, e⟩ | ⟨g, cap, cur, rfl, hb, hg, hn, r⟩
  · cases e
  · exact ⟨g, cap, rfl, hn, by rw [World.ownsRow.cellAt h 0 (by simp)]; rfl⟩
theorem PlS.app2 {w : World} {B : Nat} {v : Value} {P : List (Stp × Value)} (h : PlS w B v P) (t : Stp) (x : Value) (hx1 : x.oneCell' = true) (hB : B ≤ w.heap.size) (hl : P.length ≤ 1073741824) :
    ∃ p c w', (Builtin.append_ #[31, 31] 31 #[v, .slice (some ⟨w.heap.size, 0, none⟩) 1 1]).run Try.prog (w.alloc (.cells #[.string (ba t.1), x] 63)) = .ok (.slice p (P.length + 1) c) w' ∧ PlS w' B (.slice p (P.length + 1) c) (P ++ [(t, x)]) ∧ w.grownBy w' v.ownBlock ∧ ∀ k, k < w.heap.size → v.ownBlock ≠ some k → (Value.slice p (P.length + 1) c).ownBlock ≠ some k := by
  obtain ⟨i0, hi, hz0, hz1, hz2⟩ := info_parts infoRStp
  obtain ⟨v', w2, hr, hown', hgrow, -, hblk⟩ := run_append_own_at (P := Try.prog) (w.alloc (.cells #[.string (ba t.1), x] 63)) B 31 31 63 i0 (.agg #[.string ⟨#[]⟩, .slice none 0 0]) 2 40 undRLST hi hz0 hz1 hz2 rfl (by decide) v P.length (P.flatMap stC) (World.ownsRow.alloc h _) ⟨w.heap.size, 0, none⟩ 1 1 [.string (ba t.1), x] rfl (fun j u hj => by
      match j, hj with
      | 0, hj => simp at hj; subst hj; exact (World.cell?_alloc_new w _ _ 0).trans rfl
      | 1, hj => simp at hj; subst hj; exact (World.cell?_alloc_new w _ _ 1).trans rfl) (by intro u hu; simp at hu; rcases hu with rfl | rfl; rfl; exact hx1) (by unfold maxLen; omega) (by omega) (by rw [World.size_alloc]; omega)
  obtain ⟨p, c, rfl⟩ := slice_of_row hown'
  refine ⟨p, c, w2, hr, ?_, (World.grownBy_alloc w _ _).trans hgrow, fun k hk hn e => ?_⟩
  · unfold PlS
    rw [List.length_append, List.flatMap_append]
    have : [(t, x)].flatMap stC = [.string (ba t.1), x] := by simp [stC]
    rw [this]
    exact hown'
  · rcases hblk with hb | hb
    · exact hn (by rw [← hb]; exact e)
    · rw [hb, World.size_alloc] at e
      injection e with e
      omega

set_option maxHeartbeats 16000000 in
theorem steps_any (s l : List UInt8) (n q : Nat) (hn : l.length ≤ n) (hq : l.length ≤ q) (w : World) (hs : s.length ≤ 16777216) (h : Sf s l) :
    Calls Try.prog 22 #[.string (ba s), .int .i64 ((s.length - l.length : Nat) : Int)] w fun e w' => StepsP s w.heap.size (lst 93 (stp n) (q + 1) true l) e w' ∧ Below w.heap.size w w' := by
  have WC := word_any s l [93] w hs (show 1 ≤ 1024 by decide) h
  generalize hR : lst 93 (stp n) (q + 1) true l = R
  have hll := h.le
  have HS : Hid (Sf s l) := h
  have e44 : ba [44] = ⟨#[44]⟩ := rfl
  have e93 : ba [93] = ⟨#[93]⟩ := rfl
  have e40 : ba [40] = ⟨#[40]⟩ := rfl
  have e41 : ba [41] = ⟨#[41]⟩ := rfl
  rw [e93] at WC
  go_enter Try.func22, Try.ntmps22
  go_wp2_with fail
  refine WC.mono ?_
  rintro e w1 ⟨hW, q1, rfl⟩
  clear WC h
  have HB1 : Hid (Below w.heap.size w (w.drewN q1)) := bel_drewN (Below.refl _ _) q1
  generalize w.drewN q1 = w1 at HB1 ⊢
  cases hx : ex [93] l with
  | ok u m =>
    rw [hx] at hW
    obtain ⟨rfl, hm⟩ := hW
    have HM : Hid (Sf s m) := hm
    have HR : Hid (R = .ok [] m) := by
      unfold Hid
      rw [← hR, ex1_ok hx]
      exact lst_end _ _ _ _ _
    clear hx hm hR
    go_wp2
    try rw [Exit.noGoto_ret]
    go_ret3
    rw [HR.out]
    exact ⟨⟨_, [], rfl, World.ownsRow_nil _ _ _ _, rfl, fun p hp => absurd hp (by simp), HM.out⟩, HB1.out⟩
  | bad m =>
    rw [hx] at hW
    obtain ⟨rfl, -⟩ := hW
    have HE1 : Hid ((((stp n l).bind fun v l => (lst 93 (stp n) q false l).cons v)).pre [] = R) := by
      unfold Hid
      rw [← hR, lst_step _ _ _ _ _ (ex1_bad hx).1, pre_nil]
      rfl
    clear hx hR
    go_wp2_with fail
    go_loopg [1, 7] l.length (fun gk av ov wr => ∃ (N : List UInt8) (P : List (Stp × Value)) (p : Option Addr) (c f : Nat), av = .int .i64 ((s.length - N.length : Nat) : Int) ∧ ov = .slice p P.length c ∧ N.length ≤ gk ∧ N.length ≤ f ∧ N.length ≤ n ∧ Hid (((stp n N).bind fun v l => (lst 93 (stp n) f false l).cons v).pre (P.map Prod.fst) = R) ∧ Hid (Sf s N) ∧ Hid (PlS wr w.heap.size (.slice p P.length c) P) ∧ Hid (∀ x ∈ P, StW wr w.heap.size (.slice p P.length c) x) ∧ Hid (Below w.heap.size w wr) ∧ Hid (P.length + N.length ≤ s.length))
    case atStart => exact ⟨l, [], none, 0, q, rfl, rfl, Nat.le_refl _, hq, hn, HE1, HS, World.ownsRow_nil _ _ _ _, fun p hp => absurd hp (by simp), HB1, by show 0 + l.length ≤ _; omega⟩
    case round =>
      obtain ⟨N, P, p, c, f, rfl, rfl, hgk, hf, hN, hE, hS, hT, hW, hB, hL⟩ := hrel
      clear HE1 HS HB1 hll hn hq
      have hL' := hL.out
      rw [stp_nl] at hE
      have WC := word_any s N [40] wr hs (show 1 ≤ 1024 by decide) hS.out
      rw [e40] at WC
      go_wp2_with fail
      refine WC.mono ?_
      rintro e w2 ⟨hX, q2, rfl⟩
      clear WC
      have HT2 : Hid (PlS (wr.drewN q2) w.heap.size (.slice p P.length c) P) := hT.out.same (fun k _ => rfl)
      have HB2 : Hid (Below w.heap.size w (wr.drewN q2)) := bel_drewN hB.out q2
      have HW2 : Hid (∀ x ∈ P, StW (wr.drewN q2) w.heap.size (.slice p P.length c) x) := fun x hx => (hW.out x hx).next (fun k _ _ h => ⟨rfl, h⟩)
      generalize wr.drewN q2 = w2 at HT2 HB2 HW2 ⊢
      clear hT hB hW
      cases hx : ex [40] N with
      | bad m =>
        rw [hx] at hX hE
        obtain ⟨rfl, hm⟩ := hX
        have HM : Hid (Sf s m) := hm
        clear hx hm
        go_wp2
        try rw [Exit.noGoto_ret]
        go_ret3
        rw [← hE.out]
        exact ⟨⟨rfl, HM.out⟩, HB2.out⟩
      | ok u m =>
        have hmN : N.length = m.length + 1 := by rw [ex1_ok hx]; rfl
        rw [hx] at hX hE
        obtain ⟨rfl, hm⟩ := hX
        have HM : Hid (Sf s m) := hm
        have HE2 : Hid ((((nl 41 n m).bind fun ws l => .ok (ws.headD [], ws.tail) l).bind fun v l => (lst 93 (stp n) f false l).cons v).pre (P.map Prod.fst) = R) := hE.out
        clear hx hm hE
        have SC := strs_any s m 41 n false (by omega) w2 hs HM.out
        rw [e41] at SC
        go_wp2_with fail
        refine SC.mono ?_
        rintro e w3 ⟨hX, b3⟩
        clear SC
        have HB3 : Hid (Below w.heap.size w w3) := bel_trans HB2.out b3
        rw [show (if false = true then lst 41 quo (n + 1) true m else nl 41 n m) = nl 41 n m from rfl] at hX
        cases hxx : nl 41 n m with
        | bad k =>
          rw [hxx] at hX HE2
          obtain ⟨rfl, hk⟩ := hX
          have HK : Hid (Sf s k) := hk
          clear hxx hk b3
          go_wp2
          try rw [Exit.noGoto_ret]
          go_ret3
          rw [← HE2.out]
          exact ⟨⟨rfl, HK.out⟩, HB3.out⟩
        | ok ws k =>
          obtain ⟨op, ar, rfl⟩ := nl_ok hxx
          rw [hxx] at hX HE2
          obtain ⟨v, rfl, hv, hk⟩ := hX
          obtain ⟨kv, cv, rfl, hcv, hc0⟩ := txs_block hv
          have HK : Hid (Sf s k) := hk
          have HE3 : Hid ((lst 93 (stp n) f false k).pre (P.map Prod.fst ++ [(op, ar)]) = R) := by
            have := HE2.out
            unfold Hid
            rw [← pre_cons]
            exact this
          have hc0' : w3.drew.cell? ⟨kv, 0, none⟩ = some (.string (ba op)) := hc0
          have hv' : TxS w3.drew w.heap.size (.slice (some ⟨kv, 0, none⟩) (ar.length + 1) cv) (op :: ar) := (hv.up HB2.out.size).same (fun _ _ => rfl)
          have hkv : w2.heap.size ≤ kv ∧ kv < w3.heap.size := hv.lt kv rfl
          have HT3' : PlS w3.drew w.heap.size (.slice p P.length c) P := HT2.out.same (fun j hj => b3.block j (HT2.out.lt j hj).2)
          have hne : (Value.slice p P.length c).ownBlock ≠ some kv := fun e => by have := (HT2.out.lt kv e).2; omega
          have HW3' : ∀ x ∈ P, StW w3.drew w.heap.size (.slice p P.length c) x := fun x hx => (HW2.out x hx).next (fun k _ hk h => ⟨b3.block k hk, h⟩)
          obtain ⟨pa, hpa⟩ : ∃ pa, (if cv = 1 then some (⟨kv, 0, none⟩ : Addr) else some ⟨kv, 1, none⟩) = pa := ⟨_, rfl⟩
          have hpa1 : 0 < ar.length → pa = some ⟨kv, 1, none⟩ := fun hp => by rw [← hpa, if_neg (by omega)]
          have h1i : (1 : Int) ≤ (ar.length : Int) + 1 := by omega
          have HB3' : Below w.heap.size w w3.drew := bel_drewN HB3.out 1
          clear HT2 HB2 HW2 HB3 HE2 hc0 hv b3 hk
          go_wp2_with fail
          refine wp_region_held_drew (S := fun W => W.cell? ⟨kv, 0, none⟩ = some (.string (ba op))) (by kernel_rfl) hc0' (fun _ => ?_)
          have hkv' : kv < w3.drew.heap.size := hkv.2
          generalize w3.drew = W at hc0' hv' HT3' HW3' HB3' hkv' ⊢
          refine wpAnyH_take (i := 0) (oi := { dst := some 44, op := Op.move (Operand.tmp 7), type := 31, pos := "ref.go:234", after := #[], guard := none }) (v := .slice p P.length c) rfl (by kernel_rfl) (by kernel_rfl) (by kernel_rfl) (fun _ _ _ h => h) (Or.inl ⟨by rfl, by intro w _; go_simp⟩) hc0' ?_
          simp only [Act.put, List.setIfInBounds_toArray, List.set_cons_zero, List.set_cons_succ]
          refine wpAnyH_take (i := 1) (oi := { dst := some 45, op := Op.move (Operand.tmp 12), type := 23, pos := "ref.go:234", after := #[], guard := none }) (v := .slice (some ⟨kv, 0, none⟩) (ar.length + 1) cv) rfl (by kernel_rfl) (by kernel_rfl) (by kernel_rfl) (fun _ _ _ h => h) (Or.inl ⟨by rfl, by intro w _; go_simp⟩) hc0' ?_
          simp only [Act.put, List.setIfInBounds_toArray, List.set_cons_zero, List.set_cons_succ]
          refine wpAnyH_take (i := 2) (oi := { dst := some 46, op := Op.indexAddr 23 (Operand.tmp 45) (Operand.const (Value.int IntKind.i64 0)), type := 0, pos := "ref.go:234", after := #[{ on := 1, ground := Ground.data }], guard := none }) (v := .pointer (some ⟨kv, 0, none⟩)) rfl (by kernel_rfl) (by kernel_rfl) (by kernel_rfl) (fun _ _ _ h => h) (Or.inl ⟨by rfl, by intro w _; go_simp⟩) hc0' ?_
          simp only [Act.put, List.setIfInBounds_toArray, List.set_cons_zero, List.set_cons_succ]
          refine wpAnyH_take (i := 3) (oi := { dst := some 47, op := Op.load 9 (Operand.tmp 46), type := 9, pos := "ref.go:234", after := #[{ on := 2, ground := Ground.data }], guard := none }) (v := .string (ba op)) rfl (by kernel_rfl) (by kernel_rfl) (by kernel_rfl) (fun _ _ _ h => h) (Or.inl ⟨by rfl, by intro w hw; go_simp⟩) hc0' ?_
          simp only [Act.put, List.setIfInBounds_toArray, List.set_cons_zero, List.set_cons_succ]
          refine wpAnyH_take (i := 4) (oi := { dst := some 48, op := Op.move (Operand.tmp 12), type := 23, pos := "ref.go:234", after := #[], guard := none }) (v := .slice (some ⟨kv, 0, none⟩) (ar.length + 1) cv) rfl (by kernel_rfl) (by kernel_rfl) (by kernel_rfl) (fun _ _ _ h => h) (Or.inl ⟨by rfl, by intro w _; go_simp⟩) hc0' ?_
          simp only [Act.put, List.setIfInBounds_toArray, List.set_cons_zero, List.set_cons_succ]
          refine wpAnyH_take (i := 5) (oi := { dst := some 49, op := Op.slice 23 (Operand.tmp 48) (some (Operand.const (Value.int IntKind.i64 1))) none none, type := 23, pos := "ref.go:234", after := #[{ on := 4, ground := Ground.data }], guard := none }) (v := .slice pa ar.length (cv - 1)) rfl (by kernel_rfl) (by kernel_rfl) (by kernel_rfl) (fun _ _ _ h => h) (Or.inl ⟨by rfl, by intro w _; go_simp⟩) hc0' ?_
          simp only [Act.put, List.setIfInBounds_toArray, List.set_cons_zero, List.set_cons_succ]
          refine wpAnyH_take (i := 6) (oi := { dst := some 50, op := Op.build 63 #[(0, Operand.tmp 47), (1, Operand.tmp 49)], type := 63, pos := "ref.go:234", after := #[{ on := 3, ground := Ground.data }, { on := 5, ground := Ground.data }], guard := none }) (v := .agg #[.string (ba op), .slice pa ar.length (cv - 1)]) rfl (by kernel_rfl) (by kernel_rfl) (by kernel_rfl) (fun _ _ _ h => h) (Or.inl ⟨by rfl, by intro w _; go_simp⟩) hc0' ?_
          simp only [Act.put, List.setIfInBounds_toArray, List.set_cons_zero, List.set_cons_succ]
          refine wpAnyH_ready (rs := [7]) (by kernel_rfl) (by decide) (AllReadyH.cons rfl (fun K hK => ?_) AllReadyH.nil)
          rw [if_pos (by rfl)]
          go_simp
          obtain ⟨p5, c5, w5, hr5, T5, G5, N5⟩ := HT3'.app2 (op, ar) (.slice pa ar.length (cv - 1)) rfl HB3'.size (by omega)
          have hkc : (W.alloc (.cells #[.string (ba op), .slice pa ar.length (cv - 1)] 63)).cell? ⟨kv, 0, none⟩ = some (.string (ba op)) := cell_keep ((Below.refl W.heap.size W).alloc (Nat.le_refl _) _) hkv' hc0'
          have hk5 : w5.cell? ⟨kv, 0, none⟩ = some (.string (ba op)) := (World.cell?_of_block (G5.block kv hkv' (fun e => hne e.symm))).trans hc0'
          refine hK.out _ _ hkc (fun _ => ?_)
          clear hK K
          try simp only [Act.put, List.setIfInBounds_toArray, List.set_cons_zero, List.set_cons_succ]
          refine wpAnyH_ready (rs := [8]) (by kernel_rfl) (by decide) (AllReadyH.cons rfl (fun K hK => ?_) AllReadyH.nil)
          rw [if_pos (by rfl)]
          refine operWp_app 31 31 (.tmp 44) (.tmp 51) (by rfl) _ _ _ _ (by rfl) (by rfl) hr5 ?_
          refine hK.out _ _ hk5 (fun _ => ?_)
          clear hK K
          try simp only [Act.put, List.setIfInBounds_toArray]
          refine wpAnyH_ready (rs := [9]) (by kernel_rfl) (by decide) (AllReadyH.cons rfl (fun K hK => ?_) AllReadyH.nil)
          rw [if_pos (by rfl)]
          go_simp
          refine hK.out _ _ hk5 (fun _ => ?_)
          clear hK K
          refine wpAnyH_done (by kernel_rfl) ?_ _
          have HT5 : Hid (PlS w5 w.heap.size (.slice p5 (P.length + 1) c5) (P ++ [((op, ar), .slice pa ar.length (cv - 1))])) := T5
          have HB5 : Hid (Below w.heap.size w w5) := HB3'.grown G5 HB3'.size (fun k hk => (HT3'.lt k hk).1)
          have HW5 : Hid (∀ x ∈ P ++ [((op, ar), Value.slice pa ar.length (cv - 1))], StW w5 w.heap.size (.slice p5 (P.length + 1) c5) x) := by
            intro x hx
            have key : ∀ k, w.heap.size ≤ k → k < W.heap.size → (Value.slice p P.length c).ownBlock ≠ some k → w5.heap[k]? = W.heap[k]? ∧ (Value.slice p5 (P.length + 1) c5).ownBlock ≠ some k := fun k _ hk h => ⟨G5.block k hk (fun e => h e.symm), N5 k hk h⟩
            rw [List.mem_append] at hx
            rcases hx with hx | hx
            · exact (HW3' x hx).next key
            · simp at hx
              subst hx
              exact StW.next (v := .slice p P.length c) ⟨kv, cv, cv - 1, pa, hv', rfl, hpa1, hne⟩ key
          have HH : Hid ((P ++ [((op, ar), Value.slice pa ar.length (cv - 1))]).length = P.length + 1) := by unfold Hid; rw [List.length_append]; rfl
          have HF : Hid ((P ++ [((op, ar), Value.slice pa ar.length (cv - 1))]).map Prod.fst = P.map Prod.fst ++ [(op, ar)]) := by unfold Hid; rw [List.map_append]; rfl
          generalize P ++ [((op, ar), Value.slice pa ar.length (cv - 1))] = PP at HT5 HW5 HH HF
          clear T5 G5 N5 HT3' HW3' HB3' hv' hc0' hkc hk5 hr5 hpa hpa1 h1i
          have hkm : k.length < m.length := nl_lt hxx
          have WC := word_any s k [93] w5 hs (show 1 ≤ 1024 by decide) HK.out
          rw [e93] at WC
          go_wp2_with fail
          refine WC.mono ?_
          rintro e w6 ⟨hW, q6, rfl⟩
          clear WC
          obtain ⟨f, rfl⟩ : ∃ f', f = f' + 1 := ⟨f - 1, by omega⟩
          have HT6 : Hid (PlS (w5.drewN q6) w.heap.size (.slice p5 (P.length + 1) c5) PP) := HT5.out.same (fun k _ => rfl)
          have HW6 : Hid (∀ x ∈ PP, StW (w5.drewN q6) w.heap.size (.slice p5 (P.length + 1) c5) x) := fun x hx => (HW5.out x hx).next (fun k _ _ h => ⟨rfl, h⟩)
          have HB6 : Hid (Below w.heap.size w (w5.drewN q6)) := bel_drewN HB5.out q6
          generalize w5.drewN q6 = w6 at HT6 HB6 HW6 ⊢
          clear HT5 HB5 HW5
          cases hx : ex [93] k with
          | ok u j =>
            rw [hx] at hW
            obtain ⟨rfl, hj⟩ := hW
            have HJ : Hid (Sf s j) := hj
            have HR : Hid (R = .ok (PP.map Prod.fst) j) := by
              have := HE3.out
              rw [ex1_ok hx, lst_end] at this
              unfold Hid
              rw [HF.out, ← this]
              show Rs.ok (P.map Prod.fst ++ [(op, ar)] ++ []) j = _
              rw [List.append_nil]
            clear HE3 hx hj
            go_wp2
            try rw [Exit.noGoto_ret]
            go_ret3
            rw [HR.out]
            exact ⟨⟨_, PP, rfl, HT6.out, rfl, HW6.out, HJ.out⟩, HB6.out⟩
          | bad j =>
            rw [hx] at hW
            obtain ⟨rfl, -⟩ := hW
            have HE6 : Hid (((ex [44] k).bind fun _ l => (stp n l).bind fun v l => (lst 93 (stp n) f false l).cons v).pre (PP.map Prod.fst) = R) := by
              have := HE3.out
              rw [lst_step _ _ _ _ _ (ex1_bad hx).1] at this
              unfold Hid
              rw [HF.out]
              exact this
            clear HE3 hx
            have WC := word_any s k [44] w6 hs (show 1 ≤ 1024 by decide) HK.out
            rw [e44] at WC
            go_wp2_with fail
            refine WC.mono ?_
            rintro e w7 ⟨hW, q7, rfl⟩
            clear WC
            have HT7 : Hid (PlS (w6.drewN q7) w.heap.size (.slice p5 (P.length + 1) c5) PP) := HT6.out.same (fun k _ => rfl)
            have HW7 : Hid (∀ x ∈ PP, StW (w6.drewN q7) w.heap.size (.slice p5 (P.length + 1) c5) x) := fun x hx => (HW6.out x hx).next (fun k _ _ h => ⟨rfl, h⟩)
            have HB7 : Hid (Below w.heap.size w (w6.drewN q7)) := bel_drewN HB6.out q7
            generalize w6.drewN q7 = w7 at HT7 HB7 HW7 ⊢
            clear HT6 HB6 HW6
            cases hx : ex [44] k with
            | bad j =>
              rw [hx] at hW HE6
              obtain ⟨rfl, hj⟩ := hW
              have HJ : Hid (Sf s j) := hj
              clear hx hj
              go_wp2
              try rw [Exit.noGoto_ret]
              go_ret3
              rw [← HE6.out]
              exact ⟨⟨rfl, HJ.out⟩, HB7.out⟩
            | ok u j =>
              have hkj : k.length = j.length + 1 := by rw [ex1_ok hx]; rfl
              rw [hx] at hW HE6
              obtain ⟨rfl, hj⟩ := hW
              have HJ : Hid (Sf s j) := hj
              have hl7 : Hid (PP.length + j.length ≤ s.length) := by unfold Hid; rw [HH.out]; omega
              clear hx hj
              go_wp2
              go_roundg (gk - 1)
              case measure => omega
              case rel => exact ⟨j, PP, p5, c5, f, rfl, (by rw [HH.out]), (by omega), (by omega), (by omega), HE6, HJ, (by rw [HH.out]; exact HT7), (by rw [HH.out]; exact HW7), HB7, hl7⟩

end Go.Proofs.Ytbfhfejdmhjccaa
