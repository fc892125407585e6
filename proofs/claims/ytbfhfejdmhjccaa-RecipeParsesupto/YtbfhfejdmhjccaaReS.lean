/- Lists of texts in memory; list[string], walked. -/
import Derived.Test.YtbfhfejdmhjccaaReR
namespace Go.Proofs.Ytbfhfejdmhjccaa
open Go.RowKit

theorem infoS9 : (Try.prog.info? 9).map (fun i => (i.zero, i.size, i.bytes)) = some (some (.string ⟨#[]⟩), 1, 16) := by kernel_rfl
theorem undLS : Try.prog.underlying 23 = some (.slice 9) := by kernel_rfl

/-- v is a slice of these texts, which the call itself made (blocks from B on). -/
def TxS (w : World) (B : Nat) (v : Value) (L : List (List UInt8)) : Prop := w.ownsRow B 9 1 v L.length (L.map fun t => .string (ba t))
theorem TxS.nil (w : World) (B : Nat) : TxS w B (.slice none 0 0) [] := World.ownsRow_nil _ _ _ _
theorem TxS.lt {w : World} {B : Nat} {v : Value} {L : List (List UInt8)} (h : TxS w B v L) : ∀ k, v.ownBlock = some k → B ≤ k ∧ k < w.heap.size := fun k hk => World.ownsRow.lt h k hk
theorem TxS.same {w w' : World} {B : Nat} {v : Value} {L : List (List UInt8)} (h : TxS w B v L) (e : ∀ k, v.ownBlock = some k → w'.heap[k]? = w.heap[k]?) : TxS w' B v L := row_same h e
theorem TxS.pm {w w' : World} {B g : Nat} {v : Value} {L : List (List UInt8)} (h : TxS w B v L) (m : Pm g w w') (hg : g < B) : TxS w' B v L :=
  h.same (fun k hk => m.block k (h.lt k hk).2 (by have := (h.lt k hk).1; omega))
theorem TxS.below {w w' : World} {B : Nat} {v : Value} {L : List (List UInt8)} (h : TxS w B v L) (m : Below w.heap.size w w') : TxS w' B v L :=
  h.same (fun k hk => m.block k (h.lt k hk).2)
theorem TxS.up {w : World} {B B' : Nat} {v : Value} {L : List (List UInt8)} (h : TxS w B v L) (e : B' ≤ B) : TxS w B' v L := row_up h e
theorem TxS.shape {w : World} {B : Nat} {v : Value} {L : List (List UInt8)} (h : TxS w B v L) : ∃ p c, v = .slice p L.length c := slice_of_row h
theorem TxS.app {w : World} {B : Nat} {v : Value} {L : List (List UInt8)} (h : TxS w B v L) (t : List UInt8) (hB : B ≤ w.heap.size) (hl : L.length ≤ 1073741824) :
    ∃ p c w', (Builtin.append_ #[23, 23] 23 #[v, .slice (some ⟨w.heap.size, 0, none⟩) 1 1]).run Try.prog (w.alloc (.cells #[.string (ba t)] 9)) = .ok (.slice p (L ++ [t]).length c) w' ∧ TxS w' B (.slice p (L ++ [t]).length c) (L ++ [t]) ∧ w.grownBy w' v.ownBlock := by
  obtain ⟨i0, hi, hz0, hz1, hz2⟩ := info_parts infoS9
  obtain ⟨v', w2, hr, hown', hgrow, -, -⟩ := run_append_own_at (P := Try.prog) (w.alloc (.cells #[.string (ba t)] 9)) B 23 23 9 i0 (.string ⟨#[]⟩) 1 16 undLS hi hz0 hz1 hz2 rfl (by decide) v L.length (L.map fun t => .string (ba t)) (World.ownsRow.alloc h _) ⟨w.heap.size, 0, none⟩ 1 1 [.string (ba t)] rfl (fun j u hj => by
      match j, hj with
      | 0, hj => simp at hj; subst hj; exact (World.cell?_alloc_new w _ _ 0).trans rfl) (by intro u hu; simp at hu; subst hu; rfl) (by unfold maxLen; omega) (by omega) (by rw [World.size_alloc]; omega)
  have HO : TxS w2 B v' (L ++ [t]) := by
    unfold TxS
    rw [List.length_append, List.map_append]
    exact hown'
  obtain ⟨p, c, rfl⟩ := HO.shape
  exact ⟨p, c, w2, hr, HO, (World.grownBy_alloc w _ _).trans hgrow⟩
theorem Pm.grown {g : Nat} {w0 w w' : World} {r : Option Nat} (m : Pm g w0 w) (h : w.grownBy w' r) (hr : ∀ k, r = some k → w0.heap.size ≤ k) : Pm g w0 w' :=
  ⟨h.os.trans m.os, h.tape.trans m.tape, h.output.trans m.output, Nat.le_trans m.size h.size, fun k hk hne => (h.block k (Nat.lt_of_lt_of_le hk m.size) (fun e => by have := hr k e.symm; omega)).trans (m.block k hk hne)⟩

theorem ex_le {f l m : List UInt8} {u : Unit} (h : ex f l = .ok u m) : m.length + f.length = l.length := by
  have := congrArg List.length (ex_one _ _ _ _ h)
  rw [List.length_append] at this
  omega
theorem quo_lt {l t m : List UInt8} (h : quo l = .ok t m) : m.length < l.length := by
  have := congrArg List.length (quo_one _ _ _ h)
  unfold qT at this
  rw [List.length_append] at this
  simp at this
  omega
theorem lst_end {α : Type} (cl : UInt8) (item : List UInt8 → Rs α) (f : Nat) (b : Bool) (l : List UInt8) : lst cl item (f + 1) b (cl :: l) = .ok [] l := by
  rw [lst, if_pos (show (cl :: l).head? = some cl from rfl)]; rfl
theorem lst_step {α : Type} (cl : UInt8) (item : List UInt8 → Rs α) (f : Nat) (b : Bool) (l : List UInt8) (h : l.head? ≠ some cl) : lst cl item (f + 1) b l = (ex (if b then [] else [44]) l).bind fun _ l => (item l).bind fun v l => (lst cl item f false l).cons v := by
  rw [lst, if_neg h]

set_option maxHeartbeats 4000000 in
theorem listS_any (g : Nat) (s l : List UInt8) (n : Nat) (hn : l.length < n) (w : World) (hs : s.length ≤ 16777216) (h : Ps w g s l) :
    Calls Try.prog 34 #[.pointer (some ⟨g, 0, none⟩), .func (.func 33) #[.pointer (some ⟨g, 0, none⟩)] #[]] w fun e w' => Out s g w (lst 93 quo n true l) (fun L x w' => TxS w' w.heap.size x L) e w' := by
  have hgl := h.lt
  have h93 : ((93 : UInt8).toNat : Int) = 93 := rfl
  have e44 : ba [44] = ⟨#[44]⟩ := rfl
  have hll := h.le
  generalize hR : lst 93 quo n true l = R
  have HR : Hid (lst 93 quo n true l = R) := hR
  have HP : Hid (Ps w g s l) := h
  clear hR h
  go_enter Try.func34, Try.ntmps34
  go_wp2_with fail
  go_loopg [5] (l.length) (fun gk v wr => ∃ (N : List UInt8) (L : List (List UInt8)) (p : Option Addr) (c f : Nat), v = .slice p L.length c ∧ N.length ≤ gk ∧ N.length < f ∧ Hid ((lst 93 quo f L.isEmpty N).pre L = R) ∧ Hid (Ps wr g s N) ∧ Hid (Pm g w wr) ∧ Hid (TxS wr w.heap.size (.slice p L.length c) L) ∧ Hid (L.length + N.length ≤ s.length))
  case atStart => exact ⟨l, [], none, 0, n, rfl, Nat.le_refl _, hn, by unfold Hid; rw [pre_nil]; exact HR.out, HP, Pm.refl g w, TxS.nil _ _, by show 0 + l.length ≤ _; omega⟩
  case round =>
    obtain ⟨N, L, p, c, f, rfl, hgk, hf, hE, hP, hM, hT, hL⟩ := hrel
    clear HR HP
    have hL' := hL.out
    obtain ⟨f, rfl⟩ : ∃ f', f = f' + 1 := ⟨f - 1, by omega⟩
    by_cases hc : N.head? = some 93
    · obtain ⟨N, rfl⟩ : ∃ m', N = 93 :: m' := by
        cases N with
        | nil => cases hc
        | cons y m' => injection hc with hc; exact ⟨m', by rw [hc]⟩
      have HE : Hid (R = .ok L N) := by
        have := hE.out
        rw [lst_end] at this
        unfold Hid
        rw [← this]
        show Rs.ok (L ++ []) N = Rs.ok L N
        rw [List.append_nil]
      have SC := skip_yes g s N 93 wr (by omega) hP.out
      rw [h93] at SC
      go_wp2_with fail
      refine SC.mono ?_
      rintro e w2 ⟨rfl, P2, M2⟩
      have HT2 : Hid (TxS w2 w.heap.size (.slice p L.length c) L) := hT.out.pm M2 hgl
      have HM2 : Hid (Pm g w w2) := hM.out.trans M2
      have HP2 : Hid (Ps w2 g s N) := P2
      clear P2 M2 SC hP hM hT hE hc
      go_wp2
      go_ret
      rw [HE.out]
      exact ⟨⟨_, rfl, HT2.out⟩, HP2.out, HM2.out⟩
    · have HE0 : Hid (((ex (if L.isEmpty then [] else [44]) N).bind fun _ l => (quo l).bind fun v l => (lst 93 quo f false l).cons v).pre L = R) := by
        have := hE.out
        rw [lst_step _ _ _ _ _ hc] at this
        exact this
      have SC := skip_no g s N 93 wr hP.out hc
      rw [h93] at SC
      by_cases hL0 : L = []
      · have HE : Hid (((quo N).bind fun v l => (lst 93 quo f false l).cons v).pre L = R) := by
          have := HE0.out
          rw [hL0] at this ⊢
          exact this
        have hz : ¬ (0 : Int) < (L.length : Int) := by rw [hL0]; simp
        clear hL0
        go_wp2_with fail
        refine SC.mono ?_
        rintro e w3 ⟨rfl, P2, M2⟩
        have HT3 : Hid (TxS w3 w.heap.size (.slice p L.length c) L) := hT.out.pm M2 hgl
        have HM3 : Hid (Pm g w w3) := hM.out.trans M2
        have HP3 : Hid (Ps w3 g s N) := P2
        clear P2 M2 SC hP hM hT hE hc HE0
        go_wp2_with fail
        clear hz
        refine (quoted_any g s N w3 hs HP3.out).mono ?_
        intro e w4 hO
        cases hq : quo N with
        | bad m4 =>
          rw [hq] at hO HE
          obtain ⟨rfl, M4⟩ := hO
          go_wp2
          refine ⟨rfl, ?_⟩
          rw [← HE.out]
          exact ⟨rfl, HM3.out.trans M4⟩
        | ok t m4 =>
          rw [hq] at hO HE
          obtain ⟨⟨x, rfl, rfl⟩, P4, M4⟩ := hO
          have hlt : m4.length < N.length := quo_lt hq
          have HE4 : Hid ((lst 93 quo f false m4).pre (L ++ [t]) = R) := by
            have := HE.out
            unfold Hid
            rw [← pre_cons]
            exact this
          have HT4 : Hid (TxS w4 w.heap.size (.slice p L.length c) L) := HT3.out.pm M4 hgl
          have HM4 : Hid (Pm g w w4) := HM3.out.trans M4
          have HP4 : Hid (Ps w4 g s m4) := P4
          obtain ⟨p5, c5, w5, hr5, T5, G5⟩ := HT4.out.app t HM4.out.size (by omega)
          have HT5 : Hid (TxS w5 w.heap.size (.slice p5 (L ++ [t]).length c5) (L ++ [t])) := T5
          have HM5 : Hid (Pm g w w5) := HM4.out.grown G5 (fun k hk => (HT4.out.lt k hk).1)
          have HP5 : Hid (Ps w5 g s m4) := HP4.out.same (G5.block g HP4.out.lt (fun e => by have := (HT4.out.lt g e.symm).1; omega))
          clear P4 M4 HE HT3 HM3 HP3 HT4 HM4 HP4 T5 G5 hq
          have hl5 : Hid ((L ++ [t]).length + m4.length ≤ s.length) := by unfold Hid; rw [List.length_append]; show L.length + 1 + _ ≤ _; omega
          go_wp2_with (first | (refine wpList_app_is (by rfl) 23 23 (.tmp 14) (.tmp 17) (by rfl) _ _ _ _ (by rfl) (by rfl) hr5 ?_))
          go_roundg (gk - 1)
          case measure => omega
          case rel => exact ⟨m4, L ++ [t], p5, c5, f, by first | rfl | simp, by omega, by omega, by unfold Hid; rw [show (L ++ [t]).isEmpty = false by cases L <;> rfl]; exact HE4.out, HP5, HM5, HT5, hl5⟩
      · have hie : L.isEmpty = false := by cases L with | nil => exact absurd rfl hL0 | cons _ _ => rfl
        have hz : (0 : Int) < (L.length : Int) := by
          cases L with
          | nil => exact absurd rfl hL0
          | cons _ _ => simp
        rw [hie] at HE0
        clear hL0
        go_wp2_with fail
        refine SC.mono ?_
        rintro e w2 ⟨rfl, P2, M2⟩
        have HT2 : Hid (TxS w2 w.heap.size (.slice p L.length c) L) := hT.out.pm M2 hgl
        have HM2 : Hid (Pm g w w2) := hM.out.trans M2
        have HP2 : Hid (Ps w2 g s N) := P2
        clear P2 M2 SC hP hM hT hE hc
        have EC := expect_any g s N [44] w2 (by omega) (by decide) HP2.out
        rw [e44] at EC
        go_wp2_with fail
        refine EC.mono ?_
        intro e w3 hO
        have hex : (if false = true then ([] : List UInt8) else [44]) = [44] := rfl
        rw [hex] at HE0
        cases hx : ex [44] N with
        | bad m3 =>
          rw [hx] at hO HE0
          obtain ⟨rfl, M3⟩ := hO
          go_wp2
          refine ⟨rfl, ?_⟩
          rw [← HE0.out]
          exact ⟨rfl, HM2.out.trans M3⟩
        | ok u m3 =>
          have hlt0 := ex_le hx
          rw [hx] at hO HE0
          obtain ⟨⟨x, rfl, rfl⟩, P3, M3⟩ := hO
          have HE : Hid (((quo m3).bind fun v l => (lst 93 quo f false l).cons v).pre L = R) := HE0.out
          have HT3 : Hid (TxS w3 w.heap.size (.slice p L.length c) L) := HT2.out.pm M3 hgl
          have HM3 : Hid (Pm g w w3) := HM2.out.trans M3
          have HP3 : Hid (Ps w3 g s m3) := P3
          have hml : m3.length < N.length := by simp at hlt0; omega
          clear P3 M3 HT2 HM2 HP2 EC HE0 hx hlt0
          go_wp2_with fail
          refine (quoted_any g s m3 w3 hs HP3.out).mono ?_
          intro e w4 hO
          cases hq : quo m3 with
          | bad m4 =>
            rw [hq] at hO HE
            obtain ⟨rfl, M4⟩ := hO
            go_wp2
            refine ⟨rfl, ?_⟩
            rw [← HE.out]
            exact ⟨rfl, HM3.out.trans M4⟩
          | ok t m4 =>
            rw [hq] at hO HE
            obtain ⟨⟨x, rfl, rfl⟩, P4, M4⟩ := hO
            have hlt : m4.length < m3.length := quo_lt hq
            have HE4 : Hid ((lst 93 quo f false m4).pre (L ++ [t]) = R) := by
              have := HE.out
              unfold Hid
              rw [← pre_cons]
              exact this
            have HT4 : Hid (TxS w4 w.heap.size (.slice p L.length c) L) := HT3.out.pm M4 hgl
            have HM4 : Hid (Pm g w w4) := HM3.out.trans M4
            have HP4 : Hid (Ps w4 g s m4) := P4
            obtain ⟨p5, c5, w5, hr5, T5, G5⟩ := HT4.out.app t HM4.out.size (by omega)
            have HT5 : Hid (TxS w5 w.heap.size (.slice p5 (L ++ [t]).length c5) (L ++ [t])) := T5
            have HM5 : Hid (Pm g w w5) := HM4.out.grown G5 (fun k hk => (HT4.out.lt k hk).1)
            have HP5 : Hid (Ps w5 g s m4) := HP4.out.same (G5.block g HP4.out.lt (fun e => by have := (HT4.out.lt g e.symm).1; omega))
            clear P4 M4 HE HT3 HM3 HP3 HT4 HM4 HP4 T5 G5 hq
            have hl5 : Hid ((L ++ [t]).length + m4.length ≤ s.length) := by unfold Hid; rw [List.length_append]; show L.length + 1 + _ ≤ _; omega
            go_wp2_with (first | (refine wpList_app_is (by rfl) 23 23 (.tmp 14) (.tmp 17) (by rfl) _ _ _ _ (by rfl) (by rfl) hr5 ?_))
            go_roundg (gk - 1)
            case measure => omega
            case rel => exact ⟨m4, L ++ [t], p5, c5, f, by first | rfl | simp, by omega, by omega, by unfold Hid; rw [show (L ++ [t]).isEmpty = false by cases L <;> rfl]; exact HE4.out, HP5, HM5, HT5, hl5⟩

end Go.Proofs.Ytbfhfejdmhjccaa
