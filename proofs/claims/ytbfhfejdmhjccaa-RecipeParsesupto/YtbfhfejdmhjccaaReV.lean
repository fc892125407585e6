/- list[Step], walked. -/
import Derived.Test.YtbfhfejdmhjccaaReU
namespace Go.Proofs.Ytbfhfejdmhjccaa
open Go.RowKit

set_option maxHeartbeats 4000000 in
theorem listT_any (g : Nat) (s l : List UInt8) (q n : Nat) (hq : l.length < q) (hn : l.length < n) (w : World) (hs : s.length ≤ 16777216) (h : Ps w g s l) :
    Calls Try.prog 35 #[.pointer (some ⟨g, 0, none⟩), .func (.func 36) #[.pointer (some ⟨g, 0, none⟩)] #[]] w fun e w' => Out s g w (lst 93 (stp q) n true l) (fun L x w' => StS w' w.heap.size x L) e w' := by
  have hgl := h.lt
  have h93 : ((93 : UInt8).toNat : Int) = 93 := rfl
  have e44 : ba [44] = ⟨#[44]⟩ := rfl
  have hll := h.le
  generalize hR : lst 93 (stp q) n true l = R
  have HR : Hid (lst 93 (stp q) n true l = R) := hR
  have HP : Hid (Ps w g s l) := h
  clear hR h
  go_enter Try.func35, Try.ntmps35
  go_wp2_with fail
  go_loopg [5] (l.length) (fun gk v wr => ∃ (N : List UInt8) (L : List Stp) (p : Option Addr) (c f : Nat), v = .slice p L.length c ∧ N.length ≤ l.length ∧ N.length ≤ gk ∧ N.length < f ∧ Hid ((lst 93 (stp q) f L.isEmpty N).pre L = R) ∧ Hid (Ps wr g s N) ∧ Hid (Pm g w wr) ∧ Hid (StS wr w.heap.size (.slice p L.length c) L) ∧ Hid (L.length + N.length ≤ s.length))
  case atStart => exact ⟨l, [], none, 0, n, rfl, Nat.le_refl _, Nat.le_refl _, hn, by unfold Hid; rw [pre_nil]; exact HR.out, HP, Pm.refl g w, StS.nil _ _, by show 0 + l.length ≤ _; omega⟩
  case round =>
    obtain ⟨N, L, p, c, f, rfl, hNl, hgk, hf, hE, hP, hM, hT, hL⟩ := hrel
    clear HR HP
    have hL' := hL.out
    obtain ⟨f, rfl⟩ : ∃ f', f = f' + 1 := ⟨f - 1, by omega⟩
    by_cases hc : N.head? = some 93
    · obtain ⟨N, rfl⟩ : ∃ m', N = 93 :: m' := by
        cases N with
        | nil => cases hc
        | cons y m' => injection hc with hc; exact ⟨m', by rw [hc]⟩
      have HE : Hid (R = .ok L N) := by
        have := hE.out
        rw [lst_end] at this
        unfold Hid
        rw [← this]
        show Rs.ok (L ++ []) N = Rs.ok L N
        rw [List.append_nil]
      have SC := skip_yes g s N 93 wr (by omega) hP.out
      rw [h93] at SC
      go_wp2_with fail
      refine SC.mono ?_
      rintro e w2 ⟨rfl, P2, M2⟩
      have HT2 : Hid (StS w2 w.heap.size (.slice p L.length c) L) := hT.out.pm M2 hgl
      have HM2 : Hid (Pm g w w2) := hM.out.trans M2
      have HP2 : Hid (Ps w2 g s N) := P2
      clear P2 M2 SC hP hM hT hE hc
      go_wp2
      go_ret
      rw [HE.out]
      exact ⟨⟨_, rfl, HT2.out⟩, HP2.out, HM2.out⟩
    · have HE0 : Hid (((ex (if L.isEmpty then [] else [44]) N).bind fun _ l => (stp q l).bind fun v l => (lst 93 (stp q) f false l).cons v).pre L = R) := by
        have := hE.out
        rw [lst_step _ _ _ _ _ hc] at this
        exact this
      have SC := skip_no g s N 93 wr hP.out hc
      rw [h93] at SC
      by_cases hL0 : L = []
      · have HE : Hid (((stp q N).bind fun v l => (lst 93 (stp q) f false l).cons v).pre L = R) := by
          have := HE0.out
          rw [hL0] at this ⊢
          exact this
        have hz : ¬ (0 : Int) < (L.length : Int) := by rw [hL0]; simp
        clear hL0
        go_wp2_with fail
        refine SC.mono ?_
        rintro e w3 ⟨rfl, P2, M2⟩
        have HT3 : Hid (StS w3 w.heap.size (.slice p L.length c) L) := hT.out.pm M2 hgl
        have HM3 : Hid (Pm g w w3) := hM.out.trans M2
        have HP3 : Hid (Ps w3 g s N) := P2
        clear P2 M2 SC hP hM hT hE hc HE0
        go_wp2_with fail
        clear hz
        refine (step_any g s N q (by omega) w3 hs HP3.out).mono ?_
        intro e w4 hO
        cases hqq : stp q N with
        | bad m4 =>
          rw [hqq] at hO HE
          obtain ⟨rfl, M4⟩ := hO
          go_wp2
          refine ⟨rfl, ?_⟩
          rw [← HE.out]
          exact ⟨rfl, HM3.out.trans M4⟩
        | ok t m4 =>
          rw [hqq] at hO HE
          obtain ⟨⟨x, rfl, y, rfl, TY⟩, P4, M4⟩ := hO
          have hlt : m4.length < N.length := stp_lt hqq
          have HE4 : Hid ((lst 93 (stp q) f false m4).pre (L ++ [t]) = R) := by
            have := HE.out
            unfold Hid
            rw [← pre_cons]
            exact this
          have HT4 : Hid (StS w4 w.heap.size (.slice p L.length c) L) := HT3.out.pm M4 hgl
          have HM4 : Hid (Pm g w w4) := HM3.out.trans M4
          have HP4 : Hid (Ps w4 g s m4) := P4
          obtain ⟨p5, c5, w5, hr5, T5, G5⟩ := HT4.out.app t y (TY.up HM3.out.size) (fun k h1 h2 => by have h3 := (TY.lt k h1).1; have h4 := (HT3.out.lt k h2).2; omega) TY.one HM4.out.size (by omega)
          have HT5 : Hid (StS w5 w.heap.size (.slice p5 (L ++ [t]).length c5) (L ++ [t])) := T5
          have HM5 : Hid (Pm g w w5) := HM4.out.grown G5 (fun k hk => (HT4.out.lt k hk).1)
          have HP5 : Hid (Ps w5 g s m4) := HP4.out.same (G5.block g HP4.out.lt (fun e => by have := (HT4.out.lt g e.symm).1; omega))
          clear P4 M4 HE HT3 HM3 HP3 HT4 HM4 HP4 T5 G5 hqq TY
          have hl5 : Hid ((L ++ [t]).length + m4.length ≤ s.length) := by unfold Hid; rw [List.length_append]; show L.length + 1 + _ ≤ _; omega
          go_wp2_with (first | (refine wpList_app_is (by rfl) 24 24 (.tmp 14) (.tmp 17) (by rfl) _ _ _ _ (by rfl) (by rfl) hr5 ?_))
          go_roundg (gk - 1)
          case measure => omega
          case rel => exact ⟨m4, L ++ [t], p5, c5, f, by first | rfl | simp, by omega, by omega, by omega, by unfold Hid; rw [show (L ++ [t]).isEmpty = false by cases L <;> rfl]; exact HE4.out, HP5, HM5, HT5, hl5⟩
      · have hie : L.isEmpty = false := by cases L with | nil => exact absurd rfl hL0 | cons _ _ => rfl
        have hz : (0 : Int) < (L.length : Int) := by
          cases L with
          | nil => exact absurd rfl hL0
          | cons _ _ => simp
        rw [hie] at HE0
        clear hL0
        go_wp2_with fail
        refine SC.mono ?_
        rintro e w2 ⟨rfl, P2, M2⟩
        have HT2 : Hid (StS w2 w.heap.size (.slice p L.length c) L) := hT.out.pm M2 hgl
        have HM2 : Hid (Pm g w w2) := hM.out.trans M2
        have HP2 : Hid (Ps w2 g s N) := P2
        clear P2 M2 SC hP hM hT hE hc
        have EC := expect_any g s N [44] w2 (by omega) (by decide) HP2.out
        rw [e44] at EC
        go_wp2_with fail
        refine EC.mono ?_
        intro e w3 hO
        have hex : (if false = true then ([] : List UInt8) else [44]) = [44] := rfl
        rw [hex] at HE0
        cases hx : ex [44] N with
        | bad m3 =>
          rw [hx] at hO HE0
          obtain ⟨rfl, M3⟩ := hO
          go_wp2
          refine ⟨rfl, ?_⟩
          rw [← HE0.out]
          exact ⟨rfl, HM2.out.trans M3⟩
        | ok u m3 =>
          have hlt0 := ex_le hx
          rw [hx] at hO HE0
          obtain ⟨⟨x, rfl, rfl⟩, P3, M3⟩ := hO
          have HE : Hid (((stp q m3).bind fun v l => (lst 93 (stp q) f false l).cons v).pre L = R) := HE0.out
          have HT3 : Hid (StS w3 w.heap.size (.slice p L.length c) L) := HT2.out.pm M3 hgl
          have HM3 : Hid (Pm g w w3) := HM2.out.trans M3
          have HP3 : Hid (Ps w3 g s m3) := P3
          have hml : m3.length < N.length := by simp at hlt0; omega
          clear P3 M3 HT2 HM2 HP2 EC HE0 hx hlt0
          go_wp2_with fail
          refine (step_any g s m3 q (by omega) w3 hs HP3.out).mono ?_
          intro e w4 hO
          cases hqq : stp q m3 with
          | bad m4 =>
            rw [hqq] at hO HE
            obtain ⟨rfl, M4⟩ := hO
            go_wp2
            refine ⟨rfl, ?_⟩
            rw [← HE.out]
            exact ⟨rfl, HM3.out.trans M4⟩
          | ok t m4 =>
            rw [hqq] at hO HE
            obtain ⟨⟨x, rfl, y, rfl, TY⟩, P4, M4⟩ := hO
            have hlt : m4.length < m3.length := stp_lt hqq
            have HE4 : Hid ((lst 93 (stp q) f false m4).pre (L ++ [t]) = R) := by
              have := HE.out
              unfold Hid
              rw [← pre_cons]
              exact this
            have HT4 : Hid (StS w4 w.heap.size (.slice p L.length c) L) := HT3.out.pm M4 hgl
            have HM4 : Hid (Pm g w w4) := HM3.out.trans M4
            have HP4 : Hid (Ps w4 g s m4) := P4
            obtain ⟨p5, c5, w5, hr5, T5, G5⟩ := HT4.out.app t y (TY.up HM3.out.size) (fun k h1 h2 => by have h3 := (TY.lt k h1).1; have h4 := (HT3.out.lt k h2).2; omega) TY.one HM4.out.size (by omega)
            have HT5 : Hid (StS w5 w.heap.size (.slice p5 (L ++ [t]).length c5) (L ++ [t])) := T5
            have HM5 : Hid (Pm g w w5) := HM4.out.grown G5 (fun k hk => (HT4.out.lt k hk).1)
            have HP5 : Hid (Ps w5 g s m4) := HP4.out.same (G5.block g HP4.out.lt (fun e => by have := (HT4.out.lt g e.symm).1; omega))
            clear P4 M4 HE HT3 HM3 HP3 HT4 HM4 HP4 T5 G5 hqq TY
            have hl5 : Hid ((L ++ [t]).length + m4.length ≤ s.length) := by unfold Hid; rw [List.length_append]; show L.length + 1 + _ ≤ _; omega
            go_wp2_with (first | (refine wpList_app_is (by rfl) 24 24 (.tmp 14) (.tmp 17) (by rfl) _ _ _ _ (by rfl) (by rfl) hr5 ?_))
            go_roundg (gk - 1)
            case measure => omega
            case rel => exact ⟨m4, L ++ [t], p5, c5, f, by first | rfl | simp, by omega, by omega, by omega, by unfold Hid; rw [show (L ++ [t]).isEmpty = false by cases L <;> rfl]; exact HE4.out, HP5, HM5, HT5, hl5⟩

end Go.Proofs.Ytbfhfejdmhjccaa
