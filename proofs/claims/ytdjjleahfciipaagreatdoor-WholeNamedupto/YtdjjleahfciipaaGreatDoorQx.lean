/- Gathered: Np5. -/
import Derived.Deep.LoopGhost
import Derived.Test.YtdjjleahfciipaaGreatDoorQt
import Derived.Test.YtdjjleahfciipaaGreatDoorQu
import Derived.Test.YtdjjleahfciipaaGreatDoorQw
/- NpL NpM NpN, joined (own text of the verifier). -/
namespace Go.Proofs.YtdjjleahfciipaaGreatDoor
open Go.RowKit

/-- The bytes of a slice that lies apart from the parser. -/
def BSl (w : World) (g : Nat) (fp : List Nat) (x : Option Addr) (u : List UInt8) : Prop := u = [] ∨ ∃ b o, x = some ⟨b, o, none⟩ ∧ b ≠ g ∧ b ∉ fp ∧ b < w.heap.size ∧ ∀ k (h : k < u.length), w.cell? ⟨b, o + k, none⟩ = some (.int .u8 ((u[k]'h).toNat : Int))
theorem PS.run_nil (p : PS) : p.run [] = p := rfl
theorem PS.run_cons (p : PS) (b : UInt8) (l : List UInt8) : p.run (b :: l) = if p.part = true ∧ p.c.next = 17 then p else if (p.step b).code ≠ 0 then p.step b else (p.step b).run l := rfl

set_option maxHeartbeats 8000000 in
set_option maxRecDepth 8000 in
theorem feed_any (g B : Nat) (p : PS) (fp : List Nat) (x : Option Addr) (c : Nat) (u : List UInt8) (w : World) (H : PW w g B p fp) (I : p.code = 0 → PI p) (hX : BSl w g fp x u) (hu : u.length ≤ 1073741824) :
    Calls Tryz.prog 39 #[.pointer (some ⟨g, 0, none⟩), .slice x u.length c] w fun e w' => e = .returned (.int .i64 (((p.feed u).taken : Int) - (p.taken : Int))) ∧ PM w w' g B fp (p.feed u) := by
  have HH : Hid (PW w g B p fp) := H
  obtain ⟨c0, -, c2, -, -, c5, -, -, -⟩ := H.cells
  have HX : Hid (BSl w g fp x u) := hX
  clear hX H
  by_cases hcl : p.closed = true
  · have HE : Hid (p.feed u = p) := if_pos (Or.inl hcl)
    rw [hcl] at c5
    clear hcl I
    go_enter Tryz.func39, Tryz.ntmps39
    go_wp2
    go_step3
    go_wp2
    try rw [Exit.noGoto_ret]
    go_ret
    exact ⟨by rw [HE.out, Int.sub_self]; rfl, by rw [HE.out]; exact PM.refl HH.out⟩
  have hclf : p.closed = false := by cases h : p.closed; rfl; exact absurd h hcl
  rw [hclf] at c5
  by_cases hcd : p.code = 0
  · have HI : Hid (PI p) := I hcd
    have HE : Hid (p.feed u = p.run u) := if_neg (by rintro (h | h); exact hcl h; exact h hcd)
    have HCD : Hid (p.code = 0) := hcd
    rw [hcd] at c2
    have htk := HI.out.tk
    clear I hcl hclf hcd
    go_enter Tryz.func39, Tryz.ntmps39
    go_wp2
    go_step3
    go_wp2
    go_step3
    go_wp2
    go_loopg [28] u.length (fun gk ix wr => ∃ (k : Nat) (s : PS) (fpk : List Nat), Hid (gk + k = u.length) ∧ ix = .int .i64 k ∧ Hid (PW wr g B s fpk) ∧ Hid (Ff g fp w wr) ∧ Hid (∀ x ∈ fpk, x ∈ fp ∨ w.heap.size ≤ x) ∧ Hid (PI s ∧ s.code = 0 ∧ p.run u = s.run (u.drop k) ∧ p.taken ≤ s.taken))
    case atStart => exact ⟨0, p, fp, rfl, rfl, HH, Ff.refl _ _ _, fun _ hx => Or.inl hx, HI.out, HCD.out, rfl, Nat.le_refl _⟩
    case round =>
      obtain ⟨k, s, fpk, hgk, rfl, hP, hF, hS, hI⟩ := hrel
      clear c0 c2 c5
      have hst := hI.out.1.tk
      by_cases hlt : k < u.length
      · obtain ⟨b, o, rfl, nb1, nb2, nb3, hcell⟩ := HX.out.resolve_left (fun e => by rw [e] at hlt; simp at hlt)
        have cb : wr.cell? ⟨b, o + k, none⟩ = some (.int .u8 ((u[k]'hlt).toNat : Int)) := (World.cell?_of_block (w := w) (a := ⟨b, o + k, none⟩) (hF.out.keep b nb3 nb1 nb2)).trans (hcell k hlt)
        have hdr : Hid (u.drop k = (u[k]'hlt) :: u.drop (k + 1)) := List.drop_eq_getElem_cons hlt
        clear hcell
        generalize u[k]'hlt = b0 at cb hdr
        obtain ⟨-, -, -, -, c4, -, c6, -, -⟩ := hP.out.cells
        have WH := whole_any g s.c.next wr c6
        have TC := take_any g B s fpk b0 wr hP.out hI.out.1
        have hltI : (k : Int) < (u.length : Int) := by omega
        have hgkk : k + 1 ≤ 1073741824 := by omega
        by_cases hpw : s.part = true ∧ s.c.next = 17
        · have hw17 : (s.c.next == 17) = true := by rw [hpw.2]; rfl
          have HR : Hid (p.run u = s) := by unfold Hid; rw [hI.out.2.2.1, hdr.out, PS.run_cons, if_pos hpw]
          rw [hw17] at WH
          rw [hpw.1] at c4
          clear hpw hw17 TC c6 hlt
          go_wp2_with fail
          refine WH.mono ?_
          rintro e1 w1 ⟨rfl, rfl⟩
          clear WH
          have c0 := hP.out.cells.1
          go_wp2
          try rw [Exit.noGoto_ret]
          go_ret
          exact ⟨by rw [HE.out, HR.out]; rfl, by rw [HE.out, HR.out]; exact ⟨fpk, hP.out, hF.out, hS.out⟩⟩
        · have HPW : Hid (¬ (s.part = true ∧ s.c.next = 17)) := hpw
          have hgd : s.part = false ∨ (s.part = true ∧ (s.c.next == 17) = false) := by
            cases hpt : s.part with
            | false => exact Or.inl rfl
            | true => exact Or.inr ⟨rfl, by simp; exact fun h => hpw ⟨hpt, h⟩⟩
          clear hpw
          obtain ⟨T, hT⟩ : ∃ T, s.take b0 = T := ⟨_, rfl⟩
          have HT : Hid (s.take b0 = T) := hT
          rw [hT] at TC
          clear hT c6
          obtain ⟨⟨C, F⟩, s2⟩ := T
          dsimp only at TC
          rcases hgd with hpt | ⟨hpt, hn17⟩
          · rw [hpt] at c4
            clear WH
            go_wp2_with fail
            refine TC.mono ?_
            rintro e1 w1 ⟨rfl, hp1⟩
            clear TC
            obtain ⟨fp1, P1, F1, S1⟩ := hp1
            have hP1 : Hid (PW w1 g B s2 fp1) := P1
            have hF1 : Hid (Ff g fp w w1) := hF.out.trans F1 hS.out
            have hS1 : Hid (∀ x ∈ fp1, x ∈ fp ∨ w.heap.size ≤ x) := fun x hx => by
              rcases S1 x hx with h | h
              · exact hS.out x h
              · exact Or.inr (Nat.le_trans hF.out.size h)
            have hk2 : Hid (s2.taken = s.taken) := by have := (s.take_keep b0).1; rw [HT.out] at this; exact this
            obtain ⟨c0, -, c2, c3, -, -, -, -, hfz⟩ := P1.cells
            have f0 := hfz 0 (by decide)
            have f2 := hfz 2 (by decide)
            have f3 := hfz 3 (by decide)
            rw [hk2.out] at c0
            clear P1 F1 S1 hfz hP hF hS c4
            by_cases hC : C = 0
            · subst hC
              have h0 : (s.take b0).1.1 = 0 := by rw [HT.out]
              have hse : Hid (s.step b0 = (s2.sf 0 0).sk (s.taken + 1)) := by unfold Hid; rw [PS.step_ok h0, HT.out]
              have hF0 : Hid (F = 0) := by
                have := s.take_zero b0 h0
                rw [HT.out] at this
                exact this
              have hI2 : Hid (PI ((s2.sf 0 0).sk (s.taken + 1)) ∧ p.run u = ((s2.sf 0 0).sk (s.taken + 1)).run (u.drop (k + 1))) := by
                have h1 := hI.out.1.take b0 h0
                rw [HT.out] at h1
                refine ⟨h1, ?_⟩
                rw [hI.out.2.2.1, hdr.out, PS.run_cons, if_neg HPW.out, hse.out, if_neg (by show ¬ (0 : Int) ≠ 0; decide)]
              have P3 : Hid (PW (((w1.setCell ⟨g, 2, none⟩ (.int .i64 0)).setCell ⟨g, 3, none⟩ (.int .i64 F)).setCell ⟨g, 0, none⟩ (.int .i64 ((s.taken : Int) + 1))) g B ((s2.sf 0 0).sk (s.taken + 1)) fp1) := by
                have h1 := ((hP1.out.cell 2 (.int .i64 0) (s2.sf 0 s2.fat) (by decide) (fun _ _ _ => rfl) rfl rfl rfl).cell 3 (.int .i64 0) (s2.sf 0 0) (by decide) (fun _ _ _ => rfl) rfl rfl rfl).cell 0 (.int .i64 ((s.taken : Int) + 1)) ((s2.sf 0 0).sk (s.taken + 1)) (by decide) (fun _ _ _ => rfl) rfl rfl rfl
                rw [hF0.out]
                exact h1
              have F3 : Hid (Ff g fp w (((w1.setCell ⟨g, 2, none⟩ (.int .i64 0)).setCell ⟨g, 3, none⟩ (.int .i64 F)).setCell ⟨g, 0, none⟩ (.int .i64 ((s.taken : Int) + 1)))) := ((hF1.out.set g 2 _ (Or.inl rfl)).set g 3 _ (Or.inl rfl)).set g 0 _ (Or.inl rfl)
              clear h0
              go_wp2
              go_roundg (gk - 1)
              case measure => have := hgk.out; omega
              case rel => exact ⟨k + 1, (s2.sf 0 0).sk (s.taken + 1), fp1, by have := hgk.out; unfold Hid; omega, by go_num, P3, F3, hS1, hI2.out.1, rfl, hI2.out.2, by show p.taken ≤ s.taken + 1; have := hI.out.2.2.2; omega⟩
            · have hcb : (C != 0) = true := by simp [hC]
              have h0 : (s.take b0).1.1 ≠ 0 := by rw [HT.out]; exact hC
              have HR : Hid (p.run u = s2.sf C F) := by
                unfold Hid
                rw [hI.out.2.2.1, hdr.out, PS.run_cons, if_neg HPW.out, PS.step_bad h0, HT.out, if_pos (by show C ≠ 0; exact hC)]
              have P3 : Hid (PW ((w1.setCell ⟨g, 2, none⟩ (.int .i64 C)).setCell ⟨g, 3, none⟩ (.int .i64 F)) g B (s2.sf C F) fp1) := (hP1.out.cell 2 (.int .i64 C) (s2.sf C s2.fat) (by decide) (fun _ _ _ => rfl) rfl rfl rfl).cell 3 (.int .i64 F) (s2.sf C F) (by decide) (fun _ _ _ => rfl) rfl rfl rfl
              have F3 : Hid (Ff g fp w ((w1.setCell ⟨g, 2, none⟩ (.int .i64 C)).setCell ⟨g, 3, none⟩ (.int .i64 F))) := (hF1.out.set g 2 _ (Or.inl rfl)).set g 3 _ (Or.inl rfl)
              clear h0
              go_wp2
              try rw [Exit.noGoto_ret]
              go_ret
              exact ⟨by rw [HE.out, HR.out]; show _ = Ending.returned (.int .i64 ((s2.taken : Int) - p.taken)); rw [hk2.out]; rfl, by rw [HE.out, HR.out]; exact ⟨fp1, P3.out, F3.out, hS1.out⟩⟩
          · rw [hpt] at c4
            rw [hn17] at WH
            go_wp2_with fail
            refine WH.mono ?_
            rintro e0 w0 ⟨rfl, rfl⟩
            clear WH
            go_wp2_with fail
            refine TC.mono ?_
            rintro e1 w1 ⟨rfl, hp1⟩
            clear TC
            obtain ⟨fp1, P1, F1, S1⟩ := hp1
            have hP1 : Hid (PW w1 g B s2 fp1) := P1
            have hF1 : Hid (Ff g fp w w1) := hF.out.trans F1 hS.out
            have hS1 : Hid (∀ x ∈ fp1, x ∈ fp ∨ w.heap.size ≤ x) := fun x hx => by
              rcases S1 x hx with h | h
              · exact hS.out x h
              · exact Or.inr (Nat.le_trans hF.out.size h)
            have hk2 : Hid (s2.taken = s.taken) := by have := (s.take_keep b0).1; rw [HT.out] at this; exact this
            obtain ⟨c0, -, c2, c3, -, -, -, -, hfz⟩ := P1.cells
            have f0 := hfz 0 (by decide)
            have f2 := hfz 2 (by decide)
            have f3 := hfz 3 (by decide)
            rw [hk2.out] at c0
            clear P1 F1 S1 hfz hP hF hS c4
            by_cases hC : C = 0
            · subst hC
              have h0 : (s.take b0).1.1 = 0 := by rw [HT.out]
              have hse : Hid (s.step b0 = (s2.sf 0 0).sk (s.taken + 1)) := by unfold Hid; rw [PS.step_ok h0, HT.out]
              have hF0 : Hid (F = 0) := by
                have := s.take_zero b0 h0
                rw [HT.out] at this
                exact this
              have hI2 : Hid (PI ((s2.sf 0 0).sk (s.taken + 1)) ∧ p.run u = ((s2.sf 0 0).sk (s.taken + 1)).run (u.drop (k + 1))) := by
                have h1 := hI.out.1.take b0 h0
                rw [HT.out] at h1
                refine ⟨h1, ?_⟩
                rw [hI.out.2.2.1, hdr.out, PS.run_cons, if_neg HPW.out, hse.out, if_neg (by show ¬ (0 : Int) ≠ 0; decide)]
              have P3 : Hid (PW (((w1.setCell ⟨g, 2, none⟩ (.int .i64 0)).setCell ⟨g, 3, none⟩ (.int .i64 F)).setCell ⟨g, 0, none⟩ (.int .i64 ((s.taken : Int) + 1))) g B ((s2.sf 0 0).sk (s.taken + 1)) fp1) := by
                have h1 := ((hP1.out.cell 2 (.int .i64 0) (s2.sf 0 s2.fat) (by decide) (fun _ _ _ => rfl) rfl rfl rfl).cell 3 (.int .i64 0) (s2.sf 0 0) (by decide) (fun _ _ _ => rfl) rfl rfl rfl).cell 0 (.int .i64 ((s.taken : Int) + 1)) ((s2.sf 0 0).sk (s.taken + 1)) (by decide) (fun _ _ _ => rfl) rfl rfl rfl
                rw [hF0.out]
                exact h1
              have F3 : Hid (Ff g fp w (((w1.setCell ⟨g, 2, none⟩ (.int .i64 0)).setCell ⟨g, 3, none⟩ (.int .i64 F)).setCell ⟨g, 0, none⟩ (.int .i64 ((s.taken : Int) + 1)))) := ((hF1.out.set g 2 _ (Or.inl rfl)).set g 3 _ (Or.inl rfl)).set g 0 _ (Or.inl rfl)
              clear h0
              go_wp2
              go_roundg (gk - 1)
              case measure => have := hgk.out; omega
              case rel => exact ⟨k + 1, (s2.sf 0 0).sk (s.taken + 1), fp1, by have := hgk.out; unfold Hid; omega, by go_num, P3, F3, hS1, hI2.out.1, rfl, hI2.out.2, by show p.taken ≤ s.taken + 1; have := hI.out.2.2.2; omega⟩
            · have hcb : (C != 0) = true := by simp [hC]
              have h0 : (s.take b0).1.1 ≠ 0 := by rw [HT.out]; exact hC
              have HR : Hid (p.run u = s2.sf C F) := by
                unfold Hid
                rw [hI.out.2.2.1, hdr.out, PS.run_cons, if_neg HPW.out, PS.step_bad h0, HT.out, if_pos (by show C ≠ 0; exact hC)]
              have P3 : Hid (PW ((w1.setCell ⟨g, 2, none⟩ (.int .i64 C)).setCell ⟨g, 3, none⟩ (.int .i64 F)) g B (s2.sf C F) fp1) := (hP1.out.cell 2 (.int .i64 C) (s2.sf C s2.fat) (by decide) (fun _ _ _ => rfl) rfl rfl rfl).cell 3 (.int .i64 F) (s2.sf C F) (by decide) (fun _ _ _ => rfl) rfl rfl rfl
              have F3 : Hid (Ff g fp w ((w1.setCell ⟨g, 2, none⟩ (.int .i64 C)).setCell ⟨g, 3, none⟩ (.int .i64 F))) := (hF1.out.set g 2 _ (Or.inl rfl)).set g 3 _ (Or.inl rfl)
              clear h0
              go_wp2
              try rw [Exit.noGoto_ret]
              go_ret
              exact ⟨by rw [HE.out, HR.out]; show _ = Ending.returned (.int .i64 ((s2.taken : Int) - p.taken)); rw [hk2.out]; rfl, by rw [HE.out, HR.out]; exact ⟨fp1, P3.out, F3.out, hS1.out⟩⟩
      · have hku : k = u.length := by have := hgk.out; omega
        have HR : Hid (p.run u = s) := by unfold Hid; rw [hI.out.2.2.1, hku, List.drop_length]; rfl
        have hltI : ¬ (k : Int) < (u.length : Int) := by omega
        have c0 := hP.out.cells.1
        clear hku
        go_wp2
        try rw [Exit.noGoto_ret]
        go_ret
        exact ⟨by rw [HE.out, HR.out]; rfl, by rw [HE.out, HR.out]; exact ⟨fpk, hP.out, hF.out, hS.out⟩⟩
  · have HE : Hid (p.feed u = p) := if_pos (Or.inr hcd)
    have hcb : (p.code != 0) = true := by simp [hcd]
    generalize p.code = C at *
    clear hcl hclf I
    go_enter Tryz.func39, Tryz.ntmps39
    go_wp2
    go_step3
    go_wp2
    try rw [Exit.noGoto_ret]
    go_ret
    exact ⟨by rw [HE.out, Int.sub_self]; rfl, by rw [HE.out]; exact PM.refl HH.out⟩
end Go.Proofs.YtdjjleahfciipaaGreatDoor

namespace Go.Proofs.YtdjjleahfciipaaGreatDoor
open Go.RowKit

theorem St.drew {w : World} {g : Nat} {L : List Value} (h : St w g L) : St w.drew g L := h.same (Nat.le_refl _) rfl
/-- A parser that is closed. -/
def PS.fin (p : PS) : PS := (if p.code = 0 ∧ p.c.next ≠ 17 then p.sf 4 p.taken else p).shut
/-- The tree that Close answers, and the fault. -/
def PS.ansT (p : PS) : Tr := if p.fin.code ≠ 0 then .mk 0 false ⟨#[]⟩ [] [] else p.c.root
def PS.ansF (p : PS) : Int × Int := if p.fin.code ≠ 0 then (p.fin.code, p.fin.fat) else (0, 0)

/-- A node and a fault that are handed back. -/
theorem ret_nf {f : Func} {tmps : Array Value} {W : World} {K1 K2 : Nat} {i j : Nat} {k : Int} {e : Bool} {t : ByteArray} {v : Value} {a b : Int} {R : Ending → World → Prop} (hf : f.results = #[.cell i 25, .cell j 49]) (h1 : tmps[i]?.getD undef = .pointer (some ⟨K1, 0, none⟩)) (h2 : tmps[j]?.getD undef = .pointer (some ⟨K2, 0, none⟩))
    (q : St W K1 [.int .i64 k, .bool e, .string t, v]) (q' : St W K2 [.int .i64 a, .int .i64 b]) (hR : R (.returned (.tuple #[.agg #[.int .i64 k, .bool e, .string t, v], .agg #[.int .i64 a, .int .i64 b]])) W) :
    bodyPost Tryz.prog f R .ret { tmps := tmps, defers := [] } W := by
  have q0 := q.get 0 _ rfl
  have q1 := q.get 1 _ rfl
  have q2 := q.get 2 _ rfl
  have q3 := q.get 3 _ rfl
  have r0 := q'.get 0 _ rfl
  have r1 := q'.get 1 _ rfl
  exact bodyPost_ret (v := .tuple #[.agg #[.int .i64 k, .bool e, .string t, v], .agg #[.int .i64 a, .int .i64 b]]) (by simp [results, hf, go_sem, h1, h2, q0, q1, q2, q3, r0, r1]) rfl hR

/-- On the way from w: the parser p, and blocks K1, K2 for what will be handed back. -/
structure TC (w W : World) (g B K1 K2 : Nat) (fp : List Nat) (p : PS) : Prop where
  pw : PW W g B p fp
  ff : Ff g fp w W
  s1 : St W K1 [.int .i64 0, .bool false, .string ⟨#[]⟩, .slice none 0 0]
  s2 : St W K2 [.int .i64 0, .int .i64 0]
  n1 : w.heap.size ≤ K1 ∧ K1 ≠ g ∧ K1 ∉ fp
  n2 : w.heap.size ≤ K2 ∧ K2 ≠ g ∧ K2 ∉ fp
  ne : K1 ≠ K2
theorem TC.start {w : World} {g B : Nat} {fp : List Nat} {p : PS} (h : PW w g B p fp) : TC w ((w.alloc (.cells #[.int .i64 0, .bool false, .string ⟨#[]⟩, .slice none 0 0] 25)).alloc (.cells #[.int .i64 0, .int .i64 0] 49)) g B w.heap.size (w.heap.size + 1) fp p := by
  have b : Below w.heap.size w ((w.alloc (.cells #[.int .i64 0, .bool false, .string ⟨#[]⟩, .slice none 0 0] 25)).alloc (.cells #[.int .i64 0, .int .i64 0] 49)) := ((Below.refl _ _).alloc (Nat.le_refl _) _).alloc (by rw [World.size_alloc]; omega) _
  have hl := h.lt
  refine ⟨h.below b, ((Ff.refl _ _ _).alloc _).alloc _, (St.new w _ _).same (by simp only [World.size_alloc]; omega) (Below.heap_alloc _ _ _ (by rw [World.size_alloc]; omega)), ?_, ⟨Nat.le_refl _, by omega, fun hm => by have := (hl.2.2 _ hm).2; omega⟩, ⟨by omega, by omega, fun hm => by have := (hl.2.2 _ hm).2; omega⟩, by omega⟩
  have := St.new (w.alloc (.cells #[.int .i64 0, .bool false, .string ⟨#[]⟩, .slice none 0 0] 25)) #[.int .i64 0, .int .i64 0] 49
  rw [World.size_alloc] at this
  exact this
theorem TC.cell {w W : World} {g B K1 K2 : Nat} {fp : List Nat} {p : PS} (h : TC w W g B K1 K2 fp p) (j : Nat) (x : Value) (p' : PS) (hj : j < 14) (e : ∀ tv ov rv, (p.cells tv ov rv).set j x = p'.cells tv ov rv) (et : p'.text = p.text) (eo : p'.c.op = p.c.op) (er : p'.c.root = p.c.root) : TC w (W.setCell ⟨g, j, none⟩ x) g B K1 K2 fp p' :=
  ⟨h.pw.cell j x p' hj e et eo er, h.ff.set g j x (Or.inl rfl), h.s1.same (by rw [World.size_setCell]; exact Nat.le_refl _) (Below.heap_setCell W _ _ K1 h.n1.2.1), h.s2.same (by rw [World.size_setCell]; exact Nat.le_refl _) (Below.heap_setCell W _ _ K2 h.n2.2.1), h.n1, h.n2, h.ne⟩
theorem TC.below {w W W' : World} {g B K1 K2 : Nat} {fp : List Nat} {p : PS} (h : TC w W g B K1 K2 fp p) (b : Below W.heap.size W W') : TC w W' g B K1 K2 fp p :=
  ⟨h.pw.below b, ⟨b.os.trans h.ff.os, b.tape.trans h.ff.tape, b.output.trans h.ff.output, Nat.le_trans h.ff.size b.size, fun i hi h1 h2 => (b.block i (Nat.lt_of_lt_of_le hi h.ff.size)).trans (h.ff.keep i hi h1 h2)⟩, h.s1.same b.size (b.block K1 h.s1.lt), h.s2.same b.size (b.block K2 h.s2.lt), h.n1, h.n2, h.ne⟩
/-- What is handed back, stored. -/
def put6 (W : World) (K1 K2 : Nat) (k : Int) (e : Bool) (t : ByteArray) (v : Value) (a b : Int) : World := ((set4 W K1 0 k e t v).setCell ⟨K2, 0, none⟩ (.int .i64 a)).setCell ⟨K2, 1, none⟩ (.int .i64 b)
theorem put6_other (W : World) (K1 K2 : Nat) (k : Int) (e : Bool) (t : ByteArray) (v : Value) (a b : Int) (i : Nat) (h1 : i ≠ K1) (h2 : i ≠ K2) : (put6 W K1 K2 k e t v a b).heap[i]? = W.heap[i]? :=
  (Below.heap_setCell _ ⟨K2, 1, none⟩ _ i h2).trans ((Below.heap_setCell _ ⟨K2, 0, none⟩ _ i h2).trans (set4_other W K1 0 k e t v i h1))
theorem put6_size (W : World) (K1 K2 : Nat) (k : Int) (e : Bool) (t : ByteArray) (v : Value) (a b : Int) : (put6 W K1 K2 k e t v a b).heap.size = W.heap.size := by
  unfold put6
  rw [World.size_setCell, World.size_setCell, set4_size]
theorem TC.out {w W : World} {g B K1 K2 : Nat} {fp : List Nat} {p : PS} (h : TC w W g B K1 K2 fp p) (k : Int) (e : Bool) (t : ByteArray) (v : Value) (a b : Int) :
    St (put6 W K1 K2 k e t v a b) K1 [.int .i64 k, .bool e, .string t, v] ∧ St (put6 W K1 K2 k e t v a b) K2 [.int .i64 a, .int .i64 b] ∧ PM w (put6 W K1 K2 k e t v a b) g B fp p := by
  have s1 : St (set4 W K1 0 k e t v) K1 [.int .i64 k, .bool e, .string t, v] := ((((h.s1.set 0 (.int .i64 k) (by show 0 < 4; decide)).set 1 (.bool e) (by show 1 < 4; decide)).set 2 (.string t) (by show 2 < 4; decide)).set 3 v (by show 3 < 4; decide)).cast rfl
  have s2 : St (set4 W K1 0 k e t v) K2 [.int .i64 0, .int .i64 0] := h.s2.same (by rw [set4_size]; exact Nat.le_refl _) (set4_other W K1 0 k e t v K2 (fun e => h.ne e.symm))
  refine ⟨s1.same ?_ ?_, ((s2.set 0 (.int .i64 a) (by show 0 < 2; decide)).set 1 (.int .i64 b) (by show 1 < 2; decide)).cast rfl, fp, ?_, ?_, fun _ hx => Or.inl hx⟩
  · unfold put6; rw [World.size_setCell, World.size_setCell]; exact Nat.le_refl _
  · exact (Below.heap_setCell _ ⟨K2, 1, none⟩ _ K1 h.ne).trans (Below.heap_setCell _ ⟨K2, 0, none⟩ _ K1 h.ne)
  · refine h.pw.same (by rw [put6_size]; exact Nat.le_refl _) (put6_other _ _ _ _ _ _ _ _ _ g (fun e => h.n1.2.1 e.symm) (fun e => h.n2.2.1 e.symm)) (fun x hx => put6_other _ _ _ _ _ _ _ _ _ x (fun e => h.n1.2.2 (e ▸ hx)) (fun e => h.n2.2.2 (e ▸ hx)))
  · exact (((((h.ff.set K1 _ _ (Or.inr (Or.inr h.n1.1))).set K1 _ _ (Or.inr (Or.inr h.n1.1))).set K1 _ _ (Or.inr (Or.inr h.n1.1))).set K1 _ _ (Or.inr (Or.inr h.n1.1))).set K2 _ _ (Or.inr (Or.inr h.n2.1))).set K2 _ _ (Or.inr (Or.inr h.n2.1))

/-- What Close answers. -/
def ClP (p : PS) (w : World) (g B : Nat) (fp : List Nat) (e : Ending) (w' : World) : Prop := (∃ v fr, e = .returned (.tuple #[.agg #[.int .i64 p.ansT.k, .bool p.ansT.e, .string p.ansT.t, v], .agg #[.int .i64 p.ansF.1, .int .i64 p.ansF.2]]) ∧ TrV w' w.heap.size p.ansT v fr ∧ fr.Nodup) ∧ PM w w' g B fp p.fin
theorem PM.drewN {w w' : World} {g B : Nat} {fp : List Nat} {p : PS} (h : PM w w' g B fp p) (q : Nat) : PM w (w'.drewN q) g B fp p := by
  obtain ⟨fp', h1, h2, h3⟩ := h
  exact ⟨fp', h1.drewN q, h2.drewN q, h3⟩
theorem PM.drew {w w' : World} {g B : Nat} {fp : List Nat} {p : PS} (h : PM w w' g B fp p) : PM w w'.drew g B fp p := h.drewN 1
theorem ClP.bad {p : PS} {w w' : World} {g B : Nat} {fp : List Nat} {a b : Int} (hc : p.fin.code = a) (ha : a ≠ 0) (hf : p.fin.fat = b) (h : PM w w' g B fp p.fin) : ClP p w g B fp (.returned (.tuple #[.agg #[.int .i64 0, .bool false, .string ⟨#[]⟩, .slice none 0 0], .agg #[.int .i64 a, .int .i64 b]])) w' := by
  have eT : p.ansT = .mk 0 false ⟨#[]⟩ [] [] := if_pos (by rw [hc]; exact ha)
  have eF : p.ansF = (a, b) := by unfold PS.ansF; rw [if_pos (by rw [hc]; exact ha), hc, hf]
  refine ⟨⟨.slice none 0 0, [], by rw [eT, eF]; rfl, ?_, by simp⟩, h⟩
  rw [eT, TrV]
  exact ⟨[], [], World.ownsRow_nil _ _ _ _, by rw [KidV]; exact ⟨rfl, rfl⟩, rfl⟩

set_option maxHeartbeats 8000000 in
set_option maxRecDepth 8000 in
theorem close_bad (g B : Nat) (p : PS) (fp : List Nat) (w : World) (H : PW w g B p fp) (hc : p.code ≠ 0) :
    Calls Tryz.prog 40 #[.pointer (some ⟨g, 0, none⟩)] w (ClP p w g B fp) := by
  have T0 : Hid (TC w ((w.alloc (.cells #[.int .i64 0, .bool false, .string ⟨#[]⟩, .slice none 0 0] 25)).alloc (.cells #[.int .i64 0, .int .i64 0] 49)) g B w.heap.size (w.heap.size + 1) fp p) := TC.start H
  have HFN : Hid (p.fin = p.shut) := by unfold Hid PS.fin; rw [if_neg (fun h => hc h.1)]
  have hcb : (p.code == 0) = false := by simp [hc]
  have hcn : (p.code != 0) = true := by simp [hc]
  have HC : Hid (p.code ≠ 0) := hc
  clear H
  go_enter Tryz.func40, Tryz.ntmps40
  go_upto_region 1 with fail
  obtain ⟨K1, hK1⟩ : ∃ K, w.heap.size = K := ⟨_, rfl⟩
  have hK2 : w.heap.size + 1 = K1 + 1 := by rw [hK1]
  rw [hK1] at T0 ⊢
  generalize (w.alloc (.cells #[.int .i64 0, .bool false, .string ⟨#[]⟩, .slice none 0 0] 25)).alloc (.cells #[.int .i64 0, .int .i64 0] 49) = w1 at *
  obtain ⟨-, -, c2, c3, -, c5, -, -, hfz⟩ := T0.out.pw.cells
  have f5 := hfz 5 (by decide)
  clear hfz hK2 hK1
  have T1 : Hid (TC w (w1.setCell ⟨g, 5, none⟩ (.bool true)) g B K1 (K1 + 1) fp p.shut) := T0.out.cell 5 _ p.shut (by decide) (fun _ _ _ => rfl) rfl rfl rfl
  clear T0
  go_upto_region 4 with fail
  clear c2 c3 c5 f5
  generalize w1.setCell ⟨g, 5, none⟩ (.bool true) = w2 at *
  obtain ⟨-, -, c2, c3, -, -, -, -, -⟩ := T1.out.pw.cells
  change w2.cell? ⟨g, 2, none⟩ = some (.int .i64 p.code) at c2
  change w2.cell? ⟨g, 3, none⟩ = some (.int .i64 p.fat) at c3
  have x0 := T1.out.s1.get 0 _ rfl
  have x1 := T1.out.s1.get 1 _ rfl
  have x2 := T1.out.s1.get 2 _ rfl
  have x3 := T1.out.s1.get 3 _ rfl
  have y0 := T1.out.s1.fr 0 (by show 0 < 4; decide)
  have y1 := T1.out.s1.fr 1 (by show 1 < 4; decide)
  have y2 := T1.out.s1.fr 2 (by show 2 < 4; decide)
  have y3 := T1.out.s1.fr 3 (by show 3 < 4; decide)
  have z0 := T1.out.s2.get 0 _ rfl
  have z1 := T1.out.s2.get 1 _ rfl
  have v0 := T1.out.s2.fr 0 (by show 0 < 2; decide)
  have v1 := T1.out.s2.fr 1 (by show 1 < 2; decide)
  have n1 := T1.out.n1.2.1
  have n1' : g ≠ K1 := fun e => n1 e.symm
  have n2 := T1.out.n2.2.1
  have n2' : g ≠ K1 + 1 := fun e => n2 e.symm
  go_upto_region 5 with fail
  go_region
  go_wp2
  obtain ⟨q1, q2, q3⟩ := T1.out.out 0 false ⟨#[]⟩ (.slice none 0 0) p.code p.fat
  have q1' : St (put6 w2 K1 (K1 + 1) 0 false ⟨#[]⟩ (.slice none 0 0) p.code p.fat).drew K1 [.int .i64 0, .bool false, .string ⟨#[]⟩, .slice none 0 0] := q1.drew
  have q2' : St (put6 w2 K1 (K1 + 1) 0 false ⟨#[]⟩ (.slice none 0 0) p.code p.fat).drew (K1 + 1) [.int .i64 p.code, .int .i64 p.fat] := q2.drew
  have q3' : PM w (put6 w2 K1 (K1 + 1) 0 false ⟨#[]⟩ (.slice none 0 0) p.code p.fat).drew g B fp p.fin := by rw [HFN.out]; exact q3.drew
  change bodyPost Tryz.prog _ _ _ _ (put6 w2 K1 (K1 + 1) 0 false ⟨#[]⟩ (.slice none 0 0) p.code p.fat).drew
  clear q1 q2 q3
  generalize (put6 w2 K1 (K1 + 1) 0 false ⟨#[]⟩ (.slice none 0 0) p.code p.fat).drew = W at *
  exact ret_nf rfl rfl rfl q1' q2' (ClP.bad (by rw [HFN.out]; rfl) HC.out (by rw [HFN.out]; rfl) q3')

set_option maxHeartbeats 8000000 in
set_option maxRecDepth 8000 in
theorem close_short (g B : Nat) (p : PS) (fp : List Nat) (w : World) (H : PW w g B p fp) (hc : p.code = 0) (hn : p.c.next ≠ 17) :
    Calls Tryz.prog 40 #[.pointer (some ⟨g, 0, none⟩)] w (ClP p w g B fp) := by
  have T0 : Hid (TC w ((w.alloc (.cells #[.int .i64 0, .bool false, .string ⟨#[]⟩, .slice none 0 0] 25)).alloc (.cells #[.int .i64 0, .int .i64 0] 49)) g B w.heap.size (w.heap.size + 1) fp p) := TC.start H
  have HFN : Hid (p.fin = (p.sf 4 p.taken).shut) := by unfold Hid PS.fin; rw [if_pos ⟨hc, hn⟩]
  have hnb : (p.c.next == 17) = false := by simp [hn]
  clear H
  go_enter Tryz.func40, Tryz.ntmps40
  go_upto_region 1 with fail
  obtain ⟨K1, hK1⟩ : ∃ K, w.heap.size = K := ⟨_, rfl⟩
  rw [hK1] at T0 ⊢
  generalize (w.alloc (.cells #[.int .i64 0, .bool false, .string ⟨#[]⟩, .slice none 0 0] 25)).alloc (.cells #[.int .i64 0, .int .i64 0] 49) = w1 at *
  obtain ⟨c0, -, c2, c3, -, c5, c6, -, hfz⟩ := T0.out.pw.cells
  have f5 := hfz 5 (by decide)
  have f2 := hfz 2 (by decide)
  have f3 := hfz 3 (by decide)
  rw [hc] at c2
  have WH := whole_any g p.c.next w1 c6
  rw [hnb] at WH
  clear hfz hK1 c6 hnb
  have T1 : Hid (TC w (((w1.setCell ⟨g, 2, none⟩ (.int .i64 4)).setCell ⟨g, 3, none⟩ (.int .i64 (p.taken : Int))).setCell ⟨g, 5, none⟩ (.bool true)) g B K1 (K1 + 1) fp (p.sf 4 p.taken).shut) := ((T0.out.cell 2 (.int .i64 4) (p.sf 4 p.fat) (by decide) (fun _ _ _ => rfl) rfl rfl rfl).cell 3 (.int .i64 (p.taken : Int)) (p.sf 4 p.taken) (by decide) (fun _ _ _ => rfl) rfl rfl rfl).cell 5 (.bool true) (p.sf 4 p.taken).shut (by decide) (fun _ _ _ => rfl) rfl rfl rfl
  clear T0
  go_wp2_with fail
  refine WH.mono ?_
  rintro e1 w1' ⟨rfl, rfl⟩
  clear WH
  go_upto_region 4 with fail
  clear c0 c2 c3 c5 f5 f2 f3
  generalize ((w1'.setCell ⟨g, 2, none⟩ (.int .i64 4)).setCell ⟨g, 3, none⟩ (.int .i64 (p.taken : Int))).setCell ⟨g, 5, none⟩ (.bool true) = w2 at *
  obtain ⟨-, -, c2, c3, -, -, -, -, -⟩ := T1.out.pw.cells
  change w2.cell? ⟨g, 2, none⟩ = some (.int .i64 4) at c2
  change w2.cell? ⟨g, 3, none⟩ = some (.int .i64 (p.taken : Int)) at c3
  have x0 := T1.out.s1.get 0 _ rfl
  have x1 := T1.out.s1.get 1 _ rfl
  have x2 := T1.out.s1.get 2 _ rfl
  have x3 := T1.out.s1.get 3 _ rfl
  have y0 := T1.out.s1.fr 0 (by show 0 < 4; decide)
  have y1 := T1.out.s1.fr 1 (by show 1 < 4; decide)
  have y2 := T1.out.s1.fr 2 (by show 2 < 4; decide)
  have y3 := T1.out.s1.fr 3 (by show 3 < 4; decide)
  have z0 := T1.out.s2.get 0 _ rfl
  have z1 := T1.out.s2.get 1 _ rfl
  have v0 := T1.out.s2.fr 0 (by show 0 < 2; decide)
  have v1 := T1.out.s2.fr 1 (by show 1 < 2; decide)
  have n1 := T1.out.n1.2.1
  have n1' : g ≠ K1 := fun e => n1 e.symm
  have n2 := T1.out.n2.2.1
  have n2' : g ≠ K1 + 1 := fun e => n2 e.symm
  go_upto_region 5 with fail
  go_region
  go_wp2
  obtain ⟨q1, q2, q3⟩ := T1.out.out 0 false ⟨#[]⟩ (.slice none 0 0) 4 (p.taken : Int)
  have q1' : St (put6 w2 K1 (K1 + 1) 0 false ⟨#[]⟩ (.slice none 0 0) 4 (p.taken : Int)).drew K1 [.int .i64 0, .bool false, .string ⟨#[]⟩, .slice none 0 0] := q1.drew
  have q2' : St (put6 w2 K1 (K1 + 1) 0 false ⟨#[]⟩ (.slice none 0 0) 4 (p.taken : Int)).drew (K1 + 1) [.int .i64 4, .int .i64 (p.taken : Int)] := q2.drew
  have q3' : PM w (put6 w2 K1 (K1 + 1) 0 false ⟨#[]⟩ (.slice none 0 0) 4 (p.taken : Int)).drew g B fp p.fin := by rw [HFN.out]; exact q3.drew
  change bodyPost Tryz.prog _ _ _ _ (put6 w2 K1 (K1 + 1) 0 false ⟨#[]⟩ (.slice none 0 0) 4 (p.taken : Int)).drew
  clear q1 q2 q3
  generalize (put6 w2 K1 (K1 + 1) 0 false ⟨#[]⟩ (.slice none 0 0) 4 (p.taken : Int)).drew = W at *
  exact ret_nf rfl rfl rfl q1' q2' (ClP.bad (by rw [HFN.out]; rfl) (by decide) (by rw [HFN.out]; rfl) q3')

set_option maxHeartbeats 8000000 in
set_option maxRecDepth 8000 in
theorem close_ok (g B : Nat) (p : PS) (fp : List Nat) (w : World) (H : PW w g B p fp) (hc : p.code = 0) (hn : p.c.next = 17) (hl : lnT p.c.root) :
    Calls Tryz.prog 40 #[.pointer (some ⟨g, 0, none⟩)] w (ClP p w g B fp) := by
  have T0 : Hid (TC w ((w.alloc (.cells #[.int .i64 0, .bool false, .string ⟨#[]⟩, .slice none 0 0] 25)).alloc (.cells #[.int .i64 0, .int .i64 0] 49)) g B w.heap.size (w.heap.size + 1) fp p) := TC.start H
  have HFN : Hid (p.fin = p.shut) := by unfold Hid PS.fin; rw [if_neg (fun h => h.2 hn)]
  have HCD : Hid (p.code = 0) := hc
  have HLN : Hid (lnT p.c.root) := hl
  have hnb : (p.c.next == 17) = true := by rw [hn]; rfl
  clear H hl
  go_enter Tryz.func40, Tryz.ntmps40
  go_upto_region 1 with fail
  obtain ⟨K1, hK1⟩ : ∃ K, w.heap.size = K := ⟨_, rfl⟩
  have HKW : Hid (w.heap.size = K1) := hK1
  rw [hK1] at T0 ⊢
  generalize (w.alloc (.cells #[.int .i64 0, .bool false, .string ⟨#[]⟩, .slice none 0 0] 25)).alloc (.cells #[.int .i64 0, .int .i64 0] 49) = w1 at *
  obtain ⟨c0, -, c2, c3, -, c5, c6, -, hfz⟩ := T0.out.pw.cells
  have f5 := hfz 5 (by decide)
  rw [hc] at c2
  have WH := whole_any g p.c.next w1 c6
  rw [hnb] at WH
  clear hfz hK1 c6 hnb hc hn
  have T1 : Hid (TC w (w1.setCell ⟨g, 5, none⟩ (.bool true)) g B K1 (K1 + 1) fp p.shut) := T0.out.cell 5 _ p.shut (by decide) (fun _ _ _ => rfl) rfl rfl rfl
  clear T0
  go_wp2_with fail
  refine WH.mono ?_
  rintro e1 w1' ⟨rfl, rfl⟩
  clear WH
  go_upto_region 4 with fail
  clear c0 c2 c3 c5 f5
  generalize w1'.setCell ⟨g, 5, none⟩ (.bool true) = w2 at *
  obtain ⟨-, -, c2, -, -, -, -, -, -⟩ := T1.out.pw.cells
  change w2.cell? ⟨g, 2, none⟩ = some (.int .i64 p.code) at c2
  rw [HCD.out] at c2
  -- the root
  obtain ⟨tv, ov, rv, cs, fo, fr, hpv, hfp⟩ := T1.out.pw
  have r0 : w2.cell? ⟨g, 10, none⟩ = some (.int .i64 p.c.root.k) := hpv.st.get 10 _ rfl
  have r1 : w2.cell? ⟨g, 11, none⟩ = some (.bool p.c.root.e) := hpv.st.get 11 _ rfl
  have r2 : w2.cell? ⟨g, 12, none⟩ = some (.string p.c.root.t) := hpv.st.get 12 _ rfl
  have r3 : w2.cell? ⟨g, 13, none⟩ = some rv := hpv.st.get 13 _ rfl
  obtain ⟨m, hAt⟩ := TrV.at p.c.root rv fr hpv.ro HLN.out
  obtain ⟨xr, cr, hrv⟩ := hpv.ro.shape
  have hrv : rv = .slice xr p.c.root.nms.length cr := hrv
  have CC := copyV_any m _ p.c.root w2 hAt
  rw [hrv] at r3 CC
  clear hpv hfp hAt hrv
  obtain ⟨T, hT⟩ : ∃ T, p.c.root = T := ⟨_, rfl⟩
  have HTT : Hid (p.c.root = T) := hT
  rw [hT] at r0 r1 r2 r3 CC
  clear hT
  go_wp2_with fail
  refine CC.mono ?_
  rintro e3 w3 ⟨⟨xv, fv, rfl, hTv, hNv⟩, b3⟩
  clear CC
  obtain ⟨xx, nn, cc, hxv⟩ : ∃ x n c, xv = .slice x n c := by obtain ⟨x, c, h⟩ := hTv.shape; exact ⟨x, _, c, h⟩
  subst hxv
  have T3 : Hid (TC w w3 g B K1 (K1 + 1) fp p.shut) := T1.out.below b3
  have HV : Hid (TrV w3 w2.heap.size T (.slice xx nn cc) fv ∧ fv.Nodup ∧ K1 < w2.heap.size ∧ K1 + 1 < w2.heap.size) := ⟨hTv, hNv, T1.out.s1.lt, T1.out.s2.lt⟩
  have HWS : Hid (w.heap.size ≤ w2.heap.size) := T1.out.ff.size
  clear hTv hNv b3 T1 r0 r1 r2 r3 c2
  have x0 := T3.out.s1.get 0 _ rfl
  have x1 := T3.out.s1.get 1 _ rfl
  have x2 := T3.out.s1.get 2 _ rfl
  have x3 := T3.out.s1.get 3 _ rfl
  have y0 := T3.out.s1.fr 0 (by show 0 < 4; decide)
  have y1 := T3.out.s1.fr 1 (by show 1 < 4; decide)
  have y2 := T3.out.s1.fr 2 (by show 2 < 4; decide)
  have y3 := T3.out.s1.fr 3 (by show 3 < 4; decide)
  have z0 := T3.out.s2.get 0 _ rfl
  have z1 := T3.out.s2.get 1 _ rfl
  have v0 := T3.out.s2.fr 0 (by show 0 < 2; decide)
  have v1 := T3.out.s2.fr 1 (by show 1 < 2; decide)
  go_wp2
  obtain ⟨q1, q2, q3⟩ := T3.out.out T.k T.e T.t (.slice xx nn cc) 0 0
  change bodyPost Tryz.prog _ _ _ _ (put6 w3 K1 (K1 + 1) T.k T.e T.t (.slice xx nn cc) 0 0)
  refine ret_nf rfl rfl rfl q1 q2 ⟨⟨.slice xx nn cc, fv, ?_, ?_, HV.out.2.1⟩, by rw [HFN.out]; exact q3⟩
  · have eT : p.ansT = T := by unfold PS.ansT; rw [if_neg (by rw [HFN.out]; show ¬ p.code ≠ 0; rw [HCD.out]; decide), HTT.out]
    have eF : p.ansF = (0, 0) := by unfold PS.ansF; rw [if_neg (by rw [HFN.out]; show ¬ p.code ≠ 0; rw [HCD.out]; decide)]
    rw [eT, eF]
  · have eT : p.ansT = T := by unfold PS.ansT; rw [if_neg (by rw [HFN.out]; show ¬ p.code ≠ 0; rw [HCD.out]; decide), HTT.out]
    rw [eT]
    refine TrV.low HWS.out _ _ _ (TrV.same _ _ _ HV.out.1 (fun b hb => put6_other _ _ _ _ _ _ _ _ _ b (fun e => ?_) (fun e => ?_)))
    · have := (TrV.lt _ _ _ HV.out.1 b hb).1; have := HV.out.2.2.1; omega
    · have := (TrV.lt _ _ _ HV.out.1 b hb).1; have := HV.out.2.2.2; omega

theorem close_any (g B : Nat) (p : PS) (fp : List Nat) (w : World) (H : PW w g B p fp) (hl : lnT p.c.root) :
    Calls Tryz.prog 40 #[.pointer (some ⟨g, 0, none⟩)] w (ClP p w g B fp) := by
  by_cases hc : p.code = 0
  · by_cases hn : p.c.next = 17
    · exact close_ok g B p fp w H hc hn hl
    · exact close_short g B p fp w H hc hn
  · exact close_bad g B p fp w H hc
end Go.Proofs.YtdjjleahfciipaaGreatDoor

namespace Go.Proofs.YtdjjleahfciipaaGreatDoor
open Go.RowKit

theorem Ff.below {g C : Nat} {fp : List Nat} {a b : World} (h : Ff g fp a b) (hC : C ≤ a.heap.size) (hg : C ≤ g) (hf : ∀ x ∈ fp, C ≤ x) : Below C a b :=
  ⟨h.os, h.tape, h.output, h.size, fun k hk => h.keep k (by omega) (by omega) (fun hm => by have := hf k hm; omega)⟩
theorem BSl.conv (w : World) (tl : List UInt8) (g : Nat) (fp : List Nat) (hg : g < w.heap.size) (hv : ∀ k ∈ fp, k < w.heap.size) : ∃ c w', (convert 9 45 (.string (NB.ba tl))).run Tryz.prog w = .ok (.slice (some ⟨w.heap.size, 0, none⟩) tl.length c) w' ∧ BSl w' g fp (some ⟨w.heap.size, 0, none⟩) tl ∧ Below w.heap.size w w' := by
  have h0 := run_bytes_of_string (P := Tryz.prog) w 9 45 5 (NB.ba tl) Tryz.underlying9 Tryz.underlying45 Tryz.underlying5
  rw [NB.ba_size] at h0
  refine ⟨_, _, h0, .inr ⟨_, 0, rfl, by omega, fun e => by have := hv _ e; omega, by rw [World.size_alloc]; show w.heap.size < w.heap.size + 1; omega, fun j hj => ?_⟩, ((Below.refl _ _).drew).alloc (Nat.le_refl _) _⟩
  rw [Nat.zero_add]
  have h1 := World.cell?_alloc_mark w.drew (bytesRow (NB.ba tl) (grownCap w tl.length 0 5)) 5 ((bytesRow (NB.ba tl) (grownCap w tl.length 0 5)).size, (bytesRow (NB.ba tl) (grownCap w tl.length 0 5)).size + 1) j
  refine h1.trans ?_
  have hj' : j < (NB.ba tl).size := by rw [NB.ba_size]; exact hj
  rw [bytesRow_at (NB.ba tl) _ j hj']
  rfl

/-- What Parse comes to. -/
def prs (l : List UInt8) : PS := (PS.new false).feed l
theorem prs_run (l : List UInt8) : prs l = (PS.new false).run l := by
  unfold prs PS.feed
  rw [if_neg]
  rintro (h | h)
  · cases h
  · exact h rfl
theorem prs_inv (l : List UInt8) : ((prs l).code = 0 → PI (prs l)) ∧ RI (prs l).c ∧ (prs l).taken ≤ l.length := by
  rw [prs_run]
  obtain ⟨a, b, _, d⟩ := run_inv l (PS.new false) (PI.new false) RI.new rfl
  exact ⟨a, b, by have : (PS.new false).taken = 0 := rfl; omega⟩
def PaP (l : List UInt8) (w : World) (e : Ending) (w' : World) : Prop := (∃ v fr, e = .returned (.tuple #[.agg #[.int .i64 (prs l).ansT.k, .bool (prs l).ansT.e, .string (prs l).ansT.t, v], .agg #[.int .i64 (prs l).ansF.1, .int .i64 (prs l).ansF.2]]) ∧ TrV w' w.heap.size (prs l).ansT v fr ∧ fr.Nodup) ∧ Below w.heap.size w w'

set_option maxHeartbeats 8000000 in
set_option maxRecDepth 8000 in
theorem parse_any (l : List UInt8) (w : World) (hl : l.length ≤ 1073741824) : Calls Tryz.prog 13 #[.string (NB.ba l)] w (PaP l w) := by
  have bA : Hid (Below w.heap.size w ((w.alloc (.cells #[.int .i64 0, .bool false, .string ⟨#[]⟩, .slice none 0 0] 25)).alloc (.cells #[.int .i64 0, .int .i64 0] 49))) := ((Below.refl _ _).alloc (Nat.le_refl _) _).alloc (by rw [World.size_alloc]; omega) _
  have s1 : Hid (St ((w.alloc (.cells #[.int .i64 0, .bool false, .string ⟨#[]⟩, .slice none 0 0] 25)).alloc (.cells #[.int .i64 0, .int .i64 0] 49)) w.heap.size [.int .i64 0, .bool false, .string ⟨#[]⟩, .slice none 0 0]) := (St.new w _ _).same (by simp only [World.size_alloc]; omega) (Below.heap_alloc _ _ _ (by rw [World.size_alloc]; omega))
  have s2 : Hid (St ((w.alloc (.cells #[.int .i64 0, .bool false, .string ⟨#[]⟩, .slice none 0 0] 25)).alloc (.cells #[.int .i64 0, .int .i64 0] 49)) (w.heap.size + 1) [.int .i64 0, .int .i64 0]) := by
    have := St.new (w.alloc (.cells #[.int .i64 0, .bool false, .string ⟨#[]⟩, .slice none 0 0] 25)) #[.int .i64 0, .int .i64 0] 49
    rw [World.size_alloc] at this
    exact this
  have z1 : Hid (((w.alloc (.cells #[.int .i64 0, .bool false, .string ⟨#[]⟩, .slice none 0 0] 25)).alloc (.cells #[.int .i64 0, .int .i64 0] 49)).heap.size = w.heap.size + 2) := by unfold Hid; simp only [World.size_alloc]
  go_enter Tryz.func13, Tryz.ntmps13
  go_upto_region 1 with fail
  obtain ⟨K1, hK1⟩ : ∃ K, w.heap.size = K := ⟨_, rfl⟩
  have HKW : Hid (w.heap.size = K1) := hK1
  rw [hK1] at s1 s2 z1 bA ⊢
  clear hK1
  generalize (w.alloc (.cells #[.int .i64 0, .bool false, .string ⟨#[]⟩, .slice none 0 0] 25)).alloc (.cells #[.int .i64 0, .int .i64 0] 49) = w1 at *
  have CN := newparser_any w1
  rw [z1.out] at CN
  go_wp2_with fail
  refine CN.mono ?_
  rintro e2 w2 ⟨rfl, hw2⟩
  clear CN
  have P2 : Hid (PW w2 (K1 + 2) (K1 + 3) (PS.new false) []) := by
    have := PW.new w1 false
    rw [z1.out] at this
    rw [hw2]
    exact this
  have b2 : Hid (Below w1.heap.size w1 w2) := by rw [hw2]; exact (Below.refl _ _).alloc (Nat.le_refl _) _
  clear hw2
  have hg2 : K1 + 2 < w2.heap.size := by have := P2.out.lt; omega
  obtain ⟨c, w3, hcv, hX, b3⟩ := BSl.conv w2 l (K1 + 2) [] hg2 (fun k hk => by cases hk)
  have HP3 : Hid (PW w3 (K1 + 2) (K1 + 3) (PS.new false) []) := P2.out.below b3
  have CF := feed_any (K1 + 2) (K1 + 3) (PS.new false) [] _ c l w3 HP3.out (fun _ => PI.new false) hX hl
  have B3 : Hid (Below K1 w w3 ∧ St w3 K1 [.int .i64 0, .bool false, .string ⟨#[]⟩, .slice none 0 0] ∧ St w3 (K1 + 1) [.int .i64 0, .int .i64 0]) := by
    have hb : Below w1.heap.size w1 w3 := b2.out.trans (b3.mono b2.out.size)
    exact ⟨bA.out.trans (hb.mono (by rw [z1.out]; omega)), s1.out.same hb.size (hb.block _ s1.out.lt), s2.out.same hb.size (hb.block _ s2.out.lt)⟩
  obtain ⟨D, hD⟩ : ∃ D, w2.heap.size = D := ⟨_, rfl⟩
  rw [hD] at hcv CF
  clear hX b3 s1 s2 bA z1 b2 P2 hg2 hD
  go_wp2_with fail
  refine CF.mono ?_
  rintro e4 w4 ⟨rfl, hp4⟩
  clear CF hcv
  obtain ⟨fp4, P4, F4, S4⟩ := hp4
  have hP4 : Hid (PW w4 (K1 + 2) (K1 + 3) (prs l) fp4) := P4
  have hS4 : Hid (∀ x ∈ fp4, K1 + 3 ≤ x) := fun x hx => by
    rcases S4 x hx with h | h
    · cases h
    · have := HP3.out.lt; omega
  have B4 : Hid (Below K1 w w4 ∧ St w4 K1 [.int .i64 0, .bool false, .string ⟨#[]⟩, .slice none 0 0] ∧ St w4 (K1 + 1) [.int .i64 0, .int .i64 0]) := by
    have hz := HP3.out.lt
    have hb : Below (K1 + 2) w3 w4 := F4.below (by omega) (Nat.le_refl _) (fun x hx => by cases hx)
    exact ⟨B3.out.1.trans (hb.mono (by omega)), B3.out.2.1.same hb.size (hb.block _ (by omega)), B3.out.2.2.same hb.size (hb.block _ (by omega))⟩
  clear P4 F4 S4 B3 HP3
  have CC := close_any (K1 + 2) (K1 + 3) (prs l) fp4 w4 hP4.out (prs_inv l).2.1.rt
  go_wp2_with fail
  refine CC.mono ?_
  rintro e5 w5 ⟨⟨v, fr, rfl, hT, hN⟩, hp5⟩
  clear CC
  obtain ⟨fp5, P5, F5, S5⟩ := hp5
  have B5 : Hid (Below K1 w w5 ∧ St w5 K1 [.int .i64 0, .bool false, .string ⟨#[]⟩, .slice none 0 0] ∧ St w5 (K1 + 1) [.int .i64 0, .int .i64 0]) := by
    have hz := hP4.out.lt
    have hb : Below (K1 + 2) w4 w5 := F5.below (by omega) (Nat.le_refl _) (fun x hx => by have := hS4.out x hx; omega)
    exact ⟨B4.out.1.trans (hb.mono (by omega)), B4.out.2.1.same hb.size (hb.block _ (by omega)), B4.out.2.2.same hb.size (hb.block _ (by omega))⟩
  have hz4 : Hid (K1 + 3 ≤ w4.heap.size) := hP4.out.lt.2.1
  have HV : Hid (TrV w5 w4.heap.size (prs l).ansT v fr ∧ fr.Nodup) := ⟨hT, hN⟩
  obtain ⟨xx, nn, cc, hxv⟩ : ∃ x n c, v = .slice x n c := by obtain ⟨x, c, h⟩ := hT.shape; exact ⟨x, _, c, h⟩
  subst hxv
  clear hT hN P5 F5 S5 B4 hS4 hP4
  obtain ⟨T, hTT⟩ : ∃ T, (prs l).ansT = T := ⟨_, rfl⟩
  have HTT : Hid ((prs l).ansT = T) := hTT
  obtain ⟨F, hFF⟩ : ∃ F, (prs l).ansF = F := ⟨_, rfl⟩
  have HFF : Hid ((prs l).ansF = F) := hFF
  rw [hTT] at HV
  rw [hTT, hFF]
  clear hTT hFF
  obtain ⟨f1, f2⟩ := F
  have x0 := B5.out.2.1.get 0 _ rfl
  have x1 := B5.out.2.1.get 1 _ rfl
  have x2 := B5.out.2.1.get 2 _ rfl
  have x3 := B5.out.2.1.get 3 _ rfl
  have y0 := B5.out.2.1.fr 0 (by show 0 < 4; decide)
  have y1 := B5.out.2.1.fr 1 (by show 1 < 4; decide)
  have y2 := B5.out.2.1.fr 2 (by show 2 < 4; decide)
  have y3 := B5.out.2.1.fr 3 (by show 3 < 4; decide)
  have u0 := B5.out.2.2.get 0 _ rfl
  have u1 := B5.out.2.2.get 1 _ rfl
  have v0 := B5.out.2.2.fr 0 (by show 0 < 2; decide)
  have v1 := B5.out.2.2.fr 1 (by show 1 < 2; decide)
  go_wp2
  change bodyPost Tryz.prog _ _ _ _ (put6 w5 K1 (K1 + 1) T.k T.e T.t (.slice xx nn cc) f1 f2)
  have q1 : St (put6 w5 K1 (K1 + 1) T.k T.e T.t (.slice xx nn cc) f1 f2) K1 [.int .i64 T.k, .bool T.e, .string T.t, .slice xx nn cc] := by
    have s1 : St (set4 w5 K1 0 T.k T.e T.t (.slice xx nn cc)) K1 [.int .i64 T.k, .bool T.e, .string T.t, .slice xx nn cc] := ((((B5.out.2.1.set 0 (.int .i64 T.k) (by show 0 < 4; decide)).set 1 (.bool T.e) (by show 1 < 4; decide)).set 2 (.string T.t) (by show 2 < 4; decide)).set 3 (.slice xx nn cc) (by show 3 < 4; decide)).cast rfl
    refine s1.same (by unfold put6; rw [World.size_setCell, World.size_setCell]; exact Nat.le_refl _) ?_
    exact (Below.heap_setCell _ ⟨K1 + 1, 1, none⟩ _ K1 (by show K1 ≠ K1 + 1; omega)).trans (Below.heap_setCell _ ⟨K1 + 1, 0, none⟩ _ K1 (by show K1 ≠ K1 + 1; omega))
  have q2 : St (put6 w5 K1 (K1 + 1) T.k T.e T.t (.slice xx nn cc) f1 f2) (K1 + 1) [.int .i64 f1, .int .i64 f2] := by
    have s2 : St (set4 w5 K1 0 T.k T.e T.t (.slice xx nn cc)) (K1 + 1) [.int .i64 0, .int .i64 0] := B5.out.2.2.same (by rw [set4_size]; exact Nat.le_refl _) (set4_other _ _ _ _ _ _ _ (K1 + 1) (by omega))
    exact ((s2.set 0 (.int .i64 f1) (by show 0 < 2; decide)).set 1 (.int .i64 f2) (by show 1 < 2; decide)).cast rfl
  refine ret_nf rfl rfl rfl q1 q2 ⟨⟨.slice xx nn cc, fr, by rw [HTT.out, HFF.out], ?_, HV.out.2⟩, ?_⟩
  · rw [HTT.out]
    refine TrV.low (by have := hz4.out; have := HKW.out; omega) _ _ _ (TrV.same _ _ _ HV.out.1 (fun b hb => put6_other _ _ _ _ _ _ _ _ _ b (fun e => ?_) (fun e => ?_)))
    · have := (TrV.lt _ _ _ HV.out.1 b hb).1; have := hz4.out; omega
    · have := (TrV.lt _ _ _ HV.out.1 b hb).1; have := hz4.out; omega
  · rw [HKW.out]
    exact (((((B5.out.1.setCell (p := ⟨K1, 0, none⟩) (Nat.le_refl _) _).setCell (p := ⟨K1, 0 + 1, none⟩) (Nat.le_refl _) _).setCell (p := ⟨K1, 0 + 2, none⟩) (Nat.le_refl _) _).setCell (p := ⟨K1, 0 + 3, none⟩) (Nat.le_refl _) _).setCell (p := ⟨K1 + 1, 0, none⟩) (Nat.le_succ _) _).setCell (p := ⟨K1 + 1, 1, none⟩) (Nat.le_succ _) _
end Go.Proofs.YtdjjleahfciipaaGreatDoor
