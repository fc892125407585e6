/- nar.Parser.take, walked (own text of the verifier; made by mktake.py). -/
import Derived.Test.YtljcbibcdajhiaaNp4
namespace Go.Proofs.Ytljcbibcdajhiaa
open Go.RowKit

set_option maxHeartbeats 16000000 in
set_option maxRecDepth 8000 in
theorem take_any (g B : Nat) (p : PS) (fp : List Nat) (b : UInt8) (w : World) (H : PW w g B p fp) (I : PI p) :
    Calls Try.prog 44 #[.pointer (some ⟨g, 0, none⟩), .int .u8 (b.toNat : Int)] w fun e w' => e = .returned (.agg #[.int .i64 (p.take b).1.1, .int .i64 (p.take b).1.2]) ∧ PM w w' g B fp (p.take b).2 := by
  have T0 : Hid (TK w (w.alloc (.cells #[.int .i64 0, .int .i64 0] 39)) g B w.heap.size fp fp p) := TK.start H
  have HI : Hid (PI p) := I
  have htk := I.tk
  have hhd := I.hd
  have hbl := b.toNat_lt
  obtain ⟨c0, c1, -, -, -, -, c6, c7, -⟩ := H.cells
  have hgl : g < w.heap.size := Nat.lt_of_lt_of_le H.lt.1 H.lt.2.1
  have hng : w.heap.size ≠ g := by omega
  have hgn : g ≠ w.heap.size := by omega
  have iw : IntKind.i64.wrap ((p.taken : Int) - (p.held : Int)) = (p.taken : Int) - (p.held : Int) := by rw [IntKind.wrap_i64]; omega
  clear H I
  go_enter Try.func44, Try.ntmps44
  go_upto_region 1 with fail
  go_quiet (fail)
  obtain ⟨G, hG⟩ : ∃ G, w.heap.size = G := ⟨_, rfl⟩
  have T1 : Hid (TK w ((w.alloc (.cells #[.int .i64 0, .int .i64 0] 39)).drewN nq) g B w.heap.size fp fp p) := T0.out.drewN nq
  clear T0 c0 c1 c6 c7 hgl hng hgn iw
  generalize (w.alloc (.cells #[.int .i64 0, .int .i64 0] 39)).drewN nq = w1 at *
  rw [hG] at T1 ⊢
  have HGW : Hid (w.heap.size = G) := hG
  clear hG
  have HF : Hid (True) := trivial
  obtain ⟨F0, hF0⟩ : ∃ F, (p.taken : Int) - (p.held : Int) = F := ⟨_, rfl⟩
  have HF0 : Hid ((p.taken : Int) - (p.held : Int) = F0) := hF0
  rw [hF0]
  clear hF0
  obtain ⟨c0, c1, -, -, -, -, c6, c7, hfz⟩ := T1.out.pw.cells
  have f1 := hfz 1 (by decide)
  have f7 := hfz 7 (by decide)
  have f8 := hfz 8 (by decide)
  have z0 := T1.out.st.get 0 _ rfl
  have z1 := T1.out.st.get 1 _ rfl
  have y0 := T1.out.st.fr 0 (by show 0 < 2; decide)
  have y1 := T1.out.st.fr 1 (by show 1 < 2; decide)
  have hGg := T1.out.gg
  have hgG : g ≠ G := fun e => hGg e.symm
  clear hfz
  have WH := whole_any g p.c.next w1 c6
  by_cases h17 : p.c.next = 17
  · have HE : Hid (p.take b = ((5, (p.taken : Int)), p)) := by unfold Hid PS.take; rw [if_pos h17]
    have hb17 : (p.c.next == 17) = true := by rw [h17]; rfl
    rw [hb17] at WH
    clear h17 hb17 c6
    go_wp2_with fail
    refine WH.mono ?_
    rintro e2 w2 ⟨rfl, rfl⟩
    clear WH
    go_wp2
    obtain ⟨s9, p9⟩ := T1.out.fin 5 (p.taken : Int)
    exact ret_fault rfl rfl s9 ⟨by rw [HE.out], by rw [HE.out]; exact p9⟩
  have hb17 : (p.c.next == 17) = false := by simp [h17]
  rw [hb17] at WH
  clear hb17
  have H17 : Hid (p.c.next ≠ 17) := h17
  clear h17 c6
  go_wp2_with fail
  refine WH.mono ?_
  rintro e2 w2 ⟨rfl, rfl⟩
  clear WH
  by_cases hbg : p.taken = 1048576
  · have HE : Hid (p.take b = ((2, (p.taken : Int)), p)) := by unfold Hid PS.take; rw [if_neg H17.out, if_pos hbg]
    have hbb : ((p.taken : Int) == 1048576) = true := by simp; omega
    have hbI : (p.taken : Int) = 1048576 := by omega
    have HBI : Hid ((p.taken : Int) = 1048576) := hbI
    rw [hbI] at c0
    clear hbg hbb hbI
    go_wp2
    obtain ⟨s9, p9⟩ := T1.out.fin 2 1048576
    exact ret_fault rfl rfl s9 ⟨by rw [HE.out]; exact congrArg (fun z => Ending.returned (.agg #[.int .i64 2, .int .i64 z])) HBI.out.symm, by rw [HE.out]; exact p9⟩
  have hbb : ((p.taken : Int) == 1048576) = false := by simp; omega
  have hbI : ¬ (p.taken : Int) = 1048576 := by omega
  have HB : Hid (p.taken ≠ 1048576) := hbg
  clear hbg
  by_cases h8 : p.held < 8
  · have h8I : (p.held : Int) < 8 := by omega
    have h8d : decide ((p.held : Int) < 8) = true := by simp; omega
    have hln := (HI.out.ln h8).1
    have hwd := or_word p.len b.toNat p.held hln hbl (by omega)
    have HW : Hid (bits .or .u64 (p.len : Int) (IntKind.u64.wrap ((b.toNat : Int) * 2 ^ (8 * p.held))) = (p.nl b : Int)) := hwd
    clear hwd
    have T2 : Hid (TK w ((w2.setCell ⟨g, 7, none⟩ (.int .u64 (p.nl b : Int))).drew) g B G fp fp (p.sl (p.nl b))) := (T1.out.cell 7 _ (p.sl (p.nl b)) (by decide) (fun _ _ _ => rfl) rfl rfl rfl).drewN 1
    have hnl := nl_lt hln b
    have hnl2 : p.nl b < 2 ^ 64 := Nat.lt_of_lt_of_le hnl (Nat.pow_le_pow_right (by decide) (by omega))
    go_upto_region 7 with fail
    go_region
    rw [HW.out]
    clear HW c0 c1 c7 f1 f7 f8 z0 z1 y0 y1 T1
    generalize (w2.setCell ⟨g, 7, none⟩ (.int .u64 (p.nl b : Int))).drew = w3 at *
    obtain ⟨c0, c1, -, -, -, -, c6, c7, hfz⟩ := T2.out.pw.cells
    have z0 := T2.out.st.get 0 _ rfl
    have z1 := T2.out.st.get 1 _ rfl
    have y0 := T2.out.st.fr 0 (by show 0 < 2; decide)
    have y1 := T2.out.st.fr 1 (by show 1 < 2; decide)
    change w3.cell? ⟨g, 1, none⟩ = some (.int .i64 (p.held : Int)) at c1
    change w3.cell? ⟨g, 7, none⟩ = some (.int .u64 (p.nl b : Int)) at c7
    clear hfz c0 c6
    by_cases h7 : p.held = 7 ∧ 1048576 < p.nl b
    · have HE : Hid (p.take b = ((6, (p.taken : Int) - p.held), p.sl (p.nl b))) := by
        have e : p.put b = ((6, (p.taken : Int) - p.held), p.sl (p.nl b)) := by unfold PS.put; rw [if_pos h8, if_pos h7]
        unfold Hid PS.take
        rw [if_neg H17.out, if_neg HB.out, e, if_pos (by show (6 : Int) ≠ 0; decide)]
      have g7 : ((p.held : Int) == 7) = true := by simp; omega
      have g7' : (p.held : Int) = 7 := by omega
      have gl : decide ((1048576 : Int) < (p.nl b : Int)) = true := by simp; omega
      have gl' : (1048576 : Int) < (p.nl b : Int) := by omega
      go_wp2
      obtain ⟨s9, p9⟩ := T2.out.fin 6 F0
      exact ret_fault rfl rfl s9 ⟨by rw [HE.out, HF0.out], by rw [HE.out]; exact p9⟩
    · obtain ⟨q, hq⟩ : ∃ q, p.sl (p.nl b) = q := ⟨_, rfl⟩
      have HT : Hid (p.take b = q.ends) := by
        have e : p.put b = ((0, 0), p.sl (p.nl b)) := by unfold PS.put; rw [if_pos h8, if_neg h7]
        unfold Hid PS.take
        rw [if_neg H17.out, if_neg HB.out, e, if_neg (by show ¬ (0 : Int) ≠ 0; decide), hq]
      have HQ : Hid (q.len < 72057594037927936 ∧ q.held ≤ 1048576 ∧ (q.held + 1 = 8 + q.len + padN q.len → q.len ≤ 1048576 ∧ q.text.length ≤ 1048576) ∧ CI q.c 1048576) := by
        rw [← hq]
        have hl56 : p.nl b < 72057594037927936 := by
          by_cases h77 : p.held = 7
          · have : ¬ 1048576 < p.nl b := fun h => h7 ⟨h77, h⟩
            omega
          · exact Nat.lt_of_lt_of_le hnl (Nat.le_trans (Nat.pow_le_pow_right (by decide) (show 8 * (p.held + 1) ≤ 56 by omega)) (by decide))
        refine ⟨hl56, by show p.held ≤ _; omega, fun he => ?_, HI.out.ci'⟩
        change p.held + 1 = 8 + p.nl b + padN (p.nl b) at he
        refine ⟨by show p.nl b ≤ _; omega, ?_⟩
        show p.text.length ≤ _
        rw [(HI.out.ln h8).2]
        decide
      have HF2 : Hid (q.taken = p.taken ∧ q.held = p.held) := by rw [← hq]; exact ⟨rfl, rfl⟩
      rw [hq] at T2
      have HG7 : ((p.held : Int) == 7 && decide ((1048576 : Int) < (p.nl b : Int))) = false := by
        by_cases h77 : p.held = 7
        · have h9 : ¬ 1048576 < p.nl b := fun h => h7 ⟨h77, h⟩
          have : decide ((1048576 : Int) < (p.nl b : Int)) = false := by simp; omega
          rw [this, Bool.and_false]
        · have : ((p.held : Int) == 7) = false := by simp; omega
          rw [this, Bool.false_and]
      clear HF hln hnl hnl2 h8d h8I
      have HF := HF2
      clear HF2
      have T3 : Hid (TK w w3 g B G fp fp q) := T2
      clear T2
      obtain ⟨fp3, hfp3⟩ : ∃ f, f = fp := ⟨_, rfl⟩
      have T3' : Hid (TK w w3 g B G fp fp3 q) := by rw [hfp3]; exact T3
      clear T3 hfp3
      have T3 := T3'
      clear T3'
      by_cases h77 : p.held = 7
      · have g7 : ((p.held : Int) == 7) = true := by simp; omega
        have g7' : (p.held : Int) = 7 := by omega
        have gl : decide ((1048576 : Int) < (p.nl b : Int)) = false := decide_eq_false (fun h => h7 ⟨h77, by omega⟩)
        have gl' : ¬ (1048576 : Int) < (p.nl b : Int) := fun h => h7 ⟨h77, by omega⟩
        clear h7 h77 hq h8 HG7
        go_upto_region 14 with fail
        clear c1 c7 z0 z1 y0 y1 g7 g7' gl gl'
        obtain ⟨c0, c1, -, -, -, -, c6, c7, hfz⟩ := T3.out.pw.cells
        have f1 := hfz 1 (by decide)
        have f7 := hfz 7 (by decide)
        have f8 := hfz 8 (by decide)
        have z0 := T3.out.st.get 0 _ rfl
        have z1 := T3.out.st.get 1 _ rfl
        have y0 := T3.out.st.fr 0 (by show 0 < 2; decide)
        have y1 := T3.out.st.fr 1 (by show 1 < 2; decide)
        clear hfz
        have hql := HQ.out.1
        have hqh := HQ.out.2.1
        have iw : IntKind.i64.wrap (q.len : Int) = (q.len : Int) := by rw [IntKind.wrap_i64]; omega
        have iw2 : IntKind.i64.wrap ((q.held : Int) + 1) = (q.held : Int) + 1 := by rw [IntKind.wrap_i64]; omega
        have FC := fun w => framed_any (q.len : Int) w (by omega) (by omega)
        by_cases hend : q.held + 1 ≠ 8 + q.len + padN q.len
        · have hbb := fr_ne (p := q) hql hend
          have HE : Hid (p.take b = ((0, 0), q.sh (q.held + 1))) := by unfold Hid; rw [HT.out]; unfold PS.ends; rw [if_pos hend]
          clear hend
          go_wp2_with fail
          go_quiet ((go_at_call 46; exact Calls.quiet_of_same (FC _)))
          have T4 : Hid (TK w (w3.drewN nq) g B G fp fp3 q) := T3.out.drewN nq
          clear FC c0 c1 c6 c7 f1 f7 f8 z0 z1 y0 y1 T3
          generalize w3.drewN nq = w4 at *
          obtain ⟨c0, c1, -, -, -, -, c6, c7, hfz⟩ := T4.out.pw.cells
          have f1 := hfz 1 (by decide)
          have z0 := T4.out.st.get 0 _ rfl
          have z1 := T4.out.st.get 1 _ rfl
          have y0 := T4.out.st.fr 0 (by show 0 < 2; decide)
          have y1 := T4.out.st.fr 1 (by show 1 < 2; decide)
          clear hfz
          have T5 : Hid (TK w (w4.setCell ⟨g, 1, none⟩ (.int .i64 ((q.held : Int) + 1))) g B G fp fp3 (q.sh (q.held + 1))) := T4.out.cell 1 _ _ (by decide) (fun _ _ _ => rfl) rfl rfl rfl
          go_wp2
          obtain ⟨s9, p9⟩ := T5.out.fin 0 0
          exact ret_fault rfl rfl s9 ⟨by rw [HE.out], by rw [HE.out]; exact p9⟩
        · have hend' : q.held + 1 = 8 + q.len + padN q.len := by omega
          obtain ⟨hq1, hq2⟩ := HQ.out.2.2.1 hend'
          have hbb := fr_eq (p := q) hq1 hend'
          clear hend
          have HEN : Hid (q.held + 1 = 8 + q.len + padN q.len) := hend'
          clear hend'
          go_wp2_with fail
          go_quiet ((go_at_call 46; exact Calls.quiet_of_same (FC _)))
          have T4 : Hid (TK w (w3.drewN nq) g B G fp fp3 q) := T3.out.drewN nq
          clear FC c0 c1 c6 c7 f1 f7 f8 z0 z1 y0 y1 T3
          generalize w3.drewN nq = w4 at *
          obtain ⟨xt, ct, e8, hcv⟩ := T4.out.pw.word
          have CA := acc_any g B q fp3 (NB.ba q.text) w4 T4.out.pw HQ.out.2.2.2
          obtain ⟨C, hC⟩ : ∃ C, (q.c.accept (NB.ba q.text)).1 = C := ⟨_, rfl⟩
          have HC : Hid ((q.c.accept (NB.ba q.text)).1 = C) := hC
          rw [hC] at CA
          clear hC
          go_wp2_with fail
          refine CA.mono ?_
          rintro e5 w5 ⟨rfl, hp5⟩
          clear CA hcv e8
          obtain ⟨fp5, t5⟩ := T4.out.step hp5
          have T5 : Hid (TK w w5 g B G fp fp5 (q.sc (q.c.accept (NB.ba q.text)).2)) := t5
          clear t5 hp5 T4
          obtain ⟨c0, c1, -, -, -, -, c6, c7, hfz⟩ := T5.out.pw.cells
          have f1 := hfz 1 (by decide)
          have f7 := hfz 7 (by decide)
          have f8 := hfz 8 (by decide)
          have z0 := T5.out.st.get 0 _ rfl
          have z1 := T5.out.st.get 1 _ rfl
          have y0 := T5.out.st.fr 0 (by show 0 < 2; decide)
          have y1 := T5.out.st.fr 1 (by show 1 < 2; decide)
          clear hfz
          by_cases hc0 : C = 0
          · subst hc0
            have HE : Hid (p.take b = ((0, 0), (((q.sc (q.c.accept (NB.ba q.text)).2).sh 0).sl 0).st [])) := by unfold Hid; rw [HT.out]; unfold PS.ends; rw [if_neg (by have := HEN.out; omega), if_neg (by rw [HC.out]; decide)]
            obtain ⟨xt, ct, e8, -⟩ := T5.out.pw.word
            have T6 := (T5.out.cell 1 (.int .i64 0) ((q.sc (q.c.accept (NB.ba q.text)).2).sh 0) (by decide) (fun _ _ _ => rfl) rfl rfl rfl).cell 7 (.int .u64 0) (((q.sc (q.c.accept (NB.ba q.text)).2).sh 0).sl 0) (by decide) (fun _ _ _ => rfl) rfl rfl rfl
            obtain ⟨fp7, t7⟩ := T6.step T6.pw.clear
            have T7 : Hid (TK w (((w5.setCell ⟨g, 1, none⟩ (.int .i64 0)).setCell ⟨g, 7, none⟩ (.int .u64 0)).setCell ⟨g, 8, none⟩ (.slice none 0 0)) g B G fp fp7 ((((q.sc (q.c.accept (NB.ba q.text)).2).sh 0).sl 0).st [])) := t7
            clear t7 T6
            go_wp2
            obtain ⟨s9, p9⟩ := T7.out.fin 0 0
            exact ret_fault rfl rfl s9 ⟨by rw [HE.out], by rw [HE.out]; exact p9⟩
          · have hcb : (C != 0) = true := by simp [hc0]
            have HE : Hid (p.take b = ((C, (p.taken : Int) - p.held), q.sc (q.c.accept (NB.ba q.text)).2)) := by unfold Hid; rw [HT.out]; unfold PS.ends; rw [if_neg (by have := HEN.out; omega), if_pos (by rw [HC.out]; exact hc0), HC.out, HF.out.1, HF.out.2]
            go_wp2
            obtain ⟨s9, p9⟩ := T5.out.fin C F0
            exact ret_fault rfl rfl s9 ⟨by rw [HE.out, HF0.out], by rw [HE.out]; exact p9⟩
      · have g7 : ((p.held : Int) == 7) = false := by simp; omega
        have g7' : ¬ (p.held : Int) = 7 := by omega
        clear h7 h77 hq h8 HG7
        go_upto_region 14 with fail
        clear c1 c7 z0 z1 y0 y1 g7 g7'
        obtain ⟨c0, c1, -, -, -, -, c6, c7, hfz⟩ := T3.out.pw.cells
        have f1 := hfz 1 (by decide)
        have f7 := hfz 7 (by decide)
        have f8 := hfz 8 (by decide)
        have z0 := T3.out.st.get 0 _ rfl
        have z1 := T3.out.st.get 1 _ rfl
        have y0 := T3.out.st.fr 0 (by show 0 < 2; decide)
        have y1 := T3.out.st.fr 1 (by show 1 < 2; decide)
        clear hfz
        have hql := HQ.out.1
        have hqh := HQ.out.2.1
        have iw : IntKind.i64.wrap (q.len : Int) = (q.len : Int) := by rw [IntKind.wrap_i64]; omega
        have iw2 : IntKind.i64.wrap ((q.held : Int) + 1) = (q.held : Int) + 1 := by rw [IntKind.wrap_i64]; omega
        have FC := fun w => framed_any (q.len : Int) w (by omega) (by omega)
        by_cases hend : q.held + 1 ≠ 8 + q.len + padN q.len
        · have hbb := fr_ne (p := q) hql hend
          have HE : Hid (p.take b = ((0, 0), q.sh (q.held + 1))) := by unfold Hid; rw [HT.out]; unfold PS.ends; rw [if_pos hend]
          clear hend
          go_wp2_with fail
          go_quiet ((go_at_call 46; exact Calls.quiet_of_same (FC _)))
          have T4 : Hid (TK w (w3.drewN nq) g B G fp fp3 q) := T3.out.drewN nq
          clear FC c0 c1 c6 c7 f1 f7 f8 z0 z1 y0 y1 T3
          generalize w3.drewN nq = w4 at *
          obtain ⟨c0, c1, -, -, -, -, c6, c7, hfz⟩ := T4.out.pw.cells
          have f1 := hfz 1 (by decide)
          have z0 := T4.out.st.get 0 _ rfl
          have z1 := T4.out.st.get 1 _ rfl
          have y0 := T4.out.st.fr 0 (by show 0 < 2; decide)
          have y1 := T4.out.st.fr 1 (by show 1 < 2; decide)
          clear hfz
          have T5 : Hid (TK w (w4.setCell ⟨g, 1, none⟩ (.int .i64 ((q.held : Int) + 1))) g B G fp fp3 (q.sh (q.held + 1))) := T4.out.cell 1 _ _ (by decide) (fun _ _ _ => rfl) rfl rfl rfl
          go_wp2
          obtain ⟨s9, p9⟩ := T5.out.fin 0 0
          exact ret_fault rfl rfl s9 ⟨by rw [HE.out], by rw [HE.out]; exact p9⟩
        · have hend' : q.held + 1 = 8 + q.len + padN q.len := by omega
          obtain ⟨hq1, hq2⟩ := HQ.out.2.2.1 hend'
          have hbb := fr_eq (p := q) hq1 hend'
          clear hend
          have HEN : Hid (q.held + 1 = 8 + q.len + padN q.len) := hend'
          clear hend'
          go_wp2_with fail
          go_quiet ((go_at_call 46; exact Calls.quiet_of_same (FC _)))
          have T4 : Hid (TK w (w3.drewN nq) g B G fp fp3 q) := T3.out.drewN nq
          clear FC c0 c1 c6 c7 f1 f7 f8 z0 z1 y0 y1 T3
          generalize w3.drewN nq = w4 at *
          obtain ⟨xt, ct, e8, hcv⟩ := T4.out.pw.word
          have CA := acc_any g B q fp3 (NB.ba q.text) w4 T4.out.pw HQ.out.2.2.2
          obtain ⟨C, hC⟩ : ∃ C, (q.c.accept (NB.ba q.text)).1 = C := ⟨_, rfl⟩
          have HC : Hid ((q.c.accept (NB.ba q.text)).1 = C) := hC
          rw [hC] at CA
          clear hC
          go_wp2_with fail
          refine CA.mono ?_
          rintro e5 w5 ⟨rfl, hp5⟩
          clear CA hcv e8
          obtain ⟨fp5, t5⟩ := T4.out.step hp5
          have T5 : Hid (TK w w5 g B G fp fp5 (q.sc (q.c.accept (NB.ba q.text)).2)) := t5
          clear t5 hp5 T4
          obtain ⟨c0, c1, -, -, -, -, c6, c7, hfz⟩ := T5.out.pw.cells
          have f1 := hfz 1 (by decide)
          have f7 := hfz 7 (by decide)
          have f8 := hfz 8 (by decide)
          have z0 := T5.out.st.get 0 _ rfl
          have z1 := T5.out.st.get 1 _ rfl
          have y0 := T5.out.st.fr 0 (by show 0 < 2; decide)
          have y1 := T5.out.st.fr 1 (by show 1 < 2; decide)
          clear hfz
          by_cases hc0 : C = 0
          · subst hc0
            have HE : Hid (p.take b = ((0, 0), (((q.sc (q.c.accept (NB.ba q.text)).2).sh 0).sl 0).st [])) := by unfold Hid; rw [HT.out]; unfold PS.ends; rw [if_neg (by have := HEN.out; omega), if_neg (by rw [HC.out]; decide)]
            obtain ⟨xt, ct, e8, -⟩ := T5.out.pw.word
            have T6 := (T5.out.cell 1 (.int .i64 0) ((q.sc (q.c.accept (NB.ba q.text)).2).sh 0) (by decide) (fun _ _ _ => rfl) rfl rfl rfl).cell 7 (.int .u64 0) (((q.sc (q.c.accept (NB.ba q.text)).2).sh 0).sl 0) (by decide) (fun _ _ _ => rfl) rfl rfl rfl
            obtain ⟨fp7, t7⟩ := T6.step T6.pw.clear
            have T7 : Hid (TK w (((w5.setCell ⟨g, 1, none⟩ (.int .i64 0)).setCell ⟨g, 7, none⟩ (.int .u64 0)).setCell ⟨g, 8, none⟩ (.slice none 0 0)) g B G fp fp7 ((((q.sc (q.c.accept (NB.ba q.text)).2).sh 0).sl 0).st [])) := t7
            clear t7 T6
            go_wp2
            obtain ⟨s9, p9⟩ := T7.out.fin 0 0
            exact ret_fault rfl rfl s9 ⟨by rw [HE.out], by rw [HE.out]; exact p9⟩
          · have hcb : (C != 0) = true := by simp [hc0]
            have HE : Hid (p.take b = ((C, (p.taken : Int) - p.held), q.sc (q.c.accept (NB.ba q.text)).2)) := by unfold Hid; rw [HT.out]; unfold PS.ends; rw [if_neg (by have := HEN.out; omega), if_pos (by rw [HC.out]; exact hc0), HC.out, HF.out.1, HF.out.2]
            go_wp2
            obtain ⟨s9, p9⟩ := T5.out.fin C F0
            exact ret_fault rfl rfl s9 ⟨by rw [HE.out, HF0.out], by rw [HE.out]; exact p9⟩
  have h8I : ¬ (p.held : Int) < 8 := by omega
  have h8d : decide ((p.held : Int) < 8) = false := by simp; omega
  obtain ⟨hl8, htl, hfl⟩ := HI.out.l8 (by omega)
  have htl2 : p.text.length ≤ 1048576 := by omega
  clear htl hfl
  obtain ⟨xt, ct, e8, -⟩ := T1.out.pw.word
  by_cases hlt : p.text.length < p.len
  · have hltI : (p.text.length : Int) < (p.len : Int) := by omega
    have hltd : decide ((p.text.length : Int) < (p.len : Int)) = true := by simp; omega
    obtain ⟨q, hq⟩ : ∃ q, p.st (p.text ++ [b]) = q := ⟨_, rfl⟩
    have HT : Hid (p.take b = q.ends) := by
      have e : p.put b = ((0, 0), p.st (p.text ++ [b])) := by unfold PS.put; rw [if_neg h8, if_pos hlt]
      unfold Hid PS.take
      rw [if_neg H17.out, if_neg HB.out, e, if_neg (by show ¬ (0 : Int) ≠ 0; decide), hq]
    have HQ : Hid (q.len < 72057594037927936 ∧ q.held ≤ 1048576 ∧ (q.held + 1 = 8 + q.len + padN q.len → q.len ≤ 1048576 ∧ q.text.length ≤ 1048576) ∧ CI q.c 1048576) := by
      rw [← hq]
      refine ⟨by show p.len < _; omega, by show p.held ≤ _; omega, fun _ => ⟨hl8, ?_⟩, HI.out.ci'⟩
      show (p.text ++ [b]).length ≤ _
      rw [List.length_append]
      show p.text.length + 1 ≤ _
      omega
    have HF2 : Hid (q.taken = p.taken ∧ q.held = p.held) := by rw [← hq]; exact ⟨rfl, rfl⟩
    have iw8 : IntKind.u64.wrap (p.text.length : Int) = (p.text.length : Int) := by show (p.text.length : Int) % 18446744073709551616 = _; omega
    go_upto_region 10 with fail
    go_quiet (fail)
    have T2 : Hid (TK w (w2.drewN nq) g B G fp fp p) := T1.out.drewN nq
    clear c0 c1 c7 f1 f7 f8 z0 z1 y0 y1 T1 e8
    generalize w2.drewN nq = w2' at *
    obtain ⟨xo, co, g2, cap2, w', e8, hap, hkg, hgl, HPM⟩ := T2.out.pw.text b (by omega)
    have f8 := T2.out.pw.cells.2.2.2.2.2.2.2.2 8 (by decide)
    have e8' : w'.cell? ⟨g, 8, none⟩ = some (.slice xo p.text.length co) := (World.cell?_of_block (w := w2') (a := ⟨g, 8, none⟩) hkg).trans e8
    have f8' : w'.frozen? ⟨g, 8, none⟩ = false := (World.frozen?_of_block (w := w2') (a := ⟨g, 8, none⟩) hkg).trans f8
    obtain ⟨fp3, t3⟩ := T2.out.step HPM
    rw [hq] at t3
    have T3 : Hid (TK w (w'.setCell ⟨g, 8, none⟩ (.slice (some ⟨g2, 0, none⟩) (p.text.length + 1) cap2)) g B G fp fp3 q) := t3
    clear HPM t3 T2 hkg hq f8 hl8 hlt
    go_upto_region 14 with (first | (refine wpList_appN_is (by rfl) (.tmp 94) (.tmp 96) 37 (by rfl) _ _ _ _ (by rfl) (by rfl) hap ?_))
    clear e8 e8' f8' hap
    generalize w'.setCell ⟨g, 8, none⟩ (.slice (some ⟨g2, 0, none⟩) (p.text.length + 1) cap2) = w3 at *
    clear HF hltI hltd
    have HF := HF2
    clear HF2
    obtain ⟨c0, c1, -, -, -, -, c6, c7, hfz⟩ := T3.out.pw.cells
    have f1 := hfz 1 (by decide)
    have f7 := hfz 7 (by decide)
    have f8 := hfz 8 (by decide)
    have z0 := T3.out.st.get 0 _ rfl
    have z1 := T3.out.st.get 1 _ rfl
    have y0 := T3.out.st.fr 0 (by show 0 < 2; decide)
    have y1 := T3.out.st.fr 1 (by show 1 < 2; decide)
    clear hfz
    have hql := HQ.out.1
    have hqh := HQ.out.2.1
    have iw : IntKind.i64.wrap (q.len : Int) = (q.len : Int) := by rw [IntKind.wrap_i64]; omega
    have iw2 : IntKind.i64.wrap ((q.held : Int) + 1) = (q.held : Int) + 1 := by rw [IntKind.wrap_i64]; omega
    have FC := fun w => framed_any (q.len : Int) w (by omega) (by omega)
    by_cases hend : q.held + 1 ≠ 8 + q.len + padN q.len
    · have hbb := fr_ne (p := q) hql hend
      have HE : Hid (p.take b = ((0, 0), q.sh (q.held + 1))) := by unfold Hid; rw [HT.out]; unfold PS.ends; rw [if_pos hend]
      clear hend
      go_wp2_with fail
      go_quiet ((go_at_call 46; exact Calls.quiet_of_same (FC _)))
      have T4 : Hid (TK w (w3.drewN nq) g B G fp fp3 q) := T3.out.drewN nq
      clear FC c0 c1 c6 c7 f1 f7 f8 z0 z1 y0 y1 T3
      generalize w3.drewN nq = w4 at *
      obtain ⟨c0, c1, -, -, -, -, c6, c7, hfz⟩ := T4.out.pw.cells
      have f1 := hfz 1 (by decide)
      have z0 := T4.out.st.get 0 _ rfl
      have z1 := T4.out.st.get 1 _ rfl
      have y0 := T4.out.st.fr 0 (by show 0 < 2; decide)
      have y1 := T4.out.st.fr 1 (by show 1 < 2; decide)
      clear hfz
      have T5 : Hid (TK w (w4.setCell ⟨g, 1, none⟩ (.int .i64 ((q.held : Int) + 1))) g B G fp fp3 (q.sh (q.held + 1))) := T4.out.cell 1 _ _ (by decide) (fun _ _ _ => rfl) rfl rfl rfl
      go_wp2
      obtain ⟨s9, p9⟩ := T5.out.fin 0 0
      exact ret_fault rfl rfl s9 ⟨by rw [HE.out], by rw [HE.out]; exact p9⟩
    · have hend' : q.held + 1 = 8 + q.len + padN q.len := by omega
      obtain ⟨hq1, hq2⟩ := HQ.out.2.2.1 hend'
      have hbb := fr_eq (p := q) hq1 hend'
      clear hend
      have HEN : Hid (q.held + 1 = 8 + q.len + padN q.len) := hend'
      clear hend'
      go_wp2_with fail
      go_quiet ((go_at_call 46; exact Calls.quiet_of_same (FC _)))
      have T4 : Hid (TK w (w3.drewN nq) g B G fp fp3 q) := T3.out.drewN nq
      clear FC c0 c1 c6 c7 f1 f7 f8 z0 z1 y0 y1 T3
      generalize w3.drewN nq = w4 at *
      obtain ⟨xt, ct, e8, hcv⟩ := T4.out.pw.word
      have CA := acc_any g B q fp3 (NB.ba q.text) w4 T4.out.pw HQ.out.2.2.2
      obtain ⟨C, hC⟩ : ∃ C, (q.c.accept (NB.ba q.text)).1 = C := ⟨_, rfl⟩
      have HC : Hid ((q.c.accept (NB.ba q.text)).1 = C) := hC
      rw [hC] at CA
      clear hC
      go_wp2_with fail
      refine CA.mono ?_
      rintro e5 w5 ⟨rfl, hp5⟩
      clear CA hcv e8
      obtain ⟨fp5, t5⟩ := T4.out.step hp5
      have T5 : Hid (TK w w5 g B G fp fp5 (q.sc (q.c.accept (NB.ba q.text)).2)) := t5
      clear t5 hp5 T4
      obtain ⟨c0, c1, -, -, -, -, c6, c7, hfz⟩ := T5.out.pw.cells
      have f1 := hfz 1 (by decide)
      have f7 := hfz 7 (by decide)
      have f8 := hfz 8 (by decide)
      have z0 := T5.out.st.get 0 _ rfl
      have z1 := T5.out.st.get 1 _ rfl
      have y0 := T5.out.st.fr 0 (by show 0 < 2; decide)
      have y1 := T5.out.st.fr 1 (by show 1 < 2; decide)
      clear hfz
      by_cases hc0 : C = 0
      · subst hc0
        have HE : Hid (p.take b = ((0, 0), (((q.sc (q.c.accept (NB.ba q.text)).2).sh 0).sl 0).st [])) := by unfold Hid; rw [HT.out]; unfold PS.ends; rw [if_neg (by have := HEN.out; omega), if_neg (by rw [HC.out]; decide)]
        obtain ⟨xt, ct, e8, -⟩ := T5.out.pw.word
        have T6 := (T5.out.cell 1 (.int .i64 0) ((q.sc (q.c.accept (NB.ba q.text)).2).sh 0) (by decide) (fun _ _ _ => rfl) rfl rfl rfl).cell 7 (.int .u64 0) (((q.sc (q.c.accept (NB.ba q.text)).2).sh 0).sl 0) (by decide) (fun _ _ _ => rfl) rfl rfl rfl
        obtain ⟨fp7, t7⟩ := T6.step T6.pw.clear
        have T7 : Hid (TK w (((w5.setCell ⟨g, 1, none⟩ (.int .i64 0)).setCell ⟨g, 7, none⟩ (.int .u64 0)).setCell ⟨g, 8, none⟩ (.slice none 0 0)) g B G fp fp7 ((((q.sc (q.c.accept (NB.ba q.text)).2).sh 0).sl 0).st [])) := t7
        clear t7 T6
        go_wp2
        obtain ⟨s9, p9⟩ := T7.out.fin 0 0
        exact ret_fault rfl rfl s9 ⟨by rw [HE.out], by rw [HE.out]; exact p9⟩
      · have hcb : (C != 0) = true := by simp [hc0]
        have HE : Hid (p.take b = ((C, (p.taken : Int) - p.held), q.sc (q.c.accept (NB.ba q.text)).2)) := by unfold Hid; rw [HT.out]; unfold PS.ends; rw [if_neg (by have := HEN.out; omega), if_pos (by rw [HC.out]; exact hc0), HC.out, HF.out.1, HF.out.2]
        go_wp2
        obtain ⟨s9, p9⟩ := T5.out.fin C F0
        exact ret_fault rfl rfl s9 ⟨by rw [HE.out, HF0.out], by rw [HE.out]; exact p9⟩
  have hltI : ¬ (p.text.length : Int) < (p.len : Int) := by omega
  have hltd : decide ((p.text.length : Int) < (p.len : Int)) = false := by simp; omega
  by_cases hb0 : b = 0
  · subst hb0
    have HT : Hid (p.take 0 = p.ends) := by
      have e : p.put 0 = ((0, 0), p) := by unfold PS.put; rw [if_neg h8, if_neg hlt, if_neg (by decide)]
      unfold Hid PS.take
      rw [if_neg H17.out, if_neg HB.out, e, if_neg (by show ¬ (0 : Int) ≠ 0; decide)]
    have HQ : Hid (p.len < 72057594037927936 ∧ p.held ≤ 1048576 ∧ (p.held + 1 = 8 + p.len + padN p.len → p.len ≤ 1048576 ∧ p.text.length ≤ 1048576) ∧ CI p.c 1048576) := ⟨by omega, by omega, fun _ => ⟨hl8, by omega⟩, HI.out.ci'⟩
    have iw8 : IntKind.u64.wrap (p.text.length : Int) = (p.text.length : Int) := by show (p.text.length : Int) % 18446744073709551616 = _; omega
    go_upto_region 10 with fail
    go_quiet (fail)
    have T2 : Hid (TK w (w2.drewN nq) g B G fp fp p) := T1.out.drewN nq
    clear c0 c1 c7 f1 f7 f8 z0 z1 y0 y1 T1 e8
    generalize w2.drewN nq = w3 at *
    go_upto_region 14 with fail
    clear HF
    have HF : Hid (p.taken = p.taken ∧ p.held = p.held) := ⟨rfl, rfl⟩
    obtain ⟨fp3, hfp3⟩ : ∃ f, f = fp := ⟨_, rfl⟩
    have T3 : Hid (TK w w3 g B G fp fp3 p) := by rw [hfp3]; exact T2
    clear T2 hfp3 hltI hltd hl8 hlt h8 h8I h8d
    obtain ⟨c0, c1, -, -, -, -, c6, c7, hfz⟩ := T3.out.pw.cells
    have f1 := hfz 1 (by decide)
    have f7 := hfz 7 (by decide)
    have f8 := hfz 8 (by decide)
    have z0 := T3.out.st.get 0 _ rfl
    have z1 := T3.out.st.get 1 _ rfl
    have y0 := T3.out.st.fr 0 (by show 0 < 2; decide)
    have y1 := T3.out.st.fr 1 (by show 1 < 2; decide)
    clear hfz
    have hql := HQ.out.1
    have hqh := HQ.out.2.1
    have iw : IntKind.i64.wrap (p.len : Int) = (p.len : Int) := by rw [IntKind.wrap_i64]; omega
    have iw2 : IntKind.i64.wrap ((p.held : Int) + 1) = (p.held : Int) + 1 := by rw [IntKind.wrap_i64]; omega
    have FC := fun w => framed_any (p.len : Int) w (by omega) (by omega)
    by_cases hend : p.held + 1 ≠ 8 + p.len + padN p.len
    · have hbb := fr_ne (p := p) hql hend
      have HE : Hid (p.take 0 = ((0, 0), p.sh (p.held + 1))) := by unfold Hid; rw [HT.out]; unfold PS.ends; rw [if_pos hend]
      clear hend
      go_wp2_with fail
      go_quiet ((go_at_call 46; exact Calls.quiet_of_same (FC _)))
      have T4 : Hid (TK w (w3.drewN nq) g B G fp fp3 p) := T3.out.drewN nq
      clear FC c0 c1 c6 c7 f1 f7 f8 z0 z1 y0 y1 T3
      generalize w3.drewN nq = w4 at *
      obtain ⟨c0, c1, -, -, -, -, c6, c7, hfz⟩ := T4.out.pw.cells
      have f1 := hfz 1 (by decide)
      have z0 := T4.out.st.get 0 _ rfl
      have z1 := T4.out.st.get 1 _ rfl
      have y0 := T4.out.st.fr 0 (by show 0 < 2; decide)
      have y1 := T4.out.st.fr 1 (by show 1 < 2; decide)
      clear hfz
      have T5 : Hid (TK w (w4.setCell ⟨g, 1, none⟩ (.int .i64 ((p.held : Int) + 1))) g B G fp fp3 (p.sh (p.held + 1))) := T4.out.cell 1 _ _ (by decide) (fun _ _ _ => rfl) rfl rfl rfl
      go_wp2
      obtain ⟨s9, p9⟩ := T5.out.fin 0 0
      exact ret_fault rfl rfl s9 ⟨by rw [HE.out], by rw [HE.out]; exact p9⟩
    · have hend' : p.held + 1 = 8 + p.len + padN p.len := by omega
      obtain ⟨hq1, hq2⟩ := HQ.out.2.2.1 hend'
      have hbb := fr_eq (p := p) hq1 hend'
      clear hend
      have HEN : Hid (p.held + 1 = 8 + p.len + padN p.len) := hend'
      clear hend'
      go_wp2_with fail
      go_quiet ((go_at_call 46; exact Calls.quiet_of_same (FC _)))
      have T4 : Hid (TK w (w3.drewN nq) g B G fp fp3 p) := T3.out.drewN nq
      clear FC c0 c1 c6 c7 f1 f7 f8 z0 z1 y0 y1 T3
      generalize w3.drewN nq = w4 at *
      obtain ⟨xt, ct, e8, hcv⟩ := T4.out.pw.word
      have CA := acc_any g B p fp3 (NB.ba p.text) w4 T4.out.pw HQ.out.2.2.2
      obtain ⟨C, hC⟩ : ∃ C, (p.c.accept (NB.ba p.text)).1 = C := ⟨_, rfl⟩
      have HC : Hid ((p.c.accept (NB.ba p.text)).1 = C) := hC
      rw [hC] at CA
      clear hC
      go_wp2_with fail
      refine CA.mono ?_
      rintro e5 w5 ⟨rfl, hp5⟩
      clear CA hcv e8
      obtain ⟨fp5, t5⟩ := T4.out.step hp5
      have T5 : Hid (TK w w5 g B G fp fp5 (p.sc (p.c.accept (NB.ba p.text)).2)) := t5
      clear t5 hp5 T4
      obtain ⟨c0, c1, -, -, -, -, c6, c7, hfz⟩ := T5.out.pw.cells
      have f1 := hfz 1 (by decide)
      have f7 := hfz 7 (by decide)
      have f8 := hfz 8 (by decide)
      have z0 := T5.out.st.get 0 _ rfl
      have z1 := T5.out.st.get 1 _ rfl
      have y0 := T5.out.st.fr 0 (by show 0 < 2; decide)
      have y1 := T5.out.st.fr 1 (by show 1 < 2; decide)
      clear hfz
      by_cases hc0 : C = 0
      · subst hc0
        have HE : Hid (p.take 0 = ((0, 0), (((p.sc (p.c.accept (NB.ba p.text)).2).sh 0).sl 0).st [])) := by unfold Hid; rw [HT.out]; unfold PS.ends; rw [if_neg (by have := HEN.out; omega), if_neg (by rw [HC.out]; decide)]
        obtain ⟨xt, ct, e8, -⟩ := T5.out.pw.word
        have T6 := (T5.out.cell 1 (.int .i64 0) ((p.sc (p.c.accept (NB.ba p.text)).2).sh 0) (by decide) (fun _ _ _ => rfl) rfl rfl rfl).cell 7 (.int .u64 0) (((p.sc (p.c.accept (NB.ba p.text)).2).sh 0).sl 0) (by decide) (fun _ _ _ => rfl) rfl rfl rfl
        obtain ⟨fp7, t7⟩ := T6.step T6.pw.clear
        have T7 : Hid (TK w (((w5.setCell ⟨g, 1, none⟩ (.int .i64 0)).setCell ⟨g, 7, none⟩ (.int .u64 0)).setCell ⟨g, 8, none⟩ (.slice none 0 0)) g B G fp fp7 ((((p.sc (p.c.accept (NB.ba p.text)).2).sh 0).sl 0).st [])) := t7
        clear t7 T6
        go_wp2
        obtain ⟨s9, p9⟩ := T7.out.fin 0 0
        exact ret_fault rfl rfl s9 ⟨by rw [HE.out], by rw [HE.out]; exact p9⟩
      · have hcb : (C != 0) = true := by simp [hc0]
        have HE : Hid (p.take 0 = ((C, (p.taken : Int) - p.held), p.sc (p.c.accept (NB.ba p.text)).2)) := by unfold Hid; rw [HT.out]; unfold PS.ends; rw [if_neg (by have := HEN.out; omega), if_pos (by rw [HC.out]; exact hc0), HC.out]
        go_wp2
        obtain ⟨s9, p9⟩ := T5.out.fin C F0
        exact ret_fault rfl rfl s9 ⟨by rw [HE.out, HF0.out], by rw [HE.out]; exact p9⟩
  · have HE : Hid (p.take b = ((7, (p.taken : Int)), p)) := by
      have e : p.put b = ((7, (p.taken : Int)), p) := by unfold PS.put; rw [if_neg h8, if_neg hlt, if_pos hb0]
      unfold Hid PS.take
      rw [if_neg H17.out, if_neg HB.out, e, if_pos (by show (7 : Int) ≠ 0; decide)]
    have hbn : b.toNat ≠ 0 := fun e => hb0 (UInt8.toNat_inj.1 e)
    have hbb0 : ((b.toNat : Int) != 0) = true := by simp; omega
    have iw8 : IntKind.u64.wrap (p.text.length : Int) = (p.text.length : Int) := by show (p.text.length : Int) % 18446744073709551616 = _; omega
    go_upto_region 10 with fail
    go_quiet (fail)
    have T2 : Hid (TK w (w2.drewN nq) g B G fp fp p) := T1.out.drewN nq
    clear c0 c1 c7 f1 f7 f8 z0 z1 y0 y1 T1 e8
    generalize w2.drewN nq = w3 at *
    have c0 := T2.out.pw.cells.1
    have z0 := T2.out.st.get 0 _ rfl
    have z1 := T2.out.st.get 1 _ rfl
    have y0 := T2.out.st.fr 0 (by show 0 < 2; decide)
    have y1 := T2.out.st.fr 1 (by show 1 < 2; decide)
    go_wp2
    obtain ⟨s9, p9⟩ := T2.out.fin 7 (p.taken : Int)
    exact ret_fault rfl rfl s9 ⟨by rw [HE.out], by rw [HE.out]; exact p9⟩
end Go.Proofs.Ytljcbibcdajhiaa
