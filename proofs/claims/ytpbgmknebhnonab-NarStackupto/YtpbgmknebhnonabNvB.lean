/- The law NarStack, walked (own text of the verifier). -/
import Derived.Test.YtpbgmknebhnonabNvA
import Derived.Deep.LoopGhost
namespace Go.Proofs.Ytpbgmknebhnonab
open Go.RowKit

theorem field_code (a b : Value) (w : World) : (Instr.field 34 (.agg #[a, b]) 0).run Try.prog w = .ok a w := by
  simp [Instr.field, run_underlying Try.underlying34, asAgg, part, isAgg, run_underlying Try.underlying27]
theorem get_bt' (s : ByteArray) (i : Nat) (h : i < s.size) : ((s[i]'h).toNat : Int) = bt s i := by unfold bt; rw [dif_pos h]
theorem run_one {s : PS} (hp : s.part = false) (b : UInt8) : s.run [b] = s.step b := by
  rw [PS.run, if_neg (fun h => by rw [hp] at h; cases h.1)]
  by_cases h : (s.step b).code ≠ 0
  · rw [if_pos h]
  · rw [if_neg h]; rfl
theorem feed_one {s : PS} (hp : s.part = false) (hc : s.code = 0) (hl : s.closed = false) (b : UInt8) : s.feed [b] = s.step b := by
  unfold PS.feed
  rw [if_neg (by rw [hl, hc]; simp), run_one hp]
/-- Feed of one byte, in a new slice. -/
theorem feed1 (w0 w : World) (g B : Nat) (s : PS) (fp : List Nat) (b : UInt8) (H : PW w g B s fp) (hs : ∀ x ∈ fp, w0.heap.size ≤ x) (hb : Below w0.heap.size w0 w) (hg : w0.heap.size ≤ g) (hI : PI s) (hc : s.code = 0) (hp : s.part = false) (hl : s.closed = false) :
    Calls Try.prog 20 #[.pointer (some ⟨g, 0, none⟩), .slice (some ⟨w.heap.size, 0, none⟩) 1 1] (w.alloc (.cells #[.int .u8 (b.toNat : Int)] 5)) fun e w' => (∃ z, e = .returned (.int .i64 z)) ∧ (∃ fp', PW w' g B (s.step b) fp' ∧ ∀ x ∈ fp', w0.heap.size ≤ x) ∧ Below w0.heap.size w0 w' := by
  have hz := H.lt
  have bA : Below w.heap.size w (w.alloc (.cells #[.int .u8 (b.toNat : Int)] 5)) := (Below.refl _ _).alloc (Nat.le_refl _) _
  have hX : BSl (w.alloc (.cells #[.int .u8 (b.toNat : Int)] 5)) g fp (some ⟨w.heap.size, 0, none⟩) [b] := by
    refine Or.inr ⟨w.heap.size, 0, rfl, by omega, fun hm => by have := (hz.2.2 _ hm).2; omega, by rw [World.size_alloc]; omega, fun k hk => ?_⟩
    have hk0 : k = 0 := by simp at hk; exact hk
    subst hk0
    exact World.cell?_alloc_new w _ _ 0
  have hF := feed_any g B s fp (some ⟨w.heap.size, 0, none⟩) 1 [b] (w.alloc (.cells #[.int .u8 (b.toNat : Int)] 5)) (H.below bA) (fun _ => hI) hX (by show 1 ≤ _; decide)
  rw [feed_one hp hc hl] at hF
  refine hF.mono ?_
  rintro e w' ⟨rfl, fp', P', F', S'⟩
  have bB := hb.trans (bA.mono hb.size)
  refine ⟨⟨_, rfl⟩, ⟨fp', P', fun x hx => ?_⟩, bB.trans (F'.below bB.size hg hs)⟩
  rcases S' x hx with h | h
  · exact hs x h
  · have := bB.size; omega

set_option maxHeartbeats 16000000 in
set_option maxRecDepth 100000 in
theorem nstack_walk (t : ByteArray) (w : World) (ht : t.size ≤ 1048576) :
    Calls Try.prog 6 #[.string t] w fun en w' => en = .returned (.bool true) ∧ Below w.heap.size w w' := by
  obtain ⟨l, rfl⟩ : ∃ l, t = NB.ba l := ⟨t.data.toList, (NB.ba_list t).symm⟩
  have hsz := NB.ba_size l
  have hl : l.length ≤ 1048576 := by rw [NB.ba_size] at ht; exact ht
  clear ht
  go_enter Try.func6, Try.ntmps6
  go_wp2_with fail
  refine (awN w).mono ?_
  rintro e1 w1 ⟨rfl, b1⟩
  have CN := newparser_any w1
  go_wp2_with fail
  refine CN.mono ?_
  rintro e2 w2 ⟨rfl, hw2⟩
  clear CN
  have H2 : Hid (PW w2 w1.heap.size (w1.heap.size + 1) (PS.new false) [] ∧ Below w.heap.size w w2 ∧ w.heap.size ≤ w1.heap.size) := by
    rw [hw2]
    exact ⟨PW.new w1 false, b1.alloc b1.size _, b1.size⟩
  clear hw2 b1
  obtain ⟨g, hg⟩ : ∃ g, w1.heap.size = g := ⟨_, rfl⟩
  rw [hg] at H2 ⊢
  clear hg
  have HWG : Hid (w.heap.size ≤ g) := H2.out.2.2
  go_wp2
  go_loopg [4, 5, 6] l.length (fun gk hd ln ix wr => ∃ (i : Nat) (s : PS) (fp : List Nat), Hid (gk + i = l.length) ∧ ix = .int .i64 i ∧ hd = .int .i64 (s.held : Int) ∧ ln = .int .u64 (s.len : Int) ∧ Hid (PW wr g (g + 1) s fp ∧ ∀ x ∈ fp, w.heap.size ≤ x) ∧ Hid (Below w.heap.size w wr) ∧ Hid (PI s ∧ s.code = 0 ∧ s.part = false ∧ s.closed = false ∧ s.taken = i ∧ (s.taken - s.held) % 8 = 0))
  case atStart => exact ⟨0, PS.new false, [], rfl, rfl, rfl, rfl, ⟨H2.out.1, fun x hx => by cases hx⟩, H2.out.2.1, PI.new false, rfl, rfl, rfl, rfl, rfl⟩
  case round =>
    obtain ⟨i, s, fp, hgk, rfl, rfl, rfl, hP, hB, hI⟩ := hrel
    clear H2
    by_cases hi : i < l.length
    · have hiI : (i : Int) < (l.length : Int) := by omega
      obtain ⟨-, -, c2, c3, -, -, c6, -, -⟩ := hP.out.1.cells
      rw [hI.out.2.1] at c2
      have CF := fault_any g 0 s.fat wr c2 c3
      go_wp2_with fail
      refine CF.mono ?_
      rintro e3 w3 ⟨rfl, b3⟩
      clear CF
      have hfd := field_code (.int .i64 0) (.int .i64 s.fat) w3
      have hP3 : Hid (PW w3 g (g + 1) s fp ∧ ∀ x ∈ fp, w.heap.size ≤ x) := ⟨hP.out.1.below b3, hP.out.2⟩
      have hB3 : Hid (Below w.heap.size w w3) := hB.out.trans (b3.mono hB.out.size)
      clear b3 hP hB c2 c3 c6
      obtain ⟨-, -, -, -, -, -, c6, -, -⟩ := hP3.out.1.cells
      have CH := whole_any g s.c.next w3 c6
      by_cases h17 : s.c.next = 17
      · have hb17 : (s.c.next == 17) = true := by rw [h17]; rfl
        rw [hb17] at CH
        clear hb17 h17 c6
        go_wp2_with fail
        refine CH.mono ?_
        rintro e4 w4 ⟨rfl, rfl⟩
        clear CH
        go_wp2
        go_ret
        exact ⟨rfl, hB3.out⟩
      · have hb17 : (s.c.next == 17) = false := by simp [h17]
        rw [hb17] at CH
        have HS : Hid (∀ b, StepP s b) := fun b => step_cases hI.out.1 h17 hI.out.2.2.2.2.2 b
        clear hb17 h17 c6
        obtain ⟨b, hb⟩ : ∃ b : UInt8, b = l[i]'hi := ⟨_, rfl⟩
        have hbt : bt (NB.ba l) i = (b.toNat : Int) := by rw [NB.bt_ba _ _ hi, hb]
        have hbl := b.toNat_lt
        have FC := feed1 w w3 g (g + 1) s fp b hP3.out.1 hP3.out.2 hB3.out HWG.out hI.out.1 hI.out.2.1 hI.out.2.2.1 hI.out.2.2.2.1
        have hst := HS.out b
        have hsh : s.held ≤ 1048576 := by have h1 := hI.out.1.hd; have h2 := hI.out.1.tk; omega
        go_wp2_with fail
        refine CH.mono ?_
        rintro e4 w4 ⟨rfl, rfl⟩
        clear CH HS hb hfd
        have gs := get_bt' (NB.ba l) i (by rw [hsz]; exact hi)
        rw [hbt] at gs
        by_cases h8 : s.held < 8
        · have h8I : (s.held : Int) < 8 := by omega
          have hln := (hI.out.1.ln h8).1
          have hwd := or_word s.len b.toNat s.held hln hbl (by omega)
          obtain ⟨LL, hLL⟩ : ∃ LL, s.nl b = LL := ⟨_, rfl⟩
          have HLL : Hid (s.ll b = LL ∧ LL < 18446744073709551616) := ⟨by unfold PS.ll; rw [if_pos h8]; exact hLL, by rw [← hLL]; exact Nat.lt_of_lt_of_le (nl_lt hln b) (Nat.le_trans (Nat.pow_le_pow_right (by decide) (show 8 * (s.held + 1) ≤ 64 by omega)) (by decide))⟩
          have hwd2 : bits .or .u64 (s.len : Int) (IntKind.u64.wrap ((b.toNat : Int) * 2 ^ (8 * s.held))) = (LL : Int) := by rw [hwd, ← hLL]; rfl
          clear hwd hLL
          go_upto_region 13 with fail
          clear hwd2 hln h8I
          have hll1 : LL < 18446744073709551616 := HLL.out.2
          go_wp2_with fail
          refine FC.mono ?_
          rintro e5 w5 ⟨⟨z5, rfl⟩, ⟨fp5, P5, hfp5⟩, b5⟩
          clear FC hP3 hB3
          have hP5 : Hid (PW w5 g (g + 1) (s.step b) fp5 ∧ ∀ x ∈ fp5, w.heap.size ≤ x) := ⟨P5, hfp5⟩
          have hB5 : Hid (Below w.heap.size w w5) := b5
          clear hfp5 b5
          obtain ⟨-, d1, d2, d3, -, -, -, -, -⟩ := P5.cells
          obtain ⟨-, -, -, -, -, x9, n9, e9⟩ := P5.rootCells
          have CD := depth_any g x9 _ n9 w5 e9
          have CHd := held_any g _ w5 d1
          clear P5 d1 e9
          rcases hst with ⟨hcode, hheld, hdp, h6⟩ | ⟨hcode, h7n, hdp, hPI, htk, hmod, hpart, hclosed, hend⟩
          · have hn0 : ¬ (((s.step b).c.op.length : Nat) : Int) < 0 := by omega
            have hn1 : ¬ (32 : Int) < (((s.step b).c.op.length : Nat) : Int) := by omega
            rw [hheld] at CHd
            have hh0 : ¬ ((s.held : Nat) : Int) < 0 := by omega
            have hh1 : ¬ ((s.held : Nat) : Int) + 1 < ((s.held : Nat) : Int) := by omega
            have iwh : IntKind.i64.wrap ((s.held : Int) + 1) = (s.held : Int) + 1 := by rw [IntKind.wrap_i64]; omega
            by_cases h67 : s.held = 7 ∧ 1048576 < LL
            · obtain ⟨k1, k2⟩ := h6 h67.1 (by rw [HLL.out.1]; exact h67.2)
              rw [k1] at d2
              rw [k2, hI.out.2.2.2.2.1] at d3
              have g7 : ((s.held : Int) == 7) = true := by simp; omega
              have gl : decide ((1048576 : Int) < (LL : Int)) = true := by simp; omega
              have gl' : (1048576 : Int) < (LL : Int) := by omega
              have glN : 1048576 < LL := h67.2
              have glD : decide (1048576 < LL) = true := by simp; omega
              generalize (s.held : Int) = HD at *
              clear h67
              have iw7 : IntKind.i64.wrap ((i : Int) - 7) = (i : Int) - 7 := by rw [IntKind.wrap_i64]; omega
              have CF := fault_any g 6 ((i : Int) - 7) w5 d2 d3
              clear CD CHd hheld h6 k1 k2 hcode
              go_wp2_with fail
              refine CF.mono ?_
              rintro e6 w6 ⟨rfl, b6⟩
              have hB6 : Hid (Below w.heap.size w w6) := hB5.out.trans (b6.mono hB5.out.size)
              clear CF b6
              go_wp2
              go_ret
              exact ⟨rfl, hB6.out⟩
            · have CF := fault_any g _ _ w5 d2 d3
              have hfd := fun W => field_code (.int .i64 (s.step b).code) (.int .i64 (s.step b).fat) W
              have hcb : ((s.step b).code != 0) = true := by simp [hcode]
              clear h6 hheld hdp
              generalize (s.step b).c.op.length = nD at *
              generalize (s.step b).code = cD at *
              generalize (s.step b).fat = fD at *
              by_cases h7 : s.held = 7
              · have gl' : ¬ (1048576 : Int) < (LL : Int) := fun h => h67 ⟨h7, by omega⟩
                have gl : decide ((1048576 : Int) < (LL : Int)) = false := decide_eq_false gl'
                have glN : ¬ 1048576 < LL := by omega
                have glD : decide (1048576 < LL) = false := decide_eq_false glN
                have g7 : ((s.held : Int) == 7) = true := by simp; omega
                clear h67
                generalize (s.held : Int) = HD at *
                clear h7
                go_wp2_with fail
                refine CD.mono ?_
                rintro e6 w6 ⟨rfl, rfl⟩
                go_wp2_with fail
                refine CD.mono ?_
                rintro e7 w7 ⟨rfl, rfl⟩
                clear CD
                go_wp2_with fail
                refine CHd.mono ?_
                rintro e8 w8 ⟨rfl, rfl⟩
                go_wp2_with fail
                refine CHd.mono ?_
                rintro e9 w9 ⟨rfl, rfl⟩
                clear CHd
                go_wp2_with fail
                refine CF.mono ?_
                rintro e10 w10 ⟨rfl, b10⟩
                have hfd := hfd w10
                have hB10 : Hid (Below w.heap.size w w10) := hB5.out.trans (b10.mono hB5.out.size)
                clear CF b10
                go_wp2
                go_ret
                exact ⟨rfl, hB10.out⟩
              · have g7 : ((s.held : Int) == 7) = false := by simp; omega
                clear h67
                generalize (s.held : Int) = HD at *
                clear h7
                go_wp2_with fail
                refine CD.mono ?_
                rintro e6 w6 ⟨rfl, rfl⟩
                go_wp2_with fail
                refine CD.mono ?_
                rintro e7 w7 ⟨rfl, rfl⟩
                clear CD
                go_wp2_with fail
                refine CHd.mono ?_
                rintro e8 w8 ⟨rfl, rfl⟩
                go_wp2_with fail
                refine CHd.mono ?_
                rintro e9 w9 ⟨rfl, rfl⟩
                clear CHd
                go_wp2_with fail
                refine CF.mono ?_
                rintro e10 w10 ⟨rfl, b10⟩
                have hfd := hfd w10
                have hB10 : Hid (Below w.heap.size w w10) := hB5.out.trans (b10.mono hB5.out.size)
                clear CF b10
                go_wp2
                go_ret
                exact ⟨rfl, hB10.out⟩
          · rw [hcode] at d2
            have hn0 : ¬ (((s.step b).c.op.length : Nat) : Int) < 0 := by omega
            have hn1 : ¬ (32 : Int) < (((s.step b).c.op.length : Nat) : Int) := by omega
            have CF := fault_any g 0 _ w5 d2 d3
            have hfd := fun W => field_code (.int .i64 0) (.int .i64 (s.step b).fat) W
            have iwh : IntKind.i64.wrap ((s.held : Int) + 1) = (s.held : Int) + 1 := by rw [IntKind.wrap_i64]; omega
            have HR : Hid (PI (s.step b) ∧ (s.step b).code = 0 ∧ (s.step b).part = false ∧ (s.step b).closed = false ∧ (s.step b).taken = i + 1 ∧ ((s.step b).taken - (s.step b).held) % 8 = 0) := ⟨hPI, hcode, hpart.trans hI.out.2.2.1, hclosed.trans hI.out.2.2.2.1, by rw [htk, hI.out.2.2.2.2.1], by rw [htk]; exact hmod⟩
            rw [HLL.out.1] at h7n hend
            have hcmp : (s.held = 7 ∧ ¬ 1048576 < LL) ∨ s.held ≠ 7 := by
              by_cases h7 : s.held = 7
              · exact Or.inl ⟨h7, h7n h7⟩
              · exact Or.inr h7
            have hLs : 8 ≤ s.held + 1 → LL ≤ 1048576 := fun h8' => by
              rcases hend with ⟨k1, k2, k3⟩ | ⟨k1, k2, k3⟩
              · have := (hPI.l8 (by omega)).1; omega
              · omega
            have hlt : s.held + 1 ≠ 8 + LL + padN LL → 8 ≤ s.held + 1 → (s.step b).held = s.held + 1 → (s.step b).len = LL → s.held + 1 < 8 + LL + padN LL := fun _ h2 h3 h4 => by
              have := (hPI.l8 (by omega)).2.2
              rw [h3, h4] at this
              exact this
            clear hdp h7n hmod hpart hclosed hcode htk hPI
            generalize (s.step b).c.op.length = nD at *
            generalize (s.step b).fat = fD at *
            rcases hend with ⟨k1, k2, k3⟩ | ⟨k1, k2, k3⟩
            · rw [k1] at CHd
              have ck : ((s.held + 1 : Nat) : Int) = (s.held : Int) + 1 := by omega
              rw [ck] at CHd
              have hh0 : ¬ ((s.held : Nat) : Int) + 1 < 0 := by omega
              have hR2 : Hid ((s.step b).held = s.held + 1 ∧ (s.step b).len = LL) := ⟨k1, k2⟩
              by_cases h8b : 8 ≤ s.held + 1
              · have hlt' := hlt k3 h8b k1 k2
                have hLL := hLs h8b
                have g8 : (8 : Int) ≤ (s.held : Int) + 1 := by omega
                have iw8 : IntKind.i64.wrap ((s.held : Int) + 1 - 8) = (s.held : Int) + 1 - 8 := by rw [IntKind.wrap_i64]; omega
                have uw8 : IntKind.u64.wrap ((s.held : Int) + 1 - 8) = (s.held : Int) + 1 - 8 := by show ((s.held : Int) + 1 - 8) % 18446744073709551616 = _; omega
                have ur1 : IntKind.u64.wrap (8 - (LL : Int) % 8) = 8 - (LL : Int) % 8 := by show (8 - (LL : Int) % 8) % 18446744073709551616 = _; omega
                have ur2 : IntKind.u64.wrap ((LL : Int) + (8 - (LL : Int) % 8) % 8) = (LL : Int) + (8 - (LL : Int) % 8) % 8 := by show ((LL : Int) + (8 - (LL : Int) % 8) % 8) % 18446744073709551616 = _; omega
                have hge2 : ¬ (LL : Int) + -((LL : Int) % 8) % 8 ≤ (s.held : Int) + 1 - 8 := by unfold padN at hlt'; omega
                have hged : decide ((LL : Int) + -((LL : Int) % 8) % 8 ≤ (s.held : Int) + 1 - 8) = false := decide_eq_false hge2
                have hck : Hid (((s.held + 1 : Nat) : Int) = (s.held : Int) + 1) := ck
                clear hLs hlt k1 k2 k3 ck h8b hlt'
                rcases hcmp with ⟨h7, hsm⟩ | h7
                · have g7 : ((s.held : Int) == 7) = true := by simp; omega
                  have gl' : ¬ (1048576 : Int) < (LL : Int) := by omega
                  have gl : decide ((1048576 : Int) < (LL : Int)) = false := decide_eq_false gl'
                  have glD : decide (1048576 < LL) = false := decide_eq_false hsm
                  generalize (s.held : Int) = HD at *
                  go_wp2_with fail
                  refine CD.mono ?_
                  rintro e6 w6 ⟨rfl, rfl⟩
                  go_wp2_with fail
                  refine CD.mono ?_
                  rintro e7 w7 ⟨rfl, rfl⟩
                  clear CD
                  go_wp2_with fail
                  refine CHd.mono ?_
                  rintro e8 w8 ⟨rfl, rfl⟩
                  go_wp2_with fail
                  refine CHd.mono ?_
                  rintro e9 w9 ⟨rfl, rfl⟩
                  clear CHd
                  go_wp2_with fail
                  refine CF.mono ?_
                  rintro e10 w10 ⟨rfl, b10⟩
                  have hfd := hfd w10
                  have hB10 : Hid (Below w.heap.size w w10) := hB5.out.trans (b10.mono hB5.out.size)
                  have hP10 : Hid (PW w10 g (g + 1) (s.step b) fp5 ∧ ∀ x ∈ fp5, w.heap.size ≤ x) := ⟨hP5.out.1.below b10, hP5.out.2⟩
                  clear CF b10
                  have CHd := held_any g _ w10 hP10.out.1.cells.2.1
                  rw [hR2.out.1, hck.out] at CHd
                  go_wp2_with fail
                  refine CHd.mono ?_
                  rintro e11 w11 ⟨rfl, rfl⟩
                  clear CHd
                  go_wp2
                  go_roundg (gk - 1)
                  case measure => have := hgk.out; omega
                  case rel => exact ⟨i + 1, s.step b, fp5, by have := hgk.out; unfold Hid; omega, by go_num, by rw [hR2.out.1, hck.out], by rw [hR2.out.2], hP10, hB10, HR⟩
                · have g7 : ((s.held : Int) == 7) = false := by simp; omega
                  generalize (s.held : Int) = HD at *
                  go_wp2_with fail
                  refine CD.mono ?_
                  rintro e6 w6 ⟨rfl, rfl⟩
                  go_wp2_with fail
                  refine CD.mono ?_
                  rintro e7 w7 ⟨rfl, rfl⟩
                  clear CD
                  go_wp2_with fail
                  refine CHd.mono ?_
                  rintro e8 w8 ⟨rfl, rfl⟩
                  go_wp2_with fail
                  refine CHd.mono ?_
                  rintro e9 w9 ⟨rfl, rfl⟩
                  clear CHd
                  go_wp2_with fail
                  refine CF.mono ?_
                  rintro e10 w10 ⟨rfl, b10⟩
                  have hfd := hfd w10
                  have hB10 : Hid (Below w.heap.size w w10) := hB5.out.trans (b10.mono hB5.out.size)
                  have hP10 : Hid (PW w10 g (g + 1) (s.step b) fp5 ∧ ∀ x ∈ fp5, w.heap.size ≤ x) := ⟨hP5.out.1.below b10, hP5.out.2⟩
                  clear CF b10
                  have CHd := held_any g _ w10 hP10.out.1.cells.2.1
                  rw [hR2.out.1, hck.out] at CHd
                  go_wp2_with fail
                  refine CHd.mono ?_
                  rintro e11 w11 ⟨rfl, rfl⟩
                  clear CHd
                  go_wp2
                  go_roundg (gk - 1)
                  case measure => have := hgk.out; omega
                  case rel => exact ⟨i + 1, s.step b, fp5, by have := hgk.out; unfold Hid; omega, by go_num, by rw [hR2.out.1, hck.out], by rw [hR2.out.2], hP10, hB10, HR⟩
              · have g8 : ¬ (8 : Int) ≤ (s.held : Int) + 1 := by omega
                have hne7 : ¬ s.held = 7 := by omega
                have g7 : ((s.held : Int) == 7) = false := by simp; omega
                have hck : Hid (((s.held + 1 : Nat) : Int) = (s.held : Int) + 1) := ck
                clear hcmp hLs hlt k1 k2 k3 ck h8b hne7
                generalize (s.held : Int) = HD at *
                go_wp2_with fail
                refine CD.mono ?_
                rintro e6 w6 ⟨rfl, rfl⟩
                go_wp2_with fail
                refine CD.mono ?_
                rintro e7 w7 ⟨rfl, rfl⟩
                clear CD
                go_wp2_with fail
                refine CHd.mono ?_
                rintro e8 w8 ⟨rfl, rfl⟩
                go_wp2_with fail
                refine CHd.mono ?_
                rintro e9 w9 ⟨rfl, rfl⟩
                clear CHd
                go_wp2_with fail
                refine CF.mono ?_
                rintro e10 w10 ⟨rfl, b10⟩
                have hfd := hfd w10
                have hB10 : Hid (Below w.heap.size w w10) := hB5.out.trans (b10.mono hB5.out.size)
                have hP10 : Hid (PW w10 g (g + 1) (s.step b) fp5 ∧ ∀ x ∈ fp5, w.heap.size ≤ x) := ⟨hP5.out.1.below b10, hP5.out.2⟩
                clear CF b10
                have CHd := held_any g _ w10 hP10.out.1.cells.2.1
                rw [hR2.out.1, hck.out] at CHd
                go_wp2_with fail
                refine CHd.mono ?_
                rintro e11 w11 ⟨rfl, rfl⟩
                clear CHd
                go_wp2
                go_roundg (gk - 1)
                case measure => have := hgk.out; omega
                case rel => exact ⟨i + 1, s.step b, fp5, by have := hgk.out; unfold Hid; omega, by go_num, by rw [hR2.out.1, hck.out], by rw [hR2.out.2], hP10, hB10, HR⟩
            · have CHd' := CHd
              rw [k1] at CHd
              have hR2 : Hid ((s.step b).held = 0 ∧ (s.step b).len = 0) := ⟨k1, k2⟩
              have hLL := hLs (by omega)
              obtain ⟨D, hD⟩ : ∃ D, s.held = D + 7 := ⟨s.held - 7, by omega⟩
              have hDL : D = LL + padN LL := by omega
              have hh1 : ¬ (s.held : Int) + 1 < 0 := by omega
              have g8 : (8 : Int) ≤ (s.held : Int) + 1 := by omega
              have hz8 : ¬ ((0 : Nat) : Int) < 0 := by omega
              have iw8 : IntKind.i64.wrap ((s.held : Int) + 1 - 8) = (s.held : Int) + 1 - 8 := by rw [IntKind.wrap_i64]; omega
              have uw8 : IntKind.u64.wrap ((s.held : Int) + 1 - 8) = (s.held : Int) + 1 - 8 := by show ((s.held : Int) + 1 - 8) % 18446744073709551616 = _; omega
              have ur1 : IntKind.u64.wrap (8 - (LL : Int) % 8) = 8 - (LL : Int) % 8 := by show (8 - (LL : Int) % 8) % 18446744073709551616 = _; omega
              have ur2 : IntKind.u64.wrap ((LL : Int) + (8 - (LL : Int) % 8) % 8) = (LL : Int) + (8 - (LL : Int) % 8) % 8 := by show ((LL : Int) + (8 - (LL : Int) % 8) % 8) % 18446744073709551616 = _; omega
              have hge : (LL : Int) + (8 - (LL : Int) % 8) % 8 ≤ (s.held : Int) + 1 - 8 := by unfold padN at hDL; omega
              have hge2 : (LL : Int) + -((LL : Int) % 8) % 8 ≤ (s.held : Int) + 1 - 8 := by omega
              have hged : decide ((LL : Int) + -((LL : Int) % 8) % 8 ≤ (s.held : Int) + 1 - 8) = true := decide_eq_true hge2
              clear hge
              clear CHd' hLs hlt k1 k2 k3 hDL hD
              rcases hcmp with ⟨h7, hsm⟩ | h7
              · have g7 : ((s.held : Int) == 7) = true := by simp; omega
                have gl' : ¬ (1048576 : Int) < (LL : Int) := by omega
                have gl : decide ((1048576 : Int) < (LL : Int)) = false := decide_eq_false gl'
                have glD : decide (1048576 < LL) = false := decide_eq_false hsm
                generalize (s.held : Int) = HD at *
                go_wp2_with fail
                refine CD.mono ?_
                rintro e6 w6 ⟨rfl, rfl⟩
                go_wp2_with fail
                refine CD.mono ?_
                rintro e7 w7 ⟨rfl, rfl⟩
                clear CD
                go_wp2_with fail
                refine CHd.mono ?_
                rintro e8 w8 ⟨rfl, rfl⟩
                go_wp2_with fail
                refine CHd.mono ?_
                rintro e9 w9 ⟨rfl, rfl⟩
                clear CHd
                go_wp2_with fail
                refine CF.mono ?_
                rintro e10 w10 ⟨rfl, b10⟩
                have hfd := hfd w10
                have hB10 : Hid (Below w.heap.size w w10) := hB5.out.trans (b10.mono hB5.out.size)
                have hP10 : Hid (PW w10 g (g + 1) (s.step b) fp5 ∧ ∀ x ∈ fp5, w.heap.size ≤ x) := ⟨hP5.out.1.below b10, hP5.out.2⟩
                clear CF b10
                have CHd := held_any g _ w10 hP10.out.1.cells.2.1
                rw [hR2.out.1] at CHd
                go_wp2_with fail
                refine CHd.mono ?_
                rintro e11 w11 ⟨rfl, rfl⟩
                clear CHd
                go_wp2
                go_roundg (gk - 1)
                case measure => have := hgk.out; omega
                case rel => exact ⟨i + 1, s.step b, fp5, by have := hgk.out; unfold Hid; omega, by go_num, by rw [hR2.out.1]; rfl, by rw [hR2.out.2]; rfl, hP10, hB10, HR⟩
              · have g7 : ((s.held : Int) == 7) = false := by simp; omega
                generalize (s.held : Int) = HD at *
                go_wp2_with fail
                refine CD.mono ?_
                rintro e6 w6 ⟨rfl, rfl⟩
                go_wp2_with fail
                refine CD.mono ?_
                rintro e7 w7 ⟨rfl, rfl⟩
                clear CD
                go_wp2_with fail
                refine CHd.mono ?_
                rintro e8 w8 ⟨rfl, rfl⟩
                go_wp2_with fail
                refine CHd.mono ?_
                rintro e9 w9 ⟨rfl, rfl⟩
                clear CHd
                go_wp2_with fail
                refine CF.mono ?_
                rintro e10 w10 ⟨rfl, b10⟩
                have hfd := hfd w10
                have hB10 : Hid (Below w.heap.size w w10) := hB5.out.trans (b10.mono hB5.out.size)
                have hP10 : Hid (PW w10 g (g + 1) (s.step b) fp5 ∧ ∀ x ∈ fp5, w.heap.size ≤ x) := ⟨hP5.out.1.below b10, hP5.out.2⟩
                clear CF b10
                have CHd := held_any g _ w10 hP10.out.1.cells.2.1
                rw [hR2.out.1] at CHd
                go_wp2_with fail
                refine CHd.mono ?_
                rintro e11 w11 ⟨rfl, rfl⟩
                clear CHd
                go_wp2
                go_roundg (gk - 1)
                case measure => have := hgk.out; omega
                case rel => exact ⟨i + 1, s.step b, fp5, by have := hgk.out; unfold Hid; omega, by go_num, by rw [hR2.out.1]; rfl, by rw [hR2.out.2]; rfl, hP10, hB10, HR⟩
        · have h8I : ¬ (s.held : Int) < 8 := by omega
          obtain ⟨LL, hLL⟩ : ∃ LL, s.len = LL := ⟨_, rfl⟩
          have HLL : Hid (s.ll b = LL ∧ LL < 18446744073709551616) := ⟨by unfold PS.ll; rw [if_neg h8]; exact hLL, by rw [← hLL]; have := (hI.out.1.l8 (by omega)).1; omega⟩
          rw [hLL]
          clear hLL
          go_upto_region 13 with fail
          clear h8I
          have hll1 : LL < 18446744073709551616 := HLL.out.2
          go_wp2_with fail
          refine FC.mono ?_
          rintro e5 w5 ⟨⟨z5, rfl⟩, ⟨fp5, P5, hfp5⟩, b5⟩
          clear FC hP3 hB3
          have hP5 : Hid (PW w5 g (g + 1) (s.step b) fp5 ∧ ∀ x ∈ fp5, w.heap.size ≤ x) := ⟨P5, hfp5⟩
          have hB5 : Hid (Below w.heap.size w w5) := b5
          clear hfp5 b5
          obtain ⟨-, d1, d2, d3, -, -, -, -, -⟩ := P5.cells
          obtain ⟨-, -, -, -, -, x9, n9, e9⟩ := P5.rootCells
          have CD := depth_any g x9 _ n9 w5 e9
          have CHd := held_any g _ w5 d1
          clear P5 d1 e9
          rcases hst with ⟨hcode, hheld, hdp, h6⟩ | ⟨hcode, h7n, hdp, hPI, htk, hmod, hpart, hclosed, hend⟩
          · have hn0 : ¬ (((s.step b).c.op.length : Nat) : Int) < 0 := by omega
            have hn1 : ¬ (32 : Int) < (((s.step b).c.op.length : Nat) : Int) := by omega
            rw [hheld] at CHd
            have hh0 : ¬ ((s.held : Nat) : Int) < 0 := by omega
            have hh1 : ¬ ((s.held : Nat) : Int) + 1 < ((s.held : Nat) : Int) := by omega
            have iwh : IntKind.i64.wrap ((s.held : Int) + 1) = (s.held : Int) + 1 := by rw [IntKind.wrap_i64]; omega
            by_cases h67 : s.held = 7 ∧ 1048576 < LL
            · obtain ⟨k1, k2⟩ := h6 h67.1 (by rw [HLL.out.1]; exact h67.2)
              rw [k1] at d2
              rw [k2, hI.out.2.2.2.2.1] at d3
              have g7 : ((s.held : Int) == 7) = true := by simp; omega
              have gl : decide ((1048576 : Int) < (LL : Int)) = true := by simp; omega
              have gl' : (1048576 : Int) < (LL : Int) := by omega
              have glN : 1048576 < LL := h67.2
              have glD : decide (1048576 < LL) = true := by simp; omega
              generalize (s.held : Int) = HD at *
              clear h67
              have iw7 : IntKind.i64.wrap ((i : Int) - 7) = (i : Int) - 7 := by rw [IntKind.wrap_i64]; omega
              have CF := fault_any g 6 ((i : Int) - 7) w5 d2 d3
              clear CD CHd hheld h6 k1 k2 hcode
              go_wp2_with fail
              refine CF.mono ?_
              rintro e6 w6 ⟨rfl, b6⟩
              have hB6 : Hid (Below w.heap.size w w6) := hB5.out.trans (b6.mono hB5.out.size)
              clear CF b6
              go_wp2
              go_ret
              exact ⟨rfl, hB6.out⟩
            · have CF := fault_any g _ _ w5 d2 d3
              have hfd := fun W => field_code (.int .i64 (s.step b).code) (.int .i64 (s.step b).fat) W
              have hcb : ((s.step b).code != 0) = true := by simp [hcode]
              clear h6 hheld hdp
              generalize (s.step b).c.op.length = nD at *
              generalize (s.step b).code = cD at *
              generalize (s.step b).fat = fD at *
              by_cases h7 : s.held = 7
              · have gl' : ¬ (1048576 : Int) < (LL : Int) := fun h => h67 ⟨h7, by omega⟩
                have gl : decide ((1048576 : Int) < (LL : Int)) = false := decide_eq_false gl'
                have glN : ¬ 1048576 < LL := by omega
                have glD : decide (1048576 < LL) = false := decide_eq_false glN
                have g7 : ((s.held : Int) == 7) = true := by simp; omega
                clear h67
                generalize (s.held : Int) = HD at *
                clear h7
                go_wp2_with fail
                refine CD.mono ?_
                rintro e6 w6 ⟨rfl, rfl⟩
                go_wp2_with fail
                refine CD.mono ?_
                rintro e7 w7 ⟨rfl, rfl⟩
                clear CD
                go_wp2_with fail
                refine CHd.mono ?_
                rintro e8 w8 ⟨rfl, rfl⟩
                go_wp2_with fail
                refine CHd.mono ?_
                rintro e9 w9 ⟨rfl, rfl⟩
                clear CHd
                go_wp2_with fail
                refine CF.mono ?_
                rintro e10 w10 ⟨rfl, b10⟩
                have hfd := hfd w10
                have hB10 : Hid (Below w.heap.size w w10) := hB5.out.trans (b10.mono hB5.out.size)
                clear CF b10
                go_wp2
                go_ret
                exact ⟨rfl, hB10.out⟩
              · have g7 : ((s.held : Int) == 7) = false := by simp; omega
                clear h67
                generalize (s.held : Int) = HD at *
                clear h7
                go_wp2_with fail
                refine CD.mono ?_
                rintro e6 w6 ⟨rfl, rfl⟩
                go_wp2_with fail
                refine CD.mono ?_
                rintro e7 w7 ⟨rfl, rfl⟩
                clear CD
                go_wp2_with fail
                refine CHd.mono ?_
                rintro e8 w8 ⟨rfl, rfl⟩
                go_wp2_with fail
                refine CHd.mono ?_
                rintro e9 w9 ⟨rfl, rfl⟩
                clear CHd
                go_wp2_with fail
                refine CF.mono ?_
                rintro e10 w10 ⟨rfl, b10⟩
                have hfd := hfd w10
                have hB10 : Hid (Below w.heap.size w w10) := hB5.out.trans (b10.mono hB5.out.size)
                clear CF b10
                go_wp2
                go_ret
                exact ⟨rfl, hB10.out⟩
          · rw [hcode] at d2
            have hn0 : ¬ (((s.step b).c.op.length : Nat) : Int) < 0 := by omega
            have hn1 : ¬ (32 : Int) < (((s.step b).c.op.length : Nat) : Int) := by omega
            have CF := fault_any g 0 _ w5 d2 d3
            have hfd := fun W => field_code (.int .i64 0) (.int .i64 (s.step b).fat) W
            have iwh : IntKind.i64.wrap ((s.held : Int) + 1) = (s.held : Int) + 1 := by rw [IntKind.wrap_i64]; omega
            have HR : Hid (PI (s.step b) ∧ (s.step b).code = 0 ∧ (s.step b).part = false ∧ (s.step b).closed = false ∧ (s.step b).taken = i + 1 ∧ ((s.step b).taken - (s.step b).held) % 8 = 0) := ⟨hPI, hcode, hpart.trans hI.out.2.2.1, hclosed.trans hI.out.2.2.2.1, by rw [htk, hI.out.2.2.2.2.1], by rw [htk]; exact hmod⟩
            rw [HLL.out.1] at h7n hend
            have hcmp : (s.held = 7 ∧ ¬ 1048576 < LL) ∨ s.held ≠ 7 := by
              by_cases h7 : s.held = 7
              · exact Or.inl ⟨h7, h7n h7⟩
              · exact Or.inr h7
            have hLs : 8 ≤ s.held + 1 → LL ≤ 1048576 := fun h8' => by
              rcases hend with ⟨k1, k2, k3⟩ | ⟨k1, k2, k3⟩
              · have := (hPI.l8 (by omega)).1; omega
              · omega
            have hlt : s.held + 1 ≠ 8 + LL + padN LL → 8 ≤ s.held + 1 → (s.step b).held = s.held + 1 → (s.step b).len = LL → s.held + 1 < 8 + LL + padN LL := fun _ h2 h3 h4 => by
              have := (hPI.l8 (by omega)).2.2
              rw [h3, h4] at this
              exact this
            clear hdp h7n hmod hpart hclosed hcode htk hPI
            generalize (s.step b).c.op.length = nD at *
            generalize (s.step b).fat = fD at *
            rcases hend with ⟨k1, k2, k3⟩ | ⟨k1, k2, k3⟩
            · rw [k1] at CHd
              have ck : ((s.held + 1 : Nat) : Int) = (s.held : Int) + 1 := by omega
              rw [ck] at CHd
              have hh0 : ¬ ((s.held : Nat) : Int) + 1 < 0 := by omega
              have hR2 : Hid ((s.step b).held = s.held + 1 ∧ (s.step b).len = LL) := ⟨k1, k2⟩
              by_cases h8b : 8 ≤ s.held + 1
              · have hlt' := hlt k3 h8b k1 k2
                have hLL := hLs h8b
                have g8 : (8 : Int) ≤ (s.held : Int) + 1 := by omega
                have iw8 : IntKind.i64.wrap ((s.held : Int) + 1 - 8) = (s.held : Int) + 1 - 8 := by rw [IntKind.wrap_i64]; omega
                have uw8 : IntKind.u64.wrap ((s.held : Int) + 1 - 8) = (s.held : Int) + 1 - 8 := by show ((s.held : Int) + 1 - 8) % 18446744073709551616 = _; omega
                have ur1 : IntKind.u64.wrap (8 - (LL : Int) % 8) = 8 - (LL : Int) % 8 := by show (8 - (LL : Int) % 8) % 18446744073709551616 = _; omega
                have ur2 : IntKind.u64.wrap ((LL : Int) + (8 - (LL : Int) % 8) % 8) = (LL : Int) + (8 - (LL : Int) % 8) % 8 := by show ((LL : Int) + (8 - (LL : Int) % 8) % 8) % 18446744073709551616 = _; omega
                have hge2 : ¬ (LL : Int) + -((LL : Int) % 8) % 8 ≤ (s.held : Int) + 1 - 8 := by unfold padN at hlt'; omega
                have hged : decide ((LL : Int) + -((LL : Int) % 8) % 8 ≤ (s.held : Int) + 1 - 8) = false := decide_eq_false hge2
                have hck : Hid (((s.held + 1 : Nat) : Int) = (s.held : Int) + 1) := ck
                clear hLs hlt k1 k2 k3 ck h8b hlt'
                rcases hcmp with ⟨h7, hsm⟩ | h7
                · exfalso; omega
                · have g7 : ((s.held : Int) == 7) = false := by simp; omega
                  generalize (s.held : Int) = HD at *
                  go_wp2_with fail
                  refine CD.mono ?_
                  rintro e6 w6 ⟨rfl, rfl⟩
                  go_wp2_with fail
                  refine CD.mono ?_
                  rintro e7 w7 ⟨rfl, rfl⟩
                  clear CD
                  go_wp2_with fail
                  refine CHd.mono ?_
                  rintro e8 w8 ⟨rfl, rfl⟩
                  go_wp2_with fail
                  refine CHd.mono ?_
                  rintro e9 w9 ⟨rfl, rfl⟩
                  clear CHd
                  go_wp2_with fail
                  refine CF.mono ?_
                  rintro e10 w10 ⟨rfl, b10⟩
                  have hfd := hfd w10
                  have hB10 : Hid (Below w.heap.size w w10) := hB5.out.trans (b10.mono hB5.out.size)
                  have hP10 : Hid (PW w10 g (g + 1) (s.step b) fp5 ∧ ∀ x ∈ fp5, w.heap.size ≤ x) := ⟨hP5.out.1.below b10, hP5.out.2⟩
                  clear CF b10
                  have CHd := held_any g _ w10 hP10.out.1.cells.2.1
                  rw [hR2.out.1, hck.out] at CHd
                  go_wp2_with fail
                  refine CHd.mono ?_
                  rintro e11 w11 ⟨rfl, rfl⟩
                  clear CHd
                  go_wp2
                  go_roundg (gk - 1)
                  case measure => have := hgk.out; omega
                  case rel => exact ⟨i + 1, s.step b, fp5, by have := hgk.out; unfold Hid; omega, by go_num, by rw [hR2.out.1, hck.out], by rw [hR2.out.2], hP10, hB10, HR⟩
              · exfalso; omega
            · have CHd' := CHd
              rw [k1] at CHd
              have hR2 : Hid ((s.step b).held = 0 ∧ (s.step b).len = 0) := ⟨k1, k2⟩
              have hLL := hLs (by omega)
              obtain ⟨D, hD⟩ : ∃ D, s.held = D + 7 := ⟨s.held - 7, by omega⟩
              have hDL : D = LL + padN LL := by omega
              have hh1 : ¬ (s.held : Int) + 1 < 0 := by omega
              have g8 : (8 : Int) ≤ (s.held : Int) + 1 := by omega
              have hz8 : ¬ ((0 : Nat) : Int) < 0 := by omega
              have iw8 : IntKind.i64.wrap ((s.held : Int) + 1 - 8) = (s.held : Int) + 1 - 8 := by rw [IntKind.wrap_i64]; omega
              have uw8 : IntKind.u64.wrap ((s.held : Int) + 1 - 8) = (s.held : Int) + 1 - 8 := by show ((s.held : Int) + 1 - 8) % 18446744073709551616 = _; omega
              have ur1 : IntKind.u64.wrap (8 - (LL : Int) % 8) = 8 - (LL : Int) % 8 := by show (8 - (LL : Int) % 8) % 18446744073709551616 = _; omega
              have ur2 : IntKind.u64.wrap ((LL : Int) + (8 - (LL : Int) % 8) % 8) = (LL : Int) + (8 - (LL : Int) % 8) % 8 := by show ((LL : Int) + (8 - (LL : Int) % 8) % 8) % 18446744073709551616 = _; omega
              have hge : (LL : Int) + (8 - (LL : Int) % 8) % 8 ≤ (s.held : Int) + 1 - 8 := by unfold padN at hDL; omega
              have hge2 : (LL : Int) + -((LL : Int) % 8) % 8 ≤ (s.held : Int) + 1 - 8 := by omega
              have hged : decide ((LL : Int) + -((LL : Int) % 8) % 8 ≤ (s.held : Int) + 1 - 8) = true := decide_eq_true hge2
              clear hge
              clear CHd' hLs hlt k1 k2 k3 hDL hD
              rcases hcmp with ⟨h7, hsm⟩ | h7
              · exfalso; omega
              · have g7 : ((s.held : Int) == 7) = false := by simp; omega
                generalize (s.held : Int) = HD at *
                go_wp2_with fail
                refine CD.mono ?_
                rintro e6 w6 ⟨rfl, rfl⟩
                go_wp2_with fail
                refine CD.mono ?_
                rintro e7 w7 ⟨rfl, rfl⟩
                clear CD
                go_wp2_with fail
                refine CHd.mono ?_
                rintro e8 w8 ⟨rfl, rfl⟩
                go_wp2_with fail
                refine CHd.mono ?_
                rintro e9 w9 ⟨rfl, rfl⟩
                clear CHd
                go_wp2_with fail
                refine CF.mono ?_
                rintro e10 w10 ⟨rfl, b10⟩
                have hfd := hfd w10
                have hB10 : Hid (Below w.heap.size w w10) := hB5.out.trans (b10.mono hB5.out.size)
                have hP10 : Hid (PW w10 g (g + 1) (s.step b) fp5 ∧ ∀ x ∈ fp5, w.heap.size ≤ x) := ⟨hP5.out.1.below b10, hP5.out.2⟩
                clear CF b10
                have CHd := held_any g _ w10 hP10.out.1.cells.2.1
                rw [hR2.out.1] at CHd
                go_wp2_with fail
                refine CHd.mono ?_
                rintro e11 w11 ⟨rfl, rfl⟩
                clear CHd
                go_wp2
                go_roundg (gk - 1)
                case measure => have := hgk.out; omega
                case rel => exact ⟨i + 1, s.step b, fp5, by have := hgk.out; unfold Hid; omega, by go_num, by rw [hR2.out.1]; rfl, by rw [hR2.out.2]; rfl, hP10, hB10, HR⟩
    · have hiI : ¬ (i : Int) < (l.length : Int) := by omega
      go_wp2
      go_ret
      exact ⟨rfl, hB.out⟩
end Go.Proofs.Ytpbgmknebhnonab
