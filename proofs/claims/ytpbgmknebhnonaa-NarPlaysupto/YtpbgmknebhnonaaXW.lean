/- NyW NyV NyZ, gathered (own text of the verifier). -/
import Derived.Test.YtpbgmknebhnonaaXY
import Derived.Test.YtpbgmknebhnonaaTqR
import Derived.Deep.LoopGhost
import Derived.Deep.CutRange
import Derived.Deep.QuietTactic
import Derived.BigQuiet
namespace Go.Proofs.Ytpbgmknebhnonaa.Ny
open Go.RowKit Go.Proofs.Ytpbgmknebhnonaa

/-- What the law's own blocks hold behind Close. -/
def QCfalse (w wx : World) (g G D Cs : Nat) (T : Tr) (v : Value) (F1 F2 : Int) (A : List UInt8) (fp : List Nat) : Prop :=
  YL w wx g G (stP false A true) fp (stP false A false) F1 F2 ∧ St wx D [.int .i64 T.k, .bool T.e, .string T.t, v] ∧ St wx (D + 1) [.int .i64 F1, .int .i64 F2] ∧ ∃ fr, TrV wx Cs T v fr ∧ (∀ b ∈ fr, b < D)

set_option maxHeartbeats 16000000 in
set_option maxRecDepth 100000 in
theorem plays_walk_false (x : Option Addr) (n c : Nat) (cl : Nat → Bool) (t : Nat → List UInt8) (w : World) (hX : OpRow w x n cl t) (hn : n ≤ 1048576) (hS : preB t n ≤ 1048576) :
    Calls Try.prog 5 #[.bool false, .slice x n c] w fun e w' => e = .returned (.bool true) ∧ Below w.heap.size w w' := by
  have HX : Hid (OpRow w x n cl t) := hX
  have HPB : Hid (∀ k, k < n → preB t k + (t k).length ≤ 1048576) := fun k hk => by
    have := preB_mono t (k + 1) n (by omega)
    have e : preB t (k + 1) = preB t k + (t k).length := rfl
    omega
  clear hX hS
  go_enter Try.func5, Try.ntmps5
  go_wp2_with fail
  refine (awN w).mono ?_
  rintro e1 w1 ⟨rfl, b1⟩
  have HB1 : Hid (Below w.heap.size w w1) := b1
  clear b1
  have CN := newpart_any w1
  go_wp2_with fail
  refine CN.mono ?_
  rintro e2 w2 ⟨rfl, hw2⟩
  clear CN
  obtain ⟨g, hg⟩ : ∃ g, w1.heap.size = g := ⟨_, rfl⟩
  have P2 : Hid (PW w2 g (g + 1) (stP false [] false) [] ∧ Below w.heap.size w w2 ∧ w.heap.size ≤ g ∧ g < w2.heap.size) := by
    rw [hw2, ← hg]
    exact ⟨PW.new w1 true, HB1.out.alloc HB1.out.size _, HB1.out.size, by rw [World.size_alloc]; omega⟩
  clear hw2 HB1
  rw [hg]
  clear hg
  have RC0 := rread_any [] false w2 (by decide)
  rw [show NB.ba [] = (⟨#[]⟩ : ByteArray) from rfl] at RC0
  go_wp2_with fail
  refine RC0.mono ?_
  rintro e3 w3 ⟨k, e, tt, xx, nn, mm, rfl, B3, r1, r2⟩
  clear RC0
  have HI : Hid (YL w (w3.alloc (.cells (gotC k e tt (.slice xx nn mm) (decide (((PS.new (!false)).run []).c.next = 17)) ((PS.new (!false)).run []).code ((PS.new (!false)).run []).fat (((PS.new (!false)).run []).taken : Int) (((PS.new (!false)).run []).c.op.length : Int) (((PS.new (!false)).run []).held : Int)).toArray 45)) g w3.heap.size (stP false [] false) [] (stP false [] false) (stP false [] false).code (stP false [] false).fat) := by
    obtain ⟨a1, a2, a3, a4⟩ := P2.out
    have hz := B3.size
    refine ⟨(a1.below B3).below ((Below.refl _ _).alloc (Nat.le_refl _) _), ⟨[], ⟨k, e, tt, xx, nn, mm, St.new w3 _ _, fun hn => ?_, fun hn => ?_⟩, fun b hb => by cases hb⟩, by simp, by omega, by rw [World.size_alloc]; omega, (a2.trans (B3.mono a2.size)).alloc (by have := a2.size; omega) _, a3, by have := a2.size; omega⟩
    · exact absurd hn (by decide)
    · obtain ⟨b1, b2, b3, b4, b5, b6⟩ := r2 (by decide)
      exact ⟨b1, b2, b3, b4, b5, b6, rfl⟩
  clear r1 r2 B3 P2
  unfold gotC at HI
  unfold gotV
  go_wp2_with fail
  generalize hw4 : w3.alloc _ = w4
  have HI2 : Hid (YL w w4 g w3.heap.size (stP false [] false) [] (stP false [] false) (stP false [] false).code (stP false [] false).fat) := by rw [← hw4]; exact HI
  clear HI hw4
  obtain ⟨G, hG⟩ : ∃ G, w3.heap.size = G := ⟨_, rfl⟩
  rw [hG] at HI2 ⊢
  clear hG
  go_loopg [6, 7, 28] n (fun gk a b ix wr => ∃ (k : Nat) (A : List UInt8) (sh : Bool) (fp : List Nat), Hid (gk + k = n) ∧ ix = .int .i64 k ∧ a = .string (NB.ba A) ∧ b = .bool sh ∧ Hid (A.length ≤ preB t k) ∧ Hid (YL w wr g G (stP false A sh) fp (stP false A false) (stP false A sh).code (stP false A sh).fat))
  case atStart => exact ⟨0, [], false, [], rfl, rfl, rfl, rfl, Nat.zero_le _, HI2⟩
  case round =>
    obtain ⟨k, A, sh, fp, hgk, rfl, rfl, rfl, hLen, hP⟩ := hrel
    clear HI2
    by_cases hk : k < n
    · obtain ⟨b, o, rfl, hbl, hc0, hc1⟩ := HX.out.cell k hk
      have hbe := hP.out.be
      have x0 : wr.cell? ⟨b, o + k * 2, none⟩ = some (.bool (cl k)) := (World.cell?_of_block (w := w) (a := ⟨b, o + k * 2, none⟩) (hbe.block b hbl)).trans hc0
      have x1 : wr.cell? ⟨b, o + k * 2 + 1, none⟩ = some (.string (NB.ba (t k))) := (World.cell?_of_block (w := w) (a := ⟨b, o + k * 2 + 1, none⟩) (hbe.block b hbl)).trans hc1
      have htk := HPB.out k hk
      have hlA := hLen.out
      have HLEN : Hid (A.length ≤ preB t (k + 1)) := by unfold Hid; have := preB_mono t k (k + 1) (by omega); omega
      have HLEN2 : Hid ((A ++ t k).length ≤ preB t (k + 1)) := by unfold Hid; rw [List.length_append]; show _ ≤ preB t k + (t k).length; omega
      have hA1 : A.length ≤ 1048576 := by omega
      have hAt : A.length + (t k).length ≤ 1048576 := by omega
      clear hc0 hc1 hbe hLen hlA
      have HP5 : Hid (YL w (wr.alloc (.cells #[.bool (cl k), .string (NB.ba (t k))] 48)) g G (stP false A sh) fp (stP false A false) (stP false A sh).code (stP false A sh).fat) := hP.out.alloc _
      have q5 : Hid (St (wr.alloc (.cells #[.bool (cl k), .string (NB.ba (t k))] 48)) wr.heap.size [.bool (cl k), .string (NB.ba (t k))]) := St.new wr _ _
      have HO : Hid (∀ fr, GT (wr.alloc (.cells #[.bool (cl k), .string (NB.ba (t k))] 48)) w.heap.size G (stP false A false) (stP false A sh).code (stP false A sh).fat fr → True) := fun _ _ => trivial
      have hOl : Hid (g < wr.heap.size ∧ G < wr.heap.size ∧ ∀ b ∈ fp, b < wr.heap.size) := ⟨by have := hP.out.par.lt; omega, hP.out.lt, fun b hb => (hP.out.par.lt.2.2 b hb).2⟩
      have hOs : (wr.alloc (.cells #[.bool (cl k), .string (NB.ba (t k))] 48)).heap.size = wr.heap.size + 1 := World.size_alloc _ _
      go_upto_if 33 with fail
      clear x0 x1 hP HO
      obtain ⟨O, hO⟩ : ∃ O, wr.heap.size = O := ⟨_, rfl⟩
      rw [hO] at q5 hOl hOs ⊢
      clear hO
      generalize wr.alloc (.cells #[.bool (cl k), .string (NB.ba (t k))] 48) = w5 at *
      have HS5 : Hid (w5.heap.size = O + 1) := hOs
      clear hOs
      go_cut [6, 7] from 31 to 101 (fun v6 v7 wx => ∃ (A' : List UInt8) (sh' : Bool) (fp' : List Nat), v6 = .string (NB.ba A') ∧ v7 = .bool sh' ∧ Hid (A'.length ≤ preB t (k + 1)) ∧ Hid (YL w wx g G (stP false A' sh') fp' (stP false A' false) (stP false A' sh').code (stP false A' sh').fat))
      case first =>
        cases hck : cl k with
        | true =>
          rw [hck] at q5
          have c0 := q5.out.get 0 _ rfl
          have CC := close_any g (g + 1) (stP false A sh) fp _ HP5.out.par (stP_inv false A sh).2.1
          go_wp2_with fail
          refine CC.mono ?_
          rintro e6 w6 ⟨⟨v6, fr6, rfl, T6, N6⟩, M6⟩
          clear CC
          rw [stP_fin] at M6
          have hs56 : O + 1 ≤ w6.heap.size := by
            obtain ⟨fp6, P6, F6, S6⟩ := M6
            have := F6.size
            have := HS5.out
            omega
          obtain ⟨fp6, HY6⟩ := HP5.out.move M6
          have HP6 : Hid (YL w w6 g G (stP false A true) fp6 (stP false A false) (stP false A sh).code (stP false A sh).fat) := HY6
          have hGO := hOl.2.1
          clear HY6 M6 HP5 q5 c0
          rw [stP_ans]
          obtain ⟨xx6, nn6, cc6, hxv⟩ : ∃ x n c, v6 = .slice x n c := by obtain ⟨x, c, h⟩ := T6.shape; exact ⟨x, _, c, h⟩
          subst hxv
          obtain ⟨T, hT⟩ : ∃ T, (stP false A sh).ansT = T := ⟨_, rfl⟩
          have HT : Hid ((stP false A sh).ansT = T) := hT
          rw [hT] at T6 ⊢
          clear hT N6
          obtain ⟨F1, hF1⟩ : ∃ F, (stP false A true).code = F := ⟨_, rfl⟩
          obtain ⟨F2, hF2⟩ : ∃ F, (stP false A true).fat = F := ⟨_, rfl⟩
          have HF : Hid ((stP false A true).code = F1 ∧ (stP false A true).fat = F2) := ⟨hF1, hF2⟩
          rw [hF1, hF2]
          clear hF1 hF2
          obtain ⟨s7, s8, b7, z7⟩ := two_new w6 T (.slice xx6 nn6 cc6) F1 F2
          obtain ⟨Cs, hCs⟩ : ∃ C, w5.heap.size = C := ⟨_, rfl⟩
          have HCs : Hid (Cs = O + 1) := by unfold Hid; rw [← hCs]; exact HS5.out
          rw [hCs] at T6
          clear hCs
          have hlt6 := TrV.lt _ _ _ T6
          have H7 : Hid (YL w ((w6.alloc (.cells #[.int .i64 T.k, .bool T.e, .string T.t, .slice xx6 nn6 cc6] 25)).alloc (.cells #[.int .i64 F1, .int .i64 F2] 34)) g G (stP false A true) fp6 (stP false A false) (stP false A sh).code (stP false A sh).fat ∧ St ((w6.alloc (.cells #[.int .i64 T.k, .bool T.e, .string T.t, .slice xx6 nn6 cc6] 25)).alloc (.cells #[.int .i64 F1, .int .i64 F2] 34)) w6.heap.size [.int .i64 T.k, .bool T.e, .string T.t, .slice xx6 nn6 cc6] ∧ St ((w6.alloc (.cells #[.int .i64 T.k, .bool T.e, .string T.t, .slice xx6 nn6 cc6] 25)).alloc (.cells #[.int .i64 F1, .int .i64 F2] 34)) (w6.heap.size + 1) [.int .i64 F1, .int .i64 F2] ∧ TrV ((w6.alloc (.cells #[.int .i64 T.k, .bool T.e, .string T.t, .slice xx6 nn6 cc6] 25)).alloc (.cells #[.int .i64 F1, .int .i64 F2] 34)) Cs T (.slice xx6 nn6 cc6) fr6) :=
            ⟨HP6.out.below b7, s7, s8, T6.belowY b7⟩
          have HL6 : Hid (∀ b ∈ fr6, Cs ≤ b ∧ b < w6.heap.size) := hlt6
          clear s7 s8 b7 T6 HP6 hlt6
          go_upto_region 15 with fail
          obtain ⟨D, hD⟩ : ∃ D, w6.heap.size = D := ⟨_, rfl⟩
          have HD : Hid (O + 1 ≤ D) := by rw [← hD]; exact hs56
          rw [hD] at H7 z7 HL6 ⊢
          clear hD hs56
          generalize ((w6.alloc (.cells #[.int .i64 T.k, .bool T.e, .string T.t, .slice xx6 nn6 cc6] 25)).alloc (.cells #[.int .i64 F1, .int .i64 F2] 34)) = w7 at H7 z7 ⊢
          have HZ7 : Hid (w7.heap.size = D + 2) := z7
          clear z7
          obtain ⟨BB, hBB⟩ : ∃ B, (!sh && (!(decide ((stP false A false).c.next = 17)) && ((stP false A sh).code == 0))) = B := ⟨_, rfl⟩
          have HBB : Hid ((!sh && (!(decide ((stP false A false).c.next = 17)) && ((stP false A sh).code == 0))) = BB) := hBB
          clear hBB
          go_cut [50] from 39 to 49 (fun v50 wx => v50 = .bool BB ∧ wx = w7)
          case first =>
            obtain ⟨FRG, ⟨kG, eG, tG, xG, nG, mG, SG, -, -⟩, -⟩ := H7.out.1.got
            have z4 := SG.get 4 _ rfl
            have z5 := SG.get 5 _ rfl
            clear SG
            cases sh with
            | true =>
              clear z4 z5
              go_wp2_with fail
              go_meet
              exact ⟨by rw [← HBB.out]; rfl, rfl⟩
            | false =>
              by_cases hn : (stP false A false).c.next = 17
              · have hnx : decide ((stP false A false).c.next = 17) = true := decide_eq_true hn
                rw [hnx] at z4 HBB
                clear hnx hn z5
                go_wp2_with fail
                go_meet
                exact ⟨by rw [← HBB.out]; rfl, rfl⟩
              · have hnx : decide ((stP false A false).c.next = 17) = false := decide_eq_false hn
                rw [hnx] at z4 HBB
                generalize (stP false A false).code = vc at z5 HBB
                by_cases hcd : vc = 0
                · subst hcd
                  clear hnx hn
                  go_wp2_with fail
                  go_meet
                  exact ⟨by rw [← HBB.out]; rfl, rfl⟩
                · have hcb : (vc == 0) = false := by simpa using hcd
                  rw [hcb] at HBB
                  clear hnx hn hcd
                  go_wp2_with fail
                  go_meet
                  exact ⟨by rw [← HBB.out]; rfl, rfl⟩
          case rest =>
            obtain ⟨rfl, hw7⟩ := hcut
            subst hw7
            go_upto_if 50 with fail
            go_cut [] from 51 to 54 (fun wx => Hid (QCfalse w wx g G D Cs T (.slice xx6 nn6 cc6) F1 F2 A fp6) ∧ Hid (wx.heap.size = D + 2))
            case first =>
              by_cases hc : (!sh && (!(decide ((stP false A false).c.next = 17)) && ((stP false A sh).code == 0))) = true
              · have HB1 : Hid (BB = true) := by rw [← HBB.out]; exact hc
                simp only [Bool.and_eq_true, Bool.not_eq_true', decide_eq_false_iff_not, beq_iff_eq] at hc
                obtain ⟨hsh, hnx, hcd⟩ := hc
                subst hsh
                obtain ⟨FRG, ⟨kG, eG, tG, xG, nG, mG, SG, -, -⟩, -⟩ := H7.out.1.got
                have z5 := SG.get 5 _ rfl
                have z6 := SG.get 6 _ rfl
                have z8 := SG.get 7 _ rfl
                have y5 := SG.fr 5 (by show 5 < 10; decide)
                have y6 := SG.fr 6 (by show 6 < 10; decide)
                have ltG := SG.lt
                clear SG
                obtain ⟨TKN, hTK⟩ : ∃ T, (stP false A false).taken = T := ⟨_, rfl⟩
                have HQ : Hid (QCfalse w ((wc.setCell ⟨G, 5, none⟩ (.int .i64 4)).setCell ⟨G, 6, none⟩ (.int .i64 (TKN : Int))) g G D Cs T (.slice xx6 nn6 cc6) F1 F2 A fp6) := by
                  have e4 : stP false A true = ((stP false A false).sf 4 (stP false A false).taken).shut := fin_a (stP false A false) ⟨hcd, hnx⟩
                  have k1 : (4 : Int) = F1 := by rw [← HF.out.1, e4]; rfl
                  have k2 : (TKN : Int) = F2 := by rw [← HF.out.2, e4, ← hTK]; rfl
                  have h := H7.out.1.turn 4 (TKN : Int)
                  rw [k1, k2] at h
                  have ee : ∀ b, b ≠ G → ((wc.setCell ⟨G, 5, none⟩ (.int .i64 F1)).setCell ⟨G, 6, none⟩ (.int .i64 F2)).heap[b]? = wc.heap[b]? := fun b hb => (Below.heap_setCell _ _ _ b hb).trans (Below.heap_setCell _ _ _ b hb)
                  have hs : wc.heap.size ≤ ((wc.setCell ⟨G, 5, none⟩ (.int .i64 F1)).setCell ⟨G, 6, none⟩ (.int .i64 F2)).heap.size := (((Below.refl 0 wc).setCell (p := ⟨G, 5, none⟩) (Nat.zero_le _) _).setCell (p := ⟨G, 6, none⟩) (Nat.zero_le _) _).size
                  have hDG : D ≠ G := by have := HD.out; omega
                  have hDG1 : D + 1 ≠ G := by have := HD.out; omega
                  rw [k1, k2]
                  exact ⟨h, H7.out.2.1.same hs (ee D hDG), H7.out.2.2.1.same hs (ee (D + 1) hDG1), fr6, TrV.same _ _ _ H7.out.2.2.2 (fun b hb => ee b (fun e => by have := (HL6.out b hb).1; have := HCs.out; omega)), fun b hb => (HL6.out b hb).2⟩
                have HZQ : Hid (((wc.setCell ⟨G, 5, none⟩ (.int .i64 4)).setCell ⟨G, 6, none⟩ (.int .i64 (TKN : Int))).heap.size = D + 2) := by
                  unfold Hid
                  rw [World.size_setCell, World.size_setCell]
                  exact HZ7.out
                rw [hTK] at z8
                have hb := HB1.out
                clear hTK hnx hcd HBB
                subst hb
                go_wp2_with fail
                go_meet
                exact ⟨HQ, HZQ⟩
              · have hb : false = BB := by rw [← HBB.out]; simpa using hc
                have hx : stP false A sh = stP false A true ∨ ((stP false A sh).code = (stP false A true).code ∧ (stP false A sh).fat = (stP false A true).fat) := by
                  cases sh with
                  | true => exact .inl rfl
                  | false =>
                    right
                    have e4 : stP false A true = (stP false A false).shut := fin_b (stP false A false) (fun h => hc (by rw [h.1, decide_eq_false h.2]; rfl))
                    rw [e4]
                    exact ⟨rfl, rfl⟩
                have HQ : Hid (QCfalse w wc g G D Cs T (.slice xx6 nn6 cc6) F1 F2 A fp6) := by
                  have h := H7.out.1
                  have k1 : (stP false A sh).code = F1 := by rw [← HF.out.1]; rcases hx with h | h; rw [h]; exact h.1
                  have k2 : (stP false A sh).fat = F2 := by rw [← HF.out.2]; rcases hx with h | h; rw [h]; exact h.2
                  rw [k1, k2] at h
                  exact ⟨h, H7.out.2.1, H7.out.2.2.1, fr6, H7.out.2.2.2, fun b hb => (HL6.out b hb).2⟩
                clear HBB hc hx
                subst hb
                go_wp2_with fail
                go_meet
                exact ⟨HQ, HZ7⟩
            case rest =>
              obtain ⟨hQ, hZ⟩ := hcut
              clear H7 HZ7 HBB HL6
              obtain ⟨HYq, sD, sD1, frT, TT, hfT⟩ := hQ.out
              have HTT : Hid (∃ M, At wc M (.agg #[.int .i64 T.k, .bool T.e, .string T.t, .slice xx6 nn6 cc6]) T) := by
                have := ans_at (st := false) (sh := sh) (A := A) (w := wc) (v := .slice xx6 nn6 cc6) (fr := frT) (by rw [HT.out]; exact TT)
                rw [HT.out] at this
                exact this
              clear TT hfT hQ
              by_cases h0 : (stP false A true).code = 0
              · obtain ⟨xw, nw, mw, SW, Mw, AW⟩ := HYq.want (sh := sh) h0
                rw [HT.out] at SW AW
                have s0 := SW.get 0 _ rfl
                have s1 := SW.get 1 _ rfl
                have s2 := SW.get 2 _ rfl
                have s3 := SW.get 3 _ rfl
                have s5 := SW.get 5 _ rfl
                have hF1 : F1 = 0 := HF.out.1.symm.trans h0
                have ltG := SW.lt
                clear SW
                subst hF1
                have H8 : Hid (YL w (wc.alloc (.cells #[.int .i64 T.k, .bool T.e, .string T.t, .slice xw nw mw] 25)) g G (stP false A true) fp6 (stP false A false) 0 F2 ∧ Below wc.heap.size wc (wc.alloc (.cells #[.int .i64 T.k, .bool T.e, .string T.t, .slice xw nw mw] 25)) ∧ St (wc.alloc (.cells #[.int .i64 T.k, .bool T.e, .string T.t, .slice xw nw mw] 25)) wc.heap.size [.int .i64 T.k, .bool T.e, .string T.t, .slice xw nw mw]) :=
                  ⟨HYq.alloc _, (Below.refl _ _).alloc (Nat.le_refl _) _, St.new wc _ _⟩
                have HU : Hid (St wc D [.int .i64 T.k, .bool T.e, .string T.t, .slice xx6 nn6 cc6] ∧ St wc (D + 1) [.int .i64 0, .int .i64 F2]) := ⟨sD, sD1⟩
                have HAW : Hid (At wc Mw (.agg #[.int .i64 T.k, .bool T.e, .string T.t, .slice xw nw mw]) T) := AW
                have HD2 : Hid (wc.heap.size = D + 2) := hZ
                clear sD sD1 AW HYq h0 hZ
                go_upto_region 19 with fail
                clear s0 s1 s2 s3 s5
                have b8 := H8.out.2.1
                rw [HD2.out] at H8 ⊢
                generalize wc.alloc (.cells #[.int .i64 T.k, .bool T.e, .string T.t, .slice xw nw mw] 25) = w8 at H8 b8 ⊢
                obtain ⟨M1, AT1⟩ := HTT.out
                have CE := requal_any (max M1 Mw) _ _ T T w8 ((AT1.below b8).upto (Nat.le_max_left _ _)) ((HAW.out.below b8).upto (Nat.le_max_right _ _))
                have U8 := HU.out.1.same b8.size (b8.block _ HU.out.1.lt)
                have V8 := HU.out.2.same b8.size (b8.block _ HU.out.2.lt)
                clear AT1 b8
                have u0 := U8.get 0 _ rfl
                have u1 := U8.get 1 _ rfl
                have u2 := U8.get 2 _ rfl
                have u3 := U8.get 3 _ rfl
                have v0 := V8.get 0 _ rfl
                have v1 := V8.get 1 _ rfl
                obtain ⟨fr8, ⟨k8, e8, t8, x8, n8, m8, S8, -, -⟩, -⟩ := H8.out.1.got
                have s5 := S8.get 5 _ rfl
                have s6 := S8.get 6 _ rfl
                have r0 := H8.out.2.2.get 0 _ rfl
                have r1 := H8.out.2.2.get 1 _ rfl
                have r2 := H8.out.2.2.get 2 _ rfl
                have r3 := H8.out.2.2.get 3 _ rfl
                clear U8 V8 S8
                go_wp2_with fail
                refine CE.mono ?_
                rintro e9 w9 ⟨⟨ra, rfl, hra⟩, b9⟩
                have hrat : ra = true := by simpa using hra
                subst hrat
                clear CE hra
                have H9 : Hid (YL w w9 g G (stP false A true) fp6 (stP false A false) (stP false A true).code (stP false A true).fat) := by
                  rw [HF.out.1, HF.out.2]
                  exact H8.out.1.below b9
                go_wp2_with fail
                go_meet
                exact ⟨A, true, fp6, rfl, rfl, HLEN, H9⟩
              · have hT0 : T = .mk 0 false ⟨#[]⟩ [] [] := by rw [← HT.out]; exact stP_zero false A sh h0
                have hF1 : ¬ F1 = 0 := fun h => h0 (HF.out.1.trans h)
                have hFb : (F1 != 0) = true := by simpa using hF1
                obtain ⟨fr0, ⟨k0, e0, t0, xx0, nn0, mm0, S0, -, -⟩, -⟩ := HYq.got
                have s0 := S0.get 0 _ rfl
                have s1 := S0.get 1 _ rfl
                have s2 := S0.get 2 _ rfl
                have s3 := S0.get 3 _ rfl
                have s5 := S0.get 5 _ rfl
                have ltG := S0.lt
                clear S0
                have HU : Hid (St wc D [.int .i64 T.k, .bool T.e, .string T.t, .slice xx6 nn6 cc6] ∧ St wc (D + 1) [.int .i64 F1, .int .i64 F2]) := ⟨sD, sD1⟩
                have HY8 : Hid (YL w wc g G (stP false A true) fp6 (stP false A false) F1 F2) := HYq
                have HD2 : Hid (wc.heap.size = D + 2) := hZ
                clear sD sD1 HYq h0 hZ
                go_upto_region 21 with fail
                clear s0 s1 s2 s3 s5
                have H8 : Hid (YL w (wc.alloc (.cells #[.int .i64 0, .bool false, .string ⟨#[]⟩, .slice none 0 0] 25)) g G (stP false A true) fp6 (stP false A false) F1 F2 ∧ Below wc.heap.size wc (wc.alloc (.cells #[.int .i64 0, .bool false, .string ⟨#[]⟩, .slice none 0 0] 25)) ∧ St (wc.alloc (.cells #[.int .i64 0, .bool false, .string ⟨#[]⟩, .slice none 0 0] 25)) wc.heap.size [.int .i64 0, .bool false, .string ⟨#[]⟩, .slice none 0 0]) :=
                  ⟨HY8.out.alloc _, (Below.refl _ _).alloc (Nat.le_refl _) _, St.new wc _ _⟩
                have b8 := H8.out.2.1
                rw [HD2.out] at H8 ⊢
                generalize wc.alloc (.cells #[.int .i64 0, .bool false, .string ⟨#[]⟩, .slice none 0 0] 25) = w8 at H8 b8 ⊢
                obtain ⟨M1, AT1⟩ := HTT.out
                have CE := requal_any (max M1 1) _ _ T (.mk 0 false ⟨#[]⟩ [] []) w8 ((AT1.below b8).upto (Nat.le_max_left _ _)) ((at_zero w8).upto (Nat.le_max_right _ _))
                have U8 := HU.out.1.same b8.size (b8.block _ HU.out.1.lt)
                have V8 := HU.out.2.same b8.size (b8.block _ HU.out.2.lt)
                clear AT1 b8
                have u0 := U8.get 0 _ rfl
                have u1 := U8.get 1 _ rfl
                have u2 := U8.get 2 _ rfl
                have u3 := U8.get 3 _ rfl
                have v0 := V8.get 0 _ rfl
                have v1 := V8.get 1 _ rfl
                obtain ⟨fr8, ⟨k8, e8, t8, x8, n8, m8, S8, -, -⟩, -⟩ := H8.out.1.got
                have s5 := S8.get 5 _ rfl
                have s6 := S8.get 6 _ rfl
                have r0 := H8.out.2.2.get 0 _ rfl
                have r1 := H8.out.2.2.get 1 _ rfl
                have r2 := H8.out.2.2.get 2 _ rfl
                have r3 := H8.out.2.2.get 3 _ rfl
                have HT0 : Hid (T = .mk 0 false ⟨#[]⟩ [] []) := hT0
                clear U8 V8 S8 hT0
                go_wp2_with fail
                refine CE.mono ?_
                rintro e9 w9 ⟨⟨ra, rfl, hra⟩, b9⟩
                have hrat : ra = true := hra.2 HT0.out
                subst hrat
                clear CE hra
                have H9 : Hid (YL w w9 g G (stP false A true) fp6 (stP false A false) (stP false A true).code (stP false A true).fat) := by
                  rw [HF.out.1, HF.out.2]
                  exact H8.out.1.below b9
                go_wp2_with fail
                go_meet
                exact ⟨A, true, fp6, rfl, rfl, HLEN, H9⟩
        | false =>
          rw [hck] at q5
          have c0 := q5.out.get 0 _ rfl
          have c1 := q5.out.get 1 _ rfl
          obtain ⟨fr0, ⟨k0, e0, t0, xx0, nn0, mm0, S0, -, -⟩, -⟩ := HP5.out.got
          have s7 : w5.cell? ⟨G, 7, none⟩ = some (.int .i64 ((stP false A false).taken : Int)) := S0.get 7 _ rfl
          clear S0
          obtain ⟨cv, w6, hcv, hBS, b6⟩ := BSl.conv w5 (t k) g fp (by have := hOl.1; have := HS5.out; omega) (fun b hb => by have := hOl.2.2 b hb; have := HS5.out; omega)
          have HP6 : Hid (YL w w6 g G (stP false A sh) fp (stP false A false) (stP false A sh).code (stP false A sh).fat) := HP5.out.below b6
          have Q6 : Hid (St w6 O [.bool false, .string (NB.ba (t k))]) := q5.out.same b6.size (b6.block _ q5.out.lt)
          have FC := feed_any g (g + 1) (stP false A sh) fp (some ⟨w5.heap.size, 0, none⟩) cv (t k) w6 HP6.out.par (stP_inv false A sh).1 hBS (by omega)
          have hTO : ((stP false A false).taken : Int) ≤ 1048576 := by have := (stP_inv false A false).2.2; omega
          clear hBS b6 HP5 q5
          go_wp2_with fail
          refine FC.mono ?_
          rintro e7 w7 ⟨rfl, M7⟩
          clear FC hcv c0 c1 s7
          have hOl2 := hOl.out
          have Q7 : Hid (St w7 O [.bool false, .string (NB.ba (t k))]) := by
            obtain ⟨fp7, P7, F7, S7⟩ := M7
            exact Q6.out.same F7.size (F7.keep _ Q6.out.lt (fun e => by omega) (fun e => by have := hOl2.2.2 _ e; omega))
          have c1 := Q7.out.get 1 _ rfl
          clear hOl2
          cases sh with
          | true =>
            rw [stP_off] at M7 ⊢
            obtain ⟨fp7, HY7⟩ := HP6.out.move M7
            have HY8 : Hid (YL w w7 g G (stP false A true) fp7 (stP false A false) (stP false A true).code (stP false A true).fat) := HY7
            obtain ⟨fr0, ⟨k0, e0, t0, xx0, nn0, mm0, S0, -, -⟩, -⟩ := HY7.got
            have s7 := S0.get 7 _ rfl
            rw [Int.sub_self]
            generalize (stP false A false).taken = TN at s7
            clear S0 HY7 M7 HP6 Q6 Q7
            go_wp2_with fail
            go_meet
            exact ⟨A, true, fp7, rfl, rfl, HLEN, HY8⟩
          | false =>
            rw [stP_feed] at M7 ⊢
            obtain ⟨fp7, HY7⟩ := HP6.out.move M7
            have HM7 : Hid (YL w w7 g G (stP false (A ++ t k) false) fp7 (stP false A false) (stP false A false).code (stP false A false).fat) := HY7
            have hcat : NB.ba A ++ NB.ba (t k) = NB.ba (A ++ t k) := by
              apply ByteArray.ext
              simp [NB.ba]
            have hla : (A ++ t k).length ≤ 1048576 := by rw [List.length_append]; omega
            have RC := rread_any (A ++ t k) false w7 hla
            have hz1 := NB.ba_size A
            have hz2 := NB.ba_size (t k)
            have hno1 : ¬ 9223372036854775807 < (NB.ba A).size + (NB.ba (t k)).size := by omega
            clear hz1 hz2 M7 HY7 HP6 Q6 Q7 hla
            clear hcat
            have hcat : NB.ba A ++ NB.ba (t k) = NB.ba (A ++ t k) := by
              apply ByteArray.ext
              simp [NB.ba]
            go_wp2_with fail
            refine RC.mono ?_
            rintro e8 w8 hR8
            obtain ⟨k8, x8e, t8, xx8, nn8, mm8, rfl, Y8, Y9⟩ := HM7.out.read (A ++ t k) false e8 hR8
            clear RC hR8 HM7 hcat hno1
            unfold set10 at Y9
            have HY9 : Hid (YL w _ g G (stP false (A ++ t k) false) fp7 (stP false (A ++ t k) false) (stP false (A ++ t k) false).code (stP false (A ++ t k) false).fat) := Y9
            obtain ⟨fr8, ⟨k0, e0, t0, xx0, nn0, mm0, S0, -, -⟩, -⟩ := Y8.got
            have s0 := S0.get 0 _ rfl
            have s1 := S0.get 1 _ rfl
            have s2 := S0.get 2 _ rfl
            have s3 := S0.get 3 _ rfl
            have s4 := S0.get 4 _ rfl
            have s5 := S0.get 5 _ rfl
            have s6 := S0.get 6 _ rfl
            have s7 := S0.get 7 _ rfl
            have s8 := S0.get 8 _ rfl
            have s9 := S0.get 9 _ rfl
            have y0 := S0.fr 0 (by show 0 < 10; decide)
            have y1 := S0.fr 1 (by show 1 < 10; decide)
            have y2 := S0.fr 2 (by show 2 < 10; decide)
            have y3 := S0.fr 3 (by show 3 < 10; decide)
            have y4 := S0.fr 4 (by show 4 < 10; decide)
            have y5 := S0.fr 5 (by show 5 < 10; decide)
            have y6 := S0.fr 6 (by show 6 < 10; decide)
            have y7 := S0.fr 7 (by show 7 < 10; decide)
            have y8 := S0.fr 8 (by show 8 < 10; decide)
            have y9 := S0.fr 9 (by show 9 < 10; decide)
            have ltG := S0.lt
            have hTO0 : (0 : Int) ≤ ((stP false A false).taken : Int) := by omega
            have hTN0 : (0 : Int) ≤ ((stP false (A ++ t k) false).taken : Int) := by omega
            have hTN : ((stP false (A ++ t k) false).taken : Int) ≤ 1048576 := by have := (stP_inv false (A ++ t k) false).2.2; rw [List.length_append] at this; omega
            clear S0 Y8 Y9
            unfold gotV
            go_upto_region 28 with fail
            generalize ((((((((((w8.setCell ⟨G, 0, none⟩ (.int .i64 k8)).setCell ⟨G, 1, none⟩ (.bool x8e)).setCell ⟨G, 2, none⟩ (.string t8)).setCell ⟨G, 3, none⟩ (.slice xx8 nn8 mm8)).setCell ⟨G, 4, none⟩ (.bool (decide ((stP false (A ++ t k) false).c.next = 17)))).setCell ⟨G, 5, none⟩ (.int .i64 (stP false (A ++ t k) false).code)).setCell ⟨G, 6, none⟩ (.int .i64 (stP false (A ++ t k) false).fat)).setCell ⟨G, 7, none⟩ (.int .i64 ((stP false (A ++ t k) false).taken : Int))).setCell ⟨G, 8, none⟩ (.int .i64 ((stP false (A ++ t k) false).c.op.length : Int))).setCell ⟨G, 9, none⟩ (.int .i64 ((stP false (A ++ t k) false).held : Int))) = w9 at HY9 ⊢
            clear s0 s1 s2 s3 s4 s5 s6 s7 s8 s9 y0 y1 y2 y3 y4 y5 y6 y7 y8 y9
            obtain ⟨fr9, ⟨k9, e9, t9, xx9, nn9, mm9, S9, -, -⟩, -⟩ := HY9.out.got
            have s7 := S9.get 7 _ rfl
            clear S9
            generalize ((stP false (A ++ t k) false).taken : Int) = TN at s7 hTN0 hTN ⊢
            generalize ((stP false A false).taken : Int) = TO at hTO0 hTO ⊢
            have eqq : ((TN - TO : Int) != TN - TO) = false := by simp
            go_wp2_with fail
            go_meet
            exact ⟨A ++ t k, false, fp7, rfl, rfl, HLEN2, HY9⟩
      case rest =>
        obtain ⟨A', sh', fp', rfl, rfl, hLen', hY⟩ := hcut
        clear q5 HP5 hOl HS5 HLEN HLEN2
        obtain ⟨-, -, d2, d3, -, -, -, -, -⟩ := hY.out.par.cells
        have FC := fault_any g _ _ wc d2 d3
        clear d2 d3
        go_wp2_with fail
        refine FC.mono ?_
        rintro e10 w10 ⟨rfl, b10⟩
        clear FC
        have HY11 : Hid (YL w (w10.alloc (.cells #[.int .i64 (stP false A' sh').code, .int .i64 (stP false A' sh').fat] 34)) g G (stP false A' sh') fp' (stP false A' false) (stP false A' sh').code (stP false A' sh').fat) := (hY.out.below b10).alloc _
        have q11 : Hid (St (w10.alloc (.cells #[.int .i64 (stP false A' sh').code, .int .i64 (stP false A' sh').fat] 34)) w10.heap.size [.int .i64 (stP false A' sh').code, .int .i64 (stP false A' sh').fat]) := St.new w10 _ _
        clear hY b10
        go_upto_region 31 with fail
        generalize w10.alloc (.cells #[.int .i64 (stP false A' sh').code, .int .i64 (stP false A' sh').fat] 34) = w11 at HY11 q11 ⊢
        obtain ⟨F11, hF11⟩ : ∃ F, w10.heap.size = F := ⟨_, rfl⟩
        rw [hF11] at q11 ⊢
        clear hF11
        have hw := stP_whole false A' sh'
        have CT : ∀ q, Calls Try.prog 21 #[.pointer (some ⟨g, 0, none⟩)] (w11.drewN q) fun e w' => e = .returned (.int .i64 (((PS.new (!false)).run A').taken : Int)) ∧ w' = w11.drewN q := fun q => by
          rw [← hw.2.2.2.1]
          exact taken_any g _ _ (HY11.out.drewN q).par.cells.1
        have CH : ∀ q, Calls Try.prog 22 #[.pointer (some ⟨g, 0, none⟩)] (w11.drewN q) fun e w' => e = .returned (.int .i64 (((PS.new (!false)).run A').held : Int)) ∧ w' = w11.drewN q := fun q => by
          rw [← hw.2.2.2.2]
          exact held_any g _ _ (HY11.out.drewN q).par.cells.2.1
        have CD : ∀ q, Calls Try.prog 23 #[.pointer (some ⟨g, 0, none⟩)] (w11.drewN q) fun e w' => e = .returned (.int .i64 (((PS.new (!false)).run A').c.op.length : Int)) ∧ w' = w11.drewN q := fun q => by
          rw [← hw.2.1]
          obtain ⟨-, -, -, -, -, x9, n9, e9⟩ := (HY11.out.drewN q).par.rootCells
          exact depth_any g x9 _ n9 _ e9
        have CW : ∀ q, Calls Try.prog 24 #[.pointer (some ⟨g, 0, none⟩)] (w11.drewN q) fun e w' => e = .returned (.bool (decide (((PS.new (!false)).run A').c.next = 17))) ∧ w' = w11.drewN q := fun q => by
          rw [← hw.1]
          exact whole_any g _ _ (HY11.out.drewN q).par.cells.2.2.2.2.2.2.1
        clear hw
        obtain ⟨fr0, ⟨k0, e0, t0, xx0, nn0, mm0, S0, -, -⟩, -⟩ := HY11.out.got
        have s4 : w11.cell? ⟨G, 4, none⟩ = some (.bool (decide (((PS.new (!false)).run A').c.next = 17))) := S0.get 4 _ rfl
        have s5 := S0.get 5 _ rfl
        have s6 := S0.get 6 _ rfl
        have s7 : w11.cell? ⟨G, 7, none⟩ = some (.int .i64 (((PS.new (!false)).run A').taken : Int)) := S0.get 7 _ rfl
        have s8 : w11.cell? ⟨G, 8, none⟩ = some (.int .i64 (((PS.new (!false)).run A').c.op.length : Int)) := S0.get 8 _ rfl
        have s9 : w11.cell? ⟨G, 9, none⟩ = some (.int .i64 (((PS.new (!false)).run A').held : Int)) := S0.get 9 _ rfl
        have f0 := q11.out.get 0 _ rfl
        have f1 := q11.out.get 1 _ rfl
        clear S0 q11
        have HYE : Hid (∀ q, YL w (w11.drewN q) g G (stP false A' sh') fp' (stP false A' false) (stP false A' sh').code (stP false A' sh').fat) := fun q => HY11.out.drewN q
        clear HY11
        generalize (stP false A' sh').code = vc at s5 f0
        generalize (stP false A' sh').fat = va at s6 f1
        generalize decide (((PS.new (!false)).run A').c.next = 17) = vw at s4 CW
        generalize (((PS.new (!false)).run A').taken : Int) = vt at s7 CT
        generalize (((PS.new (!false)).run A').held : Int) = vh at s9 CH
        generalize (((PS.new (!false)).run A').c.op.length : Int) = vd at s8 CD
        have e1 : (vc != vc) = false := by simp
        have e2 : (va != va) = false := by simp
        have e3 : (vw != vw) = false := by simp
        have e4 : (vt != vt) = false := by simp
        have e5 : (vh != vh) = false := by simp
        have e6 : (vd != vd) = false := by simp
        go_quiet ((first | (go_at_call 21; exact Calls.quiet_of_same (CT _)) | (go_at_call 22; exact Calls.quiet_of_same (CH _)) | (go_at_call 23; exact Calls.quiet_of_same (CD _)) | (go_at_call 24; exact Calls.quiet_of_same (CW _))))
        have HPE := HYE.out nq
        have HPE2 : Hid (YL w (w11.drewN nq) g G (stP false A' sh') fp' (stP false A' false) (stP false A' sh').code (stP false A' sh').fat) := HPE
        clear HPE HYE CT CH CD CW s4 s5 s6 s7 s8 s9 f0 f1 e1 e2 e3 e4 e5 e6
        generalize w11.drewN nq = wE at HPE2 ⊢
        go_wp2
        go_roundg (gk - 1)
        case measure => have := hgk.out; omega
        case rel => exact ⟨k + 1, A', sh', fp', by have := hgk.out; unfold Hid; omega, by go_num, rfl, rfl, hLen', HPE2⟩
    · have hkn : k = n := by have := hgk.out; omega
      have hkI : ¬ ((k : Int) < (n : Int)) := by omega
      go_wp2_with fail
      go_ret
      exact ⟨rfl, hP.out.be⟩

end Go.Proofs.Ytpbgmknebhnonaa.Ny
namespace Go.Proofs.Ytpbgmknebhnonaa.Ny
open Go.RowKit Go.Proofs.Ytpbgmknebhnonaa

/-- What the law's own blocks hold behind Close. -/
def QCtrue (w wx : World) (g G D Cs : Nat) (T : Tr) (v : Value) (F1 F2 : Int) (A : List UInt8) (fp : List Nat) : Prop :=
  YL w wx g G (stP true A true) fp (stP true A false) F1 F2 ∧ St wx D [.int .i64 T.k, .bool T.e, .string T.t, v] ∧ St wx (D + 1) [.int .i64 F1, .int .i64 F2] ∧ ∃ fr, TrV wx Cs T v fr ∧ (∀ b ∈ fr, b < D)

set_option maxHeartbeats 16000000 in
set_option maxRecDepth 100000 in
theorem plays_walk_true (x : Option Addr) (n c : Nat) (cl : Nat → Bool) (t : Nat → List UInt8) (w : World) (hX : OpRow w x n cl t) (hn : n ≤ 1048576) (hS : preB t n ≤ 1048576) :
    Calls Try.prog 5 #[.bool true, .slice x n c] w fun e w' => e = .returned (.bool true) ∧ Below w.heap.size w w' := by
  have HX : Hid (OpRow w x n cl t) := hX
  have HPB : Hid (∀ k, k < n → preB t k + (t k).length ≤ 1048576) := fun k hk => by
    have := preB_mono t (k + 1) n (by omega)
    have e : preB t (k + 1) = preB t k + (t k).length := rfl
    omega
  clear hX hS
  go_enter Try.func5, Try.ntmps5
  go_wp2_with fail
  refine (awN w).mono ?_
  rintro e1 w1 ⟨rfl, b1⟩
  have HB1 : Hid (Below w.heap.size w w1) := b1
  clear b1
  have CN := newpart_any w1
  go_wp2_with fail
  refine CN.mono ?_
  rintro e2 wn ⟨rfl, hwn⟩
  have HBn : Hid (Below w.heap.size w wn) := by rw [hwn]; exact HB1.out.alloc HB1.out.size _
  clear CN hwn
  have CP := newparser_any wn
  go_wp2_with fail
  refine CP.mono ?_
  rintro e2 w2 ⟨rfl, hw2⟩
  clear CP
  obtain ⟨g, hg⟩ : ∃ g, wn.heap.size = g := ⟨_, rfl⟩
  have P2 : Hid (PW w2 g (g + 1) (stP true [] false) [] ∧ Below w.heap.size w w2 ∧ w.heap.size ≤ g ∧ g < w2.heap.size) := by
    rw [hw2, ← hg]
    exact ⟨PW.new wn false, HBn.out.alloc HBn.out.size _, HBn.out.size, by rw [World.size_alloc]; omega⟩
  clear HBn
  clear hw2 HB1
  rw [hg]
  clear hg
  have RC0 := rread_any [] true w2 (by decide)
  rw [show NB.ba [] = (⟨#[]⟩ : ByteArray) from rfl] at RC0
  go_wp2_with fail
  refine RC0.mono ?_
  rintro e3 w3 ⟨k, e, tt, xx, nn, mm, rfl, B3, r1, r2⟩
  clear RC0
  have HI : Hid (YL w (w3.alloc (.cells (gotC k e tt (.slice xx nn mm) (decide (((PS.new (!true)).run []).c.next = 17)) ((PS.new (!true)).run []).code ((PS.new (!true)).run []).fat (((PS.new (!true)).run []).taken : Int) (((PS.new (!true)).run []).c.op.length : Int) (((PS.new (!true)).run []).held : Int)).toArray 45)) g w3.heap.size (stP true [] false) [] (stP true [] false) (stP true [] false).code (stP true [] false).fat) := by
    obtain ⟨a1, a2, a3, a4⟩ := P2.out
    have hz := B3.size
    refine ⟨(a1.below B3).below ((Below.refl _ _).alloc (Nat.le_refl _) _), ⟨[], ⟨k, e, tt, xx, nn, mm, St.new w3 _ _, fun hn => ?_, fun hn => ?_⟩, fun b hb => by cases hb⟩, by simp, by omega, by rw [World.size_alloc]; omega, (a2.trans (B3.mono a2.size)).alloc (by have := a2.size; omega) _, a3, by have := a2.size; omega⟩
    · exact absurd hn (by decide)
    · obtain ⟨b1, b2, b3, b4, b5, b6⟩ := r2 (by decide)
      exact ⟨b1, b2, b3, b4, b5, b6, rfl⟩
  clear r1 r2 B3 P2
  unfold gotC at HI
  unfold gotV
  go_wp2_with fail
  generalize hw4 : w3.alloc _ = w4
  have HI2 : Hid (YL w w4 g w3.heap.size (stP true [] false) [] (stP true [] false) (stP true [] false).code (stP true [] false).fat) := by rw [← hw4]; exact HI
  clear HI hw4
  obtain ⟨G, hG⟩ : ∃ G, w3.heap.size = G := ⟨_, rfl⟩
  rw [hG] at HI2 ⊢
  clear hG
  go_loopg [6, 7, 28] n (fun gk a b ix wr => ∃ (k : Nat) (A : List UInt8) (sh : Bool) (fp : List Nat), Hid (gk + k = n) ∧ ix = .int .i64 k ∧ a = .string (NB.ba A) ∧ b = .bool sh ∧ Hid (A.length ≤ preB t k) ∧ Hid (YL w wr g G (stP true A sh) fp (stP true A false) (stP true A sh).code (stP true A sh).fat))
  case atStart => exact ⟨0, [], false, [], rfl, rfl, rfl, rfl, Nat.zero_le _, HI2⟩
  case round =>
    obtain ⟨k, A, sh, fp, hgk, rfl, rfl, rfl, hLen, hP⟩ := hrel
    clear HI2
    by_cases hk : k < n
    · obtain ⟨b, o, rfl, hbl, hc0, hc1⟩ := HX.out.cell k hk
      have hbe := hP.out.be
      have x0 : wr.cell? ⟨b, o + k * 2, none⟩ = some (.bool (cl k)) := (World.cell?_of_block (w := w) (a := ⟨b, o + k * 2, none⟩) (hbe.block b hbl)).trans hc0
      have x1 : wr.cell? ⟨b, o + k * 2 + 1, none⟩ = some (.string (NB.ba (t k))) := (World.cell?_of_block (w := w) (a := ⟨b, o + k * 2 + 1, none⟩) (hbe.block b hbl)).trans hc1
      have htk := HPB.out k hk
      have hlA := hLen.out
      have HLEN : Hid (A.length ≤ preB t (k + 1)) := by unfold Hid; have := preB_mono t k (k + 1) (by omega); omega
      have HLEN2 : Hid ((A ++ t k).length ≤ preB t (k + 1)) := by unfold Hid; rw [List.length_append]; show _ ≤ preB t k + (t k).length; omega
      have hA1 : A.length ≤ 1048576 := by omega
      have hAt : A.length + (t k).length ≤ 1048576 := by omega
      clear hc0 hc1 hbe hLen hlA
      have HP5 : Hid (YL w (wr.alloc (.cells #[.bool (cl k), .string (NB.ba (t k))] 48)) g G (stP true A sh) fp (stP true A false) (stP true A sh).code (stP true A sh).fat) := hP.out.alloc _
      have q5 : Hid (St (wr.alloc (.cells #[.bool (cl k), .string (NB.ba (t k))] 48)) wr.heap.size [.bool (cl k), .string (NB.ba (t k))]) := St.new wr _ _
      have HO : Hid (∀ fr, GT (wr.alloc (.cells #[.bool (cl k), .string (NB.ba (t k))] 48)) w.heap.size G (stP true A false) (stP true A sh).code (stP true A sh).fat fr → True) := fun _ _ => trivial
      have hOl : Hid (g < wr.heap.size ∧ G < wr.heap.size ∧ ∀ b ∈ fp, b < wr.heap.size) := ⟨by have := hP.out.par.lt; omega, hP.out.lt, fun b hb => (hP.out.par.lt.2.2 b hb).2⟩
      have hOs : (wr.alloc (.cells #[.bool (cl k), .string (NB.ba (t k))] 48)).heap.size = wr.heap.size + 1 := World.size_alloc _ _
      go_upto_if 33 with fail
      clear x0 x1 hP HO
      obtain ⟨O, hO⟩ : ∃ O, wr.heap.size = O := ⟨_, rfl⟩
      rw [hO] at q5 hOl hOs ⊢
      clear hO
      generalize wr.alloc (.cells #[.bool (cl k), .string (NB.ba (t k))] 48) = w5 at *
      have HS5 : Hid (w5.heap.size = O + 1) := hOs
      clear hOs
      go_cut [6, 7] from 31 to 101 (fun v6 v7 wx => ∃ (A' : List UInt8) (sh' : Bool) (fp' : List Nat), v6 = .string (NB.ba A') ∧ v7 = .bool sh' ∧ Hid (A'.length ≤ preB t (k + 1)) ∧ Hid (YL w wx g G (stP true A' sh') fp' (stP true A' false) (stP true A' sh').code (stP true A' sh').fat))
      case first =>
        cases hck : cl k with
        | true =>
          rw [hck] at q5
          have c0 := q5.out.get 0 _ rfl
          have CC := close_any g (g + 1) (stP true A sh) fp _ HP5.out.par (stP_inv true A sh).2.1
          go_wp2_with fail
          refine CC.mono ?_
          rintro e6 w6 ⟨⟨v6, fr6, rfl, T6, N6⟩, M6⟩
          clear CC
          rw [stP_fin] at M6
          have hs56 : O + 1 ≤ w6.heap.size := by
            obtain ⟨fp6, P6, F6, S6⟩ := M6
            have := F6.size
            have := HS5.out
            omega
          obtain ⟨fp6, HY6⟩ := HP5.out.move M6
          have HP6 : Hid (YL w w6 g G (stP true A true) fp6 (stP true A false) (stP true A sh).code (stP true A sh).fat) := HY6
          have hGO := hOl.2.1
          clear HY6 M6 HP5 q5 c0
          rw [stP_ans]
          obtain ⟨xx6, nn6, cc6, hxv⟩ : ∃ x n c, v6 = .slice x n c := by obtain ⟨x, c, h⟩ := T6.shape; exact ⟨x, _, c, h⟩
          subst hxv
          obtain ⟨T, hT⟩ : ∃ T, (stP true A sh).ansT = T := ⟨_, rfl⟩
          have HT : Hid ((stP true A sh).ansT = T) := hT
          rw [hT] at T6 ⊢
          clear hT N6
          obtain ⟨F1, hF1⟩ : ∃ F, (stP true A true).code = F := ⟨_, rfl⟩
          obtain ⟨F2, hF2⟩ : ∃ F, (stP true A true).fat = F := ⟨_, rfl⟩
          have HF : Hid ((stP true A true).code = F1 ∧ (stP true A true).fat = F2) := ⟨hF1, hF2⟩
          rw [hF1, hF2]
          clear hF1 hF2
          obtain ⟨s7, s8, b7, z7⟩ := two_new w6 T (.slice xx6 nn6 cc6) F1 F2
          obtain ⟨Cs, hCs⟩ : ∃ C, w5.heap.size = C := ⟨_, rfl⟩
          have HCs : Hid (Cs = O + 1) := by unfold Hid; rw [← hCs]; exact HS5.out
          rw [hCs] at T6
          clear hCs
          have hlt6 := TrV.lt _ _ _ T6
          have H7 : Hid (YL w ((w6.alloc (.cells #[.int .i64 T.k, .bool T.e, .string T.t, .slice xx6 nn6 cc6] 25)).alloc (.cells #[.int .i64 F1, .int .i64 F2] 34)) g G (stP true A true) fp6 (stP true A false) (stP true A sh).code (stP true A sh).fat ∧ St ((w6.alloc (.cells #[.int .i64 T.k, .bool T.e, .string T.t, .slice xx6 nn6 cc6] 25)).alloc (.cells #[.int .i64 F1, .int .i64 F2] 34)) w6.heap.size [.int .i64 T.k, .bool T.e, .string T.t, .slice xx6 nn6 cc6] ∧ St ((w6.alloc (.cells #[.int .i64 T.k, .bool T.e, .string T.t, .slice xx6 nn6 cc6] 25)).alloc (.cells #[.int .i64 F1, .int .i64 F2] 34)) (w6.heap.size + 1) [.int .i64 F1, .int .i64 F2] ∧ TrV ((w6.alloc (.cells #[.int .i64 T.k, .bool T.e, .string T.t, .slice xx6 nn6 cc6] 25)).alloc (.cells #[.int .i64 F1, .int .i64 F2] 34)) Cs T (.slice xx6 nn6 cc6) fr6) :=
            ⟨HP6.out.below b7, s7, s8, T6.belowY b7⟩
          have HL6 : Hid (∀ b ∈ fr6, Cs ≤ b ∧ b < w6.heap.size) := hlt6
          clear s7 s8 b7 T6 HP6 hlt6
          go_upto_region 15 with fail
          obtain ⟨D, hD⟩ : ∃ D, w6.heap.size = D := ⟨_, rfl⟩
          have HD : Hid (O + 1 ≤ D) := by rw [← hD]; exact hs56
          rw [hD] at H7 z7 HL6 ⊢
          clear hD hs56
          generalize ((w6.alloc (.cells #[.int .i64 T.k, .bool T.e, .string T.t, .slice xx6 nn6 cc6] 25)).alloc (.cells #[.int .i64 F1, .int .i64 F2] 34)) = w7 at H7 z7 ⊢
          have HZ7 : Hid (w7.heap.size = D + 2) := z7
          clear z7
          obtain ⟨BB, hBB⟩ : ∃ B, (!sh && (!(decide ((stP true A false).c.next = 17)) && ((stP true A sh).code == 0))) = B := ⟨_, rfl⟩
          have HBB : Hid ((!sh && (!(decide ((stP true A false).c.next = 17)) && ((stP true A sh).code == 0))) = BB) := hBB
          clear hBB
          go_cut [50] from 39 to 49 (fun v50 wx => v50 = .bool BB ∧ wx = w7)
          case first =>
            obtain ⟨FRG, ⟨kG, eG, tG, xG, nG, mG, SG, -, -⟩, -⟩ := H7.out.1.got
            have z4 := SG.get 4 _ rfl
            have z5 := SG.get 5 _ rfl
            clear SG
            cases sh with
            | true =>
              clear z4 z5
              go_wp2_with fail
              go_meet
              exact ⟨by rw [← HBB.out]; rfl, rfl⟩
            | false =>
              by_cases hn : (stP true A false).c.next = 17
              · have hnx : decide ((stP true A false).c.next = 17) = true := decide_eq_true hn
                rw [hnx] at z4 HBB
                clear hnx hn z5
                go_wp2_with fail
                go_meet
                exact ⟨by rw [← HBB.out]; rfl, rfl⟩
              · have hnx : decide ((stP true A false).c.next = 17) = false := decide_eq_false hn
                rw [hnx] at z4 HBB
                generalize (stP true A false).code = vc at z5 HBB
                by_cases hcd : vc = 0
                · subst hcd
                  clear hnx hn
                  go_wp2_with fail
                  go_meet
                  exact ⟨by rw [← HBB.out]; rfl, rfl⟩
                · have hcb : (vc == 0) = false := by simpa using hcd
                  rw [hcb] at HBB
                  clear hnx hn hcd
                  go_wp2_with fail
                  go_meet
                  exact ⟨by rw [← HBB.out]; rfl, rfl⟩
          case rest =>
            obtain ⟨rfl, hw7⟩ := hcut
            subst hw7
            go_upto_if 50 with fail
            go_cut [] from 51 to 54 (fun wx => Hid (QCtrue w wx g G D Cs T (.slice xx6 nn6 cc6) F1 F2 A fp6) ∧ Hid (wx.heap.size = D + 2))
            case first =>
              by_cases hc : (!sh && (!(decide ((stP true A false).c.next = 17)) && ((stP true A sh).code == 0))) = true
              · have HB1 : Hid (BB = true) := by rw [← HBB.out]; exact hc
                simp only [Bool.and_eq_true, Bool.not_eq_true', decide_eq_false_iff_not, beq_iff_eq] at hc
                obtain ⟨hsh, hnx, hcd⟩ := hc
                subst hsh
                obtain ⟨FRG, ⟨kG, eG, tG, xG, nG, mG, SG, -, -⟩, -⟩ := H7.out.1.got
                have z5 := SG.get 5 _ rfl
                have z6 := SG.get 6 _ rfl
                have z8 := SG.get 7 _ rfl
                have y5 := SG.fr 5 (by show 5 < 10; decide)
                have y6 := SG.fr 6 (by show 6 < 10; decide)
                have ltG := SG.lt
                clear SG
                obtain ⟨TKN, hTK⟩ : ∃ T, (stP true A false).taken = T := ⟨_, rfl⟩
                have HQ : Hid (QCtrue w ((wc.setCell ⟨G, 5, none⟩ (.int .i64 4)).setCell ⟨G, 6, none⟩ (.int .i64 (TKN : Int))) g G D Cs T (.slice xx6 nn6 cc6) F1 F2 A fp6) := by
                  have e4 : stP true A true = ((stP true A false).sf 4 (stP true A false).taken).shut := fin_a (stP true A false) ⟨hcd, hnx⟩
                  have k1 : (4 : Int) = F1 := by rw [← HF.out.1, e4]; rfl
                  have k2 : (TKN : Int) = F2 := by rw [← HF.out.2, e4, ← hTK]; rfl
                  have h := H7.out.1.turn 4 (TKN : Int)
                  rw [k1, k2] at h
                  have ee : ∀ b, b ≠ G → ((wc.setCell ⟨G, 5, none⟩ (.int .i64 F1)).setCell ⟨G, 6, none⟩ (.int .i64 F2)).heap[b]? = wc.heap[b]? := fun b hb => (Below.heap_setCell _ _ _ b hb).trans (Below.heap_setCell _ _ _ b hb)
                  have hs : wc.heap.size ≤ ((wc.setCell ⟨G, 5, none⟩ (.int .i64 F1)).setCell ⟨G, 6, none⟩ (.int .i64 F2)).heap.size := (((Below.refl 0 wc).setCell (p := ⟨G, 5, none⟩) (Nat.zero_le _) _).setCell (p := ⟨G, 6, none⟩) (Nat.zero_le _) _).size
                  have hDG : D ≠ G := by have := HD.out; omega
                  have hDG1 : D + 1 ≠ G := by have := HD.out; omega
                  rw [k1, k2]
                  exact ⟨h, H7.out.2.1.same hs (ee D hDG), H7.out.2.2.1.same hs (ee (D + 1) hDG1), fr6, TrV.same _ _ _ H7.out.2.2.2 (fun b hb => ee b (fun e => by have := (HL6.out b hb).1; have := HCs.out; omega)), fun b hb => (HL6.out b hb).2⟩
                have HZQ : Hid (((wc.setCell ⟨G, 5, none⟩ (.int .i64 4)).setCell ⟨G, 6, none⟩ (.int .i64 (TKN : Int))).heap.size = D + 2) := by
                  unfold Hid
                  rw [World.size_setCell, World.size_setCell]
                  exact HZ7.out
                rw [hTK] at z8
                have hb := HB1.out
                clear hTK hnx hcd HBB
                subst hb
                go_wp2_with fail
                go_meet
                exact ⟨HQ, HZQ⟩
              · have hb : false = BB := by rw [← HBB.out]; simpa using hc
                have hx : stP true A sh = stP true A true ∨ ((stP true A sh).code = (stP true A true).code ∧ (stP true A sh).fat = (stP true A true).fat) := by
                  cases sh with
                  | true => exact .inl rfl
                  | false =>
                    right
                    have e4 : stP true A true = (stP true A false).shut := fin_b (stP true A false) (fun h => hc (by rw [h.1, decide_eq_false h.2]; rfl))
                    rw [e4]
                    exact ⟨rfl, rfl⟩
                have HQ : Hid (QCtrue w wc g G D Cs T (.slice xx6 nn6 cc6) F1 F2 A fp6) := by
                  have h := H7.out.1
                  have k1 : (stP true A sh).code = F1 := by rw [← HF.out.1]; rcases hx with h | h; rw [h]; exact h.1
                  have k2 : (stP true A sh).fat = F2 := by rw [← HF.out.2]; rcases hx with h | h; rw [h]; exact h.2
                  rw [k1, k2] at h
                  exact ⟨h, H7.out.2.1, H7.out.2.2.1, fr6, H7.out.2.2.2, fun b hb => (HL6.out b hb).2⟩
                clear HBB hc hx
                subst hb
                go_wp2_with fail
                go_meet
                exact ⟨HQ, HZ7⟩
            case rest =>
              obtain ⟨hQ, hZ⟩ := hcut
              clear H7 HZ7 HBB HL6
              obtain ⟨HYq, sD, sD1, frT, TT, hfT⟩ := hQ.out
              have HTT : Hid (∃ M, At wc M (.agg #[.int .i64 T.k, .bool T.e, .string T.t, .slice xx6 nn6 cc6]) T) := by
                have := ans_at (st := true) (sh := sh) (A := A) (w := wc) (v := .slice xx6 nn6 cc6) (fr := frT) (by rw [HT.out]; exact TT)
                rw [HT.out] at this
                exact this
              clear TT hfT hQ
              by_cases h0 : (stP true A true).code = 0
              · obtain ⟨xw, nw, mw, SW, Mw, AW⟩ := HYq.want (sh := sh) h0
                rw [HT.out] at SW AW
                have s0 := SW.get 0 _ rfl
                have s1 := SW.get 1 _ rfl
                have s2 := SW.get 2 _ rfl
                have s3 := SW.get 3 _ rfl
                have s5 := SW.get 5 _ rfl
                have hF1 : F1 = 0 := HF.out.1.symm.trans h0
                have ltG := SW.lt
                clear SW
                subst hF1
                have H8 : Hid (YL w (wc.alloc (.cells #[.int .i64 T.k, .bool T.e, .string T.t, .slice xw nw mw] 25)) g G (stP true A true) fp6 (stP true A false) 0 F2 ∧ Below wc.heap.size wc (wc.alloc (.cells #[.int .i64 T.k, .bool T.e, .string T.t, .slice xw nw mw] 25)) ∧ St (wc.alloc (.cells #[.int .i64 T.k, .bool T.e, .string T.t, .slice xw nw mw] 25)) wc.heap.size [.int .i64 T.k, .bool T.e, .string T.t, .slice xw nw mw]) :=
                  ⟨HYq.alloc _, (Below.refl _ _).alloc (Nat.le_refl _) _, St.new wc _ _⟩
                have HU : Hid (St wc D [.int .i64 T.k, .bool T.e, .string T.t, .slice xx6 nn6 cc6] ∧ St wc (D + 1) [.int .i64 0, .int .i64 F2]) := ⟨sD, sD1⟩
                have HAW : Hid (At wc Mw (.agg #[.int .i64 T.k, .bool T.e, .string T.t, .slice xw nw mw]) T) := AW
                have HD2 : Hid (wc.heap.size = D + 2) := hZ
                clear sD sD1 AW HYq h0 hZ
                go_upto_region 19 with fail
                clear s0 s1 s2 s3 s5
                have b8 := H8.out.2.1
                rw [HD2.out] at H8 ⊢
                generalize wc.alloc (.cells #[.int .i64 T.k, .bool T.e, .string T.t, .slice xw nw mw] 25) = w8 at H8 b8 ⊢
                obtain ⟨M1, AT1⟩ := HTT.out
                have CE := requal_any (max M1 Mw) _ _ T T w8 ((AT1.below b8).upto (Nat.le_max_left _ _)) ((HAW.out.below b8).upto (Nat.le_max_right _ _))
                have U8 := HU.out.1.same b8.size (b8.block _ HU.out.1.lt)
                have V8 := HU.out.2.same b8.size (b8.block _ HU.out.2.lt)
                clear AT1 b8
                have u0 := U8.get 0 _ rfl
                have u1 := U8.get 1 _ rfl
                have u2 := U8.get 2 _ rfl
                have u3 := U8.get 3 _ rfl
                have v0 := V8.get 0 _ rfl
                have v1 := V8.get 1 _ rfl
                obtain ⟨fr8, ⟨k8, e8, t8, x8, n8, m8, S8, -, -⟩, -⟩ := H8.out.1.got
                have s5 := S8.get 5 _ rfl
                have s6 := S8.get 6 _ rfl
                have r0 := H8.out.2.2.get 0 _ rfl
                have r1 := H8.out.2.2.get 1 _ rfl
                have r2 := H8.out.2.2.get 2 _ rfl
                have r3 := H8.out.2.2.get 3 _ rfl
                clear U8 V8 S8
                go_wp2_with fail
                refine CE.mono ?_
                rintro e9 w9 ⟨⟨ra, rfl, hra⟩, b9⟩
                have hrat : ra = true := by simpa using hra
                subst hrat
                clear CE hra
                have H9 : Hid (YL w w9 g G (stP true A true) fp6 (stP true A false) (stP true A true).code (stP true A true).fat) := by
                  rw [HF.out.1, HF.out.2]
                  exact H8.out.1.below b9
                go_wp2_with fail
                go_meet
                exact ⟨A, true, fp6, rfl, rfl, HLEN, H9⟩
              · have hT0 : T = .mk 0 false ⟨#[]⟩ [] [] := by rw [← HT.out]; exact stP_zero true A sh h0
                have hF1 : ¬ F1 = 0 := fun h => h0 (HF.out.1.trans h)
                have hFb : (F1 != 0) = true := by simpa using hF1
                obtain ⟨fr0, ⟨k0, e0, t0, xx0, nn0, mm0, S0, -, -⟩, -⟩ := HYq.got
                have s0 := S0.get 0 _ rfl
                have s1 := S0.get 1 _ rfl
                have s2 := S0.get 2 _ rfl
                have s3 := S0.get 3 _ rfl
                have s5 := S0.get 5 _ rfl
                have ltG := S0.lt
                clear S0
                have HU : Hid (St wc D [.int .i64 T.k, .bool T.e, .string T.t, .slice xx6 nn6 cc6] ∧ St wc (D + 1) [.int .i64 F1, .int .i64 F2]) := ⟨sD, sD1⟩
                have HY8 : Hid (YL w wc g G (stP true A true) fp6 (stP true A false) F1 F2) := HYq
                have HD2 : Hid (wc.heap.size = D + 2) := hZ
                clear sD sD1 HYq h0 hZ
                go_upto_region 21 with fail
                clear s0 s1 s2 s3 s5
                have H8 : Hid (YL w (wc.alloc (.cells #[.int .i64 0, .bool false, .string ⟨#[]⟩, .slice none 0 0] 25)) g G (stP true A true) fp6 (stP true A false) F1 F2 ∧ Below wc.heap.size wc (wc.alloc (.cells #[.int .i64 0, .bool false, .string ⟨#[]⟩, .slice none 0 0] 25)) ∧ St (wc.alloc (.cells #[.int .i64 0, .bool false, .string ⟨#[]⟩, .slice none 0 0] 25)) wc.heap.size [.int .i64 0, .bool false, .string ⟨#[]⟩, .slice none 0 0]) :=
                  ⟨HY8.out.alloc _, (Below.refl _ _).alloc (Nat.le_refl _) _, St.new wc _ _⟩
                have b8 := H8.out.2.1
                rw [HD2.out] at H8 ⊢
                generalize wc.alloc (.cells #[.int .i64 0, .bool false, .string ⟨#[]⟩, .slice none 0 0] 25) = w8 at H8 b8 ⊢
                obtain ⟨M1, AT1⟩ := HTT.out
                have CE := requal_any (max M1 1) _ _ T (.mk 0 false ⟨#[]⟩ [] []) w8 ((AT1.below b8).upto (Nat.le_max_left _ _)) ((at_zero w8).upto (Nat.le_max_right _ _))
                have U8 := HU.out.1.same b8.size (b8.block _ HU.out.1.lt)
                have V8 := HU.out.2.same b8.size (b8.block _ HU.out.2.lt)
                clear AT1 b8
                have u0 := U8.get 0 _ rfl
                have u1 := U8.get 1 _ rfl
                have u2 := U8.get 2 _ rfl
                have u3 := U8.get 3 _ rfl
                have v0 := V8.get 0 _ rfl
                have v1 := V8.get 1 _ rfl
                obtain ⟨fr8, ⟨k8, e8, t8, x8, n8, m8, S8, -, -⟩, -⟩ := H8.out.1.got
                have s5 := S8.get 5 _ rfl
                have s6 := S8.get 6 _ rfl
                have r0 := H8.out.2.2.get 0 _ rfl
                have r1 := H8.out.2.2.get 1 _ rfl
                have r2 := H8.out.2.2.get 2 _ rfl
                have r3 := H8.out.2.2.get 3 _ rfl
                have HT0 : Hid (T = .mk 0 false ⟨#[]⟩ [] []) := hT0
                clear U8 V8 S8 hT0
                go_wp2_with fail
                refine CE.mono ?_
                rintro e9 w9 ⟨⟨ra, rfl, hra⟩, b9⟩
                have hrat : ra = true := hra.2 HT0.out
                subst hrat
                clear CE hra
                have H9 : Hid (YL w w9 g G (stP true A true) fp6 (stP true A false) (stP true A true).code (stP true A true).fat) := by
                  rw [HF.out.1, HF.out.2]
                  exact H8.out.1.below b9
                go_wp2_with fail
                go_meet
                exact ⟨A, true, fp6, rfl, rfl, HLEN, H9⟩
        | false =>
          rw [hck] at q5
          have c0 := q5.out.get 0 _ rfl
          have c1 := q5.out.get 1 _ rfl
          obtain ⟨fr0, ⟨k0, e0, t0, xx0, nn0, mm0, S0, -, -⟩, -⟩ := HP5.out.got
          have s7 : w5.cell? ⟨G, 7, none⟩ = some (.int .i64 ((stP true A false).taken : Int)) := S0.get 7 _ rfl
          clear S0
          obtain ⟨cv, w6, hcv, hBS, b6⟩ := BSl.conv w5 (t k) g fp (by have := hOl.1; have := HS5.out; omega) (fun b hb => by have := hOl.2.2 b hb; have := HS5.out; omega)
          have HP6 : Hid (YL w w6 g G (stP true A sh) fp (stP true A false) (stP true A sh).code (stP true A sh).fat) := HP5.out.below b6
          have Q6 : Hid (St w6 O [.bool false, .string (NB.ba (t k))]) := q5.out.same b6.size (b6.block _ q5.out.lt)
          have FC := feed_any g (g + 1) (stP true A sh) fp (some ⟨w5.heap.size, 0, none⟩) cv (t k) w6 HP6.out.par (stP_inv true A sh).1 hBS (by omega)
          have hTO : ((stP true A false).taken : Int) ≤ 1048576 := by have := (stP_inv true A false).2.2; omega
          clear hBS b6 HP5 q5
          go_wp2_with fail
          refine FC.mono ?_
          rintro e7 w7 ⟨rfl, M7⟩
          clear FC hcv c0 c1 s7
          have hOl2 := hOl.out
          have Q7 : Hid (St w7 O [.bool false, .string (NB.ba (t k))]) := by
            obtain ⟨fp7, P7, F7, S7⟩ := M7
            exact Q6.out.same F7.size (F7.keep _ Q6.out.lt (fun e => by omega) (fun e => by have := hOl2.2.2 _ e; omega))
          have c1 := Q7.out.get 1 _ rfl
          clear hOl2
          cases sh with
          | true =>
            rw [stP_off] at M7 ⊢
            obtain ⟨fp7, HY7⟩ := HP6.out.move M7
            have HY8 : Hid (YL w w7 g G (stP true A true) fp7 (stP true A false) (stP true A true).code (stP true A true).fat) := HY7
            obtain ⟨fr0, ⟨k0, e0, t0, xx0, nn0, mm0, S0, -, -⟩, -⟩ := HY7.got
            have s7 := S0.get 7 _ rfl
            rw [Int.sub_self]
            generalize (stP true A false).taken = TN at s7
            clear S0 HY7 M7 HP6 Q6 Q7
            go_wp2_with fail
            go_meet
            exact ⟨A, true, fp7, rfl, rfl, HLEN, HY8⟩
          | false =>
            rw [stP_feed] at M7 ⊢
            obtain ⟨fp7, HY7⟩ := HP6.out.move M7
            have HM7 : Hid (YL w w7 g G (stP true (A ++ t k) false) fp7 (stP true A false) (stP true A false).code (stP true A false).fat) := HY7
            have hcat : NB.ba A ++ NB.ba (t k) = NB.ba (A ++ t k) := by
              apply ByteArray.ext
              simp [NB.ba]
            have hla : (A ++ t k).length ≤ 1048576 := by rw [List.length_append]; omega
            have RC := rread_any (A ++ t k) true w7 hla
            have hz1 := NB.ba_size A
            have hz2 := NB.ba_size (t k)
            have hno1 : ¬ 9223372036854775807 < (NB.ba A).size + (NB.ba (t k)).size := by omega
            clear hz1 hz2 M7 HY7 HP6 Q6 Q7 hla
            clear hcat
            have hcat : NB.ba A ++ NB.ba (t k) = NB.ba (A ++ t k) := by
              apply ByteArray.ext
              simp [NB.ba]
            go_wp2_with fail
            refine RC.mono ?_
            rintro e8 w8 hR8
            obtain ⟨k8, x8e, t8, xx8, nn8, mm8, rfl, Y8, Y9⟩ := HM7.out.read (A ++ t k) true e8 hR8
            clear RC hR8 HM7 hcat hno1
            unfold set10 at Y9
            have HY9 : Hid (YL w _ g G (stP true (A ++ t k) false) fp7 (stP true (A ++ t k) false) (stP true (A ++ t k) false).code (stP true (A ++ t k) false).fat) := Y9
            obtain ⟨fr8, ⟨k0, e0, t0, xx0, nn0, mm0, S0, -, -⟩, -⟩ := Y8.got
            have s0 := S0.get 0 _ rfl
            have s1 := S0.get 1 _ rfl
            have s2 := S0.get 2 _ rfl
            have s3 := S0.get 3 _ rfl
            have s4 := S0.get 4 _ rfl
            have s5 := S0.get 5 _ rfl
            have s6 := S0.get 6 _ rfl
            have s7 := S0.get 7 _ rfl
            have s8 := S0.get 8 _ rfl
            have s9 := S0.get 9 _ rfl
            have y0 := S0.fr 0 (by show 0 < 10; decide)
            have y1 := S0.fr 1 (by show 1 < 10; decide)
            have y2 := S0.fr 2 (by show 2 < 10; decide)
            have y3 := S0.fr 3 (by show 3 < 10; decide)
            have y4 := S0.fr 4 (by show 4 < 10; decide)
            have y5 := S0.fr 5 (by show 5 < 10; decide)
            have y6 := S0.fr 6 (by show 6 < 10; decide)
            have y7 := S0.fr 7 (by show 7 < 10; decide)
            have y8 := S0.fr 8 (by show 8 < 10; decide)
            have y9 := S0.fr 9 (by show 9 < 10; decide)
            have ltG := S0.lt
            have hTO0 : (0 : Int) ≤ ((stP true A false).taken : Int) := by omega
            have hTN0 : (0 : Int) ≤ ((stP true (A ++ t k) false).taken : Int) := by omega
            have hTN : ((stP true (A ++ t k) false).taken : Int) ≤ 1048576 := by have := (stP_inv true (A ++ t k) false).2.2; rw [List.length_append] at this; omega
            clear S0 Y8 Y9
            unfold gotV
            go_upto_region 28 with fail
            generalize ((((((((((w8.setCell ⟨G, 0, none⟩ (.int .i64 k8)).setCell ⟨G, 1, none⟩ (.bool x8e)).setCell ⟨G, 2, none⟩ (.string t8)).setCell ⟨G, 3, none⟩ (.slice xx8 nn8 mm8)).setCell ⟨G, 4, none⟩ (.bool (decide ((stP true (A ++ t k) false).c.next = 17)))).setCell ⟨G, 5, none⟩ (.int .i64 (stP true (A ++ t k) false).code)).setCell ⟨G, 6, none⟩ (.int .i64 (stP true (A ++ t k) false).fat)).setCell ⟨G, 7, none⟩ (.int .i64 ((stP true (A ++ t k) false).taken : Int))).setCell ⟨G, 8, none⟩ (.int .i64 ((stP true (A ++ t k) false).c.op.length : Int))).setCell ⟨G, 9, none⟩ (.int .i64 ((stP true (A ++ t k) false).held : Int))) = w9 at HY9 ⊢
            clear s0 s1 s2 s3 s4 s5 s6 s7 s8 s9 y0 y1 y2 y3 y4 y5 y6 y7 y8 y9
            obtain ⟨fr9, ⟨k9, e9, t9, xx9, nn9, mm9, S9, -, -⟩, -⟩ := HY9.out.got
            have s7 := S9.get 7 _ rfl
            clear S9
            generalize ((stP true (A ++ t k) false).taken : Int) = TN at s7 hTN0 hTN ⊢
            generalize ((stP true A false).taken : Int) = TO at hTO0 hTO ⊢
            have eqq : ((TN - TO : Int) != TN - TO) = false := by simp
            go_wp2_with fail
            go_meet
            exact ⟨A ++ t k, false, fp7, rfl, rfl, HLEN2, HY9⟩
      case rest =>
        obtain ⟨A', sh', fp', rfl, rfl, hLen', hY⟩ := hcut
        clear q5 HP5 hOl HS5 HLEN HLEN2
        obtain ⟨-, -, d2, d3, -, -, -, -, -⟩ := hY.out.par.cells
        have FC := fault_any g _ _ wc d2 d3
        clear d2 d3
        go_wp2_with fail
        refine FC.mono ?_
        rintro e10 w10 ⟨rfl, b10⟩
        clear FC
        have HY11 : Hid (YL w (w10.alloc (.cells #[.int .i64 (stP true A' sh').code, .int .i64 (stP true A' sh').fat] 34)) g G (stP true A' sh') fp' (stP true A' false) (stP true A' sh').code (stP true A' sh').fat) := (hY.out.below b10).alloc _
        have q11 : Hid (St (w10.alloc (.cells #[.int .i64 (stP true A' sh').code, .int .i64 (stP true A' sh').fat] 34)) w10.heap.size [.int .i64 (stP true A' sh').code, .int .i64 (stP true A' sh').fat]) := St.new w10 _ _
        clear hY b10
        go_upto_region 31 with fail
        generalize w10.alloc (.cells #[.int .i64 (stP true A' sh').code, .int .i64 (stP true A' sh').fat] 34) = w11 at HY11 q11 ⊢
        obtain ⟨F11, hF11⟩ : ∃ F, w10.heap.size = F := ⟨_, rfl⟩
        rw [hF11] at q11 ⊢
        clear hF11
        have hw := stP_whole true A' sh'
        have CT : ∀ q, Calls Try.prog 21 #[.pointer (some ⟨g, 0, none⟩)] (w11.drewN q) fun e w' => e = .returned (.int .i64 (((PS.new (!true)).run A').taken : Int)) ∧ w' = w11.drewN q := fun q => by
          rw [← hw.2.2.2.1]
          exact taken_any g _ _ (HY11.out.drewN q).par.cells.1
        have CH : ∀ q, Calls Try.prog 22 #[.pointer (some ⟨g, 0, none⟩)] (w11.drewN q) fun e w' => e = .returned (.int .i64 (((PS.new (!true)).run A').held : Int)) ∧ w' = w11.drewN q := fun q => by
          rw [← hw.2.2.2.2]
          exact held_any g _ _ (HY11.out.drewN q).par.cells.2.1
        have CD : ∀ q, Calls Try.prog 23 #[.pointer (some ⟨g, 0, none⟩)] (w11.drewN q) fun e w' => e = .returned (.int .i64 (((PS.new (!true)).run A').c.op.length : Int)) ∧ w' = w11.drewN q := fun q => by
          rw [← hw.2.1]
          obtain ⟨-, -, -, -, -, x9, n9, e9⟩ := (HY11.out.drewN q).par.rootCells
          exact depth_any g x9 _ n9 _ e9
        have CW : ∀ q, Calls Try.prog 24 #[.pointer (some ⟨g, 0, none⟩)] (w11.drewN q) fun e w' => e = .returned (.bool (decide (((PS.new (!true)).run A').c.next = 17))) ∧ w' = w11.drewN q := fun q => by
          rw [← hw.1]
          exact whole_any g _ _ (HY11.out.drewN q).par.cells.2.2.2.2.2.2.1
        clear hw
        obtain ⟨fr0, ⟨k0, e0, t0, xx0, nn0, mm0, S0, -, -⟩, -⟩ := HY11.out.got
        have s4 : w11.cell? ⟨G, 4, none⟩ = some (.bool (decide (((PS.new (!true)).run A').c.next = 17))) := S0.get 4 _ rfl
        have s5 := S0.get 5 _ rfl
        have s6 := S0.get 6 _ rfl
        have s7 : w11.cell? ⟨G, 7, none⟩ = some (.int .i64 (((PS.new (!true)).run A').taken : Int)) := S0.get 7 _ rfl
        have s8 : w11.cell? ⟨G, 8, none⟩ = some (.int .i64 (((PS.new (!true)).run A').c.op.length : Int)) := S0.get 8 _ rfl
        have s9 : w11.cell? ⟨G, 9, none⟩ = some (.int .i64 (((PS.new (!true)).run A').held : Int)) := S0.get 9 _ rfl
        have f0 := q11.out.get 0 _ rfl
        have f1 := q11.out.get 1 _ rfl
        clear S0 q11
        have HYE : Hid (∀ q, YL w (w11.drewN q) g G (stP true A' sh') fp' (stP true A' false) (stP true A' sh').code (stP true A' sh').fat) := fun q => HY11.out.drewN q
        clear HY11
        generalize (stP true A' sh').code = vc at s5 f0
        generalize (stP true A' sh').fat = va at s6 f1
        generalize decide (((PS.new (!true)).run A').c.next = 17) = vw at s4 CW
        generalize (((PS.new (!true)).run A').taken : Int) = vt at s7 CT
        generalize (((PS.new (!true)).run A').held : Int) = vh at s9 CH
        generalize (((PS.new (!true)).run A').c.op.length : Int) = vd at s8 CD
        have e1 : (vc != vc) = false := by simp
        have e2 : (va != va) = false := by simp
        have e3 : (vw != vw) = false := by simp
        have e4 : (vt != vt) = false := by simp
        have e5 : (vh != vh) = false := by simp
        have e6 : (vd != vd) = false := by simp
        go_quiet ((first | (go_at_call 21; exact Calls.quiet_of_same (CT _)) | (go_at_call 22; exact Calls.quiet_of_same (CH _)) | (go_at_call 23; exact Calls.quiet_of_same (CD _)) | (go_at_call 24; exact Calls.quiet_of_same (CW _))))
        have HPE := HYE.out nq
        have HPE2 : Hid (YL w (w11.drewN nq) g G (stP true A' sh') fp' (stP true A' false) (stP true A' sh').code (stP true A' sh').fat) := HPE
        clear HPE HYE CT CH CD CW s4 s5 s6 s7 s8 s9 f0 f1 e1 e2 e3 e4 e5 e6
        generalize w11.drewN nq = wE at HPE2 ⊢
        go_wp2
        go_roundg (gk - 1)
        case measure => have := hgk.out; omega
        case rel => exact ⟨k + 1, A', sh', fp', by have := hgk.out; unfold Hid; omega, by go_num, rfl, rfl, hLen', HPE2⟩
    · have hkn : k = n := by have := hgk.out; omega
      have hkI : ¬ ((k : Int) < (n : Int)) := by omega
      go_wp2_with fail
      go_ret
      exact ⟨rfl, hP.out.be⟩

end Go.Proofs.Ytpbgmknebhnonaa.Ny
namespace Go.Proofs.Ytpbgmknebhnonaa.Ny
open Go.RowKit Go.Proofs.Ytpbgmknebhnonaa

theorem plays_final (b : Bool) (r : Value) (L : (Nat → Bool) × (Nat → List UInt8)) (w : World) (h : ∃ z2 n2 c2, r = .slice z2 n2 c2 ∧ OpRow w z2 n2 L.1 L.2 ∧ n2 ≤ 1048576 ∧ preB L.2 n2 ≤ 1048576) :
    Calls Try.prog 5 #[.bool b, r] w fun e w' => e = .returned (.bool true) ∧ Below w.heap.size w w' := by
  obtain ⟨z, n, c, rfl, h1, h2, h3⟩ := h
  cases b
  · exact plays_walk_false z n c L.1 L.2 w h1 h2 h3
  · exact plays_walk_true z n c L.1 L.2 w h1 h2 h3

end Go.Proofs.Ytpbgmknebhnonaa.Ny
