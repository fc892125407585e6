/- The law NarChunks, walked (own text of the verifier). -/
import Derived.Test.YtpbgmknebhnonaaNa7
import Derived.Test.YtpbgmknebhnonaaNsB
namespace Go.Proofs.Ytpbgmknebhnonaa
open Go.RowKit

theorem St.below {w w' : World} {g : Nat} {L : List Value} (h : St w g L) (b : Below w.heap.size w w') : St w' g L := h.same b.size (b.block g h.lt)
theorem St.ff {w w' : World} {g q : Nat} {L : List Value} (h : St w g L) (b : Ff q [] w w') (hq : g ≠ q) : St w' g L := h.same b.size (b.keep g h.lt hq (by simp))
theorem TrV.below {w w' : World} {B : Nat} {T : Tr} {v : Value} {fp : List Nat} (h : TrV w B T v fp) (b : Below w.heap.size w w') : TrV w' B T v fp := TrV.same _ _ _ h (fun x hx => b.block x (TrV.lt _ _ _ h x hx).2)
/-- Two blocks with a node and a fault. -/
theorem two_new (w : World) (T : Tr) (v : Value) (F1 F2 : Int) : St ((w.alloc (.cells #[.int .i64 T.k, .bool T.e, .string T.t, v] 25)).alloc (.cells #[.int .i64 F1, .int .i64 F2] 34)) w.heap.size [.int .i64 T.k, .bool T.e, .string T.t, v] ∧ St ((w.alloc (.cells #[.int .i64 T.k, .bool T.e, .string T.t, v] 25)).alloc (.cells #[.int .i64 F1, .int .i64 F2] 34)) (w.heap.size + 1) [.int .i64 F1, .int .i64 F2] ∧ Below w.heap.size w ((w.alloc (.cells #[.int .i64 T.k, .bool T.e, .string T.t, v] 25)).alloc (.cells #[.int .i64 F1, .int .i64 F2] 34)) ∧ ((w.alloc (.cells #[.int .i64 T.k, .bool T.e, .string T.t, v] 25)).alloc (.cells #[.int .i64 F1, .int .i64 F2] 34)).heap.size = w.heap.size + 2 := by
  refine ⟨(St.new w _ _).same (by simp only [World.size_alloc]; omega) (Below.heap_alloc _ _ _ (by rw [World.size_alloc]; omega)), ?_, ((Below.refl _ _).alloc (Nat.le_refl _) _).alloc (by rw [World.size_alloc]; omega) _, by simp only [World.size_alloc]⟩
  have := St.new (w.alloc (.cells #[.int .i64 T.k, .bool T.e, .string T.t, v] 25)) #[.int .i64 F1, .int .i64 F2] 34
  rw [World.size_alloc] at this
  exact this

set_option maxHeartbeats 16000000 in
set_option maxRecDepth 10000 in
theorem nchunks_walk (b : ByteArray) (y : Option Addr) (ny cy : Nat) (f : Nat → Int) (w : World) (hb : b.size ≤ 1048576) (hny : ny ≤ 1048576) (hy : ISl w y ny f) :
    Calls Try.prog 6 #[.string b, .slice y ny cy] w fun en w' => en = .returned (.bool true) ∧ Below w.heap.size w w' := by
  obtain ⟨l, rfl⟩ : ∃ l, b = NB.ba l := ⟨b.data.toList, (NB.ba_list b).symm⟩
  have hl : l.length ≤ 1048576 := by rw [NB.ba_size] at hb; exact hb
  clear hb
  have HY : Hid (ISl w y ny f) := hy
  have HY0 : Hid (ISl w none 0 (fun _ => 0)) := fun i hi => by omega
  clear hy
  have HLN : Hid (lnT ((PS.new false).run l).c.root) := (run_inv l (PS.new false) (PI.new false) RI.new rfl).2.1.rt
  have HZ : Hid (lnT ((PS.new false).run l).ansT) := by
    unfold Hid PS.ansT
    by_cases hc : ((PS.new false).run l).fin.code ≠ 0
    · rw [if_pos hc, lnT]; exact ⟨by simp, by rw [lnL]; trivial⟩
    · rw [if_neg hc]; exact HLN.out
  have HPR : Hid (prs l = (PS.new false).run l) := prs_run l
  obtain ⟨Q, hQ⟩ : ∃ Q, (PS.new false).run l = Q := ⟨_, rfl⟩
  have HQ : Hid ((PS.new false).run l = Q) := hQ
  rw [hQ] at HZ HPR
  have hQt : Q.fin.taken = Q.taken := by
    unfold PS.fin
    by_cases h : Q.code = 0 ∧ Q.c.next ≠ 17
    · rw [if_pos h]; rfl
    · rw [if_neg h]; rfl
  have HQT : Hid (Q.fin.taken = Q.taken) := hQt
  clear hQt HLN hQ
  go_enter Try.func6, Try.ntmps6
  go_wp2_with fail
  refine (awN w).mono ?_
  rintro e1 w1 ⟨rfl, b1⟩
  have HB1 : Hid (Below w.heap.size w w1) := b1
  clear b1
  have CN := newparser_any w1
  go_wp2_with fail
  refine CN.mono ?_
  rintro e2 w2 ⟨rfl, hw2⟩
  clear CN
  have P2 : Hid (PW w2 w1.heap.size (w1.heap.size + 1) (PS.new false) [] ∧ Below w1.heap.size w1 w2 ∧ w2.heap.size = w1.heap.size + 1) := by
    rw [hw2]
    exact ⟨PW.new w1 false, (Below.refl _ _).alloc (Nat.le_refl _) _, World.size_alloc _ _⟩
  clear hw2
  have CN := newparser_any w2
  rw [P2.out.2.2] at CN
  obtain ⟨g, hg⟩ : ∃ g, w1.heap.size = g := ⟨_, rfl⟩
  have HGW : Hid (w1.heap.size = g) := hg
  rw [hg] at CN P2 ⊢
  clear hg
  go_wp2_with fail
  refine CN.mono ?_
  rintro e3 w3 ⟨rfl, hw3⟩
  clear CN
  have P3 : Hid (PW w3 g (g + 1) (PS.new false) [] ∧ PW w3 (g + 1) (g + 2) (PS.new false) [] ∧ Below w.heap.size w w3 ∧ w.heap.size ≤ g) := by
    have b3 : Below w2.heap.size w2 w3 := by rw [hw3]; exact (Below.refl _ _).alloc (Nat.le_refl _) _
    have h2 := PW.new w2 false
    rw [P2.out.2.2] at h2
    have hz := HB1.out.size
    rw [HGW.out] at hz
    refine ⟨P2.out.1.below b3, by rw [hw3]; exact h2, (HB1.out.trans (P2.out.2.1.mono (by rw [← HGW.out] at hz ⊢; exact hz))).trans (b3.mono (by rw [P2.out.2.2]; omega)), hz⟩
  clear hw3 P2 HB1 HGW
  have CF := fed_any [] w g (g + 1) false l y ny cy f w3 P3.out.2.2.1 P3.out.2.2.2 P3.out.1 (fun x hx => by cases hx) HY.out (by omega) hny
  unfold FdP at CF
  rw [HQ.out] at CF
  obtain ⟨T, hT⟩ : ∃ T, Q.ansT = T := ⟨_, rfl⟩
  have HT : Hid (Q.ansT = T) := hT
  obtain ⟨F, hF⟩ : ∃ F, Q.ansF = F := ⟨_, rfl⟩
  have HF : Hid (Q.ansF = F) := hF
  rw [hT, hF] at CF
  rw [hT] at HZ
  clear hT hF
  obtain ⟨F1, F2⟩ := F
  dsimp only at CF
  go_wp2_with fail
  refine CF.mono ?_
  rintro e4 w4 ⟨⟨v, fr, rfl, hTv, hNv⟩, hbel, hpw, hff⟩
  clear CF
  obtain ⟨xx, nn, cc, hxv⟩ : ∃ x n c, v = .slice x n c := by obtain ⟨x, c, h⟩ := hTv.shape; exact ⟨x, _, c, h⟩
  subst hxv
  obtain ⟨fp4, P4, S4⟩ := hpw
  obtain ⟨s7, s8, b5, z5⟩ := two_new w4 T (.slice xx nn cc) F1 F2
  have hg3 : g + 1 < w3.heap.size := by have := P3.out.2.1.lt; omega
  have H5 : Hid (PW ((w4.alloc (.cells #[.int .i64 T.k, .bool T.e, .string T.t, .slice xx nn cc] 25)).alloc (.cells #[.int .i64 F1, .int .i64 F2] 34)) g (g + 1) Q.fin fp4 ∧ PW ((w4.alloc (.cells #[.int .i64 T.k, .bool T.e, .string T.t, .slice xx nn cc] 25)).alloc (.cells #[.int .i64 F1, .int .i64 F2] 34)) (g + 1) (g + 2) (PS.new false) [] ∧ Below w.heap.size w ((w4.alloc (.cells #[.int .i64 T.k, .bool T.e, .string T.t, .slice xx nn cc] 25)).alloc (.cells #[.int .i64 F1, .int .i64 F2] 34)) ∧ TrV ((w4.alloc (.cells #[.int .i64 T.k, .bool T.e, .string T.t, .slice xx nn cc] 25)).alloc (.cells #[.int .i64 F1, .int .i64 F2] 34)) w3.heap.size T (.slice xx nn cc) fr ∧ St ((w4.alloc (.cells #[.int .i64 T.k, .bool T.e, .string T.t, .slice xx nn cc] 25)).alloc (.cells #[.int .i64 F1, .int .i64 F2] 34)) w4.heap.size [.int .i64 T.k, .bool T.e, .string T.t, .slice xx nn cc] ∧ St ((w4.alloc (.cells #[.int .i64 T.k, .bool T.e, .string T.t, .slice xx nn cc] 25)).alloc (.cells #[.int .i64 F1, .int .i64 F2] 34)) (w4.heap.size + 1) [.int .i64 F1, .int .i64 F2] ∧ g + 1 < w4.heap.size ∧ g + 2 ≤ w3.heap.size ∧ (∀ x ∈ fp4, w3.heap.size ≤ x)) := by
    have hz := hff.size
    refine ⟨P4.below b5, (P3.out.2.1.same hff.size (hff.keep (g + 1) hg3 (by omega) (by simp)) (fun x hx => by cases hx)).below b5, hbel.trans (b5.mono hbel.size), hTv.below b5, s7, s8, by omega, by omega, fun x hx => ?_⟩
    rcases (S4 x hx).2 with h | h
    · cases h
    · exact h
  have HWG : Hid (w.heap.size ≤ g) := P3.out.2.2.2
  clear s7 s8 b5 hTv hNv hbel P4 S4 hff P3
  go_upto_region 7 with fail
  obtain ⟨D, hD⟩ : ∃ D, w4.heap.size = D := ⟨_, rfl⟩
  rw [hD] at H5 z5 ⊢
  clear hD
  generalize ((w4.alloc (.cells #[.int .i64 T.k, .bool T.e, .string T.t, .slice xx nn cc] 25)).alloc (.cells #[.int .i64 F1, .int .i64 F2] 34)) = w5 at *
  have CF := fed_any [] w (g + 1) (g + 2) false l none 0 0 (fun _ => 0) w5 H5.out.2.2.1 (Nat.le_trans HWG.out (Nat.le_succ _)) H5.out.2.1 (fun x hx => by cases hx) HY0.out (by omega) (by omega)
  unfold FdP at CF
  rw [HQ.out, HT.out, HF.out] at CF
  dsimp only at CF
  go_wp2_with fail
  refine CF.mono ?_
  rintro e6 w6 ⟨⟨v, fr6, rfl, hTv, hNv⟩, hbel, hpw, hff⟩
  clear CF
  obtain ⟨x6, n6, c6, hxv⟩ : ∃ x n c, v = .slice x n c := by obtain ⟨x, c, h⟩ := hTv.shape; exact ⟨x, _, c, h⟩
  subst hxv
  obtain ⟨s10, s11, b7, z7⟩ := two_new w6 T (.slice x6 n6 c6) F1 F2
  have H7 : Hid (PW ((w6.alloc (.cells #[.int .i64 T.k, .bool T.e, .string T.t, .slice x6 n6 c6] 25)).alloc (.cells #[.int .i64 F1, .int .i64 F2] 34)) g (g + 1) Q.fin fp4 ∧ Below w.heap.size w ((w6.alloc (.cells #[.int .i64 T.k, .bool T.e, .string T.t, .slice x6 n6 c6] 25)).alloc (.cells #[.int .i64 F1, .int .i64 F2] 34)) ∧ TrV ((w6.alloc (.cells #[.int .i64 T.k, .bool T.e, .string T.t, .slice x6 n6 c6] 25)).alloc (.cells #[.int .i64 F1, .int .i64 F2] 34)) w3.heap.size T (.slice xx nn cc) fr ∧ St ((w6.alloc (.cells #[.int .i64 T.k, .bool T.e, .string T.t, .slice x6 n6 c6] 25)).alloc (.cells #[.int .i64 F1, .int .i64 F2] 34)) D [.int .i64 T.k, .bool T.e, .string T.t, .slice xx nn cc] ∧ St ((w6.alloc (.cells #[.int .i64 T.k, .bool T.e, .string T.t, .slice x6 n6 c6] 25)).alloc (.cells #[.int .i64 F1, .int .i64 F2] 34)) (D + 1) [.int .i64 F1, .int .i64 F2] ∧ TrV ((w6.alloc (.cells #[.int .i64 T.k, .bool T.e, .string T.t, .slice x6 n6 c6] 25)).alloc (.cells #[.int .i64 F1, .int .i64 F2] 34)) w5.heap.size T (.slice x6 n6 c6) fr6 ∧ St ((w6.alloc (.cells #[.int .i64 T.k, .bool T.e, .string T.t, .slice x6 n6 c6] 25)).alloc (.cells #[.int .i64 F1, .int .i64 F2] 34)) w6.heap.size [.int .i64 T.k, .bool T.e, .string T.t, .slice x6 n6 c6] ∧ St ((w6.alloc (.cells #[.int .i64 T.k, .bool T.e, .string T.t, .slice x6 n6 c6] 25)).alloc (.cells #[.int .i64 F1, .int .i64 F2] 34)) (w6.heap.size + 1) [.int .i64 F1, .int .i64 F2] ∧ D + 1 < w6.heap.size ∧ g < w6.heap.size) := by
    have hz := hff.size
    have hd : D + 1 ≠ g + 1 := by have := H5.out.2.2.2.2.2.2.1; omega
    have hd0 : D ≠ g + 1 := by have := H5.out.2.2.2.2.2.2.1; omega
    have hk : ∀ x, x < w5.heap.size → x ≠ g + 1 → w6.heap[x]? = w5.heap[x]? := fun x hx hn => hff.keep x hx hn (by simp)
    have hl2 := H5.out.1.lt
    have h3 := H5.out.2.2.2.2.2.2.2.1
    refine ⟨(H5.out.1.same hff.size (hk g (by omega) (by omega)) (fun x hx => hk x (hl2.2.2 x hx).2 (by have := H5.out.2.2.2.2.2.2.2.2 x hx; omega))).below b7, hbel.trans (b7.mono hbel.size), (TrV.same _ _ _ H5.out.2.2.2.1 (fun x hx => hk x (TrV.lt _ _ _ H5.out.2.2.2.1 x hx).2 (by have := (TrV.lt _ _ _ H5.out.2.2.2.1 x hx).1; omega))).below b7, (H5.out.2.2.2.2.1.ff hff hd0).below b7, (H5.out.2.2.2.2.2.1.ff hff hd).below b7, hTv.below b7, s10, s11, by have := H5.out.2.2.2.2.2.1.lt; omega, by omega⟩
  clear s10 s11 b7 hTv hNv hbel hpw hff H5
  go_upto_region 8 with fail
  obtain ⟨E, hE⟩ : ∃ E, w6.heap.size = E := ⟨_, rfl⟩
  rw [hE] at H7 z7 ⊢
  clear hE
  generalize ((w6.alloc (.cells #[.int .i64 T.k, .bool T.e, .string T.t, .slice x6 n6 c6] 25)).alloc (.cells #[.int .i64 F1, .int .i64 F2] 34)) = w7 at *
  have CP := parse_any l w7 (by omega)
  unfold PaP at CP
  rw [HPR.out, HT.out, HF.out] at CP
  dsimp only at CP
  go_wp2_with fail
  refine CP.mono ?_
  rintro e8 w8 ⟨⟨v, fr8, rfl, hTv, hNv⟩, b8⟩
  clear CP
  obtain ⟨x8, n8, c8, hxv⟩ : ∃ x n c, v = .slice x n c := by obtain ⟨x, c, h⟩ := hTv.shape; exact ⟨x, _, c, h⟩
  subst hxv
  obtain ⟨s13, s14, b9, z9⟩ := two_new w8 T (.slice x8 n8 c8) F1 F2
  have hz8 := b8.size
  have H9 : Hid (PW ((w8.alloc (.cells #[.int .i64 T.k, .bool T.e, .string T.t, .slice x8 n8 c8] 25)).alloc (.cells #[.int .i64 F1, .int .i64 F2] 34)) g (g + 1) Q.fin fp4 ∧ Below w.heap.size w ((w8.alloc (.cells #[.int .i64 T.k, .bool T.e, .string T.t, .slice x8 n8 c8] 25)).alloc (.cells #[.int .i64 F1, .int .i64 F2] 34)) ∧ TrV ((w8.alloc (.cells #[.int .i64 T.k, .bool T.e, .string T.t, .slice x8 n8 c8] 25)).alloc (.cells #[.int .i64 F1, .int .i64 F2] 34)) w3.heap.size T (.slice xx nn cc) fr ∧ St ((w8.alloc (.cells #[.int .i64 T.k, .bool T.e, .string T.t, .slice x8 n8 c8] 25)).alloc (.cells #[.int .i64 F1, .int .i64 F2] 34)) D [.int .i64 T.k, .bool T.e, .string T.t, .slice xx nn cc] ∧ St ((w8.alloc (.cells #[.int .i64 T.k, .bool T.e, .string T.t, .slice x8 n8 c8] 25)).alloc (.cells #[.int .i64 F1, .int .i64 F2] 34)) (D + 1) [.int .i64 F1, .int .i64 F2] ∧ TrV ((w8.alloc (.cells #[.int .i64 T.k, .bool T.e, .string T.t, .slice x8 n8 c8] 25)).alloc (.cells #[.int .i64 F1, .int .i64 F2] 34)) w5.heap.size T (.slice x6 n6 c6) fr6 ∧ St ((w8.alloc (.cells #[.int .i64 T.k, .bool T.e, .string T.t, .slice x8 n8 c8] 25)).alloc (.cells #[.int .i64 F1, .int .i64 F2] 34)) E [.int .i64 T.k, .bool T.e, .string T.t, .slice x6 n6 c6] ∧ St ((w8.alloc (.cells #[.int .i64 T.k, .bool T.e, .string T.t, .slice x8 n8 c8] 25)).alloc (.cells #[.int .i64 F1, .int .i64 F2] 34)) (E + 1) [.int .i64 F1, .int .i64 F2] ∧ TrV ((w8.alloc (.cells #[.int .i64 T.k, .bool T.e, .string T.t, .slice x8 n8 c8] 25)).alloc (.cells #[.int .i64 F1, .int .i64 F2] 34)) w7.heap.size T (.slice x8 n8 c8) fr8 ∧ St ((w8.alloc (.cells #[.int .i64 T.k, .bool T.e, .string T.t, .slice x8 n8 c8] 25)).alloc (.cells #[.int .i64 F1, .int .i64 F2] 34)) w8.heap.size [.int .i64 T.k, .bool T.e, .string T.t, .slice x8 n8 c8] ∧ St ((w8.alloc (.cells #[.int .i64 T.k, .bool T.e, .string T.t, .slice x8 n8 c8] 25)).alloc (.cells #[.int .i64 F1, .int .i64 F2] 34)) (w8.heap.size + 1) [.int .i64 F1, .int .i64 F2]) := by
    have bb : Below w7.heap.size w7 ((w8.alloc (.cells #[.int .i64 T.k, .bool T.e, .string T.t, .slice x8 n8 c8] 25)).alloc (.cells #[.int .i64 F1, .int .i64 F2] 34)) := b8.trans (b9.mono b8.size)
    exact ⟨H7.out.1.below bb, H7.out.2.1.trans (bb.mono H7.out.2.1.size), H7.out.2.2.1.below bb, H7.out.2.2.2.1.below bb, H7.out.2.2.2.2.1.below bb, H7.out.2.2.2.2.2.1.below bb, H7.out.2.2.2.2.2.2.1.below bb, H7.out.2.2.2.2.2.2.2.1.below bb, hTv.below b9, s13, s14⟩
  clear s13 s14 b9 hTv hNv b8 H7
  go_upto_region 9 with fail
  obtain ⟨G, hG⟩ : ∃ G, w8.heap.size = G := ⟨_, rfl⟩
  rw [hG] at H9 z9 ⊢
  clear hG
  generalize ((w8.alloc (.cells #[.int .i64 T.k, .bool T.e, .string T.t, .slice x8 n8 c8] 25)).alloc (.cells #[.int .i64 F1, .int .i64 F2] 34)) = w9 at *
  obtain ⟨m1, A1⟩ := TrV.at T _ fr H9.out.2.2.1 HZ.out
  obtain ⟨m2, A2⟩ := TrV.at T _ fr6 H9.out.2.2.2.2.2.1 HZ.out
  obtain ⟨m3, A3⟩ := TrV.at T _ fr8 H9.out.2.2.2.2.2.2.2.2.1 HZ.out
  have CE1 := requal_any (max m1 m2) _ _ T T w9 (A1.upto (Nat.le_max_left _ _)) (A2.upto (Nat.le_max_right _ _))
  have HC2 : Hid (∀ w', Below w9.heap.size w9 w' → Calls Try.prog 14 #[.agg #[.int .i64 T.k, .bool T.e, .string T.t, .slice x6 n6 c6], .agg #[.int .i64 T.k, .bool T.e, .string T.t, .slice x8 n8 c8]] w' fun e w'' => (∃ r, e = .returned (.bool r) ∧ (r = true ↔ T = T)) ∧ Below w'.heap.size w' w'') := fun w' bw => requal_any (max m2 m3) _ _ T T w' ((A2.below bw).upto (Nat.le_max_left _ _)) ((A3.below bw).upto (Nat.le_max_right _ _))
  have CT := taken_any g (Q.taken : Int) w9 (by have := H9.out.1.cells.1; rw [HQT.out] at this; exact this)
  have p0 := H9.out.2.2.2.1.get 0 _ rfl
  have p1 := H9.out.2.2.2.1.get 1 _ rfl
  have p2 := H9.out.2.2.2.1.get 2 _ rfl
  have p3 := H9.out.2.2.2.1.get 3 _ rfl
  have q0 := H9.out.2.2.2.2.1.get 0 _ rfl
  have q1 := H9.out.2.2.2.2.1.get 1 _ rfl
  have r0 := H9.out.2.2.2.2.2.2.1.get 0 _ rfl
  have r1 := H9.out.2.2.2.2.2.2.1.get 1 _ rfl
  have r2 := H9.out.2.2.2.2.2.2.1.get 2 _ rfl
  have r3 := H9.out.2.2.2.2.2.2.1.get 3 _ rfl
  have t0 := H9.out.2.2.2.2.2.2.2.1.get 0 _ rfl
  have t1 := H9.out.2.2.2.2.2.2.2.1.get 1 _ rfl
  have u0 := H9.out.2.2.2.2.2.2.2.2.2.1.get 0 _ rfl
  have u1 := H9.out.2.2.2.2.2.2.2.2.2.1.get 1 _ rfl
  have u2 := H9.out.2.2.2.2.2.2.2.2.2.1.get 2 _ rfl
  have u3 := H9.out.2.2.2.2.2.2.2.2.2.1.get 3 _ rfl
  have v0 := H9.out.2.2.2.2.2.2.2.2.2.2.get 0 _ rfl
  have v1 := H9.out.2.2.2.2.2.2.2.2.2.2.get 1 _ rfl
  clear A1 A2 A3
  go_wp2_with fail
  refine CT.mono ?_
  rintro e10 w10 ⟨rfl, rfl⟩
  clear CT
  go_wp2_with fail
  refine CE1.mono ?_
  rintro e11 w11 ⟨⟨ra, rfl, hra⟩, b11⟩
  have hrat : ra = true := by simpa using hra
  subst hrat
  have CE2 := HC2.out w11 b11
  have r0 := (b11.cell (p := ⟨E, 0, none⟩) H9.out.2.2.2.2.2.2.1.lt).trans r0
  have r1 := (b11.cell (p := ⟨E, 1, none⟩) H9.out.2.2.2.2.2.2.1.lt).trans r1
  have r2 := (b11.cell (p := ⟨E, 2, none⟩) H9.out.2.2.2.2.2.2.1.lt).trans r2
  have r3 := (b11.cell (p := ⟨E, 3, none⟩) H9.out.2.2.2.2.2.2.1.lt).trans r3
  have u0 := (b11.cell (p := ⟨G, 0, none⟩) H9.out.2.2.2.2.2.2.2.2.2.1.lt).trans u0
  have u1 := (b11.cell (p := ⟨G, 1, none⟩) H9.out.2.2.2.2.2.2.2.2.2.1.lt).trans u1
  have u2 := (b11.cell (p := ⟨G, 2, none⟩) H9.out.2.2.2.2.2.2.2.2.2.1.lt).trans u2
  have u3 := (b11.cell (p := ⟨G, 3, none⟩) H9.out.2.2.2.2.2.2.2.2.2.1.lt).trans u3
  have HB11 : Hid (Below w.heap.size w w11) := H9.out.2.1.trans (b11.mono H9.out.2.1.size)
  clear b11 hra CE1 HC2
  go_wp2_with fail
  refine CE2.mono ?_
  rintro e12 w12 ⟨⟨rb, rfl, hrb⟩, b12⟩
  have hrbt : rb = true := by simpa using hrb
  subst hrbt
  have HB12 : Hid (Below w.heap.size w w12) := HB11.out.trans (b12.mono HB11.out.size)
  clear b12 hrb CE2
  go_wp2
  go_ret
  exact ⟨rfl, HB12.out⟩
open Go.ChangeShapes in
theorem bulk_lits {H : Type} (k : IntKind) (zs : List Int) : Rows.uptoBulkAll (H := H) (lits k zs) = zs.length := by
  induction zs with
  | nil => rfl
  | cons z zs ih =>
    show Rows.uptoBulk (DataW.lit (.int k z)) + Rows.uptoBulkAll (lits k zs) = _
    rw [ih, List.length_cons]
    show 1 + zs.length = _
    omega

open Go.ChangeShapes in
theorem open_isl {H : Type} {enc : TypeId × Value → H} {w : World} {held : Bool} (fuel : Nat) (z : Option Addr) (n c : Nat) (x : DataW H × List MemPlace) (h : DataW.trod enc Try.prog w 0 (fun _ => true) held fuel 62 [.slice z n c] = some x) (hb : Rows.uptoBulk x.1 ≤ 1048576) :
    ∃ f : Nat → Int, ISl w z n f ∧ n ≤ 1048576 := by
  rcases open_ints Try.underlying62 Try.underlying3 (by kernel_rfl) h with ⟨hcs, _⟩ | ⟨a, l, cp, zs, hcs, _, hl, hm, hz, hx, hcell, hwz⟩
  · simp at hcs
    obtain ⟨rfl, rfl, rfl⟩ := hcs
    exact ⟨fun _ => 0, fun k hk => absurd hk (by omega), Nat.zero_le _⟩
  · simp at hcs
    obtain ⟨rfl, rfl, rfl⟩ := hcs
    have hz' : zs.length = c := by simpa using hz
    subst hx
    refine ⟨fun k => zs.getD k 0, fun k hk => ⟨_, rfl, hcell k (by omega)⟩, ?_⟩
    have e1 : Rows.uptoBulk (H := H) (.slice (lits .i64 (zs.take n)) (lits .i64 (zs.drop n))) = Rows.uptoBulkAll (H := H) (lits .i64 (zs.take n)) + Rows.uptoBulkAll (H := H) (lits .i64 (zs.drop n)) + 1 := by simp only [Rows.uptoBulk]
    have hb' : Rows.uptoBulk (H := H) (.slice (lits .i64 (zs.take n)) (lits .i64 (zs.drop n))) ≤ 1048576 := hb
    rw [e1, bulk_lits, bulk_lits, List.length_take, List.length_drop] at hb'
    omega

end Go.Proofs.Ytpbgmknebhnonaa
