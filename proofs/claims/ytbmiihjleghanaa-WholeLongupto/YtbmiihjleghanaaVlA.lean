/- The law WholeLong, walked (own text of the verifier). -/
import Derived.Test.YtbmiihjleghanaaNxAw
namespace Go.Proofs.Ytbmiihjleghanaa
open Go.RowKit

set_option maxHeartbeats 1000000 in
theorem faultL_any (g : Nat) (a b : Int) (w : World) (h2 : w.cell? ⟨g, 2, none⟩ = some (.int .i64 a)) (h3 : w.cell? ⟨g, 3, none⟩ = some (.int .i64 b)) : Calls Try.prog 15 #[.pointer (some ⟨g, 0, none⟩)] w fun e w' => e = .returned (.agg #[.int .i64 a, .int .i64 b]) ∧ Below w.heap.size w w' := by
  have bA : Hid (Below w.heap.size w (w.alloc (.cells #[.int .i64 a, .int .i64 b] 30))) := (Below.refl _ _).alloc (Nat.le_refl _) _
  have sA : Hid (St (w.alloc (.cells #[.int .i64 a, .int .i64 b] 30)) w.heap.size [.int .i64 a, .int .i64 b]) := St.new w _ _
  have hl := World.block_lt_of_cell? _ _ h2
  go_enter Try.func15, Try.ntmps15
  go_wp2
  exact ret_fault rfl rfl sA.out ⟨rfl, bA.out⟩
theorem fwS_mod : ∀ W : List ByteArray, fwS W % 8 = 0
  | [] => rfl
  | s :: W => by
    have := fwS_mod W
    show (8 + s.size + padN s.size + fwS W) % 8 = 0
    unfold padN
    omega
/-- Behind at bytes of an archive, with no word begun. -/
theorem long_at {T : Tr} (hs : smT T) (hw : wfT T) (hc : (ckT T).2 = 0) (k : Nat) (hk : k < (arcT T).length) (h0 : (prs ((arcT T).take k)).held = 0) : (prs ((arcT T).take k)).head ∧ (prs ((arcT T).take k)).c.next ≠ 17 ∧ (prs ((arcT T).take k)).taken = k ∧ k + 8 ≤ 1048576 := by
  obtain ⟨r1, r2, r3⟩ := run_short hs hw hc false k hk
  rw [← prs_run] at r1 r2 r3
  have hR : Rd (prs ((arcT T).take k)) ((arcT T).take k) := by
    have := Rd.run ((arcT T).take k) (PS.new false) [] rfl (PI.new false) (Rd.new false) (by rw [← prs_run]; exact r1)
    rw [← prs_run] at this
    exact this
  obtain ⟨ws, l, P, h1, h2, h3, h4, h5, h6⟩ := hR
  have hl : l = [] := by
    rw [h2] at h0
    exact List.length_eq_zero_iff.1 h0
  subst hl
  have hal : (arcT T).length ≤ 1048576 := by rw [arc_len]; exact (arc_facts hs hw hc).2.2.1
  refine ⟨by rw [h2]; rfl, r2, r3, ?_⟩
  have e1 : k = fwS ws := by
    rw [h2] at r3
    have : P.taken + 0 = k := r3
    rw [frm_len] at h3
    omega
  have m1 := fwS_mod ws
  have m2 := fwS_mod (wMagic :: wdT T)
  rw [← arc_len] at m2
  omega
theorem run_open : ∀ (l : List UInt8) (p : PS), p.closed = false → (p.run l).closed = false
  | [], _, h => h
  | b :: l, p, h => by
    have hst : (p.step b).closed = false := by
      by_cases h0 : (p.take b).1.1 = 0
      · rw [PS.step_ok h0]; exact (p.take_keep b).2.2.1.trans h
      · rw [PS.step_bad h0]; exact (p.take_keep b).2.2.1.trans h
    rw [PS.run_cons]
    split
    · exact h
    split
    · exact hst
    · exact run_open l _ hst
theorem prs_open (l : List UInt8) : (prs l).closed = false := by rw [prs_run]; exact run_open l _ rfl
/-- A length above the most. -/
theorem long_fault {p : PS} (hp : p.head) (hn : p.c.next ≠ 17) (ht : p.taken + 8 ≤ 1048576) (N : Nat) (hN : 1048576 < N) (hN2 : N < 18446744073709551616) (hcl : p.closed = false) : (p.feed (lek N 8)).code = 6 ∧ (p.feed (lek N 8)).fat = p.taken ∧ (p.feed (lek N 8)).taken = p.taken + 7 := by
  have hc0 : p.code = 0 := by rw [hp]; rfl
  have h8 : (lek N 8).length = 8 := lek_len N 8
  have hL : leN ((lek N 8).take 8) = N := by
    rw [List.take_of_length_le (by omega), leN_lek]
    exact Nat.mod_eq_of_lt hN2
  have hS := stp_of (NoFr.long (v := lek N 8) (by omega) (by rw [hL]; exact hN)) hp hn (by omega)
  have e : p.feed (lek N 8) = p.run (lek N 8) := by unfold PS.feed; rw [if_neg (by rw [hcl, hc0]; simp)]
  rw [e]
  exact ⟨hS.cd, by rw [hS.ft (by decide)]; omega, hS.tk⟩
theorem int_list (N : Nat) : strFn 8 (w8 (N : Int)) = NB.ba (lek N 8) := by
  have h : (strFn 8 (w8 (N : Int))).data.toList = lek N 8 := by
    rw [lek_range]
    unfold strFn strOfNums
    simp
  have := NB.ba_list (strFn 8 (w8 (N : Int)))
  rw [h] at this
  exact this.symm
theorem baL_take (a : List UInt8) (k : Nat) : (NB.ba a).extract 0 k = NB.ba (a.take k) := by
  rw [Go.Lib.extract_eq]
  show NB.ba ((a.drop 0).take (k - 0)) = _
  simp

set_option maxHeartbeats 16000000 in
set_option maxRecDepth 200000 in
theorem wlong_walk (m : Nat) (k : Int) (e : Bool) (t : ByteArray) (x : Option Addr) (n c : Nat) (T : Tr) (at_ len : Int) (w : World) (hA : At w m (.agg #[Value.int IntKind.i64 k, Value.bool e, Value.string t, Value.slice x n c]) T) (hS : smT T) (h0 : 0 ≤ len) (h1 : len < 18446744073709551616) :
    Calls Try.prog 4 #[.agg #[Value.int IntKind.i64 k, Value.bool e, Value.string t, Value.slice x n c], .int .i64 at_, .int .u64 len] w fun en w' => en = .returned (.bool true) ∧ Below w.heap.size w w' := by
  have hW := At.wf _ _ _ hA
  have HH : Hid (At w m (.agg #[Value.int IntKind.i64 k, Value.bool e, Value.string t, Value.slice x n c]) T ∧ smT T ∧ wfT T) := ⟨hA, hS, hW⟩
  clear hA hS hW
  obtain ⟨N, hN⟩ : ∃ N : Nat, len = (N : Int) := ⟨len.toNat, by omega⟩
  subst hN
  have HB : Hid (0 ≤ (N : Int) ∧ (N : Int) < 18446744073709551616) := ⟨h0, h1⟩
  clear h0 h1
  have bA : Below w.heap.size w (w.alloc (Obj.cells #[Value.int IntKind.i64 k, Value.bool e, Value.string t, Value.slice x n c] 26)) := (Below.refl _ _).alloc (Nat.le_refl _) _
  have HG : Hid ((w.alloc (Obj.cells #[Value.int IntKind.i64 k, Value.bool e, Value.string t, Value.slice x n c] 26)).heap[w.heap.size]? = some (.cells #[Value.int IntKind.i64 k, Value.bool e, Value.string t, Value.slice x n c] 26 (0, 0)) ∧ Below w.heap.size w (w.alloc (Obj.cells #[Value.int IntKind.i64 k, Value.bool e, Value.string t, Value.slice x n c] 26))) := ⟨heap_alloc_new _ _, bA⟩
  clear bA
  go_enter Try.func4, Try.ntmps4
  go_upto_region 1 with fail
  obtain ⟨G, hG⟩ : ∃ G, w.heap.size = G := ⟨_, rfl⟩
  have HGe : Hid (w.heap.size = G) := hG
  generalize w.alloc (Obj.cells #[Value.int IntKind.i64 k, Value.bool e, Value.string t, Value.slice x n c] 26) = w1 at *
  rw [hG] at HG ⊢
  clear hG
  have CW := awN w1
  go_wp2_with fail
  refine CW.mono ?_
  rintro e2 w2 ⟨rfl, b2⟩
  have HG2 : Hid (w2.heap[G]? = some (.cells #[Value.int IntKind.i64 k, Value.bool e, Value.string t, Value.slice x n c] 26 (0, 0)) ∧ Below G w w2) := ⟨(b2.block _ (heap_lt HG.out.1)).trans HG.out.1, HG.out.2.trans (b2.mono (Nat.le_of_lt (heap_lt HG.out.1)))⟩
  clear CW b2 HG
  obtain ⟨u0, u1, u2, u3, _⟩ := cell4n HG2.out.1
  have CS := nserial_any m k e t x n c T w2 (HH.out.1.below (by rw [HGe.out]; exact HG2.out.2)) HH.out.2.1 HH.out.2.2
  obtain ⟨R, hR⟩ : ∃ R, serT T = R := ⟨_, rfl⟩
  have HR : Hid (serT T = R) := hR
  rw [hR] at CS
  clear hR
  obtain ⟨X, C⟩ := R
  dsimp only at CS
  go_wp2_with fail
  refine CS.mono ?_
  rintro e3 w3 ⟨rfl, b3⟩
  have HB3 : Hid (Below G w w3) := HG2.out.2.trans (b3.mono (Nat.le_of_lt (heap_lt HG2.out.1)))
  clear CS b3 HG2 u0 u1 u2 u3
  by_cases hc : (ckT T).2 = 0
  · have hser : serT T = (NB.ba (arcT T), 0) := by unfold serT; rw [if_neg (by omega)]
    have e1 : X = NB.ba (arcT T) ∧ C = 0 := by
      have := HR.out.symm.trans hser
      injection this with h1 h2
      exact ⟨h1, h2⟩
    obtain ⟨rfl, rfl⟩ := e1
    have hz1 : (NB.ba (arcT T)).size = (arcT T).length := NB.ba_size _
    have HLA : Hid (∀ k, k < (arcT T).length → (prs ((arcT T).take k)).held = 0 → (prs ((arcT T).take k)).head ∧ (prs ((arcT T).take k)).c.next ≠ 17 ∧ (prs ((arcT T).take k)).taken = k ∧ k + 8 ≤ 1048576) := fun k hk h => long_at HH.out.2.1 HH.out.2.2 hc k hk h
    have HRS : Hid (∀ k, k < (arcT T).length → (prs ((arcT T).take k)).code = 0 ∧ (prs ((arcT T).take k)).taken = k) := fun k hk => by
      have := run_short HH.out.2.1 HH.out.2.2 hc false k hk
      rw [← prs_run] at this
      exact ⟨this.1, this.2.2⟩
    have hal : (arcT T).length ≤ 1048576 := by rw [arc_len]; exact (arc_facts HH.out.2.1 HH.out.2.2 hc).2.2.1
    clear HR hser hc
    generalize arcT T = A at *
    by_cases hN : N ≤ 1048576
    · have hNI : (N : Int) ≤ 1048576 := by omega
      have hNd : decide ((N : Int) ≤ 1048576) = true := by simp; omega
      go_wp2
      go_ret
      exact ⟨rfl, by rw [HGe.out]; exact HB3.out⟩
    · have hNI : ¬ ((N : Int) ≤ 1048576) := by omega
      have hNd : decide ((N : Int) ≤ 1048576) = false := by simp; omega
      have CN := newparser_any w3
      go_wp2_with fail
      refine CN.mono ?_
      rintro e4 w4 ⟨rfl, hw4⟩
      clear CN
      have P4 : Hid (PW w4 w3.heap.size (w3.heap.size + 1) (PS.new false) [] ∧ Below w3.heap.size w3 w4) := by
        rw [hw4]
        exact ⟨PW.new w3 false, (Below.refl _ _).alloc (Nat.le_refl _) _⟩
      clear hw4
      have HG3 : Hid (G ≤ w3.heap.size) := Nat.le_trans (Nat.le_of_eq HGe.out.symm) HB3.out.size
      have HB4 : Hid (Below G w w4) := HB3.out.trans (P4.out.2.mono HG3.out)
      obtain ⟨g, hg⟩ : ∃ g, w3.heap.size = g := ⟨_, rfl⟩
      rw [hg] at P4 HG3 ⊢
      clear hg
      by_cases hat : at_ < 0 ∨ (A.length : Int) ≤ at_
      · by_cases hn : at_ < 0
        · go_wp2
          go_ret
          exact ⟨rfl, by rw [HGe.out]; exact HB4.out⟩
        · have hge : (A.length : Int) ≤ at_ := hat.resolve_left hn
          go_wp2
          go_ret
          exact ⟨rfl, by rw [HGe.out]; exact HB4.out⟩
      · obtain ⟨K, hK⟩ : ∃ K : Nat, at_ = (K : Int) := ⟨at_.toNat, by omega⟩
        subst hK
        have hKl : K < A.length := by omega
        have hn1 : ¬ (K : Int) < 0 := by omega
        have hn2 : ¬ (A.length : Int) ≤ (K : Int) := by omega
        have hKI : (K : Int) ≤ (A.length : Int) := by omega
        have hex := baL_take A K
        have hla : Hid ((prs (A.take K)).held = 0 → (prs (A.take K)).head ∧ (prs (A.take K)).c.next ≠ 17 ∧ (prs (A.take K)).taken = K ∧ K + 8 ≤ 1048576) := HLA.out K hKl
        have hrs : Hid ((prs (A.take K)).code = 0 ∧ (prs (A.take K)).taken = K) := HRS.out K hKl
        have hLl : Hid ((A.take K).length = K) := by rw [Hid, List.length_take, Nat.min_eq_left (by omega)]
        clear HLA HRS
        generalize A.take K = L at *
        obtain ⟨c5, w5, hcv, hX, b5⟩ := BSl.conv w4 (L) g [] (by have := P4.out.1.lt; omega) (fun k hk => by cases hk)
        have CF := feed_any g (g + 1) (PS.new false) [] _ c5 (L) w5 (P4.out.1.below b5) (fun _ => PI.new false) hX (by rw [hLl.out]; omega)
        have hfd : (PS.new false).feed (L) = prs (L) := rfl
        rw [hfd, hrs.out.2, hLl.out] at CF
        rw [hLl.out] at hcv
        have h00 : ((K : Int) - ((PS.new false).taken : Int)) = (K : Int) := by show (K : Int) - ((0 : Nat) : Int) = K; omega
        rw [h00] at CF
        have HB5 : Hid (Below G w w5 ∧ Below w4.heap.size w4 w5) := ⟨HB4.out.trans (b5.mono (by have := P4.out.1.lt; have := HG3.out; omega)), b5⟩
        have hP5 : Hid (g < w4.heap.size) := by have := P4.out.1.lt; exact (by omega : g < w4.heap.size)
        have hgG : Hid (G ≤ g) := HG3.out
        clear hX b5 hat h00
        go_wp2_with fail
        refine CF.mono ?_
        rintro e6 w6 ⟨rfl, fp6, P6, F6, S6⟩
        clear CF hcv hex
        have HP6 : Hid (PW w6 g (g + 1) (prs L) fp6) := P6
        have HF6 : Hid (∀ b ∈ fp6, w5.heap.size ≤ b) := fun b hb => by
          rcases S6 b hb with h | h
          · cases h
          · exact h
        have b6 : Below g w5 w6 := F6.below (by have := hP5.out; have := HB5.out.2.size; omega) (Nat.le_refl _) (fun b hb => by cases hb)
        have HB6 : Hid (Below G w w6) := HB5.out.1.trans (b6.mono hgG.out)
        obtain ⟨-, d1, -, -, -, -, -, -, -⟩ := P6.cells
        have CH := held_any g _ w6 d1
        clear P6 F6 S6 b6
        by_cases hh : (prs L).held = 0
        · obtain ⟨q1, q2, q3, q4⟩ := hla.out hh
          rw [hh] at CH
          have CI2 := int_any (N : Int) w6 HB.out.1 (by have := HB.out.2; omega)
          rw [int_list] at CI2
          have hcl : (prs L).closed = false := prs_open L
          obtain ⟨f1, f2, f3⟩ := long_fault q1 q2 (by omega) N (by omega) (by have := HB.out; omega) hcl
          have HF : Hid (((prs L).feed (lek N 8)).code = 6 ∧ ((prs L).feed (lek N 8)).fat = (K : Int) ∧ ((prs L).feed (lek N 8)).taken = K + 7) := ⟨f1, by rw [f2, q3], by rw [f3, q3]⟩
          clear q1 q2 q3 q4 f1 f2 f3 hh
          go_wp2_with fail
          refine CH.mono ?_
          rintro e7 w7 ⟨rfl, rfl⟩
          clear CH d1
          go_wp2_with fail
          refine CI2.mono ?_
          rintro e8 w8 ⟨rfl, b8⟩
          clear CI2
          have HP8 : Hid (PW w8 g (g + 1) (prs L) fp6) := HP6.out.below b8
          have HB8 : Hid (Below G w w8) := HB6.out.trans (b8.mono (by have := HP6.out.lt; have := hgG.out; omega))
          have hlt8 := HP8.out.lt
          clear b8
          obtain ⟨c9, w9, hcv, hX, b9⟩ := BSl.conv w8 (lek N 8) g fp6 (by omega) (fun k hk => (hlt8.2.2 k hk).2)
          have CF := feed_any g (g + 1) (prs L) fp6 _ c9 (lek N 8) w9 (HP8.out.below b9) (prs_inv (L)).1 hX (by rw [lek_len]; decide)
          rw [lek_len] at hcv CF
          have HB9 : Hid (Below G w w9) := HB8.out.trans (b9.mono (by have := hgG.out; omega))
          have h69 : Hid (w9.heap.size ≥ w8.heap.size) := b9.size
          clear hX b9 hlt8
          go_wp2_with fail
          refine CF.mono ?_
          rintro ea wa ⟨rfl, fpa, Pa, Fa, Sa⟩
          clear CF hcv
          have ba : Below g w9 wa := Fa.below (by have := HP8.out.lt; have := h69.out; omega) (Nat.le_refl _) (fun b hb => by have := HF6.out b hb; have := HB5.out.2.size; have := hP5.out; omega)
          have HBa : Hid (Below G w wa) := HB9.out.trans (ba.mono hgG.out)
          obtain ⟨c0, -, c2, c3, -, -, -, -, -⟩ := Pa.cells
          rw [HF.out.1] at c2
          rw [HF.out.2.1] at c3
          rw [HF.out.2.2] at c0
          have CFa := faultL_any g _ _ wa c2 c3
          have hga := Pa.lt.1
          clear ba Pa Fa Sa
          go_wp2_with fail
          refine CFa.mono ?_
          rintro eb wb ⟨rfl, bb⟩
          clear CFa
          have CT := taken_any g _ wb ((bb.cell (p := ⟨g, 0, none⟩) (World.block_lt_of_cell? _ _ c0)).trans c0)
          have HBb : Hid (Below G w wb) := HBa.out.trans (bb.mono (Nat.le_of_lt (Nat.lt_of_le_of_lt hgG.out (World.block_lt_of_cell? _ _ c0))))
          clear bb c0 c2 c3
          go_wp2_with fail
          refine CT.mono ?_
          rintro ec wc ⟨rfl, rfl⟩
          clear CT
          go_wp2
          go_ret
          exact ⟨rfl, by rw [HGe.out]; exact HBb.out⟩
        · have hhb : ((((prs L).held : Nat) : Int) != 0) = true := by simp [hh]
          go_wp2_with fail
          refine CH.mono ?_
          rintro e7 w7 ⟨rfl, rfl⟩
          clear CH
          go_wp2
          go_ret
          exact ⟨rfl, by rw [HGe.out]; exact HB6.out⟩
  · have hser : serT T = (⟨#[]⟩, (ckT T).2) := by unfold serT; rw [if_pos hc]
    have e1 : X = ⟨#[]⟩ ∧ C = (ckT T).2 := by
      have := HR.out.symm.trans hser
      injection this with h1 h2
      exact ⟨h1, h2⟩
    obtain ⟨rfl, rfl⟩ := e1
    clear HR hser
    generalize (ckT T).2 = D at *
    have hb : (D != 0) = true := by simp [hc]
    have hb2 : (D == 0) = false := by simp [hc]
    go_wp2
    go_ret
    exact ⟨rfl, by rw [HGe.out]; exact HB3.out⟩
theorem wlong_final (m : Nat) (k : Int) (e : Bool) (t : ByteArray) (x : Option Addr) (n c : Nat) (T : Tr) (at_ len : Int) (w : World) (hA : At w m (.agg #[Value.int IntKind.i64 k, Value.bool e, Value.string t, Value.slice x n c]) T) (hS : smT T) (_ : -9223372036854775808 ≤ at_) (_ : at_ ≤ 9223372036854775807) (h0 : 0 ≤ len) (h1 : len ≤ 18446744073709551615) :
    Calls Try.prog 4 #[.agg #[Value.int IntKind.i64 k, Value.bool e, Value.string t, Value.slice x n c], .int .i64 at_, .int .u64 len] w fun en w' => en = .returned (.bool true) ∧ Below w.heap.size w w' := wlong_walk m k e t x n c T at_ len w hA hS h0 (by omega)
end Go.Proofs.Ytbmiihjleghanaa
