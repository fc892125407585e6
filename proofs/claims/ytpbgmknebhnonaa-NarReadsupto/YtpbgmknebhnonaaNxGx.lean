/- The document's link, walked (own text of the verifier; made by mkxl.py). -/
import Derived.Test.YtpbgmknebhnonaaNxFx
namespace Go.Proofs.Ytpbgmknebhnonaa
open Go.RowKit

set_option maxHeartbeats 16000000 in
set_option maxRecDepth 10000 in
theorem link_any (v : Value) (W : List ByteArray) (S : List ON) (r : Tr) (i : Nat) (w : World) (hF : FR w v W) (hW : W.length ≤ 1048576) (hi : i ≤ W.length) (hS : S.length < 32) (hsm : ∀ s ∈ W, s.size ≤ 1048576) :
    Calls Try.prog 50 #[v, .int .i64 (i : Int), .int .i64 ((S.length + 1 : Nat) : Int)] w (StP W ⟨8, ⟨2, false, ⟨#[]⟩, [], [], ⟨#[]⟩⟩ :: S, r⟩ S r i w) := by
  obtain ⟨K, hK⟩ : ∃ K, S.length + 1 = K := ⟨_, rfl⟩
  have HK : Hid (S.length + 1 = K) := hK
  rw [hK]
  have hK33 : K ≤ 33 := by omega
  clear hK hS
  obtain ⟨x, cp, rfl, hX⟩ := hF
  have HF : Hid (FR w (.slice x W.length cp) W) := ⟨x, cp, rfl, hX⟩
  have HSM : Hid (∀ s ∈ W, s.size ≤ 1048576) := hsm
  clear hX hsm
  have bA : Hid (Below w.heap.size w (w.alloc (.cells (stC 0 false ⟨#[]⟩ (.slice none 0 0) 0 0 0).toArray 90))) := (Below.refl _ _).alloc (Nat.le_refl _) _
  have s1 : Hid (St (w.alloc (.cells (stC 0 false ⟨#[]⟩ (.slice none 0 0) 0 0 0).toArray 90)) w.heap.size (stC 0 false ⟨#[]⟩ (.slice none 0 0) 0 0 0)) := St.new w _ _
  unfold stC at bA s1
  go_enter Try.func50, Try.ntmps50
  go_upto_region 1 with fail
  obtain ⟨G, hG⟩ : ∃ G, w.heap.size = G := ⟨_, rfl⟩
  have HG : Hid (w.heap.size = G) := hG
  rw [hG] at bA s1 ⊢
  clear hG
  generalize w.alloc (.cells _ 90) = w1 at *
  have HFA : Hid (∀ w', Below G w w' → FR w' (.slice x W.length cp) W) := fun w' b => HF.out.below (by rw [HG.out]; exact b)
  have iI : (i : Int) ≤ (W.length : Int) := by omega
  clear HF
  have CW := one_call (.slice x W.length cp) W wTarget i w1 (HFA.out _ bA.out) hW (by omega)
  go_wp2_with fail
  refine CW.mono ?_
  rintro ea wy ⟨rfl, b2⟩
  clear CW
  have y1 : Hid (St wy G (stC 0 false ⟨#[]⟩ (.slice none 0 0) 0 0 0)) := s1.out.bel b2
  have BB : Hid (Below G w wy) := bA.out.trans (b2.mono (by have := s1.out.lt; omega))
  clear b2 s1 bA
  rcases one_word W wTarget ⟨8, ⟨2, false, ⟨#[]⟩, [], [], ⟨#[]⟩⟩ :: S, r⟩ ⟨9, ⟨2, false, ⟨#[]⟩, [], [], ⟨#[]⟩⟩ :: S, r⟩ i K (only8 _ r) HK.out hi with ⟨c1, c2, c3, c4⟩ | ⟨c1, c2⟩
  · rw [c1, c2]
    have H4 : Hid (goA ⟨8, ⟨2, false, ⟨#[]⟩, [], [], ⟨#[]⟩⟩ :: S, r⟩ (W.drop i) i = goA ⟨9, ⟨2, false, ⟨#[]⟩, [], [], ⟨#[]⟩⟩ :: S, r⟩ (W.drop (i + 1)) (i + 1)) := c4
    clear c1 c2 c4
    by_cases hj : i + 1 < W.length
    · obtain ⟨y, hy⟩ : ∃ y, W[i + 1]? = some y := ⟨_, List.getElem?_eq_getElem hj⟩
      have hys : y.size ≤ 1048576 := HSM.out y (List.mem_of_getElem? hy)
      have HA : Hid (tgt y = 0 → goA ⟨9, ⟨2, false, ⟨#[]⟩, [], [], ⟨#[]⟩⟩ :: S, r⟩ (W.drop (i + 1)) (i + 1) = goA ⟨10, ⟨2, false, y, [], [], ⟨#[]⟩⟩ :: S, r⟩ (W.drop (i + 1 + 1)) (i + 1 + 1)) := fun ht => goA_yes (c := ⟨9, ⟨2, false, ⟨#[]⟩, [], [], ⟨#[]⟩⟩ :: S, r⟩) (by show (9 : Int) ≠ 17; decide) hy (acc_target ht)
      have HB : Hid (tgt y ≠ 0 → Ends W ⟨9, ⟨2, false, ⟨#[]⟩, [], [], ⟨#[]⟩⟩ :: S, r⟩ (i + 1) (i + 1) (tgt y) K) := fun ht => by
        have e : (⟨9, ⟨2, false, ⟨#[]⟩, [], [], ⟨#[]⟩⟩ :: S, r⟩ : PC).accept y = (tgt y, ⟨9, ⟨2, false, ⟨#[]⟩, [], [], ⟨#[]⟩⟩ :: S, r⟩) := by
          unfold PC.accept
          rw [if_neg (show ¬ (9 : Int) = 7 by decide), if_pos (show (9 : Int) = 9 from rfl), if_pos ht]
        refine ⟨⟨9, ⟨2, false, ⟨#[]⟩, [], [], ⟨#[]⟩⟩ :: S, r⟩, ?_, HK.out⟩
        rw [goA_no (c := ⟨9, ⟨2, false, ⟨#[]⟩, [], [], ⟨#[]⟩⟩ :: S, r⟩) (by show (9 : Int) ≠ 17; decide) hy (by rw [e]; exact ht), e]
      have HQ : Hid (((wdP W (i + 1 + 1) [wClose]).2 = 0 ∧ (wdP W (i + 1 + 1) [wClose]).1 = i + 1 + 1 + 1 ∧ i + 1 + 1 + 1 ≤ W.length ∧ goA ⟨10, ⟨2, false, y, [], [], ⟨#[]⟩⟩ :: S, r⟩ (W.drop (i + 1 + 1)) (i + 1 + 1) = goA (cls ⟨0, S, r⟩ (.mk 2 false y [] [])) (W.drop (i + 1 + 1 + 1)) (i + 1 + 1 + 1)) ∨ ((wdP W (i + 1 + 1) [wClose]).2 ≠ 0 ∧ Ends W ⟨10, ⟨2, false, y, [], [], ⟨#[]⟩⟩ :: S, r⟩ (i + 1 + 1) (wdP W (i + 1 + 1) [wClose]).1 (wdP W (i + 1 + 1) [wClose]).2 K)) := one_word W wClose _ _ (i + 1 + 1) K (only10l y S r) HK.out (by omega)
      obtain ⟨g', hg', g1', g2', -, -⟩ := (HFA.out _ BB.out).at hy
      subst hg'
      have hjI : (i : Int) + 1 < (W.length : Int) := by omega
      clear hy
      have hz := y1.out.lt
      have s2 : Hid (St (wy.alloc (.cells #[.int .i64 2, .bool false, .string y, .slice none 0 0] 25)) wy.heap.size [.int .i64 2, .bool false, .string y, .slice none 0 0]) := St.new wy _ _
      have bB : Below wy.heap.size wy (wy.alloc (.cells #[.int .i64 2, .bool false, .string y, .slice none 0 0] 25)) := (Below.refl _ _).alloc (Nat.le_refl _) _
      have p0 : Hid (St (wy.alloc (.cells #[.int .i64 2, .bool false, .string y, .slice none 0 0] 25)) G (stC 0 false ⟨#[]⟩ (.slice none 0 0) 0 0 0)) := y1.out.bel bB
      have pB0 : Hid (Below G w (wy.alloc (.cells #[.int .i64 2, .bool false, .string y, .slice none 0 0] 25))) := BB.out.trans (bB.mono (by omega))
      clear bB y1 BB
      go_upto_region 7 with fail
      obtain ⟨D, hD⟩ : ∃ D, wy.heap.size = D := ⟨_, rfl⟩
      rw [hD] at s2 ⊢
      clear hD g1' g2'
      generalize wy.alloc (.cells #[.int .i64 2, .bool false, .string y, .slice none 0 0] 25) = wn at *
      have m0 := s2.out.get 0 _ rfl
      have m1 := s2.out.get 1 _ rfl
      have m2 := s2.out.get 2 _ rfl
      have m3 := s2.out.get 3 _ rfl
      have CO := own_any 2 false y none 0 0 wn (by omega)
      have hcf : cfP 2 false y 0 = tgt y := by unfold cfP; simp
      rw [hcf] at CO
      unfold ndV at CO
      obtain ⟨ob, hob⟩ : ∃ ob, ownB 2 false y 0 = ob := ⟨_, rfl⟩
      rw [hob] at CO
      clear hcf hob
      obtain ⟨tc, htc⟩ : ∃ tc, tgt y = tc := ⟨_, rfl⟩
      rw [htc] at HA HB CO
      clear htc
      go_wp2_with fail
      refine CO.mono ?_
      rintro eo wo ⟨rfl, bo⟩
      clear CO m0 m1 m2 m3
      have y1 : Hid (St wo G (stC 0 false ⟨#[]⟩ (.slice none 0 0) 0 0 0)) := p0.out.bel bo
      have y2 : Hid (St wo D [.int .i64 2, .bool false, .string y, .slice none 0 0]) := s2.out.bel bo
      have BB : Hid (Below G w wo) := pB0.out.trans (bo.mono (by have := p0.out.lt; omega))
      clear bo p0 s2 pB0
      by_cases ht : tc = 0
      · subst ht
        have H5 := HA.out rfl
        have H6 := H4.out.trans H5
        have H6' : Hid (goA ⟨8, ⟨2, false, ⟨#[]⟩, [], [], ⟨#[]⟩⟩ :: S, r⟩ (W.drop i) i = goA ⟨10, ⟨2, false, y, [], [], ⟨#[]⟩⟩ :: S, r⟩ (W.drop (i + 1 + 1)) (i + 1 + 1)) := H6
        clear H5 H6 HA HB H4
        have CW := one_call (.slice (some ⟨g', 0, none⟩) W.length cp) W wClose (i + 1 + 1) wo (HFA.out _ BB.out) hW (by omega)
        go_wp2_with fail
        refine CW.mono ?_
        rintro eb wc ⟨rfl, b3⟩
        clear CW
        have p1 : Hid (St wc G (stC 0 false ⟨#[]⟩ (.slice none 0 0) 0 0 0)) := y1.out.bel b3
        have p2 := y2.out.bel b3
        have pB : Hid (Below G w wc) := BB.out.trans (b3.mono (by have := y1.out.lt; omega))
        clear b3 y1 y2 BB
        obtain ⟨nx, hnx⟩ : ∃ nx, (wdP W (i + 1 + 1) [wClose]).1 = nx := ⟨_, rfl⟩
        obtain ⟨cd, hcd⟩ : ∃ cd, (wdP W (i + 1 + 1) [wClose]).2 = cd := ⟨_, rfl⟩
        rw [hnx, hcd] at HQ ⊢
        clear hnx hcd
        have m0 := p2.get 0 _ rfl
        have m1 := p2.get 1 _ rfl
        have m2 := p2.get 2 _ rfl
        have m3 := p2.get 3 _ rfl
        have v0 := p1.out.fr 0 (by show 0 < 7; decide)
        have v1 := p1.out.fr 1 (by show 1 < 7; decide)
        have v2 := p1.out.fr 2 (by show 2 < 7; decide)
        have v3 := p1.out.fr 3 (by show 3 < 7; decide)
        have v4 := p1.out.fr 4 (by show 4 < 7; decide)
        have v5 := p1.out.fr 5 (by show 5 < 7; decide)
        have v6 := p1.out.fr 6 (by show 6 < 7; decide)
        have u0 := p1.out.get 0 _ rfl
        have u1 := p1.out.get 1 _ rfl
        have u2 := p1.out.get 2 _ rfl
        have u3 := p1.out.get 3 _ rfl
        have u4 := p1.out.get 4 _ rfl
        have u5 := p1.out.get 5 _ rfl
        have u6 := p1.out.get 6 _ rfl
        clear p2
        go_wp2
        change bodyPost Try.prog _ _ _ _ (set7 wc G 2 false y (.slice none 0 0) nx cd K)
        refine ret_step rfl rfl (set7_st p1.out 2 false y (.slice none 0 0) nx cd K) ?_
        have hbel : Below w.heap.size w (set7 wc G 2 false y (.slice none 0 0) nx cd K) := by rw [HG.out]; exact set7_below pB.out (Nat.le_refl G) 2 false y (.slice none 0 0) nx cd K
        rcases HQ.out with ⟨d1, d2, d3, d4⟩ | ⟨d1, d2⟩
        · rw [d1, d2] at hbel ⊢
          have hh := H6'.out.trans d4
          have h3 : i < i + 1 + 1 + 1 := by omega
          exact StP.leaf hbel hh h3 d3
        · have h2 := Ends.via H6'.out d2
          exact StP.bad hbel d1 h2
      · have hcb : (tc != 0) = true := by simp [ht]
        have H5 := HB.out ht
        have H5' : Hid (Ends W ⟨8, ⟨2, false, ⟨#[]⟩, [], [], ⟨#[]⟩⟩ :: S, r⟩ i (i + 1) tc K) := Ends.via H4.out H5
        clear H5 HA HB H4 y2 HQ
        have CS := stopped_any ((i : Int) + 1) tc K wo
        go_wp2_with fail
        refine CS.mono ?_
        rintro ec wc ⟨rfl, bc⟩
        have p1 : Hid (St wc G (stC 0 false ⟨#[]⟩ (.slice none 0 0) 0 0 0)) := y1.out.bel bc
        have pB : Hid (Below G w wc) := BB.out.trans (bc.mono (by have := y1.out.lt; omega))
        clear CS bc
        unfold stV
        have v0 := p1.out.fr 0 (by show 0 < 7; decide)
        have v1 := p1.out.fr 1 (by show 1 < 7; decide)
        have v2 := p1.out.fr 2 (by show 2 < 7; decide)
        have v3 := p1.out.fr 3 (by show 3 < 7; decide)
        have v4 := p1.out.fr 4 (by show 4 < 7; decide)
        have v5 := p1.out.fr 5 (by show 5 < 7; decide)
        have v6 := p1.out.fr 6 (by show 6 < 7; decide)
        have u0 := p1.out.get 0 _ rfl
        have u1 := p1.out.get 1 _ rfl
        have u2 := p1.out.get 2 _ rfl
        have u3 := p1.out.get 3 _ rfl
        have u4 := p1.out.get 4 _ rfl
        have u5 := p1.out.get 5 _ rfl
        have u6 := p1.out.get 6 _ rfl
        go_wp2
        change bodyPost Try.prog _ _ _ _ (set7 wc G 0 false ⟨#[]⟩ (.slice none 0 0) ((i + 1 : Nat) : Int) tc K)
        refine ret_step rfl rfl (set7_st p1.out 0 false ⟨#[]⟩ (.slice none 0 0) ((i + 1 : Nat) : Int) tc K) ?_
        have hbel : Below w.heap.size w (set7 wc G 0 false ⟨#[]⟩ (.slice none 0 0) ((i + 1 : Nat) : Int) tc K) := by rw [HG.out]; exact set7_below pB.out (Nat.le_refl G) 0 false ⟨#[]⟩ (.slice none 0 0) ((i + 1 : Nat) : Int) tc K
        exact StP.bad hbel ht H5'.out
    · have hj' : W.length = i + 1 := by omega
      have hjI : (W.length : Int) ≤ (i : Int) + 1 := by omega
      have H5 : Hid (Ends W ⟨9, ⟨2, false, ⟨#[]⟩, [], [], ⟨#[]⟩⟩ :: S, r⟩ (i + 1) (i + 1) (-1) K) := ⟨_, goA_end (c := ⟨9, ⟨2, false, ⟨#[]⟩, [], [], ⟨#[]⟩⟩ :: S, r⟩) (by show (9 : Int) ≠ 17; decide) (List.getElem?_eq_none (by omega)), HK.out⟩
      have CS := stopped_any ((i : Int) + 1) (-1) K wy
      go_wp2_with fail
      refine CS.mono ?_
      rintro ec wc ⟨rfl, bc⟩
      have p1 : Hid (St wc G (stC 0 false ⟨#[]⟩ (.slice none 0 0) 0 0 0)) := y1.out.bel bc
      have pB : Hid (Below G w wc) := BB.out.trans (bc.mono (by have := y1.out.lt; omega))
      clear CS bc
      unfold stV
      have v0 := p1.out.fr 0 (by show 0 < 7; decide)
      have v1 := p1.out.fr 1 (by show 1 < 7; decide)
      have v2 := p1.out.fr 2 (by show 2 < 7; decide)
      have v3 := p1.out.fr 3 (by show 3 < 7; decide)
      have v4 := p1.out.fr 4 (by show 4 < 7; decide)
      have v5 := p1.out.fr 5 (by show 5 < 7; decide)
      have v6 := p1.out.fr 6 (by show 6 < 7; decide)
      have u0 := p1.out.get 0 _ rfl
      have u1 := p1.out.get 1 _ rfl
      have u2 := p1.out.get 2 _ rfl
      have u3 := p1.out.get 3 _ rfl
      have u4 := p1.out.get 4 _ rfl
      have u5 := p1.out.get 5 _ rfl
      have u6 := p1.out.get 6 _ rfl
      go_wp2
      change bodyPost Try.prog _ _ _ _ (set7 wc G 0 false ⟨#[]⟩ (.slice none 0 0) ((i + 1 : Nat) : Int) (-1) K)
      refine ret_step rfl rfl (set7_st p1.out 0 false ⟨#[]⟩ (.slice none 0 0) ((i + 1 : Nat) : Int) (-1) K) ?_
      have hbel : Below w.heap.size w (set7 wc G 0 false ⟨#[]⟩ (.slice none 0 0) ((i + 1 : Nat) : Int) (-1) K) := by rw [HG.out]; exact set7_below pB.out (Nat.le_refl G) 0 false ⟨#[]⟩ (.slice none 0 0) ((i + 1 : Nat) : Int) (-1) K
      have h2 := Ends.via H4.out H5.out
      have h3 : (-1 : Int) ≠ 0 := by decide
      exact StP.bad hbel h3 h2
  · obtain ⟨nx, hnx⟩ : ∃ nx, (wdP W i [wTarget]).1 = nx := ⟨_, rfl⟩
    obtain ⟨cd, hcd⟩ : ∃ cd, (wdP W i [wTarget]).2 = cd := ⟨_, rfl⟩
    rw [hnx, hcd] at c2 ⊢
    rw [hcd] at c1
    have H4 : Hid (Ends W ⟨8, ⟨2, false, ⟨#[]⟩, [], [], ⟨#[]⟩⟩ :: S, r⟩ i nx cd K) := c2
    have hcb : (cd != 0) = true := by simp [c1]
    clear hnx hcd c2
    have CS := stopped_any nx cd K wy
    go_wp2_with fail
    refine CS.mono ?_
    rintro ec wc ⟨rfl, bc⟩
    have p1 : Hid (St wc G (stC 0 false ⟨#[]⟩ (.slice none 0 0) 0 0 0)) := y1.out.bel bc
    have pB : Hid (Below G w wc) := BB.out.trans (bc.mono (by have := y1.out.lt; omega))
    clear CS bc
    unfold stV
    have v0 := p1.out.fr 0 (by show 0 < 7; decide)
    have v1 := p1.out.fr 1 (by show 1 < 7; decide)
    have v2 := p1.out.fr 2 (by show 2 < 7; decide)
    have v3 := p1.out.fr 3 (by show 3 < 7; decide)
    have v4 := p1.out.fr 4 (by show 4 < 7; decide)
    have v5 := p1.out.fr 5 (by show 5 < 7; decide)
    have v6 := p1.out.fr 6 (by show 6 < 7; decide)
    have u0 := p1.out.get 0 _ rfl
    have u1 := p1.out.get 1 _ rfl
    have u2 := p1.out.get 2 _ rfl
    have u3 := p1.out.get 3 _ rfl
    have u4 := p1.out.get 4 _ rfl
    have u5 := p1.out.get 5 _ rfl
    have u6 := p1.out.get 6 _ rfl
    go_wp2
    change bodyPost Try.prog _ _ _ _ (set7 wc G 0 false ⟨#[]⟩ (.slice none 0 0) nx cd K)
    refine ret_step rfl rfl (set7_st p1.out 0 false ⟨#[]⟩ (.slice none 0 0) nx cd K) ?_
    have hbel : Below w.heap.size w (set7 wc G 0 false ⟨#[]⟩ (.slice none 0 0) nx cd K) := by rw [HG.out]; exact set7_below pB.out (Nat.le_refl G) 0 false ⟨#[]⟩ (.slice none 0 0) nx cd K
    exact StP.bad hbel c1 H4.out
end Go.Proofs.Ytpbgmknebhnonaa
