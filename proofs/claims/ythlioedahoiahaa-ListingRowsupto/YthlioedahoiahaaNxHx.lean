/- The document's entry, walked (own text of the verifier; made by mkxh.py). -/
import Derived.Test.YthlioedahoiahaaXG
namespace Go.Proofs.Ythlioedahoiahaa
open Go.RowKit

/-- The contract of node at a place. -/
def NodeC (v : Value) (W : List ByteArray) (i : Nat) : Prop := ∀ (S : List ON) (r : Tr) (w : World), FR w v W → S.length ≤ 32 →
  Calls Try.prog 42 #[v, .int .i64 (i : Int), .int .i64 ((S.length : Nat) : Int)] w (StP W ⟨1, S, r⟩ S r i w)
/-- What entry comes to. -/
def EnP (W : List ByteArray) (o : ON) (S : List ON) (r : Tr) (i : Nat) (w : World) (en : Ending) (w' : World) : Prop :=
  ∃ (s : ByteArray) (k : Int) (e : Bool) (t : ByteArray) (x : Option Addr) (n c nxt : Nat) (code : Int) (opn : Nat), en = .returned (.tuple #[.string s, stV k e t (.slice x n c) nxt code opn]) ∧ Below w.heap.size w w' ∧
    ((code = 0 ∧ (∃ T fr, T.k = k ∧ T.e = e ∧ T.t = t ∧ TrV w' w.heap.size T (.slice x n c) fr ∧ fr.Nodup ∧ goA ⟨12, o :: S, r⟩ (W.drop i) i = goA ⟨11, ⟨o.k, o.e, o.t, o.nms ++ [s], o.ks ++ [T], s⟩ :: S, r⟩ (W.drop nxt) nxt) ∧ i < nxt ∧ nxt ≤ W.length ∧ s.size ≤ 1048576) ∨ (code ≠ 0 ∧ Ends W ⟨12, o :: S, r⟩ i nxt code opn))
theorem EnP.bad {W : List ByteArray} {o : ON} {S : List ON} {r : Tr} {i : Nat} {w w' : World} {s : ByteArray} {k : Int} {e : Bool} {t : ByteArray} {x : Option Addr} {n c nxt : Nat} {code : Int} {opn : Nat} (b : Below w.heap.size w w') (h0 : code ≠ 0) (h : Ends W ⟨12, o :: S, r⟩ i nxt code opn) : EnP W o S r i w (.returned (.tuple #[.string s, stV k e t (.slice x n c) nxt code opn])) w' :=
  ⟨s, k, e, t, x, n, c, nxt, code, opn, rfl, b, Or.inr ⟨h0, h⟩⟩
theorem drew_at (w : World) (b : Nat) : w.drew.heap[b]? = w.heap[b]? := rfl
/-- A text and a step that are handed back. -/
theorem ret_nstep {f : Func} {tmps : Array Value} {W : World} {G : Nat} {i j : Nat} {s : ByteArray} {k : Int} {e : Bool} {t : ByteArray} {v : Value} {a b c : Int} {R : Ending → World → Prop} (hf : f.results = #[.tmp j, .cell i 122]) (hj : tmps[j]?.getD undef = .string s) (ht : tmps[i]?.getD undef = .pointer (some ⟨G, 0, none⟩))
    (q : St W G (stC k e t v a b c)) (hR : R (.returned (.tuple #[.string s, stV k e t v a b c])) W) :
    bodyPost Try.prog f R .ret { tmps := tmps, defers := [] } W := by
  have q0 := q.get 0 _ rfl
  have q1 := q.get 1 _ rfl
  have q2 := q.get 2 _ rfl
  have q3 := q.get 3 _ rfl
  have q4 := q.get 4 _ rfl
  have q5 := q.get 5 _ rfl
  have q6 := q.get 6 _ rfl
  exact bodyPost_ret (v := .tuple #[.string s, stV k e t v a b c]) (by simp [results, hf, go_sem, hj, ht, q0, q1, q2, q3, q4, q5, q6, stV]) rfl hR
theorem two_call (v : Value) (W : List ByteArray) (s s' : ByteArray) (i : Nat) (w : World) (hF : FR w v W) (hW : W.length ≤ 1048576) (hi : i ≤ 1048576) :
    Calls Try.prog 40 #[v, .int .i64 (i : Int), .slice (some ⟨w.heap.size, 0, none⟩) 2 2] (w.alloc (.cells #[.string s, .string s'] 9)) fun e w' => e = .returned (.tuple #[.int .i64 ((wdP W i [s, s']).1 : Int), .int .i64 (wdP W i [s, s']).2]) ∧ Below w.heap.size w w' := by
  have bA : Below w.heap.size w (w.alloc (.cells #[.string s, .string s'] 9)) := (Below.refl _ _).alloc (Nat.le_refl _) _
  refine (rwords_any v W [s, s'] i w.heap.size (w.alloc (.cells #[.string s, .string s'] 9)) (hF.below bA) (WL.new w [s, s'] 9) hW hi (by show 2 ≤ 8; decide)).mono ?_
  rintro e w' ⟨h1, h2⟩
  exact ⟨h1, bA.trans (h2.mono bA.size)⟩
/-- The name of the entry ahead. -/
def lastN (o : ON) : ByteArray := (o.nms.getLast?).getD ⟨#[]⟩

set_option maxHeartbeats 16000000 in
set_option maxRecDepth 10000 in
theorem entry_any (v : Value) (W : List ByteArray) (o : ON) (S : List ON) (r : Tr) (i : Nat) (w : World) (hF : FR w v W) (hW : W.length ≤ 1048576) (hi : i ≤ W.length) (hS : S.length < 32) (hsm : ∀ s ∈ W, s.size ≤ 1048576) (hl : (lastN o).size ≤ 1048576) (hN : ∀ j, i < j → j ≤ W.length → NodeC v W j) :
    Calls Try.prog 60 #[v, .int .i64 (i : Int), .string (lastN o), .bool (decide (o.nms.length = 0)), .int .i64 ((S.length + 1 : Nat) : Int)] w (EnP W o S r i w) := by
  obtain ⟨K, hK⟩ : ∃ K, S.length + 1 = K := ⟨_, rfl⟩
  have HK : Hid (S.length + 1 = K) := hK
  rw [hK]
  have hK33 : K ≤ 32 := by omega
  clear hK hS
  obtain ⟨x, cp, rfl, hX⟩ := hF
  have HF : Hid (FR w (.slice x W.length cp) W) := ⟨x, cp, rfl, hX⟩
  have HSM : Hid (∀ s ∈ W, s.size ≤ 1048576) := hsm
  have HN : Hid (∀ j, i < j → j ≤ W.length → NodeC (.slice x W.length cp) W j) := hN
  obtain ⟨fst, hfst⟩ : ∃ fst, decide (o.nms.length = 0) = fst := ⟨_, rfl⟩
  have HFS : Hid (decide (o.nms.length = 0) = fst) := hfst
  obtain ⟨ls, hls⟩ : ∃ ls, lastN o = ls := ⟨_, rfl⟩
  have HLS : Hid (lastN o = ls) := hls
  rw [hfst, hls]
  rw [hls] at hl
  clear hX hsm hN hfst hls
  have bA : Hid (Below w.heap.size w (w.alloc (.cells (stC 0 false ⟨#[]⟩ (.slice none 0 0) 0 0 0).toArray 122))) := (Below.refl _ _).alloc (Nat.le_refl _) _
  have s1 : Hid (St (w.alloc (.cells (stC 0 false ⟨#[]⟩ (.slice none 0 0) 0 0 0).toArray 122)) w.heap.size (stC 0 false ⟨#[]⟩ (.slice none 0 0) 0 0 0)) := St.new w _ _
  unfold stC at bA s1
  go_enter Try.func60, Try.ntmps60
  go_upto_region 1 with fail
  obtain ⟨G, hG⟩ : ∃ G, w.heap.size = G := ⟨_, rfl⟩
  have HG : Hid (w.heap.size = G) := hG
  rw [hG] at bA s1 ⊢
  clear hG
  generalize w.alloc (.cells _ 122) = w1 at *
  have HFA : Hid (∀ w', Below G w w' → FR w' (.slice x W.length cp) W) := fun w' b => HF.out.below (by rw [HG.out]; exact b)
  have iI : (i : Int) ≤ (W.length : Int) := by omega
  clear HF
  have CW := two_call (.slice x W.length cp) W wOpen wName i w1 (HFA.out _ bA.out) hW (by omega)
  go_wp2_with fail
  refine CW.mono ?_
  rintro ea wy ⟨rfl, b2⟩
  clear CW
  have y1 : Hid (St wy G (stC 0 false ⟨#[]⟩ (.slice none 0 0) 0 0 0)) := s1.out.bel b2
  have BB : Hid (Below G w wy) := bA.out.trans (b2.mono (by have := s1.out.lt; omega))
  clear b2 s1 bA
  obtain ⟨q1, q2, _⟩ := wdP_go W K [wOpen, wName] ⟨12, o :: S, r⟩ ⟨14, o :: S, r⟩ i ⟨_, only12 _ r, HK.out, _, only13 _ r, HK.out, rfl⟩ hi
  obtain ⟨nx, hnx⟩ : ∃ nx, (wdP W i [wOpen, wName]).1 = nx := ⟨_, rfl⟩
  obtain ⟨cd, hcd⟩ : ∃ cd, (wdP W i [wOpen, wName]).2 = cd := ⟨_, rfl⟩
  rw [hnx, hcd] at q1 q2 ⊢
  clear hnx hcd
  by_cases hcz : cd = 0
  · subst hcz
    obtain ⟨c4, c2, c3⟩ := q1 rfl
    have c2' : nx = i + 1 + 1 := c2
    have HX : Hid (nx = i + 1 + 1) := c2'
    have hin : i < nx := by omega
    have H4 : Hid (goA ⟨12, o :: S, r⟩ (W.drop i) i = goA ⟨14, o :: S, r⟩ (W.drop nx) nx) := c4
    clear q1 q2 c4 c2 c2'
    by_cases hj : nx < W.length
    · obtain ⟨y, hy⟩ : ∃ y, W[nx]? = some y := ⟨_, List.getElem?_eq_getElem hj⟩
      have hys : y.size ≤ 1048576 := HSM.out y (List.mem_of_getElem? hy)
      have HA : Hid (ceP o.nms.getLast? y = 0 → goA ⟨14, o :: S, r⟩ (W.drop nx) nx = goA ⟨15, ⟨o.k, o.e, o.t, o.nms, o.ks, y⟩ :: S, r⟩ (W.drop (nx + 1)) (nx + 1)) := fun ht => goA_yes (c := ⟨14, o :: S, r⟩) (by show (14 : Int) ≠ 17; decide) hy (acc_ename ht)
      have HB : Hid (ceP o.nms.getLast? y ≠ 0 → Ends W ⟨14, o :: S, r⟩ nx nx (ceP o.nms.getLast? y) K) := fun ht => by
        have e : (⟨14, o :: S, r⟩ : PC).accept y = (ceP o.nms.getLast? y, ⟨14, o :: S, r⟩) := by
          unfold PC.accept
          rw [if_neg (show ¬ (14 : Int) = 7 by decide), if_neg (show ¬ (14 : Int) = 9 by decide), if_pos (show (14 : Int) = 14 from rfl)]
          dsimp only
          rw [if_pos ht]
        refine ⟨⟨14, o :: S, r⟩, ?_, HK.out⟩
        rw [goA_no (c := ⟨14, o :: S, r⟩) (by show (14 : Int) ≠ 17; decide) hy (by rw [e]; exact ht), e]
      obtain ⟨g', hg', g1', g2', -, -⟩ := (HFA.out _ BB.out).at hy
      subst hg'
      have hjI : (nx : Int) < (W.length : Int) := by omega
      clear hy
      have CC := rcheck_any y wy
      have CM : Hid (∀ w, Calls Try.prog 46 #[.string ls, .string y] w fun e w' => e = .returned (.int .i64 (cmpB ls y)) ∧ Below w.heap.size w w') := fun w => rcompare_any ls y w (by omega) (by omega)
      have HCE : Hid ((chk y ≠ 0 → ceP o.nms.getLast? y = chk y) ∧ (chk y = 0 → fst = true → ceP o.nms.getLast? y = 0) ∧ (chk y = 0 → fst = false → ceP o.nms.getLast? y = if 0 ≤ cmpB ls y then 64 else 0)) := by
        have hln := HLS.out
        have hfn := HFS.out
        unfold lastN at hln
        refine ⟨fun h => by unfold ceP; rw [if_pos h], fun h hf => ?_, fun h hf => ?_⟩
        · rw [hf] at hfn
          have h0 : o.nms = [] := by simpa using hfn
          unfold ceP
          rw [if_neg (by omega), h0]
          rfl
        · rw [hf] at hfn
          have h0 : o.nms ≠ [] := by simpa using hfn
          obtain ⟨z, hz⟩ : ∃ z, o.nms.getLast? = some z := ⟨_, List.getLast?_eq_some_getLast h0⟩
          rw [hz] at hln ⊢
          have hln' : z = ls := hln
          subst hln'
          unfold ceP
          rw [if_neg (by omega)]
      obtain ⟨ce, hce⟩ : ∃ ce, ceP o.nms.getLast? y = ce := ⟨_, rfl⟩
      obtain ⟨ck, hck⟩ : ∃ ck, chk y = ck := ⟨_, rfl⟩
      obtain ⟨cm, hcm⟩ : ∃ cm, cmpB ls y = cm := ⟨_, rfl⟩
      rw [hck] at CC
      rw [hcm] at CM
      rw [hce] at HA HB
      rw [hce, hck, hcm] at HCE
      clear hce hck hcm
      go_wp2_with fail
      refine CC.mono ?_
      rintro ec wd ⟨rfl, rfl⟩
      clear CC g1' g2'
      by_cases hkz : ck = 0
      · subst hkz
        cases fst
        · have HC3 : Hid (ce = if 0 ≤ cm then 64 else 0) := HCE.out.2.2 rfl rfl
          have CMM := CM.out wd
          by_cases hm : 0 ≤ cm
          · have hce : ce = 64 := by have := HC3.out; rw [if_pos hm] at this; exact this
            have hmb : decide (cm ≥ 0) = true := by simp [hm]
            have H6 : Hid (Ends W ⟨12, o :: S, r⟩ i nx 64 K) := Ends.via H4.out (by have := HB.out (by rw [hce]; decide); rw [hce] at this; exact this)
            clear hce HC3 HA HB HCE CM
            go_wp2_with fail
            refine CMM.mono ?_
            rintro eh we ⟨rfl, b5⟩
            clear CMM
            have z1 : Hid (St we G (stC 0 false ⟨#[]⟩ (.slice none 0 0) 0 0 0)) := y1.out.bel b5
            have BZ : Hid (Below G w we) := BB.out.trans (b5.mono (by have := y1.out.lt; omega))
            clear b5 y1 BB
            have y1 := z1
            have BB := BZ
            have CS := stopped_any nx 64 K we
            go_wp2_with fail
            refine CS.mono ?_
            rintro ec wc ⟨rfl, bc⟩
            have p1 : Hid (St wc G (stC 0 false ⟨#[]⟩ (.slice none 0 0) 0 0 0)) := y1.out.bel bc
            have pB : Hid (Below G w wc) := BB.out.trans (bc.mono (by have := y1.out.lt; omega))
            clear CS bc
            unfold stV
            have v0 := p1.out.fr 0 (by show 0 < 7; decide)
            have v1 := p1.out.fr 1 (by show 1 < 7; decide)
            have v2 := p1.out.fr 2 (by show 2 < 7; decide)
            have v3 := p1.out.fr 3 (by show 3 < 7; decide)
            have v4 := p1.out.fr 4 (by show 4 < 7; decide)
            have v5 := p1.out.fr 5 (by show 5 < 7; decide)
            have v6 := p1.out.fr 6 (by show 6 < 7; decide)
            have u0 := p1.out.get 0 _ rfl
            have u1 := p1.out.get 1 _ rfl
            have u2 := p1.out.get 2 _ rfl
            have u3 := p1.out.get 3 _ rfl
            have u4 := p1.out.get 4 _ rfl
            have u5 := p1.out.get 5 _ rfl
            have u6 := p1.out.get 6 _ rfl
            go_wp2
            change bodyPost Try.prog _ _ _ _ (set7 wc G 0 false ⟨#[]⟩ (.slice none 0 0) nx 64 K)
            refine ret_nstep rfl rfl rfl (set7_st p1.out 0 false ⟨#[]⟩ (.slice none 0 0) nx 64 K) ?_
            have hbel : Below w.heap.size w (set7 wc G 0 false ⟨#[]⟩ (.slice none 0 0) nx 64 K) := by rw [HG.out]; exact set7_below pB.out (Nat.le_refl G) 0 false ⟨#[]⟩ (.slice none 0 0) nx 64 K
            have h3 : (64 : Int) ≠ 0 := by decide
            exact EnP.bad hbel h3 H6.out
          · have hce : ce = 0 := by have := HC3.out; rw [if_neg hm] at this; exact this
            have hmb : decide (cm ≥ 0) = false := by simp; omega
            subst hce
            clear HC3
            go_wp2_with fail
            refine CMM.mono ?_
            rintro eh we ⟨rfl, b5⟩
            clear CMM
            have z1 : Hid (St we G (stC 0 false ⟨#[]⟩ (.slice none 0 0) 0 0 0)) := y1.out.bel b5
            have BZ : Hid (Below G w we) := BB.out.trans (b5.mono (by have := y1.out.lt; omega))
            clear b5 y1 BB
            have y1 := z1
            have BB := BZ
            clear z1 BZ
            have H5 : Hid (goA ⟨12, o :: S, r⟩ (W.drop i) i = goA ⟨15, ⟨o.k, o.e, o.t, o.nms, o.ks, y⟩ :: S, r⟩ (W.drop (nx + 1)) (nx + 1)) := H4.out.trans (HA.out (by first | rfl | trivial))
            clear HA HB H4 HCE CM
            have CW := one_call (.slice (some ⟨g', 0, none⟩) W.length cp) W wNode (nx + 1) we (HFA.out _ BB.out) hW (by omega)
            go_wp2_with fail
            refine CW.mono ?_
            rintro ee wz ⟨rfl, b2⟩
            clear CW
            have z1 : Hid (St wz G (stC 0 false ⟨#[]⟩ (.slice none 0 0) 0 0 0)) := y1.out.bel b2
            have BZ : Hid (Below G w wz) := BB.out.trans (b2.mono (by have := y1.out.lt; omega))
            clear b2 y1 BB
            rcases one_word W wNode ⟨15, ⟨o.k, o.e, o.t, o.nms, o.ks, y⟩ :: S, r⟩ ⟨1, ⟨o.k, o.e, o.t, o.nms, o.ks, y⟩ :: S, r⟩ (nx + 1) K (only15 _ r) HK.out hj with ⟨c1, c2, c3, c4⟩ | ⟨c1, c2⟩
            · rw [c1, c2]
              obtain ⟨j, hj0⟩ : ∃ j, nx + 1 + 1 = j := ⟨_, rfl⟩
              rw [hj0] at c3 c4 ⊢
              have hij : i < j := by omega
              have hjw : (j : Int) ≤ (W.length : Int) := by omega
              have H6 : Hid (goA ⟨12, o :: S, r⟩ (W.drop i) i = goA ⟨1, ⟨o.k, o.e, o.t, o.nms, o.ks, y⟩ :: S, r⟩ (W.drop j) j) := H5.out.trans c4
              have CN := HN.out j hij c3 (⟨o.k, o.e, o.t, o.nms, o.ks, y⟩ :: S) r wz (HFA.out _ BZ.out) (by show S.length + 1 ≤ 32; rw [HK.out]; omega)
              rw [show ((⟨o.k, o.e, o.t, o.nms, o.ks, y⟩ :: S : List ON).length) = K from HK.out] at CN
              clear c1 c2 c3 c4 hj0 H5
              go_wp2_with fail
              refine CN.mono ?_
              rintro ef wn ⟨k, e, t, x2, n2, c2, nxt, code, opn, rfl, b3, hres⟩
              clear CN
              unfold stV
              have hGz := z1.out.lt
              have HB3 : Hid (Below wz.heap.size wz wn) := b3
              have n1 : Hid (St wn G (stC 0 false ⟨#[]⟩ (.slice none 0 0) 0 0 0)) := z1.out.bel b3
              have BN : Hid (Below G w wn) := BZ.out.trans (b3.mono (by omega))
              have bB : Below wn.heap.size wn (wn.alloc (.cells (stC k e t (.slice x2 n2 c2) nxt code opn).toArray 122)) := (Below.refl _ _).alloc (Nat.le_refl _) _
              have s2 : Hid (St (wn.alloc (.cells (stC k e t (.slice x2 n2 c2) nxt code opn).toArray 122)) wn.heap.size (stC k e t (.slice x2 n2 c2) nxt code opn)) := St.new wn _ _
              have p0 : Hid (St (wn.alloc (.cells (stC k e t (.slice x2 n2 c2) nxt code opn).toArray 122)) G (stC 0 false ⟨#[]⟩ (.slice none 0 0) 0 0 0)) := n1.out.bel bB
              have pB0 : Hid (Below G w (wn.alloc (.cells (stC k e t (.slice x2 n2 c2) nxt code opn).toArray 122))) := BN.out.trans (bB.mono (by have := n1.out.lt; omega))
              have hBb : Hid (Below wn.heap.size wn (wn.alloc (.cells (stC k e t (.slice x2 n2 c2) nxt code opn).toArray 122))) := bB
              have hGn : Hid (G < wn.heap.size ∧ G < wz.heap.size) := ⟨n1.out.lt, hGz⟩
              have hGne : G ≠ wn.heap.size := by have := n1.out.lt; omega
              clear b3 z1 BZ n1 BN bB hGz
              unfold stC at s2 p0 pB0 hBb
              go_upto_region 16 with fail
              obtain ⟨D, hD⟩ : ∃ D, wn.heap.size = D := ⟨_, rfl⟩
              have HD : Hid (wn.heap.size = D) := hD
              rw [hD] at s2 hGne hBb hGn ⊢
              clear hD
              generalize wn.alloc (.cells _ 122) = wb at *
              have m0 := s2.out.get 0 _ rfl
              have m1 := s2.out.get 1 _ rfl
              have m2 := s2.out.get 2 _ rfl
              have m3 := s2.out.get 3 _ rfl
              have m4 := s2.out.get 4 _ rfl
              have m5 := s2.out.get 5 _ rfl
              have m6 := s2.out.get 6 _ rfl
              rcases hres with ⟨hc, ⟨T, fr, t1, t2, t3, t4, t5, t6⟩, h7, h8⟩ | ⟨hc, hE⟩
              · subst hc
                have HT : Hid (T.k = k ∧ T.e = e ∧ T.t = t ∧ TrV wn wz.heap.size T (.slice x2 n2 c2) fr ∧ fr.Nodup) := ⟨t1, t2, t3, t4, t5⟩
                have H7 : Hid (goA ⟨12, o :: S, r⟩ (W.drop i) i = goA ⟨16, (⟨o.k, o.e, o.t, o.nms, o.ks, y⟩ : ON).kid T :: S, r⟩ (W.drop nxt) nxt) := H6.out.trans t6
                have hin2 : i < nxt := by omega
                clear t1 t2 t3 t4 t5 t6 H6
                have CW := one_call (.slice (some ⟨g', 0, none⟩) W.length cp) W wClose nxt wb (HFA.out _ pB0.out) hW (by omega)
                go_wp2_with fail
                refine CW.mono ?_
                rintro eg wc ⟨rfl, b4⟩
                clear CW m0 m1 m2 m3 m4 m5 m6
                have p1 : Hid (St wc G (stC 0 false ⟨#[]⟩ (.slice none 0 0) 0 0 0)) := p0.out.bel b4
                have p2 : Hid (St wc D (stC k e t (.slice x2 n2 c2) nxt 0 opn)) := s2.out.bel b4
                have pB : Hid (Below G w wc) := pB0.out.trans (b4.mono (by have := p0.out.lt; omega))
                have HT2 : Hid (TrV wc wz.heap.size T (.slice x2 n2 c2) fr) := TrV.same _ _ _ HT.out.2.2.2.1 (fun b hb => (b4.block b (by have := (TrV.lt _ _ _ HT.out.2.2.2.1 b hb).2; have := hBb.out.size; omega)).trans (hBb.out.block b (by have := (TrV.lt _ _ _ HT.out.2.2.2.1 b hb).2; have := HD.out; omega)))
                clear b4 p0 s2 pB0
                have HW := one_word W wClose ⟨16, (⟨o.k, o.e, o.t, o.nms, o.ks, y⟩ : ON).kid T :: S, r⟩ ⟨11, (⟨o.k, o.e, o.t, o.nms, o.ks, y⟩ : ON).kid T :: S, r⟩ nxt K (only16 _ r) HK.out h8
                obtain ⟨ny, hny⟩ : ∃ ny, (wdP W nxt [wClose]).1 = ny := ⟨_, rfl⟩
                obtain ⟨cy, hcy⟩ : ∃ cy, (wdP W nxt [wClose]).2 = cy := ⟨_, rfl⟩
                rw [hny, hcy] at HW ⊢
                have HWW : Hid ((cy = 0 ∧ ny = nxt + 1 ∧ nxt + 1 ≤ W.length ∧ goA ⟨16, (⟨o.k, o.e, o.t, o.nms, o.ks, y⟩ : ON).kid T :: S, r⟩ (W.drop nxt) nxt = goA ⟨11, (⟨o.k, o.e, o.t, o.nms, o.ks, y⟩ : ON).kid T :: S, r⟩ (W.drop (nxt + 1)) (nxt + 1)) ∨ (cy ≠ 0 ∧ Ends W ⟨16, (⟨o.k, o.e, o.t, o.nms, o.ks, y⟩ : ON).kid T :: S, r⟩ nxt ny cy K)) := HW
                clear hny hcy HW
                have m0 := p2.out.get 0 _ rfl
                have m1 := p2.out.get 1 _ rfl
                have m2 := p2.out.get 2 _ rfl
                have m3 := p2.out.get 3 _ rfl
                have v0 := p1.out.fr 0 (by show 0 < 7; decide)
                have v1 := p1.out.fr 1 (by show 1 < 7; decide)
                have v2 := p1.out.fr 2 (by show 2 < 7; decide)
                have v3 := p1.out.fr 3 (by show 3 < 7; decide)
                have v4 := p1.out.fr 4 (by show 4 < 7; decide)
                have v5 := p1.out.fr 5 (by show 5 < 7; decide)
                have v6 := p1.out.fr 6 (by show 6 < 7; decide)
                have u0 := p1.out.get 0 _ rfl
                have u1 := p1.out.get 1 _ rfl
                have u2 := p1.out.get 2 _ rfl
                have u3 := p1.out.get 3 _ rfl
                have u4 := p1.out.get 4 _ rfl
                have u5 := p1.out.get 5 _ rfl
                have u6 := p1.out.get 6 _ rfl
                go_upto_region 19 with fail
                go_region
                go_wp2
                have hst : St (set7 wc G k e t (.slice x2 n2 c2) ny cy K).drew G (stC k e t (.slice x2 n2 c2) ny cy K) := (set7_st p1.out k e t (.slice x2 n2 c2) ny cy K).drew
                have hbel : Below w.heap.size w (set7 wc G k e t (.slice x2 n2 c2) ny cy K).drew := by rw [HG.out]; exact belR_drewN (set7_below pB.out (Nat.le_refl G) k e t (.slice x2 n2 c2) ny cy K) 1
                have hoth : ∀ b, b ≠ G → (set7 wc G k e t (.slice x2 n2 c2) ny cy K).drew.heap[b]? = wc.heap[b]? := fun b hb => (drew_at _ b).trans (set7_other wc G k e t (.slice x2 n2 c2) ny cy K b hb)
                change bodyPost Try.prog _ _ _ _ (set7 wc G k e t (.slice x2 n2 c2) ny cy K).drew
                generalize (set7 wc G k e t (.slice x2 n2 c2) ny cy K).drew = wq at *
                refine ret_nstep rfl rfl rfl hst ?_
                rcases HWW.out with ⟨d1, d2, d3, d4⟩ | ⟨d1, d2⟩
                · have hh := H7.out.trans d4
                  have hTF : TrV wq w.heap.size T (.slice x2 n2 c2) fr := by
                    refine TrV.low (by have := HG.out; have := hGn.out.2; omega) _ _ _ (TrV.same _ _ _ HT2.out (fun b hb => hoth b (by have := (TrV.lt _ _ _ HT2.out b hb).1; have := hGn.out.2; omega)))
                  subst d1 d2
                  exact ⟨y, k, e, t, x2, n2, c2, nxt + 1, 0, K, rfl, hbel, Or.inl ⟨rfl, ⟨T, fr, HT.out.1, HT.out.2.1, HT.out.2.2.1, hTF, HT.out.2.2.2.2, hh⟩, by omega, d3, hys⟩⟩
                · have h2 := Ends.via H7.out d2
                  exact EnP.bad hbel d1 h2
              · have hcb : (code != 0) = true := by simp [hc]
                have H7 : Hid (Ends W ⟨12, o :: S, r⟩ i nxt code opn) := Ends.via H6.out hE
                clear hE H6
                have p1 := p0
                have pB := pB0
                have v0 := p1.out.fr 0 (by show 0 < 7; decide)
                have v1 := p1.out.fr 1 (by show 1 < 7; decide)
                have v2 := p1.out.fr 2 (by show 2 < 7; decide)
                have v3 := p1.out.fr 3 (by show 3 < 7; decide)
                have v4 := p1.out.fr 4 (by show 4 < 7; decide)
                have v5 := p1.out.fr 5 (by show 5 < 7; decide)
                have v6 := p1.out.fr 6 (by show 6 < 7; decide)
                have u0 := p1.out.get 0 _ rfl
                have u1 := p1.out.get 1 _ rfl
                have u2 := p1.out.get 2 _ rfl
                have u3 := p1.out.get 3 _ rfl
                have u4 := p1.out.get 4 _ rfl
                have u5 := p1.out.get 5 _ rfl
                have u6 := p1.out.get 6 _ rfl
                go_upto_region 17 with fail
                go_region
                go_wp2
                have hst : St (set7 wb G k e t (.slice x2 n2 c2) nxt code opn).drew G (stC k e t (.slice x2 n2 c2) nxt code opn) := (set7_st p1.out k e t (.slice x2 n2 c2) nxt code opn).drew
                have hbel : Below w.heap.size w (set7 wb G k e t (.slice x2 n2 c2) nxt code opn).drew := by rw [HG.out]; exact belR_drewN (set7_below pB.out (Nat.le_refl G) k e t (.slice x2 n2 c2) nxt code opn) 1
                change bodyPost Try.prog _ _ _ _ (set7 wb G k e t (.slice x2 n2 c2) nxt code opn).drew
                generalize (set7 wb G k e t (.slice x2 n2 c2) nxt code opn).drew = wq at *
                refine ret_nstep rfl rfl rfl hst ?_
                exact EnP.bad hbel hc H7.out
            · obtain ⟨nk, hnk⟩ : ∃ nk, (wdP W (nx + 1) [wNode]).1 = nk := ⟨_, rfl⟩
              obtain ⟨cz, hcz⟩ : ∃ cz, (wdP W (nx + 1) [wNode]).2 = cz := ⟨_, rfl⟩
              rw [hnk, hcz] at c2 ⊢
              rw [hcz] at c1
              have H6 : Hid (Ends W ⟨12, o :: S, r⟩ i nk cz K) := Ends.via H5.out c2
              have hcb : (cz != 0) = true := by simp [c1]
              clear hnk hcz c2 H5
              have y1 := z1
              have BB := BZ
              have CS := stopped_any nk cz K wz
              go_wp2_with fail
              refine CS.mono ?_
              rintro ec wc ⟨rfl, bc⟩
              have p1 : Hid (St wc G (stC 0 false ⟨#[]⟩ (.slice none 0 0) 0 0 0)) := y1.out.bel bc
              have pB : Hid (Below G w wc) := BB.out.trans (bc.mono (by have := y1.out.lt; omega))
              clear CS bc
              unfold stV
              have v0 := p1.out.fr 0 (by show 0 < 7; decide)
              have v1 := p1.out.fr 1 (by show 1 < 7; decide)
              have v2 := p1.out.fr 2 (by show 2 < 7; decide)
              have v3 := p1.out.fr 3 (by show 3 < 7; decide)
              have v4 := p1.out.fr 4 (by show 4 < 7; decide)
              have v5 := p1.out.fr 5 (by show 5 < 7; decide)
              have v6 := p1.out.fr 6 (by show 6 < 7; decide)
              have u0 := p1.out.get 0 _ rfl
              have u1 := p1.out.get 1 _ rfl
              have u2 := p1.out.get 2 _ rfl
              have u3 := p1.out.get 3 _ rfl
              have u4 := p1.out.get 4 _ rfl
              have u5 := p1.out.get 5 _ rfl
              have u6 := p1.out.get 6 _ rfl
              go_wp2
              change bodyPost Try.prog _ _ _ _ (set7 wc G 0 false ⟨#[]⟩ (.slice none 0 0) nk cz K)
              refine ret_nstep rfl rfl rfl (set7_st p1.out 0 false ⟨#[]⟩ (.slice none 0 0) nk cz K) ?_
              have hbel : Below w.heap.size w (set7 wc G 0 false ⟨#[]⟩ (.slice none 0 0) nk cz K) := by rw [HG.out]; exact set7_below pB.out (Nat.le_refl G) 0 false ⟨#[]⟩ (.slice none 0 0) nk cz K
              exact EnP.bad hbel c1 H6.out
        · have hce : ce = 0 := HCE.out.2.1 rfl rfl
          subst hce
          have H5 : Hid (goA ⟨12, o :: S, r⟩ (W.drop i) i = goA ⟨15, ⟨o.k, o.e, o.t, o.nms, o.ks, y⟩ :: S, r⟩ (W.drop (nx + 1)) (nx + 1)) := H4.out.trans (HA.out (by first | rfl | trivial))
          clear HA HB H4 HCE CM
          have CW := one_call (.slice (some ⟨g', 0, none⟩) W.length cp) W wNode (nx + 1) wd (HFA.out _ BB.out) hW (by omega)
          go_wp2_with fail
          refine CW.mono ?_
          rintro ee wz ⟨rfl, b2⟩
          clear CW
          have z1 : Hid (St wz G (stC 0 false ⟨#[]⟩ (.slice none 0 0) 0 0 0)) := y1.out.bel b2
          have BZ : Hid (Below G w wz) := BB.out.trans (b2.mono (by have := y1.out.lt; omega))
          clear b2 y1 BB
          rcases one_word W wNode ⟨15, ⟨o.k, o.e, o.t, o.nms, o.ks, y⟩ :: S, r⟩ ⟨1, ⟨o.k, o.e, o.t, o.nms, o.ks, y⟩ :: S, r⟩ (nx + 1) K (only15 _ r) HK.out hj with ⟨c1, c2, c3, c4⟩ | ⟨c1, c2⟩
          · rw [c1, c2]
            obtain ⟨j, hj0⟩ : ∃ j, nx + 1 + 1 = j := ⟨_, rfl⟩
            rw [hj0] at c3 c4 ⊢
            have hij : i < j := by omega
            have hjw : (j : Int) ≤ (W.length : Int) := by omega
            have H6 : Hid (goA ⟨12, o :: S, r⟩ (W.drop i) i = goA ⟨1, ⟨o.k, o.e, o.t, o.nms, o.ks, y⟩ :: S, r⟩ (W.drop j) j) := H5.out.trans c4
            have CN := HN.out j hij c3 (⟨o.k, o.e, o.t, o.nms, o.ks, y⟩ :: S) r wz (HFA.out _ BZ.out) (by show S.length + 1 ≤ 32; rw [HK.out]; omega)
            rw [show ((⟨o.k, o.e, o.t, o.nms, o.ks, y⟩ :: S : List ON).length) = K from HK.out] at CN
            clear c1 c2 c3 c4 hj0 H5
            go_wp2_with fail
            refine CN.mono ?_
            rintro ef wn ⟨k, e, t, x2, n2, c2, nxt, code, opn, rfl, b3, hres⟩
            clear CN
            unfold stV
            have hGz := z1.out.lt
            have HB3 : Hid (Below wz.heap.size wz wn) := b3
            have n1 : Hid (St wn G (stC 0 false ⟨#[]⟩ (.slice none 0 0) 0 0 0)) := z1.out.bel b3
            have BN : Hid (Below G w wn) := BZ.out.trans (b3.mono (by omega))
            have bB : Below wn.heap.size wn (wn.alloc (.cells (stC k e t (.slice x2 n2 c2) nxt code opn).toArray 122)) := (Below.refl _ _).alloc (Nat.le_refl _) _
            have s2 : Hid (St (wn.alloc (.cells (stC k e t (.slice x2 n2 c2) nxt code opn).toArray 122)) wn.heap.size (stC k e t (.slice x2 n2 c2) nxt code opn)) := St.new wn _ _
            have p0 : Hid (St (wn.alloc (.cells (stC k e t (.slice x2 n2 c2) nxt code opn).toArray 122)) G (stC 0 false ⟨#[]⟩ (.slice none 0 0) 0 0 0)) := n1.out.bel bB
            have pB0 : Hid (Below G w (wn.alloc (.cells (stC k e t (.slice x2 n2 c2) nxt code opn).toArray 122))) := BN.out.trans (bB.mono (by have := n1.out.lt; omega))
            have hBb : Hid (Below wn.heap.size wn (wn.alloc (.cells (stC k e t (.slice x2 n2 c2) nxt code opn).toArray 122))) := bB
            have hGn : Hid (G < wn.heap.size ∧ G < wz.heap.size) := ⟨n1.out.lt, hGz⟩
            have hGne : G ≠ wn.heap.size := by have := n1.out.lt; omega
            clear b3 z1 BZ n1 BN bB hGz
            unfold stC at s2 p0 pB0 hBb
            go_upto_region 16 with fail
            obtain ⟨D, hD⟩ : ∃ D, wn.heap.size = D := ⟨_, rfl⟩
            have HD : Hid (wn.heap.size = D) := hD
            rw [hD] at s2 hGne hBb hGn ⊢
            clear hD
            generalize wn.alloc (.cells _ 122) = wb at *
            have m0 := s2.out.get 0 _ rfl
            have m1 := s2.out.get 1 _ rfl
            have m2 := s2.out.get 2 _ rfl
            have m3 := s2.out.get 3 _ rfl
            have m4 := s2.out.get 4 _ rfl
            have m5 := s2.out.get 5 _ rfl
            have m6 := s2.out.get 6 _ rfl
            rcases hres with ⟨hc, ⟨T, fr, t1, t2, t3, t4, t5, t6⟩, h7, h8⟩ | ⟨hc, hE⟩
            · subst hc
              have HT : Hid (T.k = k ∧ T.e = e ∧ T.t = t ∧ TrV wn wz.heap.size T (.slice x2 n2 c2) fr ∧ fr.Nodup) := ⟨t1, t2, t3, t4, t5⟩
              have H7 : Hid (goA ⟨12, o :: S, r⟩ (W.drop i) i = goA ⟨16, (⟨o.k, o.e, o.t, o.nms, o.ks, y⟩ : ON).kid T :: S, r⟩ (W.drop nxt) nxt) := H6.out.trans t6
              have hin2 : i < nxt := by omega
              clear t1 t2 t3 t4 t5 t6 H6
              have CW := one_call (.slice (some ⟨g', 0, none⟩) W.length cp) W wClose nxt wb (HFA.out _ pB0.out) hW (by omega)
              go_wp2_with fail
              refine CW.mono ?_
              rintro eg wc ⟨rfl, b4⟩
              clear CW m0 m1 m2 m3 m4 m5 m6
              have p1 : Hid (St wc G (stC 0 false ⟨#[]⟩ (.slice none 0 0) 0 0 0)) := p0.out.bel b4
              have p2 : Hid (St wc D (stC k e t (.slice x2 n2 c2) nxt 0 opn)) := s2.out.bel b4
              have pB : Hid (Below G w wc) := pB0.out.trans (b4.mono (by have := p0.out.lt; omega))
              have HT2 : Hid (TrV wc wz.heap.size T (.slice x2 n2 c2) fr) := TrV.same _ _ _ HT.out.2.2.2.1 (fun b hb => (b4.block b (by have := (TrV.lt _ _ _ HT.out.2.2.2.1 b hb).2; have := hBb.out.size; omega)).trans (hBb.out.block b (by have := (TrV.lt _ _ _ HT.out.2.2.2.1 b hb).2; have := HD.out; omega)))
              clear b4 p0 s2 pB0
              have HW := one_word W wClose ⟨16, (⟨o.k, o.e, o.t, o.nms, o.ks, y⟩ : ON).kid T :: S, r⟩ ⟨11, (⟨o.k, o.e, o.t, o.nms, o.ks, y⟩ : ON).kid T :: S, r⟩ nxt K (only16 _ r) HK.out h8
              obtain ⟨ny, hny⟩ : ∃ ny, (wdP W nxt [wClose]).1 = ny := ⟨_, rfl⟩
              obtain ⟨cy, hcy⟩ : ∃ cy, (wdP W nxt [wClose]).2 = cy := ⟨_, rfl⟩
              rw [hny, hcy] at HW ⊢
              have HWW : Hid ((cy = 0 ∧ ny = nxt + 1 ∧ nxt + 1 ≤ W.length ∧ goA ⟨16, (⟨o.k, o.e, o.t, o.nms, o.ks, y⟩ : ON).kid T :: S, r⟩ (W.drop nxt) nxt = goA ⟨11, (⟨o.k, o.e, o.t, o.nms, o.ks, y⟩ : ON).kid T :: S, r⟩ (W.drop (nxt + 1)) (nxt + 1)) ∨ (cy ≠ 0 ∧ Ends W ⟨16, (⟨o.k, o.e, o.t, o.nms, o.ks, y⟩ : ON).kid T :: S, r⟩ nxt ny cy K)) := HW
              clear hny hcy HW
              have m0 := p2.out.get 0 _ rfl
              have m1 := p2.out.get 1 _ rfl
              have m2 := p2.out.get 2 _ rfl
              have m3 := p2.out.get 3 _ rfl
              have v0 := p1.out.fr 0 (by show 0 < 7; decide)
              have v1 := p1.out.fr 1 (by show 1 < 7; decide)
              have v2 := p1.out.fr 2 (by show 2 < 7; decide)
              have v3 := p1.out.fr 3 (by show 3 < 7; decide)
              have v4 := p1.out.fr 4 (by show 4 < 7; decide)
              have v5 := p1.out.fr 5 (by show 5 < 7; decide)
              have v6 := p1.out.fr 6 (by show 6 < 7; decide)
              have u0 := p1.out.get 0 _ rfl
              have u1 := p1.out.get 1 _ rfl
              have u2 := p1.out.get 2 _ rfl
              have u3 := p1.out.get 3 _ rfl
              have u4 := p1.out.get 4 _ rfl
              have u5 := p1.out.get 5 _ rfl
              have u6 := p1.out.get 6 _ rfl
              go_upto_region 19 with fail
              go_region
              go_wp2
              have hst : St (set7 wc G k e t (.slice x2 n2 c2) ny cy K).drew G (stC k e t (.slice x2 n2 c2) ny cy K) := (set7_st p1.out k e t (.slice x2 n2 c2) ny cy K).drew
              have hbel : Below w.heap.size w (set7 wc G k e t (.slice x2 n2 c2) ny cy K).drew := by rw [HG.out]; exact belR_drewN (set7_below pB.out (Nat.le_refl G) k e t (.slice x2 n2 c2) ny cy K) 1
              have hoth : ∀ b, b ≠ G → (set7 wc G k e t (.slice x2 n2 c2) ny cy K).drew.heap[b]? = wc.heap[b]? := fun b hb => (drew_at _ b).trans (set7_other wc G k e t (.slice x2 n2 c2) ny cy K b hb)
              change bodyPost Try.prog _ _ _ _ (set7 wc G k e t (.slice x2 n2 c2) ny cy K).drew
              generalize (set7 wc G k e t (.slice x2 n2 c2) ny cy K).drew = wq at *
              refine ret_nstep rfl rfl rfl hst ?_
              rcases HWW.out with ⟨d1, d2, d3, d4⟩ | ⟨d1, d2⟩
              · have hh := H7.out.trans d4
                have hTF : TrV wq w.heap.size T (.slice x2 n2 c2) fr := by
                  refine TrV.low (by have := HG.out; have := hGn.out.2; omega) _ _ _ (TrV.same _ _ _ HT2.out (fun b hb => hoth b (by have := (TrV.lt _ _ _ HT2.out b hb).1; have := hGn.out.2; omega)))
                subst d1 d2
                exact ⟨y, k, e, t, x2, n2, c2, nxt + 1, 0, K, rfl, hbel, Or.inl ⟨rfl, ⟨T, fr, HT.out.1, HT.out.2.1, HT.out.2.2.1, hTF, HT.out.2.2.2.2, hh⟩, by omega, d3, hys⟩⟩
              · have h2 := Ends.via H7.out d2
                exact EnP.bad hbel d1 h2
            · have hcb : (code != 0) = true := by simp [hc]
              have H7 : Hid (Ends W ⟨12, o :: S, r⟩ i nxt code opn) := Ends.via H6.out hE
              clear hE H6
              have p1 := p0
              have pB := pB0
              have v0 := p1.out.fr 0 (by show 0 < 7; decide)
              have v1 := p1.out.fr 1 (by show 1 < 7; decide)
              have v2 := p1.out.fr 2 (by show 2 < 7; decide)
              have v3 := p1.out.fr 3 (by show 3 < 7; decide)
              have v4 := p1.out.fr 4 (by show 4 < 7; decide)
              have v5 := p1.out.fr 5 (by show 5 < 7; decide)
              have v6 := p1.out.fr 6 (by show 6 < 7; decide)
              have u0 := p1.out.get 0 _ rfl
              have u1 := p1.out.get 1 _ rfl
              have u2 := p1.out.get 2 _ rfl
              have u3 := p1.out.get 3 _ rfl
              have u4 := p1.out.get 4 _ rfl
              have u5 := p1.out.get 5 _ rfl
              have u6 := p1.out.get 6 _ rfl
              go_upto_region 17 with fail
              go_region
              go_wp2
              have hst : St (set7 wb G k e t (.slice x2 n2 c2) nxt code opn).drew G (stC k e t (.slice x2 n2 c2) nxt code opn) := (set7_st p1.out k e t (.slice x2 n2 c2) nxt code opn).drew
              have hbel : Below w.heap.size w (set7 wb G k e t (.slice x2 n2 c2) nxt code opn).drew := by rw [HG.out]; exact belR_drewN (set7_below pB.out (Nat.le_refl G) k e t (.slice x2 n2 c2) nxt code opn) 1
              change bodyPost Try.prog _ _ _ _ (set7 wb G k e t (.slice x2 n2 c2) nxt code opn).drew
              generalize (set7 wb G k e t (.slice x2 n2 c2) nxt code opn).drew = wq at *
              refine ret_nstep rfl rfl rfl hst ?_
              exact EnP.bad hbel hc H7.out
          · obtain ⟨nk, hnk⟩ : ∃ nk, (wdP W (nx + 1) [wNode]).1 = nk := ⟨_, rfl⟩
            obtain ⟨cz, hcz⟩ : ∃ cz, (wdP W (nx + 1) [wNode]).2 = cz := ⟨_, rfl⟩
            rw [hnk, hcz] at c2 ⊢
            rw [hcz] at c1
            have H6 : Hid (Ends W ⟨12, o :: S, r⟩ i nk cz K) := Ends.via H5.out c2
            have hcb : (cz != 0) = true := by simp [c1]
            clear hnk hcz c2 H5
            have y1 := z1
            have BB := BZ
            have CS := stopped_any nk cz K wz
            go_wp2_with fail
            refine CS.mono ?_
            rintro ec wc ⟨rfl, bc⟩
            have p1 : Hid (St wc G (stC 0 false ⟨#[]⟩ (.slice none 0 0) 0 0 0)) := y1.out.bel bc
            have pB : Hid (Below G w wc) := BB.out.trans (bc.mono (by have := y1.out.lt; omega))
            clear CS bc
            unfold stV
            have v0 := p1.out.fr 0 (by show 0 < 7; decide)
            have v1 := p1.out.fr 1 (by show 1 < 7; decide)
            have v2 := p1.out.fr 2 (by show 2 < 7; decide)
            have v3 := p1.out.fr 3 (by show 3 < 7; decide)
            have v4 := p1.out.fr 4 (by show 4 < 7; decide)
            have v5 := p1.out.fr 5 (by show 5 < 7; decide)
            have v6 := p1.out.fr 6 (by show 6 < 7; decide)
            have u0 := p1.out.get 0 _ rfl
            have u1 := p1.out.get 1 _ rfl
            have u2 := p1.out.get 2 _ rfl
            have u3 := p1.out.get 3 _ rfl
            have u4 := p1.out.get 4 _ rfl
            have u5 := p1.out.get 5 _ rfl
            have u6 := p1.out.get 6 _ rfl
            go_wp2
            change bodyPost Try.prog _ _ _ _ (set7 wc G 0 false ⟨#[]⟩ (.slice none 0 0) nk cz K)
            refine ret_nstep rfl rfl rfl (set7_st p1.out 0 false ⟨#[]⟩ (.slice none 0 0) nk cz K) ?_
            have hbel : Below w.heap.size w (set7 wc G 0 false ⟨#[]⟩ (.slice none 0 0) nk cz K) := by rw [HG.out]; exact set7_below pB.out (Nat.le_refl G) 0 false ⟨#[]⟩ (.slice none 0 0) nk cz K
            exact EnP.bad hbel c1 H6.out
      · have hce : ce = ck := HCE.out.1 hkz
        subst hce
        have hkb : (ce == 0) = false := by simp [hkz]
        have hkn : (ce != 0) = true := by simp [hkz]
        have H6 : Hid (Ends W ⟨12, o :: S, r⟩ i nx ce K) := Ends.via H4.out (HB.out hkz)
        clear HA HB HCE CM
        have z1 := y1
        have BZ := BB
        have CS := stopped_any nx ce K wd
        go_wp2_with fail
        refine CS.mono ?_
        rintro ec wc ⟨rfl, bc⟩
        have p1 : Hid (St wc G (stC 0 false ⟨#[]⟩ (.slice none 0 0) 0 0 0)) := y1.out.bel bc
        have pB : Hid (Below G w wc) := BB.out.trans (bc.mono (by have := y1.out.lt; omega))
        clear CS bc
        unfold stV
        have v0 := p1.out.fr 0 (by show 0 < 7; decide)
        have v1 := p1.out.fr 1 (by show 1 < 7; decide)
        have v2 := p1.out.fr 2 (by show 2 < 7; decide)
        have v3 := p1.out.fr 3 (by show 3 < 7; decide)
        have v4 := p1.out.fr 4 (by show 4 < 7; decide)
        have v5 := p1.out.fr 5 (by show 5 < 7; decide)
        have v6 := p1.out.fr 6 (by show 6 < 7; decide)
        have u0 := p1.out.get 0 _ rfl
        have u1 := p1.out.get 1 _ rfl
        have u2 := p1.out.get 2 _ rfl
        have u3 := p1.out.get 3 _ rfl
        have u4 := p1.out.get 4 _ rfl
        have u5 := p1.out.get 5 _ rfl
        have u6 := p1.out.get 6 _ rfl
        go_wp2
        change bodyPost Try.prog _ _ _ _ (set7 wc G 0 false ⟨#[]⟩ (.slice none 0 0) nx ce K)
        refine ret_nstep rfl rfl rfl (set7_st p1.out 0 false ⟨#[]⟩ (.slice none 0 0) nx ce K) ?_
        have hbel : Below w.heap.size w (set7 wc G 0 false ⟨#[]⟩ (.slice none 0 0) nx ce K) := by rw [HG.out]; exact set7_below pB.out (Nat.le_refl G) 0 false ⟨#[]⟩ (.slice none 0 0) nx ce K
        exact EnP.bad hbel hkz H6.out
    · have hj' : W.length = nx := by omega
      have hjI : (W.length : Int) ≤ (nx : Int) := by omega
      have H5 : Hid (Ends W ⟨14, o :: S, r⟩ nx nx (-1) K) := ⟨_, goA_end (c := ⟨14, o :: S, r⟩) (by show (14 : Int) ≠ 17; decide) (List.getElem?_eq_none (by omega)), HK.out⟩
      have CS := stopped_any nx (-1) K wy
      go_wp2_with fail
      refine CS.mono ?_
      rintro ec wc ⟨rfl, bc⟩
      have p1 : Hid (St wc G (stC 0 false ⟨#[]⟩ (.slice none 0 0) 0 0 0)) := y1.out.bel bc
      have pB : Hid (Below G w wc) := BB.out.trans (bc.mono (by have := y1.out.lt; omega))
      clear CS bc
      unfold stV
      have v0 := p1.out.fr 0 (by show 0 < 7; decide)
      have v1 := p1.out.fr 1 (by show 1 < 7; decide)
      have v2 := p1.out.fr 2 (by show 2 < 7; decide)
      have v3 := p1.out.fr 3 (by show 3 < 7; decide)
      have v4 := p1.out.fr 4 (by show 4 < 7; decide)
      have v5 := p1.out.fr 5 (by show 5 < 7; decide)
      have v6 := p1.out.fr 6 (by show 6 < 7; decide)
      have u0 := p1.out.get 0 _ rfl
      have u1 := p1.out.get 1 _ rfl
      have u2 := p1.out.get 2 _ rfl
      have u3 := p1.out.get 3 _ rfl
      have u4 := p1.out.get 4 _ rfl
      have u5 := p1.out.get 5 _ rfl
      have u6 := p1.out.get 6 _ rfl
      go_wp2
      change bodyPost Try.prog _ _ _ _ (set7 wc G 0 false ⟨#[]⟩ (.slice none 0 0) nx (-1) K)
      refine ret_nstep rfl rfl rfl (set7_st p1.out 0 false ⟨#[]⟩ (.slice none 0 0) nx (-1) K) ?_
      have hbel : Below w.heap.size w (set7 wc G 0 false ⟨#[]⟩ (.slice none 0 0) nx (-1) K) := by rw [HG.out]; exact set7_below pB.out (Nat.le_refl G) 0 false ⟨#[]⟩ (.slice none 0 0) nx (-1) K
      have h2 := Ends.via H4.out H5.out
      have h3 : (-1 : Int) ≠ 0 := by decide
      exact EnP.bad hbel h3 h2
  · have H4 : Hid (Ends W ⟨12, o :: S, r⟩ i nx cd K) := q2 hcz
    have hcb : (cd != 0) = true := by simp [hcz]
    clear q1 q2
    have CS := stopped_any nx cd K wy
    go_wp2_with fail
    refine CS.mono ?_
    rintro ec wc ⟨rfl, bc⟩
    have p1 : Hid (St wc G (stC 0 false ⟨#[]⟩ (.slice none 0 0) 0 0 0)) := y1.out.bel bc
    have pB : Hid (Below G w wc) := BB.out.trans (bc.mono (by have := y1.out.lt; omega))
    clear CS bc
    unfold stV
    have v0 := p1.out.fr 0 (by show 0 < 7; decide)
    have v1 := p1.out.fr 1 (by show 1 < 7; decide)
    have v2 := p1.out.fr 2 (by show 2 < 7; decide)
    have v3 := p1.out.fr 3 (by show 3 < 7; decide)
    have v4 := p1.out.fr 4 (by show 4 < 7; decide)
    have v5 := p1.out.fr 5 (by show 5 < 7; decide)
    have v6 := p1.out.fr 6 (by show 6 < 7; decide)
    have u0 := p1.out.get 0 _ rfl
    have u1 := p1.out.get 1 _ rfl
    have u2 := p1.out.get 2 _ rfl
    have u3 := p1.out.get 3 _ rfl
    have u4 := p1.out.get 4 _ rfl
    have u5 := p1.out.get 5 _ rfl
    have u6 := p1.out.get 6 _ rfl
    go_wp2
    change bodyPost Try.prog _ _ _ _ (set7 wc G 0 false ⟨#[]⟩ (.slice none 0 0) nx cd K)
    refine ret_nstep rfl rfl rfl (set7_st p1.out 0 false ⟨#[]⟩ (.slice none 0 0) nx cd K) ?_
    have hbel : Below w.heap.size w (set7 wc G 0 false ⟨#[]⟩ (.slice none 0 0) nx cd K) := by rw [HG.out]; exact set7_below pB.out (Nat.le_refl G) 0 false ⟨#[]⟩ (.slice none 0 0) nx cd K
    exact EnP.bad hbel hcz H4.out
end Go.Proofs.Ythlioedahoiahaa
