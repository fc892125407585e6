/- The document's node, walked (own text of the verifier; made by mkxn.py). -/
import Derived.Test.YthlioedahoiahaaNxHx
namespace Go.Proofs.Ythlioedahoiahaa
open Go.RowKit

/-- A step that a callee gave is handed on. -/
theorem StP.fin {W : List ByteArray} {c c0 : PC} {S : List ON} {r : Tr} {i j : Nat} {w wz wn wq : World} {G : Nat} {k : Int} {e : Bool} {t : ByteArray} {x : Option Addr} {n cp nxt : Nat} {code : Int} {opn : Nat}
    (hres : (code = 0 ∧ (∃ T fr, T.k = k ∧ T.e = e ∧ T.t = t ∧ TrV wn wz.heap.size T (.slice x n cp) fr ∧ fr.Nodup ∧ goA c0 (W.drop j) j = goA (cls ⟨0, S, r⟩ T) (W.drop nxt) nxt) ∧ j < nxt ∧ nxt ≤ W.length) ∨ (code ≠ 0 ∧ Ends W c0 j nxt code opn))
    (hv : goA c (W.drop i) i = goA c0 (W.drop j) j) (hij : i ≤ j) (hb : Below w.heap.size w wq) (hoth : ∀ b, b ≠ G → wq.heap[b]? = wn.heap[b]?) (hG : G < wz.heap.size) (hz : w.heap.size ≤ wz.heap.size) : StP W c S r i w (.returned (stV k e t (.slice x n cp) nxt code opn)) wq := by
  rcases hres with ⟨h0, ⟨T, fr, t1, t2, t3, t4, t5, t6⟩, h7, h8⟩ | ⟨h0, hE⟩
  · subst h0
    exact ⟨k, e, t, x, n, cp, nxt, 0, opn, rfl, hb, Or.inl ⟨rfl, ⟨T, fr, t1, t2, t3, TrV.low hz _ _ _ (TrV.same _ _ _ t4 (fun b hm => hoth b (by have := (TrV.lt _ _ _ t4 b hm).1; omega))), t5, hv.trans t6⟩, by omega, h8⟩⟩
  · have h2 := Ends.via hv hE
    exact StP.bad hb h0 h2
/-- The word that opens a node. -/
theorem word1 (W : List ByteArray) (S : List ON) (r : Tr) (i : Nat) : ((wdP W i [wOpen]).2 = 0 ∧ (wdP W i [wOpen]).1 = i + 1 ∧ i + 1 ≤ W.length ∧ (S.length < 32 → goA ⟨1, S, r⟩ (W.drop i) i = goA ⟨2, ON.new :: S, r⟩ (W.drop (i + 1)) (i + 1)) ∧ (S.length = 32 → Ends W ⟨1, S, r⟩ i i 61 S.length)) ∨ ((wdP W i [wOpen]).2 ≠ 0 ∧ Ends W ⟨1, S, r⟩ i (wdP W i [wOpen]).1 (wdP W i [wOpen]).2 S.length) := by
  have hn : (1 : Int) ≠ 17 := by decide
  rw [wdP]
  cases hx : W[i]? with
  | none => exact Or.inr ⟨by show (-1 : Int) ≠ 0; decide, ⟨1, S, r⟩, goA_end (c := ⟨1, S, r⟩) hn hx, rfl⟩
  | some x =>
    dsimp only
    have hil : i < W.length := (List.getElem?_eq_some_iff.1 hx).1
    by_cases hxs : x = wOpen
    · subst hxs
      rw [if_pos rfl]
      refine Or.inl ⟨rfl, rfl, hil, fun hlt => goA_yes (c := ⟨1, S, r⟩) hn hx (acc_open hlt), fun h32 => ?_⟩
      have ha : (⟨1, S, r⟩ : PC).accept wOpen = (61, ⟨1, S, r⟩) := by
        unfold PC.accept
        rw [if_neg (show ¬ (1 : Int) = 7 by decide), if_neg (show ¬ (1 : Int) = 9 by decide), if_neg (show ¬ (1 : Int) = 14 by decide)]
        unfold PC.fixed
        rw [if_neg (show ¬ (bhP 1 wOpen).2 = false by decide +kernel), if_pos ⟨rfl, h32⟩]
      refine ⟨⟨1, S, r⟩, ?_, rfl⟩
      rw [goA_no (c := ⟨1, S, r⟩) hn hx (by rw [ha]; show (61 : Int) ≠ 0; decide), ha]
    · rw [if_neg hxs]
      have ha : (⟨1, S, r⟩ : PC).accept x = (70, ⟨1, S, r⟩) := acc_no (by show (1 : Int) ≠ 7; decide) (by show (1 : Int) ≠ 9; decide) (by show (1 : Int) ≠ 14; decide) (bh_no (· = wOpen) (fun h => bh_one x h) hxs)
      refine Or.inr ⟨by show (70 : Int) ≠ 0; decide, ⟨1, S, r⟩, ?_, rfl⟩
      rw [goA_no (c := ⟨1, S, r⟩) hn hx (by rw [ha]; show (70 : Int) ≠ 0; decide), ha]
theorem kind_no (W : List ByteArray) (S : List ON) (r : Tr) (q : Nat) (y : ByteArray) (hy : W[q]? = some y) (h1 : y ≠ wRegular) (h2 : y ≠ wSymlink) (h3 : y ≠ wDirectory) : Ends W ⟨3, S, r⟩ q q 70 S.length := by
  have ha : (⟨3, S, r⟩ : PC).accept y = (70, ⟨3, S, r⟩) := acc_no (by show (3 : Int) ≠ 7; decide) (by show (3 : Int) ≠ 9; decide) (by show (3 : Int) ≠ 14; decide) (bh_no (fun x => x = wRegular ∨ x = wSymlink ∨ x = wDirectory) (fun h => (bh_at 3 y h (by decide)).2.2.1 rfl) (fun h => by rcases h with h | h | h; exact h1 h; exact h2 h; exact h3 h))
  refine ⟨⟨3, S, r⟩, ?_, rfl⟩
  rw [goA_no (c := ⟨3, S, r⟩) (by show (3 : Int) ≠ 17; decide) hy (by rw [ha]; show (70 : Int) ≠ 0; decide), ha]
/-- What holds at the head of the loop over a directory's entries. -/
structure DrI (W : List ByteArray) (S : List ON) (r : Tr) (i : Nat) (w wr : World) (G D p : Nat) (o : ON) (v : Value) (fp : List Nat) : Prop where
  k : o.k = 3
  e : o.e = false
  t : o.t = ⟨#[]⟩
  tv : TrV wr (D + 1) o.tr v fp
  nd : fp.Nodup
  sd : St wr D [.int .i64 3, .bool false, .string ⟨#[]⟩, v]
  sg : St wr G (stC 0 false ⟨#[]⟩ (.slice none 0 0) 0 0 0)
  bl : Below G w wr
  go : goA ⟨1, S, r⟩ (W.drop i) i = goA ⟨11, o :: S, r⟩ (W.drop p) p
  ip : i < p
  pl : p ≤ W.length
  nl : o.nms.length ≤ p
  ls : (lastN o).size ≤ 1048576

/-- A kid more in the directory that is read. -/
theorem app_dir {w wb wr : World} {D G N cu : Nat} {o : ON} {xu : Option Addr} {fp fr : List Nat} {T : Tr} {u2 : Value} (s : ByteArray) (PT : TrV wb (D + 1) o.tr (.slice xu N cu) fp) (nd : fp.Nodup) (HT : TrV wb wr.heap.size T u2 fr) (fn : fr.Nodup) (hfp : ∀ b ∈ fp, b < wr.heap.size) (hD : D < wr.heap.size)
    (hsd : St wb D [.int .i64 3, .bool false, .string ⟨#[]⟩, .slice xu N cu]) (hsg : St wb G (stC 0 false ⟨#[]⟩ (.slice none 0 0) 0 0 0)) (hGD : G < D) (hbl : Below G w wb) (hN : o.nms.length = N) (hl : N ≤ 1073741824) :
    ∃ g cap w2 fp2, (Builtin.append_ #[35, 35] 35 #[.slice xu N cu, .slice (some ⟨wb.heap.size, 0, none⟩) 1 1]).run Try.prog (wb.alloc (.cells #[.string s, .int .i64 T.k, .bool T.e, .string T.t, u2] 78)) = .ok (.slice (some ⟨g, 0, none⟩) (N + 1) cap) w2 ∧
      St (w2.setCell ⟨D, 3, none⟩ (.slice (some ⟨g, 0, none⟩) (N + 1) cap)) D [.int .i64 3, .bool false, .string ⟨#[]⟩, .slice (some ⟨g, 0, none⟩) (N + 1) cap] ∧ St (w2.setCell ⟨D, 3, none⟩ (.slice (some ⟨g, 0, none⟩) (N + 1) cap)) G (stC 0 false ⟨#[]⟩ (.slice none 0 0) 0 0 0) ∧ Below G w (w2.setCell ⟨D, 3, none⟩ (.slice (some ⟨g, 0, none⟩) (N + 1) cap)) ∧
      TrV (w2.setCell ⟨D, 3, none⟩ (.slice (some ⟨g, 0, none⟩) (N + 1) cap)) (D + 1) (⟨o.k, o.e, o.t, o.nms ++ [s], o.ks ++ [T], s⟩ : ON).tr (.slice (some ⟨g, 0, none⟩) (N + 1) cap) fp2 ∧ fp2.Nodup ∧ w2.cell? ⟨D, 3, none⟩ = some (.slice xu N cu) ∧ w2.frozen? ⟨D, 3, none⟩ = false ∧ wb.heap.size ≤ (w2.setCell ⟨D, 3, none⟩ (.slice (some ⟨g, 0, none⟩) (N + 1) cap)).heap.size ∧ (∀ b, b < wb.heap.size → b ∉ fp → b ≠ D → (w2.setCell ⟨D, 3, none⟩ (.slice (some ⟨g, 0, none⟩) (N + 1) cap)).heap[b]? = wb.heap[b]?) := by
  have bB : Below wb.heap.size wb (wb.alloc (.cells #[.string s, .int .i64 T.k, .bool T.e, .string T.t, u2] 78)) := (Below.refl _ _).alloc (Nat.le_refl _) _
  have PT1 := TrV.same _ _ _ PT (fun b hb => bB.block b (TrV.lt _ _ _ PT b hb).2)
  have HT1 := TrV.same _ _ _ (TrV.low (show D + 1 ≤ wr.heap.size by omega) _ _ _ HT) (fun b hb => bB.block b (TrV.lt _ _ _ HT b hb).2)
  have hnd : (fp ++ fr).Nodup := List.nodup_append.2 ⟨nd, fn, fun a ha b hb e => by
    have := hfp a ha
    have := (TrV.lt _ _ _ HT b hb).1
    omega⟩
  have hsz : (wb.alloc (.cells #[.string s, .int .i64 T.k, .bool T.e, .string T.t, u2] 78)).heap.size = wb.heap.size + 1 := World.size_alloc _ _
  obtain ⟨g, cap, w2, hr, ⟨fp2, h1, h2, h3⟩, hg, _⟩ := TrV.app PT1 s T u2 fr HT1 hnd ⟨wb.heap.size, 0, none⟩ 1 (fun j x hj => by
    rw [Addr.add_lit, Nat.zero_add]
    match j, hj with
    | 0, hj => exact (World.cell?_alloc_new wb _ _ 0).trans hj
    | 1, hj => exact (World.cell?_alloc_new wb _ _ 1).trans hj
    | 2, hj => exact (World.cell?_alloc_new wb _ _ 2).trans hj
    | 3, hj => exact (World.cell?_alloc_new wb _ _ 3).trans hj
    | 4, hj => exact (World.cell?_alloc_new wb _ _ 4).trans hj) (by have := hsd.lt; omega) (by show o.nms.length ≤ _; omega)
  have hmem : ∀ b, some b = (Value.slice xu N cu).ownBlock → b ∈ fp := fun b e => by
      have e := e.symm
      have hp := PT
      unfold ON.tr at hp
      rw [TrV] at hp
      obtain ⟨cs, fq, _, _, rfl⟩ := hp
      unfold blkL
      rw [e]
      simp
  have hown : ∀ b, b ≤ D → some b ≠ (Value.slice xu N cu).ownBlock := fun b hb e => by
    have := (TrV.lt _ _ _ PT b (hmem b e)).1
    omega
  have hkeep : ∀ b, b ≤ D → w2.heap[b]? = wb.heap[b]? := fun b hb => (hg.block b (by have := hsd.lt; omega) (hown b hb)).trans (bB.block b (by have := hsd.lt; omega))
  have q1 : St w2 D [.int .i64 3, .bool false, .string ⟨#[]⟩, .slice xu N cu] := hsd.same (by have := hg.size; omega) (hkeep D (Nat.le_refl _))
  have q2 : St w2 G (stC 0 false ⟨#[]⟩ (.slice none 0 0) 0 0 0) := hsg.same (by have := hg.size; omega) (hkeep G (by omega))
  have q3 : Below G w w2 := hbl.trans ⟨hg.os.trans rfl, hg.tape.trans rfl, hg.output.trans rfl, by have := hg.size; omega, fun b hb => hkeep b (by omega)⟩
  have hN' : o.tr.nms.length = N := hN
  rw [hN'] at hr h1
  refine ⟨g, cap, w2, fp2, hr, (q1.set 3 _ (by show 3 < 4; decide)).cast rfl, q2.same (by rw [World.size_setCell]; exact Nat.le_refl _) (Below.heap_setCell _ _ _ G (by show G ≠ D; omega)), q3.setCell (p := ⟨D, 3, none⟩) (by show G ≤ D; omega) _, ?_, h2, q1.get 3 _ rfl, q1.fr 3 (by show 3 < 4; decide), by rw [World.size_setCell]; have := hg.size; omega, fun b h1 h2 h3 => (Below.heap_setCell _ _ _ b (by show b ≠ D; exact h3)).trans ((hg.block b (by omega) (fun e => h2 (hmem b e))).trans (bB.block b h1))⟩
  exact TrV.same _ _ _ h1 (fun b hb => Below.heap_setCell _ _ _ b (by have := (TrV.lt _ _ _ h1 b hb).1; show b ≠ D; omega))

set_option maxHeartbeats 16000000 in
set_option maxRecDepth 10000 in
theorem node_step (v : Value) (W : List ByteArray) (i : Nat) (hW : W.length ≤ 1048576) (hi : i ≤ W.length) (hsm : ∀ s ∈ W, s.size ≤ 1048576) (hN : ∀ j, i < j → j ≤ W.length → NodeC v W j) : NodeC v W i := by
  intro S r w hF hS
  have HEN : Hid (∀ (o : ON) (p : Nat) (w : World), i < p → p ≤ W.length → S.length < 32 → FR w v W → (lastN o).size ≤ 1048576 → Calls Try.prog 60 #[v, .int .i64 (p : Int), .string (lastN o), .bool (decide (o.nms.length = 0)), .int .i64 ((S.length + 1 : Nat) : Int)] w (EnP W o S r p w)) := fun o p w h1 h2 h3 h4 h5 => entry_any v W o S r p w h4 hW h2 h3 hsm h5 (fun j hj hjl => hN j (by omega) hjl)
  obtain ⟨x, cp, rfl, hX⟩ := hF
  have HF : Hid (FR w (.slice x W.length cp) W) := ⟨x, cp, rfl, hX⟩
  have HSM : Hid (∀ s ∈ W, s.size ≤ 1048576) := hsm
  obtain ⟨K, hK⟩ : ∃ K, S.length = K := ⟨_, rfl⟩
  have HK0 : Hid (S.length = K) := hK
  have HK : Hid (S.length + 1 = K + 1) := by rw [hK]; rfl
  have HW1 := word1 W S r i
  rw [hK] at HW1 hS ⊢
  clear hX hsm hN hK
  have bA : Hid (Below w.heap.size w (w.alloc (.cells (stC 0 false ⟨#[]⟩ (.slice none 0 0) 0 0 0).toArray 122))) := (Below.refl _ _).alloc (Nat.le_refl _) _
  have s1 : Hid (St (w.alloc (.cells (stC 0 false ⟨#[]⟩ (.slice none 0 0) 0 0 0).toArray 122)) w.heap.size (stC 0 false ⟨#[]⟩ (.slice none 0 0) 0 0 0)) := St.new w _ _
  unfold stC at bA s1
  go_enter Try.func42, Try.ntmps42
  go_upto_region 1 with fail
  obtain ⟨G, hG⟩ : ∃ G, w.heap.size = G := ⟨_, rfl⟩
  have HG : Hid (w.heap.size = G) := hG
  rw [hG] at bA s1 ⊢
  clear hG
  generalize w.alloc (.cells _ 122) = w1 at *
  have HFA : Hid (∀ w', Below G w w' → FR w' (.slice x W.length cp) W) := fun w' b => HF.out.below (by rw [HG.out]; exact b)
  have iI : (i : Int) ≤ (W.length : Int) := by omega
  clear HF
  have CW := one_call (.slice x W.length cp) W wOpen i w1 (HFA.out _ bA.out) hW (by omega)
  go_wp2_with fail
  refine CW.mono ?_
  rintro ea wa ⟨rfl, b2⟩
  clear CW
  have y1 : Hid (St wa G (stC 0 false ⟨#[]⟩ (.slice none 0 0) 0 0 0)) := s1.out.bel b2
  have BB : Hid (Below G w wa) := bA.out.trans (b2.mono (by have := s1.out.lt; omega))
  clear b2 s1 bA
  rcases HW1 with ⟨c1, c2, c3, c4, c5⟩ | ⟨c1, c2⟩
  · rw [c1, c2]
    have H4 : Hid (K < 32 → goA ⟨1, S, r⟩ (W.drop i) i = goA ⟨2, ON.new :: S, r⟩ (W.drop (i + 1)) (i + 1)) := c4
    have H5 : Hid (K = 32 → Ends W ⟨1, S, r⟩ i i 61 K) := c5
    clear c1 c2 c4 c5
    by_cases h32 : K = 32
    · have H6 : Hid (Ends W ⟨1, S, r⟩ i i 61 32) := by have := H5.out h32; rw [h32] at this; exact this
      clear H4 H5
      subst h32
      have CS := stopped_any i 61 32 wa
      go_wp2_with fail
      refine CS.mono ?_
      rintro ec wc ⟨rfl, bc⟩
      have p1 : Hid (St wc G (stC 0 false ⟨#[]⟩ (.slice none 0 0) 0 0 0)) := y1.out.bel bc
      have pB : Hid (Below G w wc) := BB.out.trans (bc.mono (by have := y1.out.lt; omega))
      clear CS bc
      unfold stV
      have v0 := p1.out.fr 0 (by show 0 < 7; decide)
      have v1 := p1.out.fr 1 (by show 1 < 7; decide)
      have v2 := p1.out.fr 2 (by show 2 < 7; decide)
      have v3 := p1.out.fr 3 (by show 3 < 7; decide)
      have v4 := p1.out.fr 4 (by show 4 < 7; decide)
      have v5 := p1.out.fr 5 (by show 5 < 7; decide)
      have v6 := p1.out.fr 6 (by show 6 < 7; decide)
      have u0 := p1.out.get 0 _ rfl
      have u1 := p1.out.get 1 _ rfl
      have u2 := p1.out.get 2 _ rfl
      have u3 := p1.out.get 3 _ rfl
      have u4 := p1.out.get 4 _ rfl
      have u5 := p1.out.get 5 _ rfl
      have u6 := p1.out.get 6 _ rfl
      go_wp2
      change bodyPost Try.prog _ _ _ _ (set7 wc G 0 false ⟨#[]⟩ (.slice none 0 0) (i : Int) 61 (32 : Int))
      refine ret_step rfl rfl (set7_st p1.out 0 false ⟨#[]⟩ (.slice none 0 0) (i : Int) 61 (32 : Int)) ?_
      have hb0 := set7_below pB.out (Nat.le_refl G) 0 false ⟨#[]⟩ (.slice none 0 0) (i : Int) 61 (32 : Int)
      have hbel : Below w.heap.size w (set7 wc G 0 false ⟨#[]⟩ (.slice none 0 0) (i : Int) 61 (32 : Int)) := by rw [HG.out]; exact hb0
      have h3 : (61 : Int) ≠ 0 := by decide
      have hz := StP.bad (S := S) (r := r) (k := 0) (e := false) (t := ⟨#[]⟩) (x := none) (n := 0) (c := 0) hbel h3 H6.out
      exact hz
    · have h32b : ((K : Int) == 32) = false := by simp; omega
      have hK1 : K < 32 := by omega
      have H6 : Hid (goA ⟨1, S, r⟩ (W.drop i) i = goA ⟨2, ON.new :: S, r⟩ (W.drop (i + 1)) (i + 1)) := H4.out hK1
      clear H4 H5
      have CW := one_call (.slice x W.length cp) W wType (i + 1) wa (HFA.out _ BB.out) hW (by omega)
      go_wp2_with fail
      refine CW.mono ?_
      rintro eb wy ⟨rfl, b2⟩
      clear CW
      have z1 : Hid (St wy G (stC 0 false ⟨#[]⟩ (.slice none 0 0) 0 0 0)) := y1.out.bel b2
      have BZ : Hid (Below G w wy) := BB.out.trans (b2.mono (by have := y1.out.lt; omega))
      clear b2 y1 BB
      have y1 := z1
      have BB := BZ
      clear z1 BZ
      rcases one_word W wType ⟨2, ON.new :: S, r⟩ ⟨3, ON.new :: S, r⟩ (i + 1) (K + 1) (only2 _ r) HK.out c3 with ⟨c1, c2, c3, c4⟩ | ⟨c1, c2⟩
      · rw [c1, c2]
        obtain ⟨q, hq0⟩ : ∃ q, i + 1 + 1 = q := ⟨_, rfl⟩
        rw [hq0] at c3 c4 ⊢
        have hiq : i < q := by omega
        have H3 : Hid (goA ⟨1, S, r⟩ (W.drop i) i = goA ⟨3, ON.new :: S, r⟩ (W.drop q) q) := H6.out.trans c4
        clear c1 c2 c4 H6 hq0
        by_cases hql : q < W.length
        · obtain ⟨y, hy⟩ : ∃ y, W[q]? = some y := ⟨_, List.getElem?_eq_getElem hql⟩
          have hqI : (q : Int) < (W.length : Int) := by omega
          obtain ⟨g', hg', g1', g2', -, -⟩ := (HFA.out _ BB.out).at hy
          subst hg'
          by_cases hr : y = wRegular
          · have hlit : y.toList = [114, 101, 103, 117, 108, 97, 114] := by subst hr; rw [Lib.toList_data]; rfl
            subst hr
            have HV : Hid (goA ⟨1, S, r⟩ (W.drop i) i = goA ⟨4, ⟨1, false, ⟨#[]⟩, [], [], ⟨#[]⟩⟩ :: S, r⟩ (W.drop (q + 1)) (q + 1)) := H3.out.trans (goA_yes (c := ⟨3, ON.new :: S, r⟩) (by show (3 : Int) ≠ 17; decide) hy (acc_kind (m := 4) (k := 1) (by decide +kernel) (by decide +kernel)))
            clear H3 hy
            have CF := file_any (.slice (some ⟨g', 0, none⟩) W.length cp) W S r (q + 1) wy (HFA.out _ BB.out) hW hql (by have := HK0.out; omega)
            rw [HK.out] at CF
            go_wp2_with fail
            refine CF.mono ?_
            rintro ef wn ⟨k, e, t, x2, n2, c2, nxt, code, opn, rfl, b3, hres⟩
            clear CF
            unfold stV
            have hGz : Hid (G < wy.heap.size) := y1.out.lt
            have hwz : Hid (w.heap.size ≤ wy.heap.size) := BB.out.size
            have p1 : Hid (St wn G (stC 0 false ⟨#[]⟩ (.slice none 0 0) 0 0 0)) := y1.out.bel b3
            have pB : Hid (Below G w wn) := BB.out.trans (b3.mono (by have := y1.out.lt; omega))
            clear b3 y1 BB
            have v0 := p1.out.fr 0 (by show 0 < 7; decide)
            have v1 := p1.out.fr 1 (by show 1 < 7; decide)
            have v2 := p1.out.fr 2 (by show 2 < 7; decide)
            have v3 := p1.out.fr 3 (by show 3 < 7; decide)
            have v4 := p1.out.fr 4 (by show 4 < 7; decide)
            have v5 := p1.out.fr 5 (by show 5 < 7; decide)
            have v6 := p1.out.fr 6 (by show 6 < 7; decide)
            have u0 := p1.out.get 0 _ rfl
            have u1 := p1.out.get 1 _ rfl
            have u2 := p1.out.get 2 _ rfl
            have u3 := p1.out.get 3 _ rfl
            have u4 := p1.out.get 4 _ rfl
            have u5 := p1.out.get 5 _ rfl
            have u6 := p1.out.get 6 _ rfl
            go_wp2
            have hst := set7_st p1.out k e t (.slice x2 n2 c2) nxt code opn
            have hbel : Below w.heap.size w (set7 wn G k e t (.slice x2 n2 c2) nxt code opn) := by rw [HG.out]; exact set7_below pB.out (Nat.le_refl G) k e t (.slice x2 n2 c2) nxt code opn
            have hoth : ∀ b, b ≠ G → (set7 wn G k e t (.slice x2 n2 c2) nxt code opn).heap[b]? = wn.heap[b]? := fun b hb => set7_other wn G k e t (.slice x2 n2 c2) nxt code opn b hb
            change bodyPost Try.prog _ _ _ _ (set7 wn G k e t (.slice x2 n2 c2) nxt code opn)
            generalize set7 wn G k e t (.slice x2 n2 c2) nxt code opn = wq at *
            refine ret_step rfl rfl hst ?_
            exact StP.fin hres HV.out (by omega) hbel hoth hGz.out hwz.out
          have n1 : (y.toList == [114, 101, 103, 117, 108, 97, 114]) = false := beq_eq_false_iff_ne.2 fun h => hr (ByteArray.ext (Array.toList_inj.1 (by rw [← Lib.toList_data, h]; rfl)))
          by_cases hs : y = wSymlink
          · have hlit : y.toList = [115, 121, 109, 108, 105, 110, 107] := by subst hs; rw [Lib.toList_data]; rfl
            subst hs
            have HV : Hid (goA ⟨1, S, r⟩ (W.drop i) i = goA ⟨8, ⟨2, false, ⟨#[]⟩, [], [], ⟨#[]⟩⟩ :: S, r⟩ (W.drop (q + 1)) (q + 1)) := H3.out.trans (goA_yes (c := ⟨3, ON.new :: S, r⟩) (by show (3 : Int) ≠ 17; decide) hy (acc_kind (m := 8) (k := 2) (by decide +kernel) (by decide +kernel)))
            clear H3 hy
            have CF := link_any (.slice (some ⟨g', 0, none⟩) W.length cp) W S r (q + 1) wy (HFA.out _ BB.out) hW hql (by have := HK0.out; omega) HSM.out
            rw [HK.out] at CF
            go_wp2_with fail
            refine CF.mono ?_
            rintro ef wn ⟨k, e, t, x2, n2, c2, nxt, code, opn, rfl, b3, hres⟩
            clear CF
            unfold stV
            have hGz : Hid (G < wy.heap.size) := y1.out.lt
            have hwz : Hid (w.heap.size ≤ wy.heap.size) := BB.out.size
            have p1 : Hid (St wn G (stC 0 false ⟨#[]⟩ (.slice none 0 0) 0 0 0)) := y1.out.bel b3
            have pB : Hid (Below G w wn) := BB.out.trans (b3.mono (by have := y1.out.lt; omega))
            clear b3 y1 BB
            have v0 := p1.out.fr 0 (by show 0 < 7; decide)
            have v1 := p1.out.fr 1 (by show 1 < 7; decide)
            have v2 := p1.out.fr 2 (by show 2 < 7; decide)
            have v3 := p1.out.fr 3 (by show 3 < 7; decide)
            have v4 := p1.out.fr 4 (by show 4 < 7; decide)
            have v5 := p1.out.fr 5 (by show 5 < 7; decide)
            have v6 := p1.out.fr 6 (by show 6 < 7; decide)
            have u0 := p1.out.get 0 _ rfl
            have u1 := p1.out.get 1 _ rfl
            have u2 := p1.out.get 2 _ rfl
            have u3 := p1.out.get 3 _ rfl
            have u4 := p1.out.get 4 _ rfl
            have u5 := p1.out.get 5 _ rfl
            have u6 := p1.out.get 6 _ rfl
            go_wp2
            have hst := set7_st p1.out k e t (.slice x2 n2 c2) nxt code opn
            have hbel : Below w.heap.size w (set7 wn G k e t (.slice x2 n2 c2) nxt code opn) := by rw [HG.out]; exact set7_below pB.out (Nat.le_refl G) k e t (.slice x2 n2 c2) nxt code opn
            have hoth : ∀ b, b ≠ G → (set7 wn G k e t (.slice x2 n2 c2) nxt code opn).heap[b]? = wn.heap[b]? := fun b hb => set7_other wn G k e t (.slice x2 n2 c2) nxt code opn b hb
            change bodyPost Try.prog _ _ _ _ (set7 wn G k e t (.slice x2 n2 c2) nxt code opn)
            generalize set7 wn G k e t (.slice x2 n2 c2) nxt code opn = wq at *
            refine ret_step rfl rfl hst ?_
            exact StP.fin hres HV.out (by omega) hbel hoth hGz.out hwz.out
          have n2 : (y.toList == [115, 121, 109, 108, 105, 110, 107]) = false := beq_eq_false_iff_ne.2 fun h => hs (ByteArray.ext (Array.toList_inj.1 (by rw [← Lib.toList_data, h]; rfl)))
          by_cases hd : y = wDirectory
          · have hlit : y.toList = [100, 105, 114, 101, 99, 116, 111, 114, 121] := by subst hd; rw [Lib.toList_data]; rfl
            have n3 : (y.toList != [100, 105, 114, 101, 99, 116, 111, 114, 121]) = false := by rw [hlit]; rfl
            have HV : Hid (goA ⟨1, S, r⟩ (W.drop i) i = goA ⟨11, ⟨3, false, ⟨#[]⟩, [], [], ⟨#[]⟩⟩ :: S, r⟩ (W.drop (q + 1)) (q + 1)) := by
              subst hd
              exact H3.out.trans (goA_yes (c := ⟨3, ON.new :: S, r⟩) (by show (3 : Int) ≠ 17; decide) hy (acc_kind (m := 11) (k := 3) (by decide +kernel) (by decide +kernel)))
            clear H3 hy hd hr hs
            have hzz := y1.out.lt
            have s2 : Hid (St (wy.alloc (.cells #[.int .i64 3, .bool false, .string ⟨#[]⟩, .slice none 0 0] 37)) wy.heap.size [.int .i64 3, .bool false, .string ⟨#[]⟩, .slice none 0 0]) := St.new wy _ _
            have bB : Below wy.heap.size wy (wy.alloc (.cells #[.int .i64 3, .bool false, .string ⟨#[]⟩, .slice none 0 0] 37)) := (Below.refl _ _).alloc (Nat.le_refl _) _
            have p0 : Hid (St (wy.alloc (.cells #[.int .i64 3, .bool false, .string ⟨#[]⟩, .slice none 0 0] 37)) G (stC 0 false ⟨#[]⟩ (.slice none 0 0) 0 0 0)) := y1.out.bel bB
            have pB0 : Hid (Below G w (wy.alloc (.cells #[.int .i64 3, .bool false, .string ⟨#[]⟩, .slice none 0 0] 37))) := BB.out.trans (bB.mono (by omega))
            have hGD : G < wy.heap.size := hzz
            clear bB y1 BB hzz
            go_upto_region 22 with fail
            clear g1' g2' hlit
            obtain ⟨D, hD⟩ : ∃ D, wy.heap.size = D := ⟨_, rfl⟩
            rw [hD] at s2 hGD ⊢
            clear hD n1 n2 n3
            generalize wy.alloc (.cells #[.int .i64 3, .bool false, .string ⟨#[]⟩, .slice none 0 0] 37) = wn at *
            go_loopw [9, 13] (fun pv lv wr => ∃ (p : Nat) (o : ON) (u : Value) (fp : List Nat), pv = .int .i64 (p : Int) ∧ lv = .string (lastN o) ∧ Hid (DrI W S r i w wr G D p o u fp)) (fun pv _ _ => W.length - (intOf pv).toNat)
            case atStart =>
              refine ⟨q + 1, ⟨3, false, ⟨#[]⟩, [], [], ⟨#[]⟩⟩, .slice none 0 0, [], by simp, rfl, ⟨rfl, rfl, rfl, leafV _ _ _ _ _, List.nodup_nil, s2.out, p0.out, pB0.out, HV.out, by omega, hql, Nat.zero_le _, by decide⟩⟩
            case round =>
              obtain ⟨p, o, u, fp, rfl, rfl, HD⟩ := hrel
              clear s2 p0 pB0 HV
              have hpl : p ≤ W.length := HD.out.pl
              have hip : i < p := HD.out.ip
              have hpI : (p : Int) ≤ (W.length : Int) := by omega
              obtain ⟨xu, cu, hu⟩ := HD.out.tv.shape
              have hnl := HD.out.nl
              obtain ⟨N, hN⟩ : ∃ N, o.nms.length = N := ⟨_, rfl⟩
              have HN : Hid (o.nms.length = N) := hN
              have hu' : u = .slice xu N cu := by rw [hu, ← hN]; rfl
              rw [hN] at hnl
              clear hu hN
              subst hu'
              have d0 := HD.out.sd.get 0 _ rfl
              have d1 := HD.out.sd.get 1 _ rfl
              have d2 := HD.out.sd.get 2 _ rfl
              have d3 := HD.out.sd.get 3 _ rfl
              by_cases he : W[p]? = some wEntry
              · have hplt : p < W.length := (List.getElem?_eq_some_iff.1 he).1
                have hpI2 : (p : Int) < (W.length : Int) := by omega
                obtain ⟨g2, hg2, g1', g2', -, -⟩ := (HFA.out _ HD.out.bl).at he
                obtain rfl : g2 = g' := by injection hg2 with h; injection h with h1 h2; exact h1.symm
                have HE : Hid (goA ⟨1, S, r⟩ (W.drop i) i = goA ⟨12, o :: S, r⟩ (W.drop (p + 1)) (p + 1)) := HD.out.go.trans (go_entry he)
                have hlit : wEntry.toList = [101, 110, 116, 114, 121] := by rw [Lib.toList_data]; rfl
                obtain ⟨y2, hy2⟩ : ∃ y2, wEntry = y2 := ⟨_, rfl⟩
                rw [hy2] at g2' hlit
                clear he hg2 hy2
                have CE := HEN.out o (p + 1) wr (by omega) hplt (by have := HK0.out; omega) (HFA.out _ HD.out.bl) HD.out.ls
                rw [HK.out, HN.out, show decide (N = 0) = ((N : Int) == 0) by by_cases h0 : N = 0 <;> simp [h0]] at CE
                go_upto_region 23 with fail
                clear g1' g2' hlit
                go_wp2_with fail
                refine CE.mono ?_
                rintro ef wf ⟨s, k, e, t, x2, n2, c2, nxt, code, opn, rfl, b3, hres⟩
                clear CE d0 d1 d2 d3
                unfold stV
                have hGr : Hid (G < wr.heap.size) := HD.out.sg.lt
                have hDr : Hid (D < wr.heap.size) := HD.out.sd.lt
                have HB3 : Hid (Below wr.heap.size wr wf) := b3
                have f1 : Hid (St wf G (stC 0 false ⟨#[]⟩ (.slice none 0 0) 0 0 0)) := HD.out.sg.bel b3
                have f2 : Hid (St wf D [.int .i64 3, .bool false, .string ⟨#[]⟩, .slice xu N cu]) := HD.out.sd.bel b3
                have FB : Hid (Below G w wf) := HD.out.bl.trans (b3.mono (by have := hGr.out; omega))
                have FT : Hid (TrV wf (D + 1) o.tr (.slice xu N cu) fp) := TrV.same _ _ _ HD.out.tv (fun b hb => b3.block b (TrV.lt _ _ _ HD.out.tv b hb).2)
                have bB : Below wf.heap.size wf (wf.alloc (.cells (stC k e t (.slice x2 n2 c2) nxt code opn).toArray 122)) := (Below.refl _ _).alloc (Nat.le_refl _) _
                have e2 : Hid (St (wf.alloc (.cells (stC k e t (.slice x2 n2 c2) nxt code opn).toArray 122)) wf.heap.size (stC k e t (.slice x2 n2 c2) nxt code opn)) := St.new wf _ _
                have p0 : Hid (St (wf.alloc (.cells (stC k e t (.slice x2 n2 c2) nxt code opn).toArray 122)) G (stC 0 false ⟨#[]⟩ (.slice none 0 0) 0 0 0)) := f1.out.bel bB
                have pd : Hid (St (wf.alloc (.cells (stC k e t (.slice x2 n2 c2) nxt code opn).toArray 122)) D [.int .i64 3, .bool false, .string ⟨#[]⟩, .slice xu N cu]) := f2.out.bel bB
                have pB0 : Hid (Below G w (wf.alloc (.cells (stC k e t (.slice x2 n2 c2) nxt code opn).toArray 122))) := FB.out.trans (bB.mono (by have := f1.out.lt; omega))
                have PT : Hid (TrV (wf.alloc (.cells (stC k e t (.slice x2 n2 c2) nxt code opn).toArray 122)) (D + 1) o.tr (.slice xu N cu) fp) := TrV.same _ _ _ FT.out (fun b hb => bB.block b (TrV.lt _ _ _ FT.out b hb).2)
                have hBb : Hid (Below wf.heap.size wf (wf.alloc (.cells (stC k e t (.slice x2 n2 c2) nxt code opn).toArray 122))) := bB
                have hDE : Hid (D < wf.heap.size ∧ G < wf.heap.size) := ⟨f2.out.lt, f1.out.lt⟩
                clear b3 f1 f2 FB FT bB
                unfold stC at e2 p0 pB0 pd PT hBb
                go_upto_region 24 with fail
                obtain ⟨E, hE⟩ : ∃ E, wf.heap.size = E := ⟨_, rfl⟩
                have HE1 : Hid (wf.heap.size = E) := hE
                rw [hE] at e2 hBb hDE ⊢
                clear hE
                generalize wf.alloc (.cells _ 122) = wb at *
                have m0 := e2.out.get 0 _ rfl
                have m1 := e2.out.get 1 _ rfl
                have m2 := e2.out.get 2 _ rfl
                have m3 := e2.out.get 3 _ rfl
                have m4 := e2.out.get 4 _ rfl
                have m5 := e2.out.get 5 _ rfl
                have m6 := e2.out.get 6 _ rfl
                rcases hres with ⟨hc, ⟨T, fr, t1, t2, t3, t4, t5, t6⟩, h7, h8, hs0⟩ | ⟨hc, hEn⟩
                · subst hc
                  have HT : Hid (TrV wb wr.heap.size T (.slice x2 n2 c2) fr ∧ fr.Nodup ∧ T.k = k ∧ T.e = e ∧ T.t = t) := ⟨TrV.same _ _ _ t4 (fun b hb => hBb.out.block b (by have := (TrV.lt _ _ _ t4 b hb).2; have := HE1.out; omega)), t5, t1, t2, t3⟩
                  have H7 : Hid (goA ⟨1, S, r⟩ (W.drop i) i = goA ⟨11, ⟨o.k, o.e, o.t, o.nms ++ [s], o.ks ++ [T], s⟩ :: S, r⟩ (W.drop nxt) nxt) := HE.out.trans t6
                  subst t1 t2 t3
                  clear t4 t5 t6
                  have hNl : N ≤ 1073741824 := by omega
                  obtain ⟨g3, cap, wc, fp2, hap, a1, a2, a3, a4, a5, a6, a7, a9, a8⟩ := app_dir s PT.out HD.out.nd HT.out.1 HT.out.2.1 (fun b hb => (TrV.lt _ _ _ HD.out.tv b hb).2) hDr.out pd.out p0.out hGD pB0.out HN.out hNl
                  have HA : Hid (St (wc.setCell ⟨D, 3, none⟩ (.slice (some ⟨g3, 0, none⟩) (N + 1) cap)) D [.int .i64 3, .bool false, .string ⟨#[]⟩, .slice (some ⟨g3, 0, none⟩) (N + 1) cap] ∧ St (wc.setCell ⟨D, 3, none⟩ (.slice (some ⟨g3, 0, none⟩) (N + 1) cap)) G (stC 0 false ⟨#[]⟩ (.slice none 0 0) 0 0 0) ∧ Below G w (wc.setCell ⟨D, 3, none⟩ (.slice (some ⟨g3, 0, none⟩) (N + 1) cap)) ∧ TrV (wc.setCell ⟨D, 3, none⟩ (.slice (some ⟨g3, 0, none⟩) (N + 1) cap)) (D + 1) (⟨o.k, o.e, o.t, o.nms ++ [s], o.ks ++ [T], s⟩ : ON).tr (.slice (some ⟨g3, 0, none⟩) (N + 1) cap) fp2 ∧ fp2.Nodup) := ⟨a1, a2, a3, a4, a5⟩
                  have hDne : D ≠ E := by have := hDE.out.1; omega
                  have hE4 := (e2.out.same (w' := wc.setCell ⟨D, 3, none⟩ (.slice (some ⟨g3, 0, none⟩) (N + 1) cap)) a9 (a8 E e2.out.lt (fun hm => by have := (TrV.lt _ _ _ HD.out.tv E hm).2; have := HE1.out; have := HB3.out.size; omega) (fun h => hDne h.symm))).get 4 _ rfl
                  have hEl : E < wb.heap.size := e2.out.lt
                  clear a8 a9
                  have l0 := pd.out.get 3 _ rfl
                  have l1 := pd.out.fr 3 (by show 3 < 4; decide)
                  have hss : s.size ≤ 1048576 := hs0
                  clear a1 a2 a3 a4 a5
                  go_wp2_with (first | (refine wpList_app_is (by rfl) 35 35 (.tmp 115) (.tmp 120) (by rfl) _ _ _ _ (by rfl) (by rfl) hap ?_))
                  go_roundw
                  case rel =>
                    refine ⟨nxt, rfl, ⟨o.k, o.e, o.t, o.nms ++ [s], o.ks ++ [T], s⟩, ?_, _, fp2, ⟨HD.out.k, HD.out.e, HD.out.t, HA.out.2.2.2.1, HA.out.2.2.2.2, HA.out.1, HA.out.2.1, HA.out.2.2.1, H7.out, by omega, h8, ?_, ?_⟩⟩
                    · unfold lastN; simp
                    · show (o.nms ++ [s]).length ≤ nxt
                      rw [List.length_append, HN.out]
                      show N + 1 ≤ nxt
                      omega
                    · unfold lastN; simpa using hss
                  case measure => simp [intOf]; omega
                · have hcb : (code != 0) = true := by simp [hc]
                  have H7 : Hid (Ends W ⟨1, S, r⟩ i nxt code opn) := Ends.via HE.out hEn
                  clear hEn HE
                  have p1 := p0
                  have pB := pB0
                  have v0 := p1.out.fr 0 (by show 0 < 7; decide)
                  have v1 := p1.out.fr 1 (by show 1 < 7; decide)
                  have v2 := p1.out.fr 2 (by show 2 < 7; decide)
                  have v3 := p1.out.fr 3 (by show 3 < 7; decide)
                  have v4 := p1.out.fr 4 (by show 4 < 7; decide)
                  have v5 := p1.out.fr 5 (by show 5 < 7; decide)
                  have v6 := p1.out.fr 6 (by show 6 < 7; decide)
                  have u0 := p1.out.get 0 _ rfl
                  have u1 := p1.out.get 1 _ rfl
                  have u2 := p1.out.get 2 _ rfl
                  have u3 := p1.out.get 3 _ rfl
                  have u4 := p1.out.get 4 _ rfl
                  have u5 := p1.out.get 5 _ rfl
                  have u6 := p1.out.get 6 _ rfl
                  go_wp2
                  have hst := set7_st p1.out k e t (.slice x2 n2 c2) nxt code opn
                  have hb0 := set7_below pB.out (Nat.le_refl G) k e t (.slice x2 n2 c2) nxt code opn
                  have hbel : Below w.heap.size w (set7 wb G k e t (.slice x2 n2 c2) nxt code opn) := by rw [HG.out]; exact hb0
                  change bodyPost Try.prog _ _ _ _ (set7 wb G k e t (.slice x2 n2 c2) nxt code opn)
                  refine ret_step rfl rfl hst ?_
                  have hz := StP.bad (S := S) (r := r) (k := k) (e := e) (t := t) (x := x2) (n := n2) (c := c2) hbel hc H7.out
                  exact hz
              · have HQ := end11 (o := o) (S := S) (r := r) he
                have HQ' : Hid (((wdP W p [wClose]).2 = 0 → goA ⟨11, o :: S, r⟩ (W.drop p) p = goA (cls ⟨11, S, r⟩ o.tr) (W.drop (p + 1)) (p + 1) ∧ (wdP W p [wClose]).1 = p + 1 ∧ p + 1 ≤ W.length) ∧ ((wdP W p [wClose]).2 ≠ 0 → Ends W ⟨11, o :: S, r⟩ p (wdP W p [wClose]).1 (wdP W p [wClose]).2 (K + 1))) := by
                  have hk := HK.out
                  rw [hk] at HQ
                  exact HQ
                clear HQ
                by_cases hplt : p < W.length
                · obtain ⟨y2, hy2⟩ : ∃ y2, W[p]? = some y2 := ⟨_, List.getElem?_eq_getElem hplt⟩
                  have hpI2 : (p : Int) < (W.length : Int) := by omega
                  obtain ⟨g2, hg2, g1', g2', -, -⟩ := (HFA.out _ HD.out.bl).at hy2
                  obtain rfl : g2 = g' := by injection hg2 with h; injection h with h1 h2; exact h1.symm
                  have hyn : y2 ≠ wEntry := fun e => he (by rw [hy2, e])
                  have n1 : (y2.toList == [101, 110, 116, 114, 121]) = false := beq_eq_false_iff_ne.2 fun h => hyn (ByteArray.ext (Array.toList_inj.1 (by rw [← Lib.toList_data, h]; rfl)))
                  clear hyn hy2 he hg2
                  go_upto_region 29 with fail
                  clear g1' g2' n1 hpI2
                  have CW := one_call (.slice (some ⟨g2, 0, none⟩) W.length cp) W wClose p wr (HFA.out _ HD.out.bl) hW (by omega)
                  go_wp2_with fail
                  refine CW.mono ?_
                  rintro eg wc ⟨rfl, b4⟩
                  clear CW d0 d1 d2 d3
                  have hGr : Hid (G < wr.heap.size) := HD.out.sg.lt
                  have p1 : Hid (St wc G (stC 0 false ⟨#[]⟩ (.slice none 0 0) 0 0 0)) := HD.out.sg.bel b4
                  have p2 : Hid (St wc D [.int .i64 3, .bool false, .string ⟨#[]⟩, .slice xu N cu]) := HD.out.sd.bel b4
                  have pB : Hid (Below G w wc) := HD.out.bl.trans (b4.mono (by have := hGr.out; omega))
                  have PT : Hid (TrV wc (D + 1) o.tr (.slice xu N cu) fp) := TrV.same _ _ _ HD.out.tv (fun b hb => b4.block b (TrV.lt _ _ _ HD.out.tv b hb).2)
                  clear b4
                  obtain ⟨ny, hny⟩ : ∃ ny, (wdP W p [wClose]).1 = ny := ⟨_, rfl⟩
                  obtain ⟨cy, hcy⟩ : ∃ cy, (wdP W p [wClose]).2 = cy := ⟨_, rfl⟩
                  rw [hny, hcy] at HQ' ⊢
                  clear hny hcy
                  have m0 := p2.out.get 0 _ rfl
                  have m1 := p2.out.get 1 _ rfl
                  have m2 := p2.out.get 2 _ rfl
                  have m3 := p2.out.get 3 _ rfl
                  have v0 := p1.out.fr 0 (by show 0 < 7; decide)
                  have v1 := p1.out.fr 1 (by show 1 < 7; decide)
                  have v2 := p1.out.fr 2 (by show 2 < 7; decide)
                  have v3 := p1.out.fr 3 (by show 3 < 7; decide)
                  have v4 := p1.out.fr 4 (by show 4 < 7; decide)
                  have v5 := p1.out.fr 5 (by show 5 < 7; decide)
                  have v6 := p1.out.fr 6 (by show 6 < 7; decide)
                  have u0 := p1.out.get 0 _ rfl
                  have u1 := p1.out.get 1 _ rfl
                  have u2 := p1.out.get 2 _ rfl
                  have u3 := p1.out.get 3 _ rfl
                  have u4 := p1.out.get 4 _ rfl
                  have u5 := p1.out.get 5 _ rfl
                  have u6 := p1.out.get 6 _ rfl
                  go_wp2
                  have hst := set7_st p1.out 3 false ⟨#[]⟩ (.slice xu N cu) (ny : Int) cy ((K + 1 : Nat) : Int)
                  have hb0 := set7_below pB.out (Nat.le_refl G) 3 false ⟨#[]⟩ (.slice xu N cu) (ny : Int) cy ((K + 1 : Nat) : Int)
                  have hbel : Below w.heap.size w (set7 wc G 3 false ⟨#[]⟩ (.slice xu N cu) (ny : Int) cy ((K + 1 : Nat) : Int)) := by rw [HG.out]; exact hb0
                  have hoth : ∀ b, b ≠ G → (set7 wc G 3 false ⟨#[]⟩ (.slice xu N cu) (ny : Int) cy ((K + 1 : Nat) : Int)).heap[b]? = wc.heap[b]? := fun b hb => set7_other wc G 3 false ⟨#[]⟩ (.slice xu N cu) (ny : Int) cy ((K + 1 : Nat) : Int) b hb
                  change bodyPost Try.prog _ _ _ _ (set7 wc G 3 false ⟨#[]⟩ (.slice xu N cu) (ny : Int) cy ((K + 1 : Nat) : Int))
                  generalize set7 wc G 3 false ⟨#[]⟩ (.slice xu N cu) (ny : Int) cy ((K + 1 : Nat) : Int) = wq at *
                  refine ret_step rfl rfl hst ?_
                  by_cases hcz : cy = 0
                  · obtain ⟨e1, e2, e3⟩ := HQ'.out.1 hcz
                    have hTF : TrV wq w.heap.size o.tr (.slice xu N cu) fp := TrV.low (by have := HG.out; omega) _ _ _ (TrV.same _ _ _ PT.out (fun b hb => hoth b (by have := (TrV.lt _ _ _ PT.out b hb).1; omega)))
                    have hgo : goA ⟨1, S, r⟩ (W.drop i) i = goA (cls ⟨0, S, r⟩ o.tr) (W.drop (p + 1)) (p + 1) := HD.out.go.trans e1
                    subst hcz e2
                    exact ⟨3, false, ⟨#[]⟩, xu, N, cu, p + 1, 0, K + 1, rfl, hbel, Or.inl ⟨rfl, ⟨o.tr, fp, HD.out.k, HD.out.e, HD.out.t, hTF, HD.out.nd, hgo⟩, by omega, e3⟩⟩
                  · have h2 := Ends.via HD.out.go (HQ'.out.2 hcz)
                    have hz := StP.bad (S := S) (r := r) (k := 3) (e := false) (t := ⟨#[]⟩) (x := xu) (n := N) (c := cu) hbel hcz h2
                    exact hz
                · have hpI2 : ¬ ((p : Int) < (W.length : Int)) := by omega
                  clear he
                  have CW := one_call (.slice (some ⟨g', 0, none⟩) W.length cp) W wClose p wr (HFA.out _ HD.out.bl) hW (by omega)
                  go_wp2_with fail
                  refine CW.mono ?_
                  rintro eg wc ⟨rfl, b4⟩
                  clear CW d0 d1 d2 d3
                  have hGr : Hid (G < wr.heap.size) := HD.out.sg.lt
                  have p1 : Hid (St wc G (stC 0 false ⟨#[]⟩ (.slice none 0 0) 0 0 0)) := HD.out.sg.bel b4
                  have p2 : Hid (St wc D [.int .i64 3, .bool false, .string ⟨#[]⟩, .slice xu N cu]) := HD.out.sd.bel b4
                  have pB : Hid (Below G w wc) := HD.out.bl.trans (b4.mono (by have := hGr.out; omega))
                  have PT : Hid (TrV wc (D + 1) o.tr (.slice xu N cu) fp) := TrV.same _ _ _ HD.out.tv (fun b hb => b4.block b (TrV.lt _ _ _ HD.out.tv b hb).2)
                  clear b4
                  obtain ⟨ny, hny⟩ : ∃ ny, (wdP W p [wClose]).1 = ny := ⟨_, rfl⟩
                  obtain ⟨cy, hcy⟩ : ∃ cy, (wdP W p [wClose]).2 = cy := ⟨_, rfl⟩
                  rw [hny, hcy] at HQ' ⊢
                  clear hny hcy
                  have m0 := p2.out.get 0 _ rfl
                  have m1 := p2.out.get 1 _ rfl
                  have m2 := p2.out.get 2 _ rfl
                  have m3 := p2.out.get 3 _ rfl
                  have v0 := p1.out.fr 0 (by show 0 < 7; decide)
                  have v1 := p1.out.fr 1 (by show 1 < 7; decide)
                  have v2 := p1.out.fr 2 (by show 2 < 7; decide)
                  have v3 := p1.out.fr 3 (by show 3 < 7; decide)
                  have v4 := p1.out.fr 4 (by show 4 < 7; decide)
                  have v5 := p1.out.fr 5 (by show 5 < 7; decide)
                  have v6 := p1.out.fr 6 (by show 6 < 7; decide)
                  have u0 := p1.out.get 0 _ rfl
                  have u1 := p1.out.get 1 _ rfl
                  have u2 := p1.out.get 2 _ rfl
                  have u3 := p1.out.get 3 _ rfl
                  have u4 := p1.out.get 4 _ rfl
                  have u5 := p1.out.get 5 _ rfl
                  have u6 := p1.out.get 6 _ rfl
                  go_wp2
                  have hst := set7_st p1.out 3 false ⟨#[]⟩ (.slice xu N cu) (ny : Int) cy ((K + 1 : Nat) : Int)
                  have hb0 := set7_below pB.out (Nat.le_refl G) 3 false ⟨#[]⟩ (.slice xu N cu) (ny : Int) cy ((K + 1 : Nat) : Int)
                  have hbel : Below w.heap.size w (set7 wc G 3 false ⟨#[]⟩ (.slice xu N cu) (ny : Int) cy ((K + 1 : Nat) : Int)) := by rw [HG.out]; exact hb0
                  have hoth : ∀ b, b ≠ G → (set7 wc G 3 false ⟨#[]⟩ (.slice xu N cu) (ny : Int) cy ((K + 1 : Nat) : Int)).heap[b]? = wc.heap[b]? := fun b hb => set7_other wc G 3 false ⟨#[]⟩ (.slice xu N cu) (ny : Int) cy ((K + 1 : Nat) : Int) b hb
                  change bodyPost Try.prog _ _ _ _ (set7 wc G 3 false ⟨#[]⟩ (.slice xu N cu) (ny : Int) cy ((K + 1 : Nat) : Int))
                  generalize set7 wc G 3 false ⟨#[]⟩ (.slice xu N cu) (ny : Int) cy ((K + 1 : Nat) : Int) = wq at *
                  refine ret_step rfl rfl hst ?_
                  by_cases hcz : cy = 0
                  · obtain ⟨e1, e2, e3⟩ := HQ'.out.1 hcz
                    have hTF : TrV wq w.heap.size o.tr (.slice xu N cu) fp := TrV.low (by have := HG.out; omega) _ _ _ (TrV.same _ _ _ PT.out (fun b hb => hoth b (by have := (TrV.lt _ _ _ PT.out b hb).1; omega)))
                    have hgo : goA ⟨1, S, r⟩ (W.drop i) i = goA (cls ⟨0, S, r⟩ o.tr) (W.drop (p + 1)) (p + 1) := HD.out.go.trans e1
                    subst hcz e2
                    exact ⟨3, false, ⟨#[]⟩, xu, N, cu, p + 1, 0, K + 1, rfl, hbel, Or.inl ⟨rfl, ⟨o.tr, fp, HD.out.k, HD.out.e, HD.out.t, hTF, HD.out.nd, hgo⟩, by omega, e3⟩⟩
                  · have h2 := Ends.via HD.out.go (HQ'.out.2 hcz)
                    have hz := StP.bad (S := S) (r := r) (k := 3) (e := false) (t := ⟨#[]⟩) (x := xu) (n := N) (c := cu) hbel hcz h2
                    exact hz
          · have n3 : (y.toList == [100, 105, 114, 101, 99, 116, 111, 114, 121]) = false := beq_eq_false_iff_ne.2 fun h => hd (ByteArray.ext (Array.toList_inj.1 (by rw [← Lib.toList_data, h]; rfl)))
            have n4 : (y.toList != [100, 105, 114, 101, 99, 116, 111, 114, 121]) = true := by simp [bne, n3]
            have n5 : y.toList ≠ [100, 105, 114, 101, 99, 116, 111, 114, 121] := by intro h; rw [h] at n3; simp at n3
            have H6 : Hid (Ends W ⟨1, S, r⟩ i q 70 (K + 1)) := by
              have := kind_no W (ON.new :: S) r q y hy hr hs hd
              rw [show (ON.new :: S).length = K + 1 from HK.out] at this
              exact Ends.via H3.out this
            clear H3 hy hr hs hd
            go_upto_region 18 with fail
            clear g1' g2'
            have CS := stopped_any q 70 ((K : Int) + 1) wy
            go_wp2_with fail
            refine CS.mono ?_
            rintro ec wc ⟨rfl, bc⟩
            have p1 : Hid (St wc G (stC 0 false ⟨#[]⟩ (.slice none 0 0) 0 0 0)) := y1.out.bel bc
            have pB : Hid (Below G w wc) := BB.out.trans (bc.mono (by have := y1.out.lt; omega))
            clear CS bc
            unfold stV
            have v0 := p1.out.fr 0 (by show 0 < 7; decide)
            have v1 := p1.out.fr 1 (by show 1 < 7; decide)
            have v2 := p1.out.fr 2 (by show 2 < 7; decide)
            have v3 := p1.out.fr 3 (by show 3 < 7; decide)
            have v4 := p1.out.fr 4 (by show 4 < 7; decide)
            have v5 := p1.out.fr 5 (by show 5 < 7; decide)
            have v6 := p1.out.fr 6 (by show 6 < 7; decide)
            have u0 := p1.out.get 0 _ rfl
            have u1 := p1.out.get 1 _ rfl
            have u2 := p1.out.get 2 _ rfl
            have u3 := p1.out.get 3 _ rfl
            have u4 := p1.out.get 4 _ rfl
            have u5 := p1.out.get 5 _ rfl
            have u6 := p1.out.get 6 _ rfl
            go_wp2
            change bodyPost Try.prog _ _ _ _ (set7 wc G 0 false ⟨#[]⟩ (.slice none 0 0) (q : Int) 70 ((K + 1 : Nat) : Int))
            refine ret_step rfl rfl (set7_st p1.out 0 false ⟨#[]⟩ (.slice none 0 0) (q : Int) 70 ((K + 1 : Nat) : Int)) ?_
            have hb0 := set7_below pB.out (Nat.le_refl G) 0 false ⟨#[]⟩ (.slice none 0 0) (q : Int) 70 ((K + 1 : Nat) : Int)
            have hbel : Below w.heap.size w (set7 wc G 0 false ⟨#[]⟩ (.slice none 0 0) (q : Int) 70 ((K + 1 : Nat) : Int)) := by rw [HG.out]; exact hb0
            have h3 : (70 : Int) ≠ 0 := by decide
            exact StP.bad hbel h3 H6.out
        · have hqI : (W.length : Int) ≤ (q : Int) := by omega
          have hqe : q = W.length := by omega
          have H6 : Hid (Ends W ⟨1, S, r⟩ i q (-1) (K + 1)) := Ends.via H3.out ⟨⟨3, ON.new :: S, r⟩, goA_end (c := ⟨3, ON.new :: S, r⟩) (by show (3 : Int) ≠ 17; decide) (List.getElem?_eq_none (by omega)), HK.out⟩
          clear H3 hqe
          have CS := stopped_any q (-1) ((K : Int) + 1) wy
          go_wp2_with fail
          refine CS.mono ?_
          rintro ec wc ⟨rfl, bc⟩
          have p1 : Hid (St wc G (stC 0 false ⟨#[]⟩ (.slice none 0 0) 0 0 0)) := y1.out.bel bc
          have pB : Hid (Below G w wc) := BB.out.trans (bc.mono (by have := y1.out.lt; omega))
          clear CS bc
          unfold stV
          have v0 := p1.out.fr 0 (by show 0 < 7; decide)
          have v1 := p1.out.fr 1 (by show 1 < 7; decide)
          have v2 := p1.out.fr 2 (by show 2 < 7; decide)
          have v3 := p1.out.fr 3 (by show 3 < 7; decide)
          have v4 := p1.out.fr 4 (by show 4 < 7; decide)
          have v5 := p1.out.fr 5 (by show 5 < 7; decide)
          have v6 := p1.out.fr 6 (by show 6 < 7; decide)
          have u0 := p1.out.get 0 _ rfl
          have u1 := p1.out.get 1 _ rfl
          have u2 := p1.out.get 2 _ rfl
          have u3 := p1.out.get 3 _ rfl
          have u4 := p1.out.get 4 _ rfl
          have u5 := p1.out.get 5 _ rfl
          have u6 := p1.out.get 6 _ rfl
          go_wp2
          change bodyPost Try.prog _ _ _ _ (set7 wc G 0 false ⟨#[]⟩ (.slice none 0 0) (q : Int) (-1) ((K + 1 : Nat) : Int))
          refine ret_step rfl rfl (set7_st p1.out 0 false ⟨#[]⟩ (.slice none 0 0) (q : Int) (-1) ((K + 1 : Nat) : Int)) ?_
          have hb0 := set7_below pB.out (Nat.le_refl G) 0 false ⟨#[]⟩ (.slice none 0 0) (q : Int) (-1) ((K + 1 : Nat) : Int)
          have hbel : Below w.heap.size w (set7 wc G 0 false ⟨#[]⟩ (.slice none 0 0) (q : Int) (-1) ((K + 1 : Nat) : Int)) := by rw [HG.out]; exact hb0
          have h3 : (-1 : Int) ≠ 0 := by decide
          exact StP.bad hbel h3 H6.out
      · obtain ⟨nx, hnx⟩ : ∃ nx, (wdP W (i + 1) [wType]).1 = nx := ⟨_, rfl⟩
        obtain ⟨cd, hcd⟩ : ∃ cd, (wdP W (i + 1) [wType]).2 = cd := ⟨_, rfl⟩
        rw [hnx, hcd] at c2 ⊢
        rw [hcd] at c1
        have H7 : Hid (Ends W ⟨1, S, r⟩ i nx cd (K + 1)) := Ends.via H6.out c2
        have hcb : (cd != 0) = true := by simp [c1]
        clear hnx hcd c2 H6
        have CS := stopped_any nx cd ((K : Int) + 1) wy
        go_wp2_with fail
        refine CS.mono ?_
        rintro ec wc ⟨rfl, bc⟩
        have p1 : Hid (St wc G (stC 0 false ⟨#[]⟩ (.slice none 0 0) 0 0 0)) := y1.out.bel bc
        have pB : Hid (Below G w wc) := BB.out.trans (bc.mono (by have := y1.out.lt; omega))
        clear CS bc
        unfold stV
        have v0 := p1.out.fr 0 (by show 0 < 7; decide)
        have v1 := p1.out.fr 1 (by show 1 < 7; decide)
        have v2 := p1.out.fr 2 (by show 2 < 7; decide)
        have v3 := p1.out.fr 3 (by show 3 < 7; decide)
        have v4 := p1.out.fr 4 (by show 4 < 7; decide)
        have v5 := p1.out.fr 5 (by show 5 < 7; decide)
        have v6 := p1.out.fr 6 (by show 6 < 7; decide)
        have u0 := p1.out.get 0 _ rfl
        have u1 := p1.out.get 1 _ rfl
        have u2 := p1.out.get 2 _ rfl
        have u3 := p1.out.get 3 _ rfl
        have u4 := p1.out.get 4 _ rfl
        have u5 := p1.out.get 5 _ rfl
        have u6 := p1.out.get 6 _ rfl
        go_wp2
        change bodyPost Try.prog _ _ _ _ (set7 wc G 0 false ⟨#[]⟩ (.slice none 0 0) (nx : Int) cd ((K + 1 : Nat) : Int))
        refine ret_step rfl rfl (set7_st p1.out 0 false ⟨#[]⟩ (.slice none 0 0) (nx : Int) cd ((K + 1 : Nat) : Int)) ?_
        have hb0 := set7_below pB.out (Nat.le_refl G) 0 false ⟨#[]⟩ (.slice none 0 0) (nx : Int) cd ((K + 1 : Nat) : Int)
        have hbel : Below w.heap.size w (set7 wc G 0 false ⟨#[]⟩ (.slice none 0 0) (nx : Int) cd ((K + 1 : Nat) : Int)) := by rw [HG.out]; exact hb0
        exact StP.bad hbel c1 H7.out
  · obtain ⟨nx, hnx⟩ : ∃ nx, (wdP W i [wOpen]).1 = nx := ⟨_, rfl⟩
    obtain ⟨cd, hcd⟩ : ∃ cd, (wdP W i [wOpen]).2 = cd := ⟨_, rfl⟩
    rw [hnx, hcd] at c2 ⊢
    rw [hcd] at c1
    have H4 : Hid (Ends W ⟨1, S, r⟩ i nx cd K) := c2
    have hcb : (cd != 0) = true := by simp [c1]
    clear hnx hcd c2
    have CS := stopped_any nx cd K wa
    go_wp2_with fail
    refine CS.mono ?_
    rintro ec wc ⟨rfl, bc⟩
    have p1 : Hid (St wc G (stC 0 false ⟨#[]⟩ (.slice none 0 0) 0 0 0)) := y1.out.bel bc
    have pB : Hid (Below G w wc) := BB.out.trans (bc.mono (by have := y1.out.lt; omega))
    clear CS bc
    unfold stV
    have v0 := p1.out.fr 0 (by show 0 < 7; decide)
    have v1 := p1.out.fr 1 (by show 1 < 7; decide)
    have v2 := p1.out.fr 2 (by show 2 < 7; decide)
    have v3 := p1.out.fr 3 (by show 3 < 7; decide)
    have v4 := p1.out.fr 4 (by show 4 < 7; decide)
    have v5 := p1.out.fr 5 (by show 5 < 7; decide)
    have v6 := p1.out.fr 6 (by show 6 < 7; decide)
    have u0 := p1.out.get 0 _ rfl
    have u1 := p1.out.get 1 _ rfl
    have u2 := p1.out.get 2 _ rfl
    have u3 := p1.out.get 3 _ rfl
    have u4 := p1.out.get 4 _ rfl
    have u5 := p1.out.get 5 _ rfl
    have u6 := p1.out.get 6 _ rfl
    go_wp2
    change bodyPost Try.prog _ _ _ _ (set7 wc G 0 false ⟨#[]⟩ (.slice none 0 0) (nx : Int) cd K)
    refine ret_step rfl rfl (set7_st p1.out 0 false ⟨#[]⟩ (.slice none 0 0) (nx : Int) cd K) ?_
    have hb0 := set7_below pB.out (Nat.le_refl G) 0 false ⟨#[]⟩ (.slice none 0 0) (nx : Int) cd K
    have hbel : Below w.heap.size w (set7 wc G 0 false ⟨#[]⟩ (.slice none 0 0) (nx : Int) cd K) := by rw [HG.out]; exact hb0
    exact StP.bad hbel c1 H4.out
end Go.Proofs.Ythlioedahoiahaa
