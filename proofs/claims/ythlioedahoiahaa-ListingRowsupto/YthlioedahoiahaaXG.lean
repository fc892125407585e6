/- NxF NxG, gathered (own text of the verifier). -/
import Derived.Test.YthlioedahoiahaaXQ
namespace Go.Proofs.Ythlioedahoiahaa
open Go.RowKit

/-- What a step of the document's comes to. -/
def StP (W : List ByteArray) (c0 : PC) (S : List ON) (r : Tr) (i : Nat) (w : World) (en : Ending) (w' : World) : Prop :=
  ∃ (k : Int) (e : Bool) (t : ByteArray) (x : Option Addr) (n c nxt : Nat) (code : Int) (opn : Nat), en = .returned (stV k e t (.slice x n c) nxt code opn) ∧ Below w.heap.size w w' ∧
    ((code = 0 ∧ (∃ T fr, T.k = k ∧ T.e = e ∧ T.t = t ∧ TrV w' w.heap.size T (.slice x n c) fr ∧ fr.Nodup ∧ goA c0 (W.drop i) i = goA (cls ⟨0, S, r⟩ T) (W.drop nxt) nxt) ∧ i < nxt ∧ nxt ≤ W.length) ∨ (code ≠ 0 ∧ Ends W c0 i nxt code opn))
theorem StP.bad {W : List ByteArray} {c0 : PC} {S : List ON} {r : Tr} {i : Nat} {w w' : World} {k : Int} {e : Bool} {t : ByteArray} {x : Option Addr} {n c nxt : Nat} {code : Int} {opn : Nat} (b : Below w.heap.size w w') (h0 : code ≠ 0) (h : Ends W c0 i nxt code opn) : StP W c0 S r i w (.returned (stV k e t (.slice x n c) nxt code opn)) w' :=
  ⟨k, e, t, x, n, c, nxt, code, opn, rfl, b, Or.inr ⟨h0, h⟩⟩
theorem leafV (w : World) (B : Nat) (k : Int) (e : Bool) (t : ByteArray) : TrV w B (.mk k e t [] []) (.slice none 0 0) [] := by
  rw [TrV]
  exact ⟨[], [], ⟨by decide, Or.inl ⟨rfl, rfl⟩⟩, by rw [KidV]; exact ⟨rfl, rfl⟩, rfl⟩
theorem StP.leaf {W : List ByteArray} {c0 : PC} {S : List ON} {r : Tr} {i : Nat} {w w' : World} {k : Int} {e : Bool} {t : ByteArray} {nxt opn : Nat} (b : Below w.heap.size w w') (h : goA c0 (W.drop i) i = goA (cls ⟨0, S, r⟩ (.mk k e t [] [])) (W.drop nxt) nxt) (h1 : i < nxt) (h2 : nxt ≤ W.length) : StP W c0 S r i w (.returned (stV k e t (.slice none 0 0) nxt 0 opn)) w' :=
  ⟨k, e, t, none, 0, 0, nxt, 0, opn, rfl, b, Or.inl ⟨rfl, ⟨.mk k e t [] [], [], rfl, rfl, rfl, leafV w' _ k e t, List.nodup_nil, h⟩, h1, h2⟩⟩
theorem Ends.via {W : List ByteArray} {c d : PC} {i j nxt : Nat} {code : Int} {k : Nat} (h : goA c (W.drop i) i = goA d (W.drop j) j) (e : Ends W d j nxt code k) : Ends W c i nxt code k := by
  obtain ⟨f, h1, h2⟩ := e
  exact ⟨f, h.trans h1, h2⟩
/-- One word, as wdP has it. -/
theorem one_word (W : List ByteArray) (s : ByteArray) (c d : PC) (i k : Nat) (hO : Only c s d) (hk : c.op.length = k) (hi : i ≤ W.length) : ((wdP W i [s]).2 = 0 ∧ (wdP W i [s]).1 = i + 1 ∧ i + 1 ≤ W.length ∧ goA c (W.drop i) i = goA d (W.drop (i + 1)) (i + 1)) ∨ ((wdP W i [s]).2 ≠ 0 ∧ Ends W c i (wdP W i [s]).1 (wdP W i [s]).2 k) := by
  obtain ⟨h1, h2, _⟩ := wdP_go W k [s] c d i ⟨d, hO, hk, rfl⟩ hi
  by_cases h : (wdP W i [s]).2 = 0
  · obtain ⟨q1, q2, q3⟩ := h1 h
    have q2' : (wdP W i [s]).1 = i + 1 := q2
    rw [q2'] at q1 q3
    exact Or.inl ⟨h, q2', q3, q1⟩
  · exact Or.inr ⟨h, h2 h⟩
/-- Behind a file's kind: contents, where executable does not stand. -/
theorem word4 (W : List ByteArray) (o : ON) (S : List ON) (r : Tr) (i : Nat) (he : W[i]? ≠ some wExec) : ((wdP W i [wContents]).2 = 0 ∧ (wdP W i [wContents]).1 = i + 1 ∧ i + 1 ≤ W.length ∧ goA ⟨4, o :: S, r⟩ (W.drop i) i = goA ⟨7, o :: S, r⟩ (W.drop (i + 1)) (i + 1)) ∨ ((wdP W i [wContents]).2 ≠ 0 ∧ Ends W ⟨4, o :: S, r⟩ i (wdP W i [wContents]).1 (wdP W i [wContents]).2 (S.length + 1)) := by
  have hn : (4 : Int) ≠ 17 := by decide
  rw [wdP]
  cases hx : W[i]? with
  | none => exact Or.inr ⟨by show (-1 : Int) ≠ 0; decide, ⟨4, o :: S, r⟩, goA_end (c := ⟨4, o :: S, r⟩) hn hx, rfl⟩
  | some x =>
    dsimp only
    have hil : i < W.length := (List.getElem?_eq_some_iff.1 hx).1
    by_cases hxs : x = wContents
    · subst hxs
      rw [if_pos rfl]
      exact Or.inl ⟨rfl, rfl, hil, goA_yes (c := ⟨4, o :: S, r⟩) hn hx (acc_on (by decide +kernel) (by decide) (by decide) (by decide) (by decide) (by decide) (by decide +kernel) (by decide))⟩
    · rw [if_neg hxs]
      have hxe : x ≠ wExec := fun e => he (by rw [hx, e])
      have ha : (⟨4, o :: S, r⟩ : PC).accept x = (70, ⟨4, o :: S, r⟩) := acc_no (by show (4 : Int) ≠ 7; decide) (by show (4 : Int) ≠ 9; decide) (by show (4 : Int) ≠ 14; decide) (bh_no (fun x => x = wExec ∨ x = wContents) (fun h => (bh_at 4 x h (by decide)).2.2.2.1 rfl) (fun h => h.elim hxe hxs))
      refine Or.inr ⟨by show (70 : Int) ≠ 0; decide, ⟨4, o :: S, r⟩, ?_, rfl⟩
      rw [goA_no (c := ⟨4, o :: S, r⟩) hn hx (by rw [ha]; show (70 : Int) ≠ 0; decide), ha]
theorem only10f (e : Bool) (t : ByteArray) (S : List ON) (r : Tr) : Only ⟨10, ⟨1, e, t, [], [], ⟨#[]⟩⟩ :: S, r⟩ wClose (cls ⟨0, S, r⟩ (.mk 1 e t [] [])) := by
  have := only10 ⟨1, e, t, [], [], ⟨#[]⟩⟩ S r
  exact this
theorem only10l (t : ByteArray) (S : List ON) (r : Tr) : Only ⟨10, ⟨2, false, t, [], [], ⟨#[]⟩⟩ :: S, r⟩ wClose (cls ⟨0, S, r⟩ (.mk 2 false t [] [])) := by
  have := only10 ⟨2, false, t, [], [], ⟨#[]⟩⟩ S r
  exact this
/-- What one word comes to, at the walk: where it is, or the refusal; and what is known of both. -/
theorem one_call (v : Value) (W : List ByteArray) (s : ByteArray) (i : Nat) (w : World) (hF : FR w v W) (hW : W.length ≤ 1048576) (hi : i ≤ 1048576) :
    Calls Try.prog 40 #[v, .int .i64 (i : Int), .slice (some ⟨w.heap.size, 0, none⟩) 1 1] (w.alloc (.cells #[.string s] 9)) fun e w' => e = .returned (.tuple #[.int .i64 ((wdP W i [s]).1 : Int), .int .i64 (wdP W i [s]).2]) ∧ Below w.heap.size w w' := by
  have bA : Below w.heap.size w (w.alloc (.cells #[.string s] 9)) := (Below.refl _ _).alloc (Nat.le_refl _) _
  refine (rwords_any v W [s] i w.heap.size (w.alloc (.cells #[.string s] 9)) (hF.below bA) (WL.new w [s] 9) hW hi (by show 1 ≤ 8; decide)).mono ?_
  rintro e w' ⟨h1, h2⟩
  exact ⟨h1, bA.trans (h2.mono bA.size)⟩
theorem FR.at {w : World} {x : Option Addr} {cp : Nat} {W : List ByteArray} (h : FR w (.slice x W.length cp) W) {i : Nat} {s : ByteArray} (hi : W[i]? = some s) : ∃ g, x = some ⟨g, 0, none⟩ ∧ g < w.heap.size ∧ w.cell? ⟨g, i * 3, none⟩ = some (.string s) ∧ w.cell? ⟨g, i * 3 + 1, none⟩ = some (.int .i64 (fwS (W.take i) : Int)) ∧ w.cell? ⟨g, i * 3 + 2, none⟩ = some (.int .i64 (fwS (W.take (i + 1)) : Int)) := by
  obtain ⟨x', c', e', h'⟩ := h
  injection e' with e1 e2 e3
  subst e1
  exact h' i s hi
theorem St.bel {w w' : World} {g : Nat} {L : List Value} (h : St w g L) (b : Below w.heap.size w w') : St w' g L := h.same b.size (b.block g h.lt)
/-- The cells of seven. -/
def set7 (W : World) (G : Nat) (k : Int) (e : Bool) (t : ByteArray) (v : Value) (a b c : Int) : World := ((((((W.setCell ⟨G, 0, none⟩ (.int .i64 k)).setCell ⟨G, 1, none⟩ (.bool e)).setCell ⟨G, 2, none⟩ (.string t)).setCell ⟨G, 3, none⟩ v).setCell ⟨G, 4, none⟩ (.int .i64 a)).setCell ⟨G, 5, none⟩ (.int .i64 b)).setCell ⟨G, 6, none⟩ (.int .i64 c)
theorem set7_size (W : World) (G : Nat) (k : Int) (e : Bool) (t : ByteArray) (v : Value) (a b c : Int) : (set7 W G k e t v a b c).heap.size = W.heap.size := by unfold set7; simp only [World.size_setCell]
theorem set7_other (W : World) (G : Nat) (k : Int) (e : Bool) (t : ByteArray) (v : Value) (a b c : Int) (j : Nat) (h : j ≠ G) : (set7 W G k e t v a b c).heap[j]? = W.heap[j]? := by
  unfold set7
  iterate 7 rw [Below.heap_setCell _ _ _ j (by show j ≠ G; exact h)]
theorem set7_below {W : World} {w : World} {B G : Nat} (hB : Below B w W) (hG : B ≤ G) (k : Int) (e : Bool) (t : ByteArray) (v : Value) (a b c : Int) : Below B w (set7 W G k e t v a b c) := by
  unfold set7
  exact ((((((hB.setCell (p := ⟨G, 0, none⟩) hG _).setCell (p := ⟨G, 1, none⟩) hG _).setCell (p := ⟨G, 2, none⟩) hG _).setCell (p := ⟨G, 3, none⟩) hG _).setCell (p := ⟨G, 4, none⟩) hG _).setCell (p := ⟨G, 5, none⟩) hG _).setCell (p := ⟨G, 6, none⟩) hG _
theorem set7_st {W : World} {G : Nat} {k0 : Int} {e0 : Bool} {t0 : ByteArray} {v0 : Value} {a0 b0 c0 : Int} (h : St W G (stC k0 e0 t0 v0 a0 b0 c0)) (k : Int) (e : Bool) (t : ByteArray) (v : Value) (a b c : Int) : St (set7 W G k e t v a b c) G (stC k e t v a b c) := by
  unfold set7
  exact (((((((h.set 0 (.int .i64 k) (by show 0 < 7; decide)).set 1 (.bool e) (by show 1 < 7; decide)).set 2 (.string t) (by show 2 < 7; decide)).set 3 v (by show 3 < 7; decide)).set 4 (.int .i64 a) (by show 4 < 7; decide)).set 5 (.int .i64 b) (by show 5 < 7; decide)).set 6 (.int .i64 c) (by show 6 < 7; decide)).cast rfl

set_option maxHeartbeats 16000000 in
set_option maxRecDepth 10000 in
theorem file_any (v : Value) (W : List ByteArray) (S : List ON) (r : Tr) (i : Nat) (w : World) (hF : FR w v W) (hW : W.length ≤ 1048576) (hi : i ≤ W.length) (hS : S.length < 32) :
    Calls Try.prog 58 #[v, .int .i64 (i : Int), .int .i64 ((S.length + 1 : Nat) : Int)] w (StP W ⟨4, ⟨1, false, ⟨#[]⟩, [], [], ⟨#[]⟩⟩ :: S, r⟩ S r i w) := by
  obtain ⟨K, hK⟩ : ∃ K, S.length + 1 = K := ⟨_, rfl⟩
  have HK : Hid (S.length + 1 = K) := hK
  rw [hK]
  have hK33 : K ≤ 33 := by omega
  clear hK hS
  obtain ⟨x, cp, rfl, hX⟩ := hF
  have HF : Hid (FR w (.slice x W.length cp) W) := ⟨x, cp, rfl, hX⟩
  clear hX
  have bA : Hid (Below w.heap.size w ((w.alloc (.cells (stC 0 false ⟨#[]⟩ (.slice none 0 0) 0 0 0).toArray 122)).alloc (.cells #[.int .i64 1, .bool false, .string ⟨#[]⟩, .slice none 0 0] 37))) := ((Below.refl _ _).alloc (Nat.le_refl _) _).alloc (by rw [World.size_alloc]; omega) _
  have s1 : Hid (St ((w.alloc (.cells (stC 0 false ⟨#[]⟩ (.slice none 0 0) 0 0 0).toArray 122)).alloc (.cells #[.int .i64 1, .bool false, .string ⟨#[]⟩, .slice none 0 0] 37)) w.heap.size (stC 0 false ⟨#[]⟩ (.slice none 0 0) 0 0 0)) := (St.new w _ _).same (by simp only [World.size_alloc]; omega) (Below.heap_alloc _ _ _ (by rw [World.size_alloc]; omega))
  have s2 : Hid (St ((w.alloc (.cells (stC 0 false ⟨#[]⟩ (.slice none 0 0) 0 0 0).toArray 122)).alloc (.cells #[.int .i64 1, .bool false, .string ⟨#[]⟩, .slice none 0 0] 37)) (w.heap.size + 1) [.int .i64 1, .bool false, .string ⟨#[]⟩, .slice none 0 0]) := by
    have := St.new (w.alloc (.cells (stC 0 false ⟨#[]⟩ (.slice none 0 0) 0 0 0).toArray 122)) #[.int .i64 1, .bool false, .string ⟨#[]⟩, .slice none 0 0] 37
    rw [World.size_alloc] at this
    exact this
  unfold stC at bA s1 s2
  go_enter Try.func58, Try.ntmps58
  go_upto_region 2 with fail
  obtain ⟨G, hG⟩ : ∃ G, w.heap.size = G := ⟨_, rfl⟩
  have HG : Hid (w.heap.size = G) := hG
  rw [hG] at bA s1 s2 ⊢
  clear hG
  generalize (w.alloc (.cells _ 122)).alloc (.cells #[.int .i64 1, .bool false, .string ⟨#[]⟩, .slice none 0 0] 37) = w1 at *
  have HFA : Hid (∀ w', Below G w w' → FR w' (.slice x W.length cp) W) := fun w' b => HF.out.below (by rw [HG.out]; exact b)
  have iI : (i : Int) ≤ (W.length : Int) := by omega
  by_cases hex : W[i]? = some wExec
  · have hil : i < W.length := (List.getElem?_eq_some_iff.1 hex).1
    have hiI : (i : Int) < (W.length : Int) := by omega
    obtain ⟨g, hg, g1, g2, -, -⟩ := (HFA.out _ bA.out).at hex
    subst hg
    have hlit : wExec.toList = [101, 120, 101, 99, 117, 116, 97, 98, 108, 101] := by rw [Lib.toList_data]; rfl
    have HE : Hid (goA ⟨4, ⟨1, false, ⟨#[]⟩, [], [], ⟨#[]⟩⟩ :: S, r⟩ (W.drop i) i = goA ⟨5, ⟨1, true, ⟨#[]⟩, [], [], ⟨#[]⟩⟩ :: S, r⟩ (W.drop (i + 1)) (i + 1)) := goA_yes (c := ⟨4, ⟨1, false, ⟨#[]⟩, [], [], ⟨#[]⟩⟩ :: S, r⟩) (by show (4 : Int) ≠ 17; decide) hex acc_exec
    have z1 := s1
    have z2 := s2
    have HBz := bA
    have hW1 : i + 1 ≤ W.length := hil
    obtain ⟨y, hy⟩ : ∃ y, wExec = y := ⟨_, rfl⟩
    rw [hy] at g2 hlit
    clear s1 s2 bA HF hy hex
    go_upto_region 3 with fail
    clear g1 g2 hlit
    have CW := one_call (.slice (some ⟨g, 0, none⟩) W.length cp) W wNone (i + 1) w1 (HFA.out _ HBz.out) hW (by omega)
    go_wp2_with fail
    refine CW.mono ?_
    rintro ez wy ⟨rfl, b2⟩
    clear CW
    have y1 : Hid (St wy G (stC 0 false ⟨#[]⟩ (.slice none 0 0) 0 0 0)) := z1.out.bel b2
    have y2 : Hid (St wy (G + 1) [.int .i64 1, .bool false, .string ⟨#[]⟩, .slice none 0 0]) := z2.out.bel b2
    have BB : Hid (Below G w wy) := HBz.out.trans (b2.mono (by have := z1.out.lt; omega))
    clear b2 z1 z2 HBz
    have HO := one_word W wNone ⟨5, ⟨1, true, ⟨#[]⟩, [], [], ⟨#[]⟩⟩ :: S, r⟩ _ (i + 1) K (only5 _ r) HK.out hW1
    rcases HO with ⟨c1, c2, c3, c4⟩ | ⟨c1, c2⟩
    · rw [c1, c2]
      obtain ⟨j, hj0⟩ : ∃ j, i + 1 + 1 = j := ⟨_, rfl⟩
      rw [hj0] at c3 c4 ⊢
      have HJ : Hid (i < j ∧ j ≤ W.length) := ⟨by omega, c3⟩
      have HC : Hid (((wdP W j [wContents]).2 = 0 ∧ (wdP W j [wContents]).1 = j + 1 ∧ j + 1 ≤ W.length ∧ goA ⟨4, ⟨1, false, ⟨#[]⟩, [], [], ⟨#[]⟩⟩ :: S, r⟩ (W.drop i) i = goA ⟨7, ⟨1, true, ⟨#[]⟩, [], [], ⟨#[]⟩⟩ :: S, r⟩ (W.drop (j + 1)) (j + 1)) ∨ ((wdP W j [wContents]).2 ≠ 0 ∧ Ends W ⟨4, ⟨1, false, ⟨#[]⟩, [], [], ⟨#[]⟩⟩ :: S, r⟩ i (wdP W j [wContents]).1 (wdP W j [wContents]).2 K)) := by
        have h6 := HE.out.trans c4
        rcases one_word W wContents ⟨6, ⟨1, true, ⟨#[]⟩, [], [], ⟨#[]⟩⟩ :: S, r⟩ _ j K (only6 _ r) HK.out c3 with ⟨d1, d2, d3, d4⟩ | ⟨d1, d2⟩
        · exact Or.inl ⟨d1, d2, d3, h6.trans d4⟩
        · exact Or.inr ⟨d1, Ends.via h6 d2⟩
      clear c1 c2 c3 c4 hj0 HE
      have n2 := y2.out.fr 1 (by show 1 < 4; decide)
      have n3 := y2.out.get 1 _ rfl
      have hne := y2.out.lt
      have HSy : Hid (St (wy.setCell ⟨G + 1, 1, none⟩ (.bool true)) G (stC 0 false ⟨#[]⟩ (.slice none 0 0) 0 0 0) ∧ St (wy.setCell ⟨G + 1, 1, none⟩ (.bool true)) (G + 1) [.int .i64 1, .bool true, .string ⟨#[]⟩, .slice none 0 0] ∧ Below G w (wy.setCell ⟨G + 1, 1, none⟩ (.bool true))) := by
        refine ⟨y1.out.same (by rw [World.size_setCell]; exact Nat.le_refl _) (Below.heap_setCell _ _ _ G (by show G ≠ G + 1; omega)), (y2.out.set 1 (.bool true) (by show 1 < 4; decide)).cast rfl, BB.out.setCell (p := ⟨G + 1, 1, none⟩) (by show G ≤ G + 1; omega) _⟩
      clear y1 y2 BB
      go_upto_region 8 with fail
      clear n2 n3 hne
      generalize wy.setCell ⟨G + 1, 1, none⟩ (.bool true) = w2 at *
      have z1 : Hid (St w2 G (stC 0 false ⟨#[]⟩ (.slice none 0 0) 0 0 0)) := HSy.out.1
      have z2 : Hid (St w2 (G + 1) [.int .i64 1, .bool true, .string ⟨#[]⟩, .slice none 0 0]) := HSy.out.2.1
      have HBz : Hid (Below G w w2) := HSy.out.2.2
      have hjl := HJ.out.2
      have hij := HJ.out.1
      clear HSy
      have CW := one_call (.slice (some ⟨g, 0, none⟩) W.length cp) W wContents j w2 (HFA.out _ HBz.out) hW (by omega)
      go_wp2_with fail
      refine CW.mono ?_
      rintro ea wy ⟨rfl, b2⟩
      clear CW
      have y1 : Hid (St wy G (stC 0 false ⟨#[]⟩ (.slice none 0 0) 0 0 0)) := z1.out.bel b2
      have y2 : Hid (St wy (G + 1) [.int .i64 1, .bool true, .string ⟨#[]⟩, .slice none 0 0]) := z2.out.bel b2
      have BB : Hid (Below G w wy) := HBz.out.trans (b2.mono (by have := z1.out.lt; omega))
      clear b2 z1 z2 HBz
      rcases HC.out with ⟨c1, c2, c3, c4⟩ | ⟨c1, c2⟩
      · rw [c1, c2]
        have H4 : Hid (goA ⟨4, ⟨1, false, ⟨#[]⟩, [], [], ⟨#[]⟩⟩ :: S, r⟩ (W.drop i) i = goA ⟨7, ⟨1, true, ⟨#[]⟩, [], [], ⟨#[]⟩⟩ :: S, r⟩ (W.drop (j + 1)) (j + 1)) := c4
        clear c1 c2 c4 HC
        by_cases hj : j + 1 < W.length
        · obtain ⟨y, hy⟩ : ∃ y, W[j + 1]? = some y := ⟨_, List.getElem?_eq_getElem hj⟩
          have H5 : Hid (goA ⟨7, ⟨1, true, ⟨#[]⟩, [], [], ⟨#[]⟩⟩ :: S, r⟩ (W.drop (j + 1)) (j + 1) = goA ⟨10, ⟨1, true, y, [], [], ⟨#[]⟩⟩ :: S, r⟩ (W.drop (j + 1 + 1)) (j + 1 + 1)) := goA_yes (c := ⟨7, ⟨1, true, ⟨#[]⟩, [], [], ⟨#[]⟩⟩ :: S, r⟩) (by show (7 : Int) ≠ 17; decide) hy (acc_text y)
          have HQ : Hid (((wdP W (j + 1 + 1) [wClose]).2 = 0 ∧ (wdP W (j + 1 + 1) [wClose]).1 = j + 1 + 1 + 1 ∧ j + 1 + 1 + 1 ≤ W.length ∧ goA ⟨10, ⟨1, true, y, [], [], ⟨#[]⟩⟩ :: S, r⟩ (W.drop (j + 1 + 1)) (j + 1 + 1) = goA (cls ⟨0, S, r⟩ (.mk 1 true y [] [])) (W.drop (j + 1 + 1 + 1)) (j + 1 + 1 + 1)) ∨ ((wdP W (j + 1 + 1) [wClose]).2 ≠ 0 ∧ Ends W ⟨10, ⟨1, true, y, [], [], ⟨#[]⟩⟩ :: S, r⟩ (j + 1 + 1) (wdP W (j + 1 + 1) [wClose]).1 (wdP W (j + 1 + 1) [wClose]).2 K)) := one_word W wClose _ _ (j + 1 + 1) K (only10f true y S r) HK.out (by omega)
          obtain ⟨g', hg', g1', g2', -, -⟩ := (HFA.out _ BB.out).at hy
          obtain rfl : g' = g := by injection hg' with h; injection h with h1 h2; exact h1.symm
          have hjI : (j : Int) + 1 < (W.length : Int) := by omega
          have n2 := y2.out.fr 2 (by show 2 < 4; decide)
          have n3 := y2.out.get 2 _ rfl
          have hne := y2.out.lt
          have HSy : Hid (St (wy.setCell ⟨G + 1, 2, none⟩ (.string y)) G (stC 0 false ⟨#[]⟩ (.slice none 0 0) 0 0 0) ∧ St (wy.setCell ⟨G + 1, 2, none⟩ (.string y)) (G + 1) [.int .i64 1, .bool true, .string y, .slice none 0 0] ∧ Below G w (wy.setCell ⟨G + 1, 2, none⟩ (.string y))) := by
            refine ⟨y1.out.same (by rw [World.size_setCell]; exact Nat.le_refl _) (Below.heap_setCell _ _ _ G (by show G ≠ G + 1; omega)), (y2.out.set 2 (.string y) (by show 2 < 4; decide)).cast rfl, BB.out.setCell (p := ⟨G + 1, 2, none⟩) (by show G ≤ G + 1; omega) _⟩
          clear y1 y2 BB
          go_upto_region 14 with fail
          clear n2 n3
          generalize wy.setCell ⟨G + 1, 2, none⟩ (.string y) = wu at *
          have CW := one_call (.slice (some ⟨g', 0, none⟩) W.length cp) W wClose (j + 1 + 1) wu (HFA.out _ HSy.out.2.2) hW (by omega)
          go_wp2_with fail
          refine CW.mono ?_
          rintro eb wc ⟨rfl, b3⟩
          clear CW
          have p1 : Hid (St wc G (stC 0 false ⟨#[]⟩ (.slice none 0 0) 0 0 0)) := HSy.out.1.bel b3
          have p2 := HSy.out.2.1.bel b3
          have pB : Hid (Below G w wc) := HSy.out.2.2.trans (b3.mono (by have := HSy.out.1.lt; omega))
          clear b3 HSy
          obtain ⟨nx, hnx⟩ : ∃ nx, (wdP W (j + 1 + 1) [wClose]).1 = nx := ⟨_, rfl⟩
          obtain ⟨cd, hcd⟩ : ∃ cd, (wdP W (j + 1 + 1) [wClose]).2 = cd := ⟨_, rfl⟩
          rw [hnx, hcd] at HQ ⊢
          clear hnx hcd
          have m0 := p2.get 0 _ rfl
          have m1 := p2.get 1 _ rfl
          have m2 := p2.get 2 _ rfl
          have m3 := p2.get 3 _ rfl
          have v0 := p1.out.fr 0 (by show 0 < 7; decide)
          have v1 := p1.out.fr 1 (by show 1 < 7; decide)
          have v2 := p1.out.fr 2 (by show 2 < 7; decide)
          have v3 := p1.out.fr 3 (by show 3 < 7; decide)
          have v4 := p1.out.fr 4 (by show 4 < 7; decide)
          have v5 := p1.out.fr 5 (by show 5 < 7; decide)
          have v6 := p1.out.fr 6 (by show 6 < 7; decide)
          have u0 := p1.out.get 0 _ rfl
          have u1 := p1.out.get 1 _ rfl
          have u2 := p1.out.get 2 _ rfl
          have u3 := p1.out.get 3 _ rfl
          have u4 := p1.out.get 4 _ rfl
          have u5 := p1.out.get 5 _ rfl
          have u6 := p1.out.get 6 _ rfl
          clear p2
          go_wp2
          change bodyPost Try.prog _ _ _ _ (set7 wc G 1 true y (.slice none 0 0) nx cd K)
          refine ret_step rfl rfl (set7_st p1.out 1 true y (.slice none 0 0) nx cd K) ?_
          have hbel : Below w.heap.size w (set7 wc G 1 true y (.slice none 0 0) nx cd K) := by rw [HG.out]; exact set7_below pB.out (Nat.le_refl G) 1 true y (.slice none 0 0) nx cd K
          rcases HQ.out with ⟨d1, d2, d3, d4⟩ | ⟨d1, d2⟩
          · rw [d1, d2] at hbel ⊢
            have hh := H4.out.trans (H5.out.trans d4)
            have h3 : i < j + 1 + 1 + 1 := by omega
            exact StP.leaf hbel hh h3 d3
          · have hh := H4.out.trans H5.out
            have h2 := Ends.via hh d2
            exact StP.bad hbel d1 h2
        · have hj' : W.length = j + 1 := by omega
          have hjI : (W.length : Int) ≤ (j : Int) + 1 := by omega
          have H5 : Hid (Ends W ⟨7, ⟨1, true, ⟨#[]⟩, [], [], ⟨#[]⟩⟩ :: S, r⟩ (j + 1) (j + 1) (-1) K) := ⟨_, goA_end (c := ⟨7, ⟨1, true, ⟨#[]⟩, [], [], ⟨#[]⟩⟩ :: S, r⟩) (by show (7 : Int) ≠ 17; decide) (List.getElem?_eq_none (by omega)), HK.out⟩
          clear y2
          have CS := stopped_any ((j : Int) + 1) (-1) K wy
          go_wp2_with fail
          refine CS.mono ?_
          rintro ec wc ⟨rfl, bc⟩
          have p1 : Hid (St wc G (stC 0 false ⟨#[]⟩ (.slice none 0 0) 0 0 0)) := y1.out.bel bc
          have pB : Hid (Below G w wc) := BB.out.trans (bc.mono (by have := y1.out.lt; omega))
          clear CS bc
          unfold stV
          have v0 := p1.out.fr 0 (by show 0 < 7; decide)
          have v1 := p1.out.fr 1 (by show 1 < 7; decide)
          have v2 := p1.out.fr 2 (by show 2 < 7; decide)
          have v3 := p1.out.fr 3 (by show 3 < 7; decide)
          have v4 := p1.out.fr 4 (by show 4 < 7; decide)
          have v5 := p1.out.fr 5 (by show 5 < 7; decide)
          have v6 := p1.out.fr 6 (by show 6 < 7; decide)
          have u0 := p1.out.get 0 _ rfl
          have u1 := p1.out.get 1 _ rfl
          have u2 := p1.out.get 2 _ rfl
          have u3 := p1.out.get 3 _ rfl
          have u4 := p1.out.get 4 _ rfl
          have u5 := p1.out.get 5 _ rfl
          have u6 := p1.out.get 6 _ rfl
          go_wp2
          change bodyPost Try.prog _ _ _ _ (set7 wc G 0 false ⟨#[]⟩ (.slice none 0 0) ((j + 1 : Nat) : Int) (-1) K)
          refine ret_step rfl rfl (set7_st p1.out 0 false ⟨#[]⟩ (.slice none 0 0) ((j + 1 : Nat) : Int) (-1) K) ?_
          have hbel : Below w.heap.size w (set7 wc G 0 false ⟨#[]⟩ (.slice none 0 0) ((j + 1 : Nat) : Int) (-1) K) := by rw [HG.out]; exact set7_below pB.out (Nat.le_refl G) 0 false ⟨#[]⟩ (.slice none 0 0) ((j + 1 : Nat) : Int) (-1) K
          have h2 := Ends.via H4.out H5.out
          have h3 : (-1 : Int) ≠ 0 := by decide
          exact StP.bad hbel h3 h2
      · obtain ⟨nx, hnx⟩ : ∃ nx, (wdP W j [wContents]).1 = nx := ⟨_, rfl⟩
        obtain ⟨cd, hcd⟩ : ∃ cd, (wdP W j [wContents]).2 = cd := ⟨_, rfl⟩
        rw [hnx, hcd] at c2 ⊢
        rw [hcd] at c1
        have H4 : Hid (Ends W ⟨4, ⟨1, false, ⟨#[]⟩, [], [], ⟨#[]⟩⟩ :: S, r⟩ i nx cd K) := c2
        have hcb : (cd != 0) = true := by simp [c1]
        clear hnx hcd c2 HC y2
        have CS := stopped_any nx cd K wy
        go_wp2_with fail
        refine CS.mono ?_
        rintro ec wc ⟨rfl, bc⟩
        have p1 : Hid (St wc G (stC 0 false ⟨#[]⟩ (.slice none 0 0) 0 0 0)) := y1.out.bel bc
        have pB : Hid (Below G w wc) := BB.out.trans (bc.mono (by have := y1.out.lt; omega))
        clear CS bc
        unfold stV
        have v0 := p1.out.fr 0 (by show 0 < 7; decide)
        have v1 := p1.out.fr 1 (by show 1 < 7; decide)
        have v2 := p1.out.fr 2 (by show 2 < 7; decide)
        have v3 := p1.out.fr 3 (by show 3 < 7; decide)
        have v4 := p1.out.fr 4 (by show 4 < 7; decide)
        have v5 := p1.out.fr 5 (by show 5 < 7; decide)
        have v6 := p1.out.fr 6 (by show 6 < 7; decide)
        have u0 := p1.out.get 0 _ rfl
        have u1 := p1.out.get 1 _ rfl
        have u2 := p1.out.get 2 _ rfl
        have u3 := p1.out.get 3 _ rfl
        have u4 := p1.out.get 4 _ rfl
        have u5 := p1.out.get 5 _ rfl
        have u6 := p1.out.get 6 _ rfl
        go_wp2
        change bodyPost Try.prog _ _ _ _ (set7 wc G 0 false ⟨#[]⟩ (.slice none 0 0) nx cd K)
        refine ret_step rfl rfl (set7_st p1.out 0 false ⟨#[]⟩ (.slice none 0 0) nx cd K) ?_
        have hbel : Below w.heap.size w (set7 wc G 0 false ⟨#[]⟩ (.slice none 0 0) nx cd K) := by rw [HG.out]; exact set7_below pB.out (Nat.le_refl G) 0 false ⟨#[]⟩ (.slice none 0 0) nx cd K
        exact StP.bad hbel c1 H4.out
    · obtain ⟨nx, hnx⟩ : ∃ nx, (wdP W (i + 1) [wNone]).1 = nx := ⟨_, rfl⟩
      obtain ⟨cd, hcd⟩ : ∃ cd, (wdP W (i + 1) [wNone]).2 = cd := ⟨_, rfl⟩
      rw [hnx, hcd] at c2 ⊢
      rw [hcd] at c1
      have H4 : Hid (Ends W ⟨4, ⟨1, false, ⟨#[]⟩, [], [], ⟨#[]⟩⟩ :: S, r⟩ i nx cd K) := Ends.via HE.out c2
      have hcb : (cd != 0) = true := by simp [c1]
      clear hnx hcd c2 HE y2
      have CS := stopped_any nx cd K wy
      go_wp2_with fail
      refine CS.mono ?_
      rintro ec wc ⟨rfl, bc⟩
      have p1 : Hid (St wc G (stC 0 false ⟨#[]⟩ (.slice none 0 0) 0 0 0)) := y1.out.bel bc
      have pB : Hid (Below G w wc) := BB.out.trans (bc.mono (by have := y1.out.lt; omega))
      clear CS bc
      unfold stV
      have v0 := p1.out.fr 0 (by show 0 < 7; decide)
      have v1 := p1.out.fr 1 (by show 1 < 7; decide)
      have v2 := p1.out.fr 2 (by show 2 < 7; decide)
      have v3 := p1.out.fr 3 (by show 3 < 7; decide)
      have v4 := p1.out.fr 4 (by show 4 < 7; decide)
      have v5 := p1.out.fr 5 (by show 5 < 7; decide)
      have v6 := p1.out.fr 6 (by show 6 < 7; decide)
      have u0 := p1.out.get 0 _ rfl
      have u1 := p1.out.get 1 _ rfl
      have u2 := p1.out.get 2 _ rfl
      have u3 := p1.out.get 3 _ rfl
      have u4 := p1.out.get 4 _ rfl
      have u5 := p1.out.get 5 _ rfl
      have u6 := p1.out.get 6 _ rfl
      go_wp2
      change bodyPost Try.prog _ _ _ _ (set7 wc G 0 false ⟨#[]⟩ (.slice none 0 0) nx cd K)
      refine ret_step rfl rfl (set7_st p1.out 0 false ⟨#[]⟩ (.slice none 0 0) nx cd K) ?_
      have hbel : Below w.heap.size w (set7 wc G 0 false ⟨#[]⟩ (.slice none 0 0) nx cd K) := by rw [HG.out]; exact set7_below pB.out (Nat.le_refl G) 0 false ⟨#[]⟩ (.slice none 0 0) nx cd K
      exact StP.bad hbel c1 H4.out
  · have HC : Hid (((wdP W i [wContents]).2 = 0 ∧ (wdP W i [wContents]).1 = i + 1 ∧ i + 1 ≤ W.length ∧ goA ⟨4, ⟨1, false, ⟨#[]⟩, [], [], ⟨#[]⟩⟩ :: S, r⟩ (W.drop i) i = goA ⟨7, ⟨1, false, ⟨#[]⟩, [], [], ⟨#[]⟩⟩ :: S, r⟩ (W.drop (i + 1)) (i + 1)) ∨ ((wdP W i [wContents]).2 ≠ 0 ∧ Ends W ⟨4, ⟨1, false, ⟨#[]⟩, [], [], ⟨#[]⟩⟩ :: S, r⟩ i (wdP W i [wContents]).1 (wdP W i [wContents]).2 K)) := by
      have := word4 W ⟨1, false, ⟨#[]⟩, [], [], ⟨#[]⟩⟩ S r i hex
      rw [HK.out] at this
      exact this
    have z1 := s1
    have z2 := s2
    have HBz := bA
    clear s1 s2 bA HF
    by_cases hil : i < W.length
    · have hiI : (i : Int) < (W.length : Int) := by omega
      obtain ⟨y, hy⟩ : ∃ y, W[i]? = some y := ⟨_, List.getElem?_eq_getElem hil⟩
      obtain ⟨g, hg, g1, g2, -, -⟩ := (HFA.out _ HBz.out).at hy
      subst hg
      have hyn : y ≠ wExec := fun e => hex (by rw [hy, e])
      have hq := ba_beq y wExec
      have hlit : wExec.toList = [101, 120, 101, 99, 117, 116, 97, 98, 108, 101] := by rw [Lib.toList_data]; rfl
      rw [hlit] at hq
      have q1 : (y.toList == [101, 120, 101, 99, 117, 116, 97, 98, 108, 101]) = false := by rw [hq]; simp [hyn]
      clear hq hlit hyn hy hex
      go_upto_region 8 with fail
      clear g1 g2 q1
      have CW := one_call (.slice (some ⟨g, 0, none⟩) W.length cp) W wContents i w1 (HFA.out _ HBz.out) hW (by omega)
      go_wp2_with fail
      refine CW.mono ?_
      rintro ea wy ⟨rfl, b2⟩
      clear CW
      have y1 : Hid (St wy G (stC 0 false ⟨#[]⟩ (.slice none 0 0) 0 0 0)) := z1.out.bel b2
      have y2 : Hid (St wy (G + 1) [.int .i64 1, .bool false, .string ⟨#[]⟩, .slice none 0 0]) := z2.out.bel b2
      have BB : Hid (Below G w wy) := HBz.out.trans (b2.mono (by have := z1.out.lt; omega))
      clear b2 z1 z2 HBz
      rcases HC.out with ⟨c1, c2, c3, c4⟩ | ⟨c1, c2⟩
      · rw [c1, c2]
        have H4 : Hid (goA ⟨4, ⟨1, false, ⟨#[]⟩, [], [], ⟨#[]⟩⟩ :: S, r⟩ (W.drop i) i = goA ⟨7, ⟨1, false, ⟨#[]⟩, [], [], ⟨#[]⟩⟩ :: S, r⟩ (W.drop (i + 1)) (i + 1)) := c4
        clear c1 c2 c4 HC
        by_cases hj : i + 1 < W.length
        · obtain ⟨y, hy⟩ : ∃ y, W[i + 1]? = some y := ⟨_, List.getElem?_eq_getElem hj⟩
          have H5 : Hid (goA ⟨7, ⟨1, false, ⟨#[]⟩, [], [], ⟨#[]⟩⟩ :: S, r⟩ (W.drop (i + 1)) (i + 1) = goA ⟨10, ⟨1, false, y, [], [], ⟨#[]⟩⟩ :: S, r⟩ (W.drop (i + 1 + 1)) (i + 1 + 1)) := goA_yes (c := ⟨7, ⟨1, false, ⟨#[]⟩, [], [], ⟨#[]⟩⟩ :: S, r⟩) (by show (7 : Int) ≠ 17; decide) hy (acc_text y)
          have HQ : Hid (((wdP W (i + 1 + 1) [wClose]).2 = 0 ∧ (wdP W (i + 1 + 1) [wClose]).1 = i + 1 + 1 + 1 ∧ i + 1 + 1 + 1 ≤ W.length ∧ goA ⟨10, ⟨1, false, y, [], [], ⟨#[]⟩⟩ :: S, r⟩ (W.drop (i + 1 + 1)) (i + 1 + 1) = goA (cls ⟨0, S, r⟩ (.mk 1 false y [] [])) (W.drop (i + 1 + 1 + 1)) (i + 1 + 1 + 1)) ∨ ((wdP W (i + 1 + 1) [wClose]).2 ≠ 0 ∧ Ends W ⟨10, ⟨1, false, y, [], [], ⟨#[]⟩⟩ :: S, r⟩ (i + 1 + 1) (wdP W (i + 1 + 1) [wClose]).1 (wdP W (i + 1 + 1) [wClose]).2 K)) := one_word W wClose _ _ (i + 1 + 1) K (only10f false y S r) HK.out (by omega)
          obtain ⟨g', hg', g1', g2', -, -⟩ := (HFA.out _ BB.out).at hy
          obtain rfl : g' = g := by injection hg' with h; injection h with h1 h2; exact h1.symm
          have hjI : (i : Int) + 1 < (W.length : Int) := by omega
          have n2 := y2.out.fr 2 (by show 2 < 4; decide)
          have n3 := y2.out.get 2 _ rfl
          have hne := y2.out.lt
          have HSy : Hid (St (wy.setCell ⟨G + 1, 2, none⟩ (.string y)) G (stC 0 false ⟨#[]⟩ (.slice none 0 0) 0 0 0) ∧ St (wy.setCell ⟨G + 1, 2, none⟩ (.string y)) (G + 1) [.int .i64 1, .bool false, .string y, .slice none 0 0] ∧ Below G w (wy.setCell ⟨G + 1, 2, none⟩ (.string y))) := by
            refine ⟨y1.out.same (by rw [World.size_setCell]; exact Nat.le_refl _) (Below.heap_setCell _ _ _ G (by show G ≠ G + 1; omega)), (y2.out.set 2 (.string y) (by show 2 < 4; decide)).cast rfl, BB.out.setCell (p := ⟨G + 1, 2, none⟩) (by show G ≤ G + 1; omega) _⟩
          clear y1 y2 BB
          go_upto_region 14 with fail
          clear n2 n3
          generalize wy.setCell ⟨G + 1, 2, none⟩ (.string y) = wu at *
          have CW := one_call (.slice (some ⟨g', 0, none⟩) W.length cp) W wClose (i + 1 + 1) wu (HFA.out _ HSy.out.2.2) hW (by omega)
          go_wp2_with fail
          refine CW.mono ?_
          rintro eb wc ⟨rfl, b3⟩
          clear CW
          have p1 : Hid (St wc G (stC 0 false ⟨#[]⟩ (.slice none 0 0) 0 0 0)) := HSy.out.1.bel b3
          have p2 := HSy.out.2.1.bel b3
          have pB : Hid (Below G w wc) := HSy.out.2.2.trans (b3.mono (by have := HSy.out.1.lt; omega))
          clear b3 HSy
          obtain ⟨nx, hnx⟩ : ∃ nx, (wdP W (i + 1 + 1) [wClose]).1 = nx := ⟨_, rfl⟩
          obtain ⟨cd, hcd⟩ : ∃ cd, (wdP W (i + 1 + 1) [wClose]).2 = cd := ⟨_, rfl⟩
          rw [hnx, hcd] at HQ ⊢
          clear hnx hcd
          have m0 := p2.get 0 _ rfl
          have m1 := p2.get 1 _ rfl
          have m2 := p2.get 2 _ rfl
          have m3 := p2.get 3 _ rfl
          have v0 := p1.out.fr 0 (by show 0 < 7; decide)
          have v1 := p1.out.fr 1 (by show 1 < 7; decide)
          have v2 := p1.out.fr 2 (by show 2 < 7; decide)
          have v3 := p1.out.fr 3 (by show 3 < 7; decide)
          have v4 := p1.out.fr 4 (by show 4 < 7; decide)
          have v5 := p1.out.fr 5 (by show 5 < 7; decide)
          have v6 := p1.out.fr 6 (by show 6 < 7; decide)
          have u0 := p1.out.get 0 _ rfl
          have u1 := p1.out.get 1 _ rfl
          have u2 := p1.out.get 2 _ rfl
          have u3 := p1.out.get 3 _ rfl
          have u4 := p1.out.get 4 _ rfl
          have u5 := p1.out.get 5 _ rfl
          have u6 := p1.out.get 6 _ rfl
          clear p2
          go_wp2
          change bodyPost Try.prog _ _ _ _ (set7 wc G 1 false y (.slice none 0 0) nx cd K)
          refine ret_step rfl rfl (set7_st p1.out 1 false y (.slice none 0 0) nx cd K) ?_
          have hbel : Below w.heap.size w (set7 wc G 1 false y (.slice none 0 0) nx cd K) := by rw [HG.out]; exact set7_below pB.out (Nat.le_refl G) 1 false y (.slice none 0 0) nx cd K
          rcases HQ.out with ⟨d1, d2, d3, d4⟩ | ⟨d1, d2⟩
          · rw [d1, d2] at hbel ⊢
            have hh := H4.out.trans (H5.out.trans d4)
            have h3 : i < i + 1 + 1 + 1 := by omega
            exact StP.leaf hbel hh h3 d3
          · have hh := H4.out.trans H5.out
            have h2 := Ends.via hh d2
            exact StP.bad hbel d1 h2
        · have hj' : W.length = i + 1 := by omega
          have hjI : (W.length : Int) ≤ (i : Int) + 1 := by omega
          have H5 : Hid (Ends W ⟨7, ⟨1, false, ⟨#[]⟩, [], [], ⟨#[]⟩⟩ :: S, r⟩ (i + 1) (i + 1) (-1) K) := ⟨_, goA_end (c := ⟨7, ⟨1, false, ⟨#[]⟩, [], [], ⟨#[]⟩⟩ :: S, r⟩) (by show (7 : Int) ≠ 17; decide) (List.getElem?_eq_none (by omega)), HK.out⟩
          clear y2
          have CS := stopped_any ((i : Int) + 1) (-1) K wy
          go_wp2_with fail
          refine CS.mono ?_
          rintro ec wc ⟨rfl, bc⟩
          have p1 : Hid (St wc G (stC 0 false ⟨#[]⟩ (.slice none 0 0) 0 0 0)) := y1.out.bel bc
          have pB : Hid (Below G w wc) := BB.out.trans (bc.mono (by have := y1.out.lt; omega))
          clear CS bc
          unfold stV
          have v0 := p1.out.fr 0 (by show 0 < 7; decide)
          have v1 := p1.out.fr 1 (by show 1 < 7; decide)
          have v2 := p1.out.fr 2 (by show 2 < 7; decide)
          have v3 := p1.out.fr 3 (by show 3 < 7; decide)
          have v4 := p1.out.fr 4 (by show 4 < 7; decide)
          have v5 := p1.out.fr 5 (by show 5 < 7; decide)
          have v6 := p1.out.fr 6 (by show 6 < 7; decide)
          have u0 := p1.out.get 0 _ rfl
          have u1 := p1.out.get 1 _ rfl
          have u2 := p1.out.get 2 _ rfl
          have u3 := p1.out.get 3 _ rfl
          have u4 := p1.out.get 4 _ rfl
          have u5 := p1.out.get 5 _ rfl
          have u6 := p1.out.get 6 _ rfl
          go_wp2
          change bodyPost Try.prog _ _ _ _ (set7 wc G 0 false ⟨#[]⟩ (.slice none 0 0) ((i + 1 : Nat) : Int) (-1) K)
          refine ret_step rfl rfl (set7_st p1.out 0 false ⟨#[]⟩ (.slice none 0 0) ((i + 1 : Nat) : Int) (-1) K) ?_
          have hbel : Below w.heap.size w (set7 wc G 0 false ⟨#[]⟩ (.slice none 0 0) ((i + 1 : Nat) : Int) (-1) K) := by rw [HG.out]; exact set7_below pB.out (Nat.le_refl G) 0 false ⟨#[]⟩ (.slice none 0 0) ((i + 1 : Nat) : Int) (-1) K
          have h2 := Ends.via H4.out H5.out
          have h3 : (-1 : Int) ≠ 0 := by decide
          exact StP.bad hbel h3 h2
      · obtain ⟨nx, hnx⟩ : ∃ nx, (wdP W i [wContents]).1 = nx := ⟨_, rfl⟩
        obtain ⟨cd, hcd⟩ : ∃ cd, (wdP W i [wContents]).2 = cd := ⟨_, rfl⟩
        rw [hnx, hcd] at c2 ⊢
        rw [hcd] at c1
        have H4 : Hid (Ends W ⟨4, ⟨1, false, ⟨#[]⟩, [], [], ⟨#[]⟩⟩ :: S, r⟩ i nx cd K) := c2
        have hcb : (cd != 0) = true := by simp [c1]
        clear hnx hcd c2 HC y2
        have CS := stopped_any nx cd K wy
        go_wp2_with fail
        refine CS.mono ?_
        rintro ec wc ⟨rfl, bc⟩
        have p1 : Hid (St wc G (stC 0 false ⟨#[]⟩ (.slice none 0 0) 0 0 0)) := y1.out.bel bc
        have pB : Hid (Below G w wc) := BB.out.trans (bc.mono (by have := y1.out.lt; omega))
        clear CS bc
        unfold stV
        have v0 := p1.out.fr 0 (by show 0 < 7; decide)
        have v1 := p1.out.fr 1 (by show 1 < 7; decide)
        have v2 := p1.out.fr 2 (by show 2 < 7; decide)
        have v3 := p1.out.fr 3 (by show 3 < 7; decide)
        have v4 := p1.out.fr 4 (by show 4 < 7; decide)
        have v5 := p1.out.fr 5 (by show 5 < 7; decide)
        have v6 := p1.out.fr 6 (by show 6 < 7; decide)
        have u0 := p1.out.get 0 _ rfl
        have u1 := p1.out.get 1 _ rfl
        have u2 := p1.out.get 2 _ rfl
        have u3 := p1.out.get 3 _ rfl
        have u4 := p1.out.get 4 _ rfl
        have u5 := p1.out.get 5 _ rfl
        have u6 := p1.out.get 6 _ rfl
        go_wp2
        change bodyPost Try.prog _ _ _ _ (set7 wc G 0 false ⟨#[]⟩ (.slice none 0 0) nx cd K)
        refine ret_step rfl rfl (set7_st p1.out 0 false ⟨#[]⟩ (.slice none 0 0) nx cd K) ?_
        have hbel : Below w.heap.size w (set7 wc G 0 false ⟨#[]⟩ (.slice none 0 0) nx cd K) := by rw [HG.out]; exact set7_below pB.out (Nat.le_refl G) 0 false ⟨#[]⟩ (.slice none 0 0) nx cd K
        exact StP.bad hbel c1 H4.out
    · have hiI : ¬ ((i : Int) < (W.length : Int)) := by omega
      clear hex
      have CW := one_call (.slice x W.length cp) W wContents i w1 (HFA.out _ HBz.out) hW (by omega)
      go_wp2_with fail
      refine CW.mono ?_
      rintro ea wy ⟨rfl, b2⟩
      clear CW
      have y1 : Hid (St wy G (stC 0 false ⟨#[]⟩ (.slice none 0 0) 0 0 0)) := z1.out.bel b2
      have y2 : Hid (St wy (G + 1) [.int .i64 1, .bool false, .string ⟨#[]⟩, .slice none 0 0]) := z2.out.bel b2
      have BB : Hid (Below G w wy) := HBz.out.trans (b2.mono (by have := z1.out.lt; omega))
      clear b2 z1 z2 HBz
      rcases HC.out with ⟨c1, c2, c3, c4⟩ | ⟨c1, c2⟩
      · exfalso; omega
      · obtain ⟨nx, hnx⟩ : ∃ nx, (wdP W i [wContents]).1 = nx := ⟨_, rfl⟩
        obtain ⟨cd, hcd⟩ : ∃ cd, (wdP W i [wContents]).2 = cd := ⟨_, rfl⟩
        rw [hnx, hcd] at c2 ⊢
        rw [hcd] at c1
        have H4 : Hid (Ends W ⟨4, ⟨1, false, ⟨#[]⟩, [], [], ⟨#[]⟩⟩ :: S, r⟩ i nx cd K) := c2
        have hcb : (cd != 0) = true := by simp [c1]
        clear hnx hcd c2 HC y2
        have CS := stopped_any nx cd K wy
        go_wp2_with fail
        refine CS.mono ?_
        rintro ec wc ⟨rfl, bc⟩
        have p1 : Hid (St wc G (stC 0 false ⟨#[]⟩ (.slice none 0 0) 0 0 0)) := y1.out.bel bc
        have pB : Hid (Below G w wc) := BB.out.trans (bc.mono (by have := y1.out.lt; omega))
        clear CS bc
        unfold stV
        have v0 := p1.out.fr 0 (by show 0 < 7; decide)
        have v1 := p1.out.fr 1 (by show 1 < 7; decide)
        have v2 := p1.out.fr 2 (by show 2 < 7; decide)
        have v3 := p1.out.fr 3 (by show 3 < 7; decide)
        have v4 := p1.out.fr 4 (by show 4 < 7; decide)
        have v5 := p1.out.fr 5 (by show 5 < 7; decide)
        have v6 := p1.out.fr 6 (by show 6 < 7; decide)
        have u0 := p1.out.get 0 _ rfl
        have u1 := p1.out.get 1 _ rfl
        have u2 := p1.out.get 2 _ rfl
        have u3 := p1.out.get 3 _ rfl
        have u4 := p1.out.get 4 _ rfl
        have u5 := p1.out.get 5 _ rfl
        have u6 := p1.out.get 6 _ rfl
        go_wp2
        change bodyPost Try.prog _ _ _ _ (set7 wc G 0 false ⟨#[]⟩ (.slice none 0 0) nx cd K)
        refine ret_step rfl rfl (set7_st p1.out 0 false ⟨#[]⟩ (.slice none 0 0) nx cd K) ?_
        have hbel : Below w.heap.size w (set7 wc G 0 false ⟨#[]⟩ (.slice none 0 0) nx cd K) := by rw [HG.out]; exact set7_below pB.out (Nat.le_refl G) 0 false ⟨#[]⟩ (.slice none 0 0) nx cd K
        exact StP.bad hbel c1 H4.out
end Go.Proofs.Ythlioedahoiahaa
namespace Go.Proofs.Ythlioedahoiahaa
open Go.RowKit

set_option maxHeartbeats 16000000 in
set_option maxRecDepth 10000 in
theorem link_any (v : Value) (W : List ByteArray) (S : List ON) (r : Tr) (i : Nat) (w : World) (hF : FR w v W) (hW : W.length ≤ 1048576) (hi : i ≤ W.length) (hS : S.length < 32) (hsm : ∀ s ∈ W, s.size ≤ 1048576) :
    Calls Try.prog 59 #[v, .int .i64 (i : Int), .int .i64 ((S.length + 1 : Nat) : Int)] w (StP W ⟨8, ⟨2, false, ⟨#[]⟩, [], [], ⟨#[]⟩⟩ :: S, r⟩ S r i w) := by
  obtain ⟨K, hK⟩ : ∃ K, S.length + 1 = K := ⟨_, rfl⟩
  have HK : Hid (S.length + 1 = K) := hK
  rw [hK]
  have hK33 : K ≤ 33 := by omega
  clear hK hS
  obtain ⟨x, cp, rfl, hX⟩ := hF
  have HF : Hid (FR w (.slice x W.length cp) W) := ⟨x, cp, rfl, hX⟩
  have HSM : Hid (∀ s ∈ W, s.size ≤ 1048576) := hsm
  clear hX hsm
  have bA : Hid (Below w.heap.size w (w.alloc (.cells (stC 0 false ⟨#[]⟩ (.slice none 0 0) 0 0 0).toArray 122))) := (Below.refl _ _).alloc (Nat.le_refl _) _
  have s1 : Hid (St (w.alloc (.cells (stC 0 false ⟨#[]⟩ (.slice none 0 0) 0 0 0).toArray 122)) w.heap.size (stC 0 false ⟨#[]⟩ (.slice none 0 0) 0 0 0)) := St.new w _ _
  unfold stC at bA s1
  go_enter Try.func59, Try.ntmps59
  go_upto_region 1 with fail
  obtain ⟨G, hG⟩ : ∃ G, w.heap.size = G := ⟨_, rfl⟩
  have HG : Hid (w.heap.size = G) := hG
  rw [hG] at bA s1 ⊢
  clear hG
  generalize w.alloc (.cells _ 122) = w1 at *
  have HFA : Hid (∀ w', Below G w w' → FR w' (.slice x W.length cp) W) := fun w' b => HF.out.below (by rw [HG.out]; exact b)
  have iI : (i : Int) ≤ (W.length : Int) := by omega
  clear HF
  have CW := one_call (.slice x W.length cp) W wTarget i w1 (HFA.out _ bA.out) hW (by omega)
  go_wp2_with fail
  refine CW.mono ?_
  rintro ea wy ⟨rfl, b2⟩
  clear CW
  have y1 : Hid (St wy G (stC 0 false ⟨#[]⟩ (.slice none 0 0) 0 0 0)) := s1.out.bel b2
  have BB : Hid (Below G w wy) := bA.out.trans (b2.mono (by have := s1.out.lt; omega))
  clear b2 s1 bA
  rcases one_word W wTarget ⟨8, ⟨2, false, ⟨#[]⟩, [], [], ⟨#[]⟩⟩ :: S, r⟩ ⟨9, ⟨2, false, ⟨#[]⟩, [], [], ⟨#[]⟩⟩ :: S, r⟩ i K (only8 _ r) HK.out hi with ⟨c1, c2, c3, c4⟩ | ⟨c1, c2⟩
  · rw [c1, c2]
    have H4 : Hid (goA ⟨8, ⟨2, false, ⟨#[]⟩, [], [], ⟨#[]⟩⟩ :: S, r⟩ (W.drop i) i = goA ⟨9, ⟨2, false, ⟨#[]⟩, [], [], ⟨#[]⟩⟩ :: S, r⟩ (W.drop (i + 1)) (i + 1)) := c4
    clear c1 c2 c4
    by_cases hj : i + 1 < W.length
    · obtain ⟨y, hy⟩ : ∃ y, W[i + 1]? = some y := ⟨_, List.getElem?_eq_getElem hj⟩
      have hys : y.size ≤ 1048576 := HSM.out y (List.mem_of_getElem? hy)
      have HA : Hid (tgt y = 0 → goA ⟨9, ⟨2, false, ⟨#[]⟩, [], [], ⟨#[]⟩⟩ :: S, r⟩ (W.drop (i + 1)) (i + 1) = goA ⟨10, ⟨2, false, y, [], [], ⟨#[]⟩⟩ :: S, r⟩ (W.drop (i + 1 + 1)) (i + 1 + 1)) := fun ht => goA_yes (c := ⟨9, ⟨2, false, ⟨#[]⟩, [], [], ⟨#[]⟩⟩ :: S, r⟩) (by show (9 : Int) ≠ 17; decide) hy (acc_target ht)
      have HB : Hid (tgt y ≠ 0 → Ends W ⟨9, ⟨2, false, ⟨#[]⟩, [], [], ⟨#[]⟩⟩ :: S, r⟩ (i + 1) (i + 1) (tgt y) K) := fun ht => by
        have e : (⟨9, ⟨2, false, ⟨#[]⟩, [], [], ⟨#[]⟩⟩ :: S, r⟩ : PC).accept y = (tgt y, ⟨9, ⟨2, false, ⟨#[]⟩, [], [], ⟨#[]⟩⟩ :: S, r⟩) := by
          unfold PC.accept
          rw [if_neg (show ¬ (9 : Int) = 7 by decide), if_pos (show (9 : Int) = 9 from rfl), if_pos ht]
        refine ⟨⟨9, ⟨2, false, ⟨#[]⟩, [], [], ⟨#[]⟩⟩ :: S, r⟩, ?_, HK.out⟩
        rw [goA_no (c := ⟨9, ⟨2, false, ⟨#[]⟩, [], [], ⟨#[]⟩⟩ :: S, r⟩) (by show (9 : Int) ≠ 17; decide) hy (by rw [e]; exact ht), e]
      have HQ : Hid (((wdP W (i + 1 + 1) [wClose]).2 = 0 ∧ (wdP W (i + 1 + 1) [wClose]).1 = i + 1 + 1 + 1 ∧ i + 1 + 1 + 1 ≤ W.length ∧ goA ⟨10, ⟨2, false, y, [], [], ⟨#[]⟩⟩ :: S, r⟩ (W.drop (i + 1 + 1)) (i + 1 + 1) = goA (cls ⟨0, S, r⟩ (.mk 2 false y [] [])) (W.drop (i + 1 + 1 + 1)) (i + 1 + 1 + 1)) ∨ ((wdP W (i + 1 + 1) [wClose]).2 ≠ 0 ∧ Ends W ⟨10, ⟨2, false, y, [], [], ⟨#[]⟩⟩ :: S, r⟩ (i + 1 + 1) (wdP W (i + 1 + 1) [wClose]).1 (wdP W (i + 1 + 1) [wClose]).2 K)) := one_word W wClose _ _ (i + 1 + 1) K (only10l y S r) HK.out (by omega)
      obtain ⟨g', hg', g1', g2', -, -⟩ := (HFA.out _ BB.out).at hy
      subst hg'
      have hjI : (i : Int) + 1 < (W.length : Int) := by omega
      clear hy
      have hz := y1.out.lt
      have s2 : Hid (St (wy.alloc (.cells #[.int .i64 2, .bool false, .string y, .slice none 0 0] 37)) wy.heap.size [.int .i64 2, .bool false, .string y, .slice none 0 0]) := St.new wy _ _
      have bB : Below wy.heap.size wy (wy.alloc (.cells #[.int .i64 2, .bool false, .string y, .slice none 0 0] 37)) := (Below.refl _ _).alloc (Nat.le_refl _) _
      have p0 : Hid (St (wy.alloc (.cells #[.int .i64 2, .bool false, .string y, .slice none 0 0] 37)) G (stC 0 false ⟨#[]⟩ (.slice none 0 0) 0 0 0)) := y1.out.bel bB
      have pB0 : Hid (Below G w (wy.alloc (.cells #[.int .i64 2, .bool false, .string y, .slice none 0 0] 37))) := BB.out.trans (bB.mono (by omega))
      clear bB y1 BB
      go_upto_region 7 with fail
      obtain ⟨D, hD⟩ : ∃ D, wy.heap.size = D := ⟨_, rfl⟩
      rw [hD] at s2 ⊢
      clear hD g1' g2'
      generalize wy.alloc (.cells #[.int .i64 2, .bool false, .string y, .slice none 0 0] 37) = wn at *
      have m0 := s2.out.get 0 _ rfl
      have m1 := s2.out.get 1 _ rfl
      have m2 := s2.out.get 2 _ rfl
      have m3 := s2.out.get 3 _ rfl
      have CO := own_any 2 false y none 0 0 wn (by omega)
      have hcf : cfP 2 false y 0 = tgt y := by unfold cfP; simp
      rw [hcf] at CO
      unfold ndV at CO
      obtain ⟨ob, hob⟩ : ∃ ob, ownB 2 false y 0 = ob := ⟨_, rfl⟩
      rw [hob] at CO
      clear hcf hob
      obtain ⟨tc, htc⟩ : ∃ tc, tgt y = tc := ⟨_, rfl⟩
      rw [htc] at HA HB CO
      clear htc
      go_wp2_with fail
      refine CO.mono ?_
      rintro eo wo ⟨rfl, bo⟩
      clear CO m0 m1 m2 m3
      have y1 : Hid (St wo G (stC 0 false ⟨#[]⟩ (.slice none 0 0) 0 0 0)) := p0.out.bel bo
      have y2 : Hid (St wo D [.int .i64 2, .bool false, .string y, .slice none 0 0]) := s2.out.bel bo
      have BB : Hid (Below G w wo) := pB0.out.trans (bo.mono (by have := p0.out.lt; omega))
      clear bo p0 s2 pB0
      by_cases ht : tc = 0
      · subst ht
        have H5 := HA.out rfl
        have H6 := H4.out.trans H5
        have H6' : Hid (goA ⟨8, ⟨2, false, ⟨#[]⟩, [], [], ⟨#[]⟩⟩ :: S, r⟩ (W.drop i) i = goA ⟨10, ⟨2, false, y, [], [], ⟨#[]⟩⟩ :: S, r⟩ (W.drop (i + 1 + 1)) (i + 1 + 1)) := H6
        clear H5 H6 HA HB H4
        have CW := one_call (.slice (some ⟨g', 0, none⟩) W.length cp) W wClose (i + 1 + 1) wo (HFA.out _ BB.out) hW (by omega)
        go_wp2_with fail
        refine CW.mono ?_
        rintro eb wc ⟨rfl, b3⟩
        clear CW
        have p1 : Hid (St wc G (stC 0 false ⟨#[]⟩ (.slice none 0 0) 0 0 0)) := y1.out.bel b3
        have p2 := y2.out.bel b3
        have pB : Hid (Below G w wc) := BB.out.trans (b3.mono (by have := y1.out.lt; omega))
        clear b3 y1 y2 BB
        obtain ⟨nx, hnx⟩ : ∃ nx, (wdP W (i + 1 + 1) [wClose]).1 = nx := ⟨_, rfl⟩
        obtain ⟨cd, hcd⟩ : ∃ cd, (wdP W (i + 1 + 1) [wClose]).2 = cd := ⟨_, rfl⟩
        rw [hnx, hcd] at HQ ⊢
        clear hnx hcd
        have m0 := p2.get 0 _ rfl
        have m1 := p2.get 1 _ rfl
        have m2 := p2.get 2 _ rfl
        have m3 := p2.get 3 _ rfl
        have v0 := p1.out.fr 0 (by show 0 < 7; decide)
        have v1 := p1.out.fr 1 (by show 1 < 7; decide)
        have v2 := p1.out.fr 2 (by show 2 < 7; decide)
        have v3 := p1.out.fr 3 (by show 3 < 7; decide)
        have v4 := p1.out.fr 4 (by show 4 < 7; decide)
        have v5 := p1.out.fr 5 (by show 5 < 7; decide)
        have v6 := p1.out.fr 6 (by show 6 < 7; decide)
        have u0 := p1.out.get 0 _ rfl
        have u1 := p1.out.get 1 _ rfl
        have u2 := p1.out.get 2 _ rfl
        have u3 := p1.out.get 3 _ rfl
        have u4 := p1.out.get 4 _ rfl
        have u5 := p1.out.get 5 _ rfl
        have u6 := p1.out.get 6 _ rfl
        clear p2
        go_wp2
        change bodyPost Try.prog _ _ _ _ (set7 wc G 2 false y (.slice none 0 0) nx cd K)
        refine ret_step rfl rfl (set7_st p1.out 2 false y (.slice none 0 0) nx cd K) ?_
        have hbel : Below w.heap.size w (set7 wc G 2 false y (.slice none 0 0) nx cd K) := by rw [HG.out]; exact set7_below pB.out (Nat.le_refl G) 2 false y (.slice none 0 0) nx cd K
        rcases HQ.out with ⟨d1, d2, d3, d4⟩ | ⟨d1, d2⟩
        · rw [d1, d2] at hbel ⊢
          have hh := H6'.out.trans d4
          have h3 : i < i + 1 + 1 + 1 := by omega
          exact StP.leaf hbel hh h3 d3
        · have h2 := Ends.via H6'.out d2
          exact StP.bad hbel d1 h2
      · have hcb : (tc != 0) = true := by simp [ht]
        have H5 := HB.out ht
        have H5' : Hid (Ends W ⟨8, ⟨2, false, ⟨#[]⟩, [], [], ⟨#[]⟩⟩ :: S, r⟩ i (i + 1) tc K) := Ends.via H4.out H5
        clear H5 HA HB H4 y2 HQ
        have CS := stopped_any ((i : Int) + 1) tc K wo
        go_wp2_with fail
        refine CS.mono ?_
        rintro ec wc ⟨rfl, bc⟩
        have p1 : Hid (St wc G (stC 0 false ⟨#[]⟩ (.slice none 0 0) 0 0 0)) := y1.out.bel bc
        have pB : Hid (Below G w wc) := BB.out.trans (bc.mono (by have := y1.out.lt; omega))
        clear CS bc
        unfold stV
        have v0 := p1.out.fr 0 (by show 0 < 7; decide)
        have v1 := p1.out.fr 1 (by show 1 < 7; decide)
        have v2 := p1.out.fr 2 (by show 2 < 7; decide)
        have v3 := p1.out.fr 3 (by show 3 < 7; decide)
        have v4 := p1.out.fr 4 (by show 4 < 7; decide)
        have v5 := p1.out.fr 5 (by show 5 < 7; decide)
        have v6 := p1.out.fr 6 (by show 6 < 7; decide)
        have u0 := p1.out.get 0 _ rfl
        have u1 := p1.out.get 1 _ rfl
        have u2 := p1.out.get 2 _ rfl
        have u3 := p1.out.get 3 _ rfl
        have u4 := p1.out.get 4 _ rfl
        have u5 := p1.out.get 5 _ rfl
        have u6 := p1.out.get 6 _ rfl
        go_wp2
        change bodyPost Try.prog _ _ _ _ (set7 wc G 0 false ⟨#[]⟩ (.slice none 0 0) ((i + 1 : Nat) : Int) tc K)
        refine ret_step rfl rfl (set7_st p1.out 0 false ⟨#[]⟩ (.slice none 0 0) ((i + 1 : Nat) : Int) tc K) ?_
        have hbel : Below w.heap.size w (set7 wc G 0 false ⟨#[]⟩ (.slice none 0 0) ((i + 1 : Nat) : Int) tc K) := by rw [HG.out]; exact set7_below pB.out (Nat.le_refl G) 0 false ⟨#[]⟩ (.slice none 0 0) ((i + 1 : Nat) : Int) tc K
        exact StP.bad hbel ht H5'.out
    · have hj' : W.length = i + 1 := by omega
      have hjI : (W.length : Int) ≤ (i : Int) + 1 := by omega
      have H5 : Hid (Ends W ⟨9, ⟨2, false, ⟨#[]⟩, [], [], ⟨#[]⟩⟩ :: S, r⟩ (i + 1) (i + 1) (-1) K) := ⟨_, goA_end (c := ⟨9, ⟨2, false, ⟨#[]⟩, [], [], ⟨#[]⟩⟩ :: S, r⟩) (by show (9 : Int) ≠ 17; decide) (List.getElem?_eq_none (by omega)), HK.out⟩
      have CS := stopped_any ((i : Int) + 1) (-1) K wy
      go_wp2_with fail
      refine CS.mono ?_
      rintro ec wc ⟨rfl, bc⟩
      have p1 : Hid (St wc G (stC 0 false ⟨#[]⟩ (.slice none 0 0) 0 0 0)) := y1.out.bel bc
      have pB : Hid (Below G w wc) := BB.out.trans (bc.mono (by have := y1.out.lt; omega))
      clear CS bc
      unfold stV
      have v0 := p1.out.fr 0 (by show 0 < 7; decide)
      have v1 := p1.out.fr 1 (by show 1 < 7; decide)
      have v2 := p1.out.fr 2 (by show 2 < 7; decide)
      have v3 := p1.out.fr 3 (by show 3 < 7; decide)
      have v4 := p1.out.fr 4 (by show 4 < 7; decide)
      have v5 := p1.out.fr 5 (by show 5 < 7; decide)
      have v6 := p1.out.fr 6 (by show 6 < 7; decide)
      have u0 := p1.out.get 0 _ rfl
      have u1 := p1.out.get 1 _ rfl
      have u2 := p1.out.get 2 _ rfl
      have u3 := p1.out.get 3 _ rfl
      have u4 := p1.out.get 4 _ rfl
      have u5 := p1.out.get 5 _ rfl
      have u6 := p1.out.get 6 _ rfl
      go_wp2
      change bodyPost Try.prog _ _ _ _ (set7 wc G 0 false ⟨#[]⟩ (.slice none 0 0) ((i + 1 : Nat) : Int) (-1) K)
      refine ret_step rfl rfl (set7_st p1.out 0 false ⟨#[]⟩ (.slice none 0 0) ((i + 1 : Nat) : Int) (-1) K) ?_
      have hbel : Below w.heap.size w (set7 wc G 0 false ⟨#[]⟩ (.slice none 0 0) ((i + 1 : Nat) : Int) (-1) K) := by rw [HG.out]; exact set7_below pB.out (Nat.le_refl G) 0 false ⟨#[]⟩ (.slice none 0 0) ((i + 1 : Nat) : Int) (-1) K
      have h2 := Ends.via H4.out H5.out
      have h3 : (-1 : Int) ≠ 0 := by decide
      exact StP.bad hbel h3 h2
  · obtain ⟨nx, hnx⟩ : ∃ nx, (wdP W i [wTarget]).1 = nx := ⟨_, rfl⟩
    obtain ⟨cd, hcd⟩ : ∃ cd, (wdP W i [wTarget]).2 = cd := ⟨_, rfl⟩
    rw [hnx, hcd] at c2 ⊢
    rw [hcd] at c1
    have H4 : Hid (Ends W ⟨8, ⟨2, false, ⟨#[]⟩, [], [], ⟨#[]⟩⟩ :: S, r⟩ i nx cd K) := c2
    have hcb : (cd != 0) = true := by simp [c1]
    clear hnx hcd c2
    have CS := stopped_any nx cd K wy
    go_wp2_with fail
    refine CS.mono ?_
    rintro ec wc ⟨rfl, bc⟩
    have p1 : Hid (St wc G (stC 0 false ⟨#[]⟩ (.slice none 0 0) 0 0 0)) := y1.out.bel bc
    have pB : Hid (Below G w wc) := BB.out.trans (bc.mono (by have := y1.out.lt; omega))
    clear CS bc
    unfold stV
    have v0 := p1.out.fr 0 (by show 0 < 7; decide)
    have v1 := p1.out.fr 1 (by show 1 < 7; decide)
    have v2 := p1.out.fr 2 (by show 2 < 7; decide)
    have v3 := p1.out.fr 3 (by show 3 < 7; decide)
    have v4 := p1.out.fr 4 (by show 4 < 7; decide)
    have v5 := p1.out.fr 5 (by show 5 < 7; decide)
    have v6 := p1.out.fr 6 (by show 6 < 7; decide)
    have u0 := p1.out.get 0 _ rfl
    have u1 := p1.out.get 1 _ rfl
    have u2 := p1.out.get 2 _ rfl
    have u3 := p1.out.get 3 _ rfl
    have u4 := p1.out.get 4 _ rfl
    have u5 := p1.out.get 5 _ rfl
    have u6 := p1.out.get 6 _ rfl
    go_wp2
    change bodyPost Try.prog _ _ _ _ (set7 wc G 0 false ⟨#[]⟩ (.slice none 0 0) nx cd K)
    refine ret_step rfl rfl (set7_st p1.out 0 false ⟨#[]⟩ (.slice none 0 0) nx cd K) ?_
    have hbel : Below w.heap.size w (set7 wc G 0 false ⟨#[]⟩ (.slice none 0 0) nx cd K) := by rw [HG.out]; exact set7_below pB.out (Nat.le_refl G) 0 false ⟨#[]⟩ (.slice none 0 0) nx cd K
    exact StP.bad hbel c1 H4.out
end Go.Proofs.Ythlioedahoiahaa
