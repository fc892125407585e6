/- The document's Read, walked (own text of the verifier; made by mkxk.py). -/
import Derived.Test.YthlioedahoiahaaNxIx
import Derived.Test.YthlioedahoiahaaXQ
namespace Go.Proofs.Ythlioedahoiahaa
open Go.RowKit

theorem rnode_any (v : Value) (W : List ByteArray) (hW : W.length ≤ 1048576) (hsm : ∀ s ∈ W, s.size ≤ 1048576) : ∀ (m i : Nat), W.length - i ≤ m → i ≤ W.length → NodeC v W i
  | 0, i, hm, hi => node_step v W i hW hi hsm (fun j h1 h2 => by omega)
  | m + 1, i, hm, hi => node_step v W i hW hi hsm (fun j h1 h2 => rnode_any v W hW hsm m j (by omega) h2)
def gotC (k : Int) (e : Bool) (t : ByteArray) (v : Value) (wh : Bool) (a b c d h : Int) : List Value := [.int .i64 k, .bool e, .string t, v, .bool wh, .int .i64 a, .int .i64 b, .int .i64 c, .int .i64 d, .int .i64 h]
def gotV (k : Int) (e : Bool) (t : ByteArray) (v : Value) (wh : Bool) (a b c d h : Int) : Value := .agg #[.int .i64 k, .bool e, .string t, v, .bool wh, .int .i64 a, .int .i64 b, .int .i64 c, .int .i64 d, .int .i64 h]
def set10 (W : World) (G : Nat) (k : Int) (e : Bool) (t : ByteArray) (v : Value) (wh : Bool) (a b c d h : Int) : World := (((((((((W.setCell ⟨G, 0, none⟩ (.int .i64 k)).setCell ⟨G, 1, none⟩ (.bool e)).setCell ⟨G, 2, none⟩ (.string t)).setCell ⟨G, 3, none⟩ (v)).setCell ⟨G, 4, none⟩ (.bool wh)).setCell ⟨G, 5, none⟩ (.int .i64 a)).setCell ⟨G, 6, none⟩ (.int .i64 b)).setCell ⟨G, 7, none⟩ (.int .i64 c)).setCell ⟨G, 8, none⟩ (.int .i64 d)).setCell ⟨G, 9, none⟩ (.int .i64 h)
theorem set10_other (W : World) (G : Nat) (k : Int) (e : Bool) (t : ByteArray) (v : Value) (wh : Bool) (a b c d h : Int) (j : Nat) (hj : j ≠ G) : (set10 W G k e t v wh a b c d h).heap[j]? = W.heap[j]? := by
  unfold set10
  iterate 10 rw [Below.heap_setCell _ _ _ j (by show j ≠ G; exact hj)]
theorem set10_below {W w : World} {B G : Nat} (hB : Below B w W) (hG : B ≤ G) (k : Int) (e : Bool) (t : ByteArray) (v : Value) (wh : Bool) (a b c d h : Int) : Below B w (set10 W G k e t v wh a b c d h) := by
  unfold set10
  exact ((((((((((hB.setCell (p := ⟨G, 0, none⟩) hG _).setCell (p := ⟨G, 1, none⟩) hG _).setCell (p := ⟨G, 2, none⟩) hG _).setCell (p := ⟨G, 3, none⟩) hG _).setCell (p := ⟨G, 4, none⟩) hG _).setCell (p := ⟨G, 5, none⟩) hG _).setCell (p := ⟨G, 6, none⟩) hG _).setCell (p := ⟨G, 7, none⟩) hG _).setCell (p := ⟨G, 8, none⟩) hG _).setCell (p := ⟨G, 9, none⟩) hG _)
theorem set10_st {W : World} {G : Nat} {k0 : Int} {e0 : Bool} {t0 : ByteArray} {v0 : Value} {wh0 : Bool} {a0 b0 c0 d0 hh0 : Int} (h0 : St W G (gotC k0 e0 t0 v0 wh0 a0 b0 c0 d0 hh0)) (k : Int) (e : Bool) (t : ByteArray) (v : Value) (wh : Bool) (a b c d h : Int) : St (set10 W G k e t v wh a b c d h) G (gotC k e t v wh a b c d h) := by
  unfold set10
  exact ((((((((((h0.set 0 (.int .i64 k) (by show 0 < 10; decide)).set 1 (.bool e) (by show 1 < 10; decide)).set 2 (.string t) (by show 2 < 10; decide)).set 3 (v) (by show 3 < 10; decide)).set 4 (.bool wh) (by show 4 < 10; decide)).set 5 (.int .i64 a) (by show 5 < 10; decide)).set 6 (.int .i64 b) (by show 6 < 10; decide)).set 7 (.int .i64 c) (by show 7 < 10; decide)).set 8 (.int .i64 d) (by show 8 < 10; decide)).set 9 (.int .i64 h) (by show 9 < 10; decide)).cast rfl
theorem ret_got {f : Func} {tmps : Array Value} {W : World} {G : Nat} {i : Nat} {k : Int} {e : Bool} {t : ByteArray} {v : Value} {wh : Bool} {a b c d h : Int} {R : Ending → World → Prop} (hf : f.results = #[.cell i 86]) (ht : tmps[i]?.getD undef = .pointer (some ⟨G, 0, none⟩))
    (q : St W G (gotC k e t v wh a b c d h)) (hR : R (.returned (gotV k e t v wh a b c d h)) W) :
    bodyPost Try.prog f R .ret { tmps := tmps, defers := [] } W := by
  have q0 := q.get 0 _ rfl
  have q1 := q.get 1 _ rfl
  have q2 := q.get 2 _ rfl
  have q3 := q.get 3 _ rfl
  have q4 := q.get 4 _ rfl
  have q5 := q.get 5 _ rfl
  have q6 := q.get 6 _ rfl
  have q7 := q.get 7 _ rfl
  have q8 := q.get 8 _ rfl
  have q9 := q.get 9 _ rfl
  exact bodyPost_ret (v := gotV k e t v wh a b c d h) (by simp [results, hf, go_sem, ht, q0, q1, q2, q3, q4, q5, q6, q7, q8, q9, gotV]) rfl hR
/-- What Read answers: what the machine has. -/
def RdP (l : List UInt8) (st : Bool) (w : World) (en : Ending) (w' : World) : Prop :=
  ∃ (k : Int) (e : Bool) (t : ByteArray) (x : Option Addr) (n c : Nat), en = .returned (gotV k e t (.slice x n c) (decide (((PS.new (!st)).run l).c.next = 17)) ((PS.new (!st)).run l).code ((PS.new (!st)).run l).fat (((PS.new (!st)).run l).taken : Int) (((PS.new (!st)).run l).c.op.length : Int) (((PS.new (!st)).run l).held : Int)) ∧ Below w.heap.size w w' ∧
    (((PS.new (!st)).run l).c.next = 17 → ∃ fr, ((PS.new (!st)).run l).c.root.k = k ∧ ((PS.new (!st)).run l).c.root.e = e ∧ ((PS.new (!st)).run l).c.root.t = t ∧ TrV w' w.heap.size ((PS.new (!st)).run l).c.root (.slice x n c) fr ∧ fr.Nodup) ∧
    (((PS.new (!st)).run l).c.next ≠ 17 → k = 0 ∧ e = false ∧ t = ⟨#[]⟩ ∧ x = none ∧ n = 0 ∧ c = 0)

theorem goA_ge : ∀ (W : List ByteArray) (c d : PC) (k n : Nat) (code : Int), goA c W k = (d, n, code) → k ≤ n
  | [], c, d, k, n, code, h => by rw [goA] at h; injection h with _ h; injection h with h _; omega
  | s :: W, c, d, k, n, code, h => by
    rw [goA] at h
    by_cases hn : c.next = 17
    · rw [if_pos hn] at h; injection h with _ h; injection h with h _; omega
    rw [if_neg hn] at h
    by_cases ha : (c.accept s).1 ≠ 0
    · rw [if_pos ha] at h; injection h with _ h; injection h with h _; omega
    · rw [if_neg ha] at h
      have := goA_ge W _ d (k + 1) n code h
      omega
theorem goA_nn : ∀ (W : List ByteArray) (c d : PC) (k n : Nat) (code : Int), goA c W k = (d, n, code) → code = -1 ∨ 0 ≤ code
  | [], c, d, k, n, code, h => by
    rw [goA] at h
    injection h with _ h
    injection h with _ h
    by_cases hn : c.next = 17
    · rw [if_pos hn] at h; omega
    · rw [if_neg hn] at h; omega
  | s :: W, c, d, k, n, code, h => by
    rw [goA] at h
    by_cases hn : c.next = 17
    · rw [if_pos hn] at h; injection h with _ h; injection h with _ h; omega
    rw [if_neg hn] at h
    by_cases ha : (c.accept s).1 ≠ 0
    · rw [if_pos ha] at h
      injection h with _ h
      injection h with _ h
      have := acc_nn c s
      omega
    · rw [if_neg ha] at h
      exact goA_nn W _ d (k + 1) n code h
theorem wdP_bad {W : List ByteArray} {i : Nat} {s : ByteArray} (h : (wdP W i [s]).2 ≠ 0) : (wdP W i [s]).1 = i := by
  rw [wdP] at h ⊢
  cases hx : W[i]? with
  | none => rfl
  | some x =>
    rw [hx] at h
    dsimp only at h ⊢
    by_cases hxs : x = s
    · rw [if_pos hxs] at h; exact absurd rfl h
    · rw [if_neg hxs]
/-- The machine behind a text of these words. -/
theorem new_goA {l : List UInt8} {W : List ByteArray} {u : List UInt8} {n : Nat} {c a P : Int} {st : Bool} {p0 q : PS} (hp : PS.new (!st) = p0) (hq : p0.run l = q) (hU : l = frm W ++ u ∧ NoFr u n c a ∧ (c = 0 → P = 0) ∧ (c ≠ 0 → P = fwS W + a) ∧ (∀ s ∈ W, s.size ≤ 1048576) ∧ l.length = fwS W + u.length) (hl : l.length ≤ 1048576) {d : PC} {k : Nat} {code : Int} (hg : goA PC.new W 0 = (d, k, code)) : GoR p0 q W u n c a d k code ∧ p0.taken = 0 ∧ p0.part = !st := by
  obtain ⟨h1, h2, h3, h4, h5, h6⟩ := hU
  subst hp hq
  refine ⟨?_, rfl, rfl⟩
  have := run_goA h2 W (PS.new (!st)) d k code (new_head _) h5 (by show 0 + fwS W + u.length ≤ _; omega) hg
  rw [h1]
  exact this
theorem fwS_take (W : List ByteArray) (i : Nat) : fwS (W.take i) ≤ fwS W := by
  have h : fwS W = fwS (W.take i) + fwS (W.drop i) := by rw [← fwS_app, List.take_append_drop]
  omega
theorem fwS_next {W : List ByteArray} {i : Nat} {s : ByteArray} (h : W[i]? = some s) : fwS (W.take (i + 1)) = fwS (W.take i) + fs8 s := by
  rw [List.take_succ_eq_append_getElem (List.getElem?_eq_some_iff.1 h).1, fwS_app]
  obtain ⟨h1, h2⟩ := List.getElem?_eq_some_iff.1 h
  rw [h2]
  rfl

set_option maxHeartbeats 16000000 in
set_option maxRecDepth 10000 in
theorem rread_any (l : List UInt8) (st : Bool) (w : World) (hl : l.length ≤ 1048576) : Calls Try.prog 27 #[.string (NB.ba l), .bool st] w (RdP l st w) := by
  have hz1 : (NB.ba l).size = l.length := NB.ba_size l
  have hlI : ¬ ((1048576 : Int) < (l.length : Int)) := by omega
  have hlN : ¬ (1048576 < l.length) := by omega
  obtain ⟨p0, hp0⟩ : ∃ p0, PS.new (!st) = p0 := ⟨_, rfl⟩
  have HP0 : Hid (PS.new (!st) = p0) := hp0
  obtain ⟨q, hq⟩ : ∃ q, p0.run l = q := ⟨_, rfl⟩
  have HQ : Hid (p0.run l = q) := hq
  have HRD : Hid (∀ en w', (∃ (k : Int) (e : Bool) (t : ByteArray) (x : Option Addr) (n c : Nat), en = .returned (gotV k e t (.slice x n c) (decide (q.c.next = 17)) q.code q.fat (q.taken : Int) (q.c.op.length : Int) (q.held : Int)) ∧ Below w.heap.size w w' ∧
    (q.c.next = 17 → ∃ fr, q.c.root.k = k ∧ q.c.root.e = e ∧ q.c.root.t = t ∧ TrV w' w.heap.size q.c.root (.slice x n c) fr ∧ fr.Nodup) ∧
    (q.c.next ≠ 17 → k = 0 ∧ e = false ∧ t = ⟨#[]⟩ ∧ x = none ∧ n = 0 ∧ c = 0)) → RdP l st w en w') := by
    intro en w' h
    unfold RdP
    rw [hp0, hq]
    exact h
  clear hp0 hq
  have bA : Hid (Below w.heap.size w (w.alloc (.cells (gotC 0 false ⟨#[]⟩ (.slice none 0 0) false 0 0 0 0 0).toArray 86))) := (Below.refl _ _).alloc (Nat.le_refl _) _
  have s1 : Hid (St (w.alloc (.cells (gotC 0 false ⟨#[]⟩ (.slice none 0 0) false 0 0 0 0 0).toArray 86)) w.heap.size (gotC 0 false ⟨#[]⟩ (.slice none 0 0) false 0 0 0 0 0)) := St.new w _ _
  unfold gotC at bA s1
  go_enter Try.func27, Try.ntmps27
  go_upto_region 1 with fail
  obtain ⟨G, hG⟩ : ∃ G, w.heap.size = G := ⟨_, rfl⟩
  have HG : Hid (w.heap.size = G) := hG
  rw [hG] at bA s1 ⊢
  clear hG
  generalize w.alloc (.cells _ 86) = w1 at *
  have CF := frames_any l w1 hl
  go_wp2_with fail
  refine CF.mono ?_
  rintro ea wf ⟨W, n, c, a, P, vf, rfl, hFR, ⟨u, hu, hNF⟩, hP0, hP1, hsm, b2⟩
  clear CF
  have hHW := fwS_len W
  have hlu : l.length = fwS W + u.length := by rw [hu, List.length_append, frm_len]
  have hW : W.length ≤ 1048576 := by omega
  have HU : Hid (l = frm W ++ u ∧ NoFr u n c a ∧ (c = 0 → P = 0) ∧ (c ≠ 0 → P = fwS W + a) ∧ (∀ s ∈ W, s.size ≤ 1048576) ∧ l.length = fwS W + u.length) := ⟨hu, hNF, hP0, hP1, hsm, hlu⟩
  have y1 : Hid (St wf G (gotC 0 false ⟨#[]⟩ (.slice none 0 0) false 0 0 0 0 0)) := s1.out.bel b2
  have BB : Hid (Below G w wf) := bA.out.trans (b2.mono (by have := s1.out.lt; omega))
  obtain ⟨x, cp, rfl, hX⟩ := hFR
  have HF : Hid (FR wf (.slice x W.length cp) W) := ⟨x, cp, rfl, hX⟩
  have HFA : Hid (∀ w', Below wf.heap.size wf w' → FR w' (.slice x W.length cp) W) := fun w' b => HF.out.below b
  have hGf : Hid (G < wf.heap.size) := y1.out.lt
  have HN1 : Hid (∀ w', Below wf.heap.size wf w' → 1 ≤ W.length → Calls Try.prog 42 #[.slice x W.length cp, .int .i64 1, .int .i64 0] w' (StP W ⟨1, [], PC.new.root⟩ [] PC.new.root 1 w')) := fun w' b h1 => by
    have := rnode_any (.slice x W.length cp) W hW hsm W.length 1 (by omega) h1 [] PC.new.root w' (HF.out.below b) (by decide)
    exact this
  clear hu hNF hP0 hP1 hsm b2 s1 bA hX hlu hHW
  have CW := one_call (.slice x W.length cp) W wMagic 0 wf HF.out hW (by omega)
  rw [show (((0 : Nat) : Int)) = 0 from rfl] at CW
  go_wp2_with fail
  refine CW.mono ?_
  rintro eb wm ⟨rfl, b3⟩
  clear CW
  have HBM : Hid (Below wf.heap.size wf wm) := b3
  have hOW := one_word W wMagic ⟨0, [], PC.new.root⟩ ⟨1, [], PC.new.root⟩ 0 0 (only0 _) rfl (Nat.zero_le _)
  obtain ⟨nx, hnx⟩ : ∃ nx, (wdP W 0 [wMagic]).1 = nx := ⟨_, rfl⟩
  obtain ⟨cd, hcd⟩ : ∃ cd, (wdP W 0 [wMagic]).2 = cd := ⟨_, rfl⟩
  rw [hnx, hcd] at hOW ⊢
  have HOW : Hid ((cd = 0 ∧ nx = 0 + 1 ∧ 0 + 1 ≤ W.length ∧ goA ⟨0, [], PC.new.root⟩ (W.drop 0) 0 = goA ⟨1, [], PC.new.root⟩ (W.drop (0 + 1)) (0 + 1)) ∨ (cd ≠ 0 ∧ Ends W ⟨0, [], PC.new.root⟩ 0 nx cd 0)) := hOW
  have HNX : Hid (cd ≠ 0 → nx = 0) := fun h => by rw [← hnx]; exact wdP_bad (by rw [hcd]; exact h)
  clear hnx hcd b3 hOW
  have CS := stopped_any nx cd 0 wm
  go_wp2_with fail
  refine CS.mono ?_
  rintro ec ws ⟨rfl, b4⟩
  clear CS
  unfold stV
  have HBS : Hid (Below wf.heap.size wf ws) := HBM.out.trans (b4.mono HBM.out.size)
  have f1 : Hid (St ws G (gotC 0 false ⟨#[]⟩ (.slice none 0 0) false 0 0 0 0 0)) := y1.out.same HBS.out.size (HBS.out.block G hGf.out)
  have FB : Hid (Below G w ws) := BB.out.trans (HBS.out.mono (by have := hGf.out; omega))
  have bB : Below ws.heap.size ws (ws.alloc (.cells (stC 0 false ⟨#[]⟩ (.slice none 0 0) nx cd 0).toArray 122)) := (Below.refl _ _).alloc (Nat.le_refl _) _
  have e2 : Hid (St (ws.alloc (.cells (stC 0 false ⟨#[]⟩ (.slice none 0 0) nx cd 0).toArray 122)) ws.heap.size (stC 0 false ⟨#[]⟩ (.slice none 0 0) nx cd 0)) := St.new ws _ _
  have z1 : Hid (St (ws.alloc (.cells (stC 0 false ⟨#[]⟩ (.slice none 0 0) nx cd 0).toArray 122)) G (gotC 0 false ⟨#[]⟩ (.slice none 0 0) false 0 0 0 0 0)) := f1.out.bel bB
  have ZB : Hid (Below G w (ws.alloc (.cells (stC 0 false ⟨#[]⟩ (.slice none 0 0) nx cd 0).toArray 122)) ∧ Below wf.heap.size wf (ws.alloc (.cells (stC 0 false ⟨#[]⟩ (.slice none 0 0) nx cd 0).toArray 122))) := ⟨FB.out.trans (bB.mono (by have := f1.out.lt; omega)), HBS.out.trans (bB.mono HBS.out.size)⟩
  have hDf : Hid (wf.heap.size ≤ ws.heap.size ∧ G < ws.heap.size) := ⟨HBS.out.size, f1.out.lt⟩
  clear b4 bB f1 FB HBS HBM y1 BB
  unfold stC at e2 z1 ZB
  go_upto_region 7 with fail
  obtain ⟨D, hD⟩ : ∃ D, ws.heap.size = D := ⟨_, rfl⟩
  rw [hD] at e2 hDf ⊢
  clear hD
  generalize ws.alloc (.cells _ 122) = wb at *
  have d0 := e2.out.get 0 _ rfl
  have d1 := e2.out.get 1 _ rfl
  have d2 := e2.out.get 2 _ rfl
  have d3 := e2.out.get 3 _ rfl
  have d4 := e2.out.get 4 _ rfl
  have d5 := e2.out.get 5 _ rfl
  have d6 := e2.out.get 6 _ rfl
  have g0 := e2.out.fr 0 (by show 0 < 7; decide)
  have g1 := e2.out.fr 1 (by show 1 < 7; decide)
  have g2 := e2.out.fr 2 (by show 2 < 7; decide)
  have g3 := e2.out.fr 3 (by show 3 < 7; decide)
  have g4 := e2.out.fr 4 (by show 4 < 7; decide)
  have g5 := e2.out.fr 5 (by show 5 < 7; decide)
  have g6 := e2.out.fr 6 (by show 6 < 7; decide)
  by_cases hcd0 : cd = 0
  · obtain ⟨hnx1, hWl, hgo⟩ : nx = 1 ∧ 1 ≤ W.length ∧ goA PC.new W 0 = goA ⟨1, [], PC.new.root⟩ (W.drop 1) 1 := by
      rcases HOW.out with ⟨_, h2, h3, h4⟩ | ⟨h1, _⟩
      · exact ⟨h2, h3, h4⟩
      · exact absurd hcd0 h1
    subst hcd0 hnx1
    have HGO : Hid (goA PC.new W 0 = goA ⟨1, [], PC.new.root⟩ (W.drop 1) 1) := hgo
    have CN := HN1.out wb ZB.out.2 hWl
    clear hgo HOW HN1
    go_wp2_with fail
    refine CN.mono ?_
    rintro ed wn ⟨k, e, t, x2, n2, c2, nxt, code, opn, rfl, b5, hres⟩
    clear CN
    unfold stV
    have hwb : Hid (wf.heap.size ≤ wb.heap.size ∧ D < wb.heap.size ∧ G < wb.heap.size) := ⟨ZB.out.2.size, e2.out.lt, z1.out.lt⟩
    have f1 : Hid (St wn G (gotC 0 false ⟨#[]⟩ (.slice none 0 0) false 0 0 0 0 0)) := z1.out.bel b5
    have f2 : Hid (St wn D (stC 0 false ⟨#[]⟩ (.slice none 0 0) 1 0 0)) := e2.out.bel b5
    have FB : Hid (Below G w wn ∧ Below wf.heap.size wf wn) := ⟨ZB.out.1.trans (b5.mono (by have := hwb.out; omega)), ZB.out.2.trans (b5.mono hwb.out.1)⟩
    have hb5 : Hid (wb.heap.size ≤ wn.heap.size) := b5.size
    clear d0 d1 d2 d3 d4 d5 d6 g0 g1 g2 g3 g4 g5 g6 e2 z1 ZB b5
    have d0 := f2.out.get 0 _ rfl
    have d1 := f2.out.get 1 _ rfl
    have d2 := f2.out.get 2 _ rfl
    have d3 := f2.out.get 3 _ rfl
    have d4 := f2.out.get 4 _ rfl
    have d5 := f2.out.get 5 _ rfl
    have d6 := f2.out.get 6 _ rfl
    have g0 := f2.out.fr 0 (by show 0 < 7; decide)
    have g1 := f2.out.fr 1 (by show 1 < 7; decide)
    have g2 := f2.out.fr 2 (by show 2 < 7; decide)
    have g3 := f2.out.fr 3 (by show 3 < 7; decide)
    have g4 := f2.out.fr 4 (by show 4 < 7; decide)
    have g5 := f2.out.fr 5 (by show 5 < 7; decide)
    have g6 := f2.out.fr 6 (by show 6 < 7; decide)
    have hGD : Hid (G < D ∧ wf.heap.size ≤ D) := by have := hDf.out; exact ⟨by omega, by omega⟩
    have HS : Hid (St (set7 wn D k e t (.slice x2 n2 c2) nxt code opn) D (stC k e t (.slice x2 n2 c2) nxt code opn) ∧ St (set7 wn D k e t (.slice x2 n2 c2) nxt code opn) G (gotC 0 false ⟨#[]⟩ (.slice none 0 0) false 0 0 0 0 0) ∧ Below G w (set7 wn D k e t (.slice x2 n2 c2) nxt code opn) ∧ Below wf.heap.size wf (set7 wn D k e t (.slice x2 n2 c2) nxt code opn) ∧ (∀ b, b ≠ D → (set7 wn D k e t (.slice x2 n2 c2) nxt code opn).heap[b]? = wn.heap[b]?) ∧ (set7 wn D k e t (.slice x2 n2 c2) nxt code opn).heap.size = wn.heap.size) :=
      ⟨set7_st f2.out k e t (.slice x2 n2 c2) nxt code opn, f1.out.same (by rw [set7_size]; exact Nat.le_refl _) (set7_other wn D k e t (.slice x2 n2 c2) nxt code opn G (by have := hGD.out.1; omega)), set7_below FB.out.1 (by have := hGD.out.1; omega) k e t (.slice x2 n2 c2) nxt code opn, set7_below FB.out.2 hGD.out.2 k e t (.slice x2 n2 c2) nxt code opn, fun b hb => set7_other wn D k e t (.slice x2 n2 c2) nxt code opn b hb, set7_size wn D k e t (.slice x2 n2 c2) nxt code opn⟩
    clear f1 f2 FB
    go_upto_region 9 with fail
    change Code.wp Try.prog _ _ _ (set7 wn D k e t (.slice x2 n2 c2) nxt code opn)
    generalize set7 wn D k e t (.slice x2 n2 c2) nxt code opn = wo at *
    clear d0 d1 d2 d3 d4 d5 d6 g0 g1 g2 g3 g4 g5 g6
    rcases hres with ⟨hc, ⟨T, fr, t1, t2, t3, t4, t5, t6⟩, h7, h8⟩ | ⟨hc, hEn⟩
    · subst hc
      have HT : Hid (T.k = k ∧ T.e = e ∧ T.t = t ∧ TrV wo wb.heap.size T (.slice x2 n2 c2) fr ∧ fr.Nodup) := ⟨t1, t2, t3, TrV.same _ _ _ t4 (fun b hb => HS.out.2.2.2.2.1 b (by have := (TrV.lt _ _ _ t4 b hb).1; have := hwb.out; omega)), t5⟩
      have hga : goA PC.new W 0 = (⟨17, [], T⟩, nxt, 0) := by
        rw [HGO.out, t6]
        exact goA_whole (c := cls ⟨0, [], PC.new.root⟩ T) rfl _ _
      obtain ⟨gr, hr1, hr2⟩ := new_goA HP0.out HQ.out HU.out hl hga
      obtain ⟨z1, z2, z3, z4, z5⟩ := gr.z rfl
      rw [hr2, ← HU.out.2.2.2.2.2] at z4 z5
      rw [hr1, Nat.zero_add] at z2
      rw [hr1, Nat.zero_add] at z5
      obtain ⟨m, hm⟩ : ∃ m, nxt = m + 1 := ⟨nxt - 1, by omega⟩
      subst hm
      have hfs : fwS (W.take (m + 1)) ≤ 1048576 := by have := fwS_take W (m + 1); have := HU.out.2.2.2.2.2; omega
      obtain ⟨y, hy⟩ : ∃ y, W[m]? = some y := ⟨_, List.getElem?_eq_getElem (by omega)⟩
      obtain ⟨g', hg', g1', -, -, g2'⟩ := (HFA.out _ HS.out.2.2.2.1).at hy
      obtain ⟨en, hen⟩ : ∃ en, fwS (W.take (m + 1)) = en := ⟨_, rfl⟩
      rw [hen] at g2' z2 z4 z5 hfs
      have HZ : Hid (q.c = ⟨17, [], T⟩ ∧ q.taken = en ∧ q.held = 0 ∧ q.code = (if (!st) = false ∧ en < l.length then 5 else 0) ∧ q.fat = (if (!st) = false ∧ en < l.length then (en : Int) else 0)) := ⟨gr.pc, z2, z3, z4, z5⟩
      subst hg'
      have hmI : (m : Int) + 1 ≤ (W.length : Int) := by omega
      have hmI2 : (m : Int) < (W.length : Int) := by omega
      have mw : IntKind.i64.wrap ((m : Int) + 1 - 1) = (m : Int) := by rw [IntKind.wrap_i64]; omega
      clear gr hr1 hr2 z1 z2 z3 z4 z5 hen hy t1 t2 t3 t4 t5 t6 h7 h8 HGO hga
      have zD := HS.out.1
      have zG := HS.out.2.1
      have zB : Hid (Below G w wo ∧ Below wf.heap.size wf wo) := ⟨HS.out.2.2.1, HS.out.2.2.2.1⟩
      have zDh : Hid (St wo D (stC k e t (.slice x2 n2 c2) ((m + 1 : Nat) : Int) 0 opn)) := zD
      have zGh : Hid (St wo G (gotC 0 false ⟨#[]⟩ (.slice none 0 0) false 0 0 0 0 0)) := zG
      have d0 := zD.get 0 _ rfl
      have d1 := zD.get 1 _ rfl
      have d2 := zD.get 2 _ rfl
      have d3 := zD.get 3 _ rfl
      have d4 := zD.get 4 _ rfl
      have d5 := zD.get 5 _ rfl
      have d6 := zD.get 6 _ rfl
      clear zD zG
      have zD := zDh
      have zG := zGh
      have bE : Below wo.heap.size wo (wo.alloc (.cells (gotC k e t (.slice x2 n2 c2) true 0 0 en 0 0).toArray 86)) := (Below.refl _ _).alloc (Nat.le_refl _) _
      have eE : Hid (St (wo.alloc (.cells (gotC k e t (.slice x2 n2 c2) true 0 0 en 0 0).toArray 86)) wo.heap.size (gotC k e t (.slice x2 n2 c2) true 0 0 en 0 0)) := St.new wo _ _
      have gG : Hid (St (wo.alloc (.cells (gotC k e t (.slice x2 n2 c2) true 0 0 en 0 0).toArray 86)) G (gotC 0 false ⟨#[]⟩ (.slice none 0 0) false 0 0 0 0 0)) := zG.out.bel bE
      have dD : Hid (St (wo.alloc (.cells (gotC k e t (.slice x2 n2 c2) true 0 0 en 0 0).toArray 86)) D (stC k e t (.slice x2 n2 c2) ((m + 1 : Nat) : Int) 0 opn)) := zD.out.bel bE
      have BE : Hid (Below G w (wo.alloc (.cells (gotC k e t (.slice x2 n2 c2) true 0 0 en 0 0).toArray 86)) ∧ Below wf.heap.size wf (wo.alloc (.cells (gotC k e t (.slice x2 n2 c2) true 0 0 en 0 0).toArray 86)) ∧ Below wo.heap.size wo (wo.alloc (.cells (gotC k e t (.slice x2 n2 c2) true 0 0 en 0 0).toArray 86))) := ⟨zB.out.1.trans (bE.mono (by have := zG.out.lt; omega)), zB.out.2.trans (bE.mono zB.out.2.size), bE⟩
      have hEb : Hid (G < wo.heap.size ∧ D < wo.heap.size ∧ wf.heap.size ≤ wo.heap.size) := ⟨zG.out.lt, zD.out.lt, zB.out.2.size⟩
      clear bE
      unfold gotC at eE
      unfold gotC at BE
      unfold gotC at dD
      unfold gotC at gG
      go_upto_region 14 with fail
      obtain ⟨E, hE⟩ : ∃ E, wo.heap.size = E := ⟨_, rfl⟩
      rw [hE] at eE BE hEb ⊢
      clear d0 d1 d2 d3 d4 d5 d6 g1' g2'
      generalize wo.alloc (.cells _ 86) = wg at *
      have gE5 := eE.out.fr 5 (by show 5 < 10; decide)
      have gE6 := eE.out.fr 6 (by show 6 < 10; decide)
      have xE5 := eE.out.get 5 _ rfl
      have xE6 := eE.out.get 6 _ rfl
      have hTE : Hid (TrV wg wb.heap.size T (.slice x2 n2 c2) fr) := TrV.same _ _ _ HT.out.2.2.2.1 (fun b hb => BE.out.2.2.block b (by have := (TrV.lt _ _ _ HT.out.2.2.2.1 b hb).2; omega))
      have hGE : Hid (G ≠ E ∧ G ≤ E) := by have := hEb.out; exact ⟨by omega, by omega⟩
      have hfE : Hid (∀ b ∈ fr, b ≠ E ∧ b ≠ G) := fun b hb => by
        have h1 := (TrV.lt _ _ _ HT.out.2.2.2.1 b hb)
        have := hwb.out
        omega
      by_cases hgt : st = true ∧ en < l.length
      · obtain ⟨hst1, hgt1⟩ := hgt
        subst hst1
        have hgI : (en : Int) < (l.length : Int) := by omega
        have hgd : decide ((l.length : Int) > (en : Int)) = true := by simp; omega
        go_upto_region 17 with fail
        have HH : Hid (St ((wg.setCell ⟨E, 5, none⟩ (.int .i64 5)).setCell ⟨E, 6, none⟩ (.int .i64 (en : Int))) E (gotC k e t (.slice x2 n2 c2) true 5 en en 0 0) ∧ St ((wg.setCell ⟨E, 5, none⟩ (.int .i64 5)).setCell ⟨E, 6, none⟩ (.int .i64 (en : Int))) G (gotC 0 false ⟨#[]⟩ (.slice none 0 0) false 0 0 0 0 0) ∧ Below G w ((wg.setCell ⟨E, 5, none⟩ (.int .i64 5)).setCell ⟨E, 6, none⟩ (.int .i64 (en : Int))) ∧ (∀ b, b ≠ E → ((wg.setCell ⟨E, 5, none⟩ (.int .i64 5)).setCell ⟨E, 6, none⟩ (.int .i64 (en : Int))).heap[b]? = wg.heap[b]?)) := by
          refine ⟨((eE.out.set 5 _ (by show 5 < 10; decide)).set 6 _ (by show 6 < 10; decide)).cast rfl, ?_, (BE.out.1.setCell (p := ⟨E, 5, none⟩) hGE.out.2 _).setCell (p := ⟨E, 6, none⟩) hGE.out.2 _, fun b hb => (Below.heap_setCell _ ⟨E, 6, none⟩ _ b hb).trans (Below.heap_setCell _ ⟨E, 5, none⟩ _ b hb)⟩
          exact gG.out.same (by rw [World.size_setCell, World.size_setCell]; exact Nat.le_refl _) ((Below.heap_setCell _ ⟨E, 6, none⟩ _ G hGE.out.1).trans (Below.heap_setCell _ ⟨E, 5, none⟩ _ G hGE.out.1))
        change Code.wp Try.prog _ _ _ ((wg.setCell ⟨E, 5, none⟩ (.int .i64 5)).setCell ⟨E, 6, none⟩ (.int .i64 (en : Int)))
        generalize (wg.setCell ⟨E, 5, none⟩ (.int .i64 5)).setCell ⟨E, 6, none⟩ (.int .i64 (en : Int)) = wh at *
        have pe := HH.out.1
        have p1 : Hid (St wh G (gotC 0 false ⟨#[]⟩ (.slice none 0 0) false 0 0 0 0 0)) := HH.out.2.1
        have pB : Hid (Below G w wh) := HH.out.2.2.1
        clear gE5 gE6 xE5 xE6
        have e0 := pe.get 0 _ rfl
        have e1 := pe.get 1 _ rfl
        have e2 := pe.get 2 _ rfl
        have e3 := pe.get 3 _ rfl
        have e4 := pe.get 4 _ rfl
        have e5 := pe.get 5 _ rfl
        have e6 := pe.get 6 _ rfl
        have e7 := pe.get 7 _ rfl
        have e8 := pe.get 8 _ rfl
        have e9 := pe.get 9 _ rfl
        have v0 := p1.out.fr 0 (by show 0 < 10; decide)
        have v1 := p1.out.fr 1 (by show 1 < 10; decide)
        have v2 := p1.out.fr 2 (by show 2 < 10; decide)
        have v3 := p1.out.fr 3 (by show 3 < 10; decide)
        have v4 := p1.out.fr 4 (by show 4 < 10; decide)
        have v5 := p1.out.fr 5 (by show 5 < 10; decide)
        have v6 := p1.out.fr 6 (by show 6 < 10; decide)
        have v7 := p1.out.fr 7 (by show 7 < 10; decide)
        have v8 := p1.out.fr 8 (by show 8 < 10; decide)
        have v9 := p1.out.fr 9 (by show 9 < 10; decide)
        have u0 := p1.out.get 0 _ rfl
        have u1 := p1.out.get 1 _ rfl
        have u2 := p1.out.get 2 _ rfl
        have u3 := p1.out.get 3 _ rfl
        have u4 := p1.out.get 4 _ rfl
        have u5 := p1.out.get 5 _ rfl
        have u6 := p1.out.get 6 _ rfl
        have u7 := p1.out.get 7 _ rfl
        have u8 := p1.out.get 8 _ rfl
        have u9 := p1.out.get 9 _ rfl
        go_wp2
        have hst := set10_st p1.out k e t (.slice x2 n2 c2) true (5 : Int) (en : Int) (en : Int) (0 : Int) (0 : Int)
        have hb0 := set10_below pB.out (Nat.le_refl G) k e t (.slice x2 n2 c2) true (5 : Int) (en : Int) (en : Int) (0 : Int) (0 : Int)
        have hbel : Below w.heap.size w (set10 wh G k e t (.slice x2 n2 c2) true (5 : Int) (en : Int) (en : Int) (0 : Int) (0 : Int)) := by rw [HG.out]; exact hb0
        have hoth : ∀ b, b ≠ G → (set10 wh G k e t (.slice x2 n2 c2) true (5 : Int) (en : Int) (en : Int) (0 : Int) (0 : Int)).heap[b]? = wh.heap[b]? := fun b hb => set10_other wh G k e t (.slice x2 n2 c2) true (5 : Int) (en : Int) (en : Int) (0 : Int) (0 : Int) b hb
        change bodyPost Try.prog _ _ _ _ (set10 wh G k e t (.slice x2 n2 c2) true (5 : Int) (en : Int) (en : Int) (0 : Int) (0 : Int))
        generalize set10 wh G k e t (.slice x2 n2 c2) true (5 : Int) (en : Int) (en : Int) (0 : Int) (0 : Int) = wq at *
        refine ret_got rfl rfl hst ?_
        have hv : (gotV k e t (.slice x2 n2 c2) true 5 (en : Int) (en : Int) 0 0) = gotV k e t (.slice x2 n2 c2) (decide (q.c.next = 17)) q.code q.fat (q.taken : Int) (q.c.op.length : Int) (q.held : Int) := by
          obtain ⟨a1, a2, a3, a4, a5⟩ := HZ.out
          rw [a4, a5, a1, a2, a3, if_pos ⟨rfl, hgt1⟩, if_pos ⟨rfl, hgt1⟩]
          rfl
        rw [hv]
        refine HRD.out _ _ ⟨k, e, t, x2, n2, c2, rfl, hbel, fun _ => ?_, fun h => absurd (by rw [HZ.out.1]) h⟩
        rw [HZ.out.1]
        exact ⟨fr, HT.out.1, HT.out.2.1, HT.out.2.2.1, TrV.low (by have := HG.out; have := hwb.out; omega) _ _ _ (TrV.same _ _ _ hTE.out (fun b hb => (hoth b (hfE.out b hb).2).trans (HH.out.2.2.2 b (hfE.out b hb).1))), HT.out.2.2.2.2⟩
      · have hif : ¬ ((!st) = false ∧ en < l.length) := fun h => hgt ⟨by simpa using h.1, h.2⟩
        have HH : Hid (St wg E (gotC k e t (.slice x2 n2 c2) true 0 0 en 0 0) ∧ St wg G (gotC 0 false ⟨#[]⟩ (.slice none 0 0) false 0 0 0 0 0) ∧ Below G w wg) := ⟨eE.out, gG.out, BE.out.1⟩
        have hz2 : Hid ((gotV k e t (.slice x2 n2 c2) true 0 0 (en : Int) 0 0) = gotV k e t (.slice x2 n2 c2) (decide (q.c.next = 17)) q.code q.fat (q.taken : Int) (q.c.op.length : Int) (q.held : Int)) := by
          obtain ⟨a1, a2, a3, a4, a5⟩ := HZ.out
          unfold Hid
          rw [a4, a5, a1, a2, a3, if_neg hif, if_neg hif]
          rfl
        clear gE5 gE6 xE5 xE6
        cases st
        · go_upto_region 17 with fail
          obtain ⟨wh, hwh⟩ : ∃ wh, wg = wh := ⟨_, rfl⟩
          have p1 : Hid (St wg G (gotC 0 false ⟨#[]⟩ (.slice none 0 0) false 0 0 0 0 0)) := HH.out.2.1
          have pB : Hid (Below G w wg) := HH.out.2.2
          have pe := HH.out.1
          rw [hwh] at p1 pB pe ⊢
          have hwe : Hid (wg = wh) := hwh
          clear hwh
          have e0 := pe.get 0 _ rfl
          have e1 := pe.get 1 _ rfl
          have e2 := pe.get 2 _ rfl
          have e3 := pe.get 3 _ rfl
          have e4 := pe.get 4 _ rfl
          have e5 := pe.get 5 _ rfl
          have e6 := pe.get 6 _ rfl
          have e7 := pe.get 7 _ rfl
          have e8 := pe.get 8 _ rfl
          have e9 := pe.get 9 _ rfl
          have v0 := p1.out.fr 0 (by show 0 < 10; decide)
          have v1 := p1.out.fr 1 (by show 1 < 10; decide)
          have v2 := p1.out.fr 2 (by show 2 < 10; decide)
          have v3 := p1.out.fr 3 (by show 3 < 10; decide)
          have v4 := p1.out.fr 4 (by show 4 < 10; decide)
          have v5 := p1.out.fr 5 (by show 5 < 10; decide)
          have v6 := p1.out.fr 6 (by show 6 < 10; decide)
          have v7 := p1.out.fr 7 (by show 7 < 10; decide)
          have v8 := p1.out.fr 8 (by show 8 < 10; decide)
          have v9 := p1.out.fr 9 (by show 9 < 10; decide)
          have u0 := p1.out.get 0 _ rfl
          have u1 := p1.out.get 1 _ rfl
          have u2 := p1.out.get 2 _ rfl
          have u3 := p1.out.get 3 _ rfl
          have u4 := p1.out.get 4 _ rfl
          have u5 := p1.out.get 5 _ rfl
          have u6 := p1.out.get 6 _ rfl
          have u7 := p1.out.get 7 _ rfl
          have u8 := p1.out.get 8 _ rfl
          have u9 := p1.out.get 9 _ rfl
          go_wp2
          have hst := set10_st p1.out k e t (.slice x2 n2 c2) true (0 : Int) (0 : Int) (en : Int) (0 : Int) (0 : Int)
          have hb0 := set10_below pB.out (Nat.le_refl G) k e t (.slice x2 n2 c2) true (0 : Int) (0 : Int) (en : Int) (0 : Int) (0 : Int)
          have hbel : Below w.heap.size w (set10 wh G k e t (.slice x2 n2 c2) true (0 : Int) (0 : Int) (en : Int) (0 : Int) (0 : Int)) := by rw [HG.out]; exact hb0
          have hoth : ∀ b, b ≠ G → (set10 wh G k e t (.slice x2 n2 c2) true (0 : Int) (0 : Int) (en : Int) (0 : Int) (0 : Int)).heap[b]? = wh.heap[b]? := fun b hb => set10_other wh G k e t (.slice x2 n2 c2) true (0 : Int) (0 : Int) (en : Int) (0 : Int) (0 : Int) b hb
          change bodyPost Try.prog _ _ _ _ (set10 wh G k e t (.slice x2 n2 c2) true (0 : Int) (0 : Int) (en : Int) (0 : Int) (0 : Int))
          generalize set10 wh G k e t (.slice x2 n2 c2) true (0 : Int) (0 : Int) (en : Int) (0 : Int) (0 : Int) = wq at *
          refine ret_got rfl rfl hst ?_
          rw [hz2.out]
          refine HRD.out _ _ ⟨k, e, t, x2, n2, c2, rfl, hbel, fun _ => ?_, fun h => absurd (by rw [HZ.out.1]) h⟩
          rw [HZ.out.1]
          exact ⟨fr, HT.out.1, HT.out.2.1, HT.out.2.2.1, TrV.low (by have := HG.out; have := hwb.out; omega) _ _ _ (TrV.same _ _ _ hTE.out (fun b hb => (hoth b (hfE.out b hb).2).trans (by rw [hwe.out]))), HT.out.2.2.2.2⟩
        · have hgn : ¬ ((en : Int) < (l.length : Int)) := fun h => hgt ⟨rfl, by omega⟩
          have hgd2 : decide ((l.length : Int) > (en : Int)) = false := by simp; omega
          go_upto_region 17 with fail
          obtain ⟨wh, hwh⟩ : ∃ wh, wg = wh := ⟨_, rfl⟩
          have p1 : Hid (St wg G (gotC 0 false ⟨#[]⟩ (.slice none 0 0) false 0 0 0 0 0)) := HH.out.2.1
          have pB : Hid (Below G w wg) := HH.out.2.2
          have pe := HH.out.1
          rw [hwh] at p1 pB pe ⊢
          have hwe : Hid (wg = wh) := hwh
          clear hwh
          have e0 := pe.get 0 _ rfl
          have e1 := pe.get 1 _ rfl
          have e2 := pe.get 2 _ rfl
          have e3 := pe.get 3 _ rfl
          have e4 := pe.get 4 _ rfl
          have e5 := pe.get 5 _ rfl
          have e6 := pe.get 6 _ rfl
          have e7 := pe.get 7 _ rfl
          have e8 := pe.get 8 _ rfl
          have e9 := pe.get 9 _ rfl
          have v0 := p1.out.fr 0 (by show 0 < 10; decide)
          have v1 := p1.out.fr 1 (by show 1 < 10; decide)
          have v2 := p1.out.fr 2 (by show 2 < 10; decide)
          have v3 := p1.out.fr 3 (by show 3 < 10; decide)
          have v4 := p1.out.fr 4 (by show 4 < 10; decide)
          have v5 := p1.out.fr 5 (by show 5 < 10; decide)
          have v6 := p1.out.fr 6 (by show 6 < 10; decide)
          have v7 := p1.out.fr 7 (by show 7 < 10; decide)
          have v8 := p1.out.fr 8 (by show 8 < 10; decide)
          have v9 := p1.out.fr 9 (by show 9 < 10; decide)
          have u0 := p1.out.get 0 _ rfl
          have u1 := p1.out.get 1 _ rfl
          have u2 := p1.out.get 2 _ rfl
          have u3 := p1.out.get 3 _ rfl
          have u4 := p1.out.get 4 _ rfl
          have u5 := p1.out.get 5 _ rfl
          have u6 := p1.out.get 6 _ rfl
          have u7 := p1.out.get 7 _ rfl
          have u8 := p1.out.get 8 _ rfl
          have u9 := p1.out.get 9 _ rfl
          go_wp2
          have hst := set10_st p1.out k e t (.slice x2 n2 c2) true (0 : Int) (0 : Int) (en : Int) (0 : Int) (0 : Int)
          have hb0 := set10_below pB.out (Nat.le_refl G) k e t (.slice x2 n2 c2) true (0 : Int) (0 : Int) (en : Int) (0 : Int) (0 : Int)
          have hbel : Below w.heap.size w (set10 wh G k e t (.slice x2 n2 c2) true (0 : Int) (0 : Int) (en : Int) (0 : Int) (0 : Int)) := by rw [HG.out]; exact hb0
          have hoth : ∀ b, b ≠ G → (set10 wh G k e t (.slice x2 n2 c2) true (0 : Int) (0 : Int) (en : Int) (0 : Int) (0 : Int)).heap[b]? = wh.heap[b]? := fun b hb => set10_other wh G k e t (.slice x2 n2 c2) true (0 : Int) (0 : Int) (en : Int) (0 : Int) (0 : Int) b hb
          change bodyPost Try.prog _ _ _ _ (set10 wh G k e t (.slice x2 n2 c2) true (0 : Int) (0 : Int) (en : Int) (0 : Int) (0 : Int))
          generalize set10 wh G k e t (.slice x2 n2 c2) true (0 : Int) (0 : Int) (en : Int) (0 : Int) (0 : Int) = wq at *
          refine ret_got rfl rfl hst ?_
          rw [hz2.out]
          refine HRD.out _ _ ⟨k, e, t, x2, n2, c2, rfl, hbel, fun _ => ?_, fun h => absurd (by rw [HZ.out.1]) h⟩
          rw [HZ.out.1]
          exact ⟨fr, HT.out.1, HT.out.2.1, HT.out.2.2.1, TrV.low (by have := HG.out; have := hwb.out; omega) _ _ _ (TrV.same _ _ _ hTE.out (fun b hb => (hoth b (hfE.out b hb).2).trans (by rw [hwe.out]))), HT.out.2.2.2.2⟩
    · have hz1' : 1 ≤ nxt := by
        obtain ⟨d, hd, _⟩ := hEn
        exact goA_ge _ _ _ _ _ _ hd
      obtain ⟨m, hm⟩ : ∃ m, nxt = m + 1 := ⟨nxt - 1, by omega⟩
      subst hm
      obtain ⟨d, hga0, hop⟩ := hEn
      have hga : goA PC.new W 0 = (d, m + 1, code) := HGO.out.trans hga0
      clear hga0 HGO hz1'
      have zD := HS.out.1
      have zDh : Hid (St wo D (stC k e t (.slice x2 n2 c2) ((m + 1 : Nat) : Int) code opn)) := zD
      have zG : Hid (St wo G (gotC 0 false ⟨#[]⟩ (.slice none 0 0) false 0 0 0 0 0)) := HS.out.2.1
      have zB : Hid (Below G w wo ∧ Below wf.heap.size wf wo) := ⟨HS.out.2.2.1, HS.out.2.2.2.1⟩
      clear zD
      have zD := zDh
      have hcb : (code == 0) = false := by simp [hc]
      obtain ⟨gr, hr1, hr2⟩ := new_goA HP0.out HQ.out HU.out hl hga
      have hnl : m + 1 ≤ W.length := by
        by_cases h1 : code = -1
        · rw [(gr.m h1).1]; exact Nat.le_refl _
        · have := (gr.b hc h1).1; omega
      have hop' : Hid (q.c.op.length = opn) := by rw [gr.pc]; exact hop
      have HGR : Hid (GoR p0 q W u n c a d (m + 1) code ∧ p0.taken = 0) := ⟨gr, hr1⟩
      have hWb : fwS W ≤ 1048576 := by have := HU.out.2.2.2.2.2; omega
      have hgah : Hid (goA PC.new W 0 = (d, (m + 1), code)) := hga
      clear gr hr1 hr2 hop hga
      obtain ⟨y, hy⟩ : ∃ y, W[m]? = some y := ⟨_, List.getElem?_eq_getElem (by omega)⟩
      obtain ⟨g', hg', g1', -, -, g2'⟩ := (HFA.out _ HS.out.2.2.2.1).at hy
      have hfs : fwS (W.take (m + 1)) ≤ 1048576 := by have := fwS_take W (m + 1); omega
      obtain ⟨en, hen0⟩ : ∃ en, fwS (W.take (m + 1)) = en := ⟨_, rfl⟩
      rw [hen0] at g2' hfs
      have HEN : Hid (en = fwS (W.take (m + 1))) := hen0.symm
      subst hg'
      have hmI : (m : Int) + 1 ≤ (W.length : Int) := by omega
      have hmI2 : (m : Int) < (W.length : Int) := by omega
      clear hy hen0
      have d0 := zD.out.get 0 _ rfl
      have d1 := zD.out.get 1 _ rfl
      have d2 := zD.out.get 2 _ rfl
      have d3 := zD.out.get 3 _ rfl
      have d4 := zD.out.get 4 _ rfl
      have d5 := zD.out.get 5 _ rfl
      have d6 := zD.out.get 6 _ rfl
      have bE : Below wo.heap.size wo (wo.alloc (.cells (gotC 0 false ⟨#[]⟩ (.slice none 0 0) false 0 0 0 opn 0).toArray 86)) := (Below.refl _ _).alloc (Nat.le_refl _) _
      have eE : Hid (St (wo.alloc (.cells (gotC 0 false ⟨#[]⟩ (.slice none 0 0) false 0 0 0 opn 0).toArray 86)) wo.heap.size (gotC 0 false ⟨#[]⟩ (.slice none 0 0) false 0 0 0 opn 0)) := St.new wo _ _
      have gG : Hid (St (wo.alloc (.cells (gotC 0 false ⟨#[]⟩ (.slice none 0 0) false 0 0 0 opn 0).toArray 86)) G (gotC 0 false ⟨#[]⟩ (.slice none 0 0) false 0 0 0 0 0)) := zG.out.bel bE
      have dD : Hid (St (wo.alloc (.cells (gotC 0 false ⟨#[]⟩ (.slice none 0 0) false 0 0 0 opn 0).toArray 86)) D (stC k e t (.slice x2 n2 c2) ((m + 1 : Nat) : Int) code opn)) := zD.out.bel bE
      have BE : Hid (Below G w (wo.alloc (.cells (gotC 0 false ⟨#[]⟩ (.slice none 0 0) false 0 0 0 opn 0).toArray 86)) ∧ Below wf.heap.size wf (wo.alloc (.cells (gotC 0 false ⟨#[]⟩ (.slice none 0 0) false 0 0 0 opn 0).toArray 86)) ∧ Below wo.heap.size wo (wo.alloc (.cells (gotC 0 false ⟨#[]⟩ (.slice none 0 0) false 0 0 0 opn 0).toArray 86))) := ⟨zB.out.1.trans (bE.mono (by have := zG.out.lt; omega)), zB.out.2.trans (bE.mono zB.out.2.size), bE⟩
      have hEb : Hid (G < wo.heap.size ∧ D < wo.heap.size ∧ wf.heap.size ≤ wo.heap.size) := ⟨zG.out.lt, zD.out.lt, zB.out.2.size⟩
      clear bE
      unfold gotC at eE
      unfold gotC at BE
      unfold gotC at dD
      unfold gotC at gG
      go_upto_region 19 with fail
      obtain ⟨E, hE⟩ : ∃ E, wo.heap.size = E := ⟨_, rfl⟩
      rw [hE] at eE BE hEb ⊢
      clear d0 d1 d2 d3 d4 d5 d6 g1' g2'
      generalize wo.alloc (.cells _ 86) = wg at *
      have gE5 := eE.out.fr 5 (by show 5 < 10; decide)
      have gE6 := eE.out.fr 6 (by show 6 < 10; decide)
      have gE7 := eE.out.fr 7 (by show 7 < 10; decide)
      have gE9 := eE.out.fr 9 (by show 9 < 10; decide)
      have xE5 := eE.out.get 5 _ rfl
      have xE6 := eE.out.get 6 _ rfl
      have xE7 := eE.out.get 7 _ rfl
      have xE9 := eE.out.get 9 _ rfl
      have d0 := dD.out.get 0 _ rfl
      have d4 := dD.out.get 4 _ rfl
      have d5 := dD.out.get 5 _ rfl
      have d6 := dD.out.get 6 _ rfl
      have hGE : Hid (G ≠ E ∧ G ≤ E) := by have := hEb.out; exact ⟨by omega, by omega⟩
      have hDE : D ≠ E := by have := hEb.out; omega
      by_cases hm1 : code = -1
      · obtain ⟨m1, m2, m3, m4, m5, m6, m7⟩ := HGR.out.1.m hm1
        rw [HGR.out.2, Nat.zero_add] at m3
        rw [HGR.out.2] at m7
        have HZ0 : Hid (q.c.next ≠ 17 ∧ q.taken = fwS W + n ∧ q.held = n ∧ q.code = c ∧ q.fat = P) := ⟨by rw [HGR.out.1.pc]; exact m2, m3, m4, m5, by
          by_cases hc0 : c = 0
          · rw [m6 hc0, HU.out.2.2.1 hc0]
          · rw [m7 hc0, HU.out.2.2.2.1 hc0]; omega⟩
        have hen : Hid (en = fwS W) := by
          have h := HEN.out
          rw [m1, List.take_length] at h
          exact h
        have hnb : n ≤ 1048576 := by
          cases HU.out.2.1 with
          | short h => have := HU.out.2.2.2.2.2; omega
          | long => omega
          | pad k z h1 h2 h3 h4 h5 => have := HU.out.2.2.2.2.2; omega
          | part k h1 h2 h3 h4 => have := HU.out.2.2.2.2.2; omega
        clear m1 m2 m3 m4 m5 m6 m7
        subst hm1
        have hcg : decide ((-1 : Int) > 0) = false := by decide
        obtain ⟨tk, htk⟩ : ∃ tk : Nat, fwS W + n = tk := ⟨_, rfl⟩
        have HTK : Hid (fwS W + n = tk) := htk
        have htkb : tk ≤ 2097152 := by omega
        have htI : (fwS W : Int) + (n : Int) = (tk : Int) := by omega
        have hte : en ≤ tk := by have := hen.out; omega
        obtain ⟨hh, hhe⟩ : ∃ hh : Nat, tk = en + hh := ⟨tk - en, by omega⟩
        have HHH : Hid (hh = n) := by have := hen.out; unfold Hid; omega
        have hhI : (tk : Int) - (en : Int) = (hh : Int) := by omega
        have HZ : Hid (q.c.next ≠ 17 ∧ q.taken = tk ∧ q.held = hh ∧ q.code = c ∧ q.fat = P) := ⟨HZ0.out.1, by have := HZ0.out.2.1; omega, by have := HZ0.out.2.2.1; have := HHH.out; omega, HZ0.out.2.2.2⟩
        clear htk HZ0
        skip
        clear hhe
        by_cases hc0 : c = 0
        · subst hc0
          go_upto_region 30 with fail
          have HH : Hid (St ((((wg.setCell ⟨E, 5, none⟩ (.int .i64 0)).setCell ⟨E, 6, none⟩ (.int .i64 P)).setCell ⟨E, 7, none⟩ (.int .i64 (tk : Int))).setCell ⟨E, 9, none⟩ (.int .i64 (hh : Int))) E (gotC 0 false ⟨#[]⟩ (.slice none 0 0) false 0 P tk opn hh) ∧ St ((((wg.setCell ⟨E, 5, none⟩ (.int .i64 0)).setCell ⟨E, 6, none⟩ (.int .i64 P)).setCell ⟨E, 7, none⟩ (.int .i64 (tk : Int))).setCell ⟨E, 9, none⟩ (.int .i64 (hh : Int))) G (gotC 0 false ⟨#[]⟩ (.slice none 0 0) false 0 0 0 0 0) ∧ Below G w ((((wg.setCell ⟨E, 5, none⟩ (.int .i64 0)).setCell ⟨E, 6, none⟩ (.int .i64 P)).setCell ⟨E, 7, none⟩ (.int .i64 (tk : Int))).setCell ⟨E, 9, none⟩ (.int .i64 (hh : Int)))) := by
            refine ⟨((((eE.out.set 5 _ (by show 5 < 10; decide)).set 6 _ (by show 6 < 10; decide)).set 7 _ (by show 7 < 10; decide)).set 9 _ (by show 9 < 10; decide)).cast rfl, ?_, (((BE.out.1.setCell (p := ⟨E, 5, none⟩) hGE.out.2 _).setCell (p := ⟨E, 6, none⟩) hGE.out.2 _).setCell (p := ⟨E, 7, none⟩) hGE.out.2 _).setCell (p := ⟨E, 9, none⟩) hGE.out.2 _⟩
            exact gG.out.same (by simp only [World.size_setCell]; exact Nat.le_refl _) ((((Below.heap_setCell _ ⟨E, 9, none⟩ _ G hGE.out.1).trans (Below.heap_setCell _ ⟨E, 7, none⟩ _ G hGE.out.1)).trans (Below.heap_setCell _ ⟨E, 6, none⟩ _ G hGE.out.1)).trans (Below.heap_setCell _ ⟨E, 5, none⟩ _ G hGE.out.1))
          change Code.wp Try.prog _ _ _ ((((wg.setCell ⟨E, 5, none⟩ (.int .i64 0)).setCell ⟨E, 6, none⟩ (.int .i64 P)).setCell ⟨E, 7, none⟩ (.int .i64 (tk : Int))).setCell ⟨E, 9, none⟩ (.int .i64 (hh : Int)))
          generalize (((wg.setCell ⟨E, 5, none⟩ (.int .i64 0)).setCell ⟨E, 6, none⟩ (.int .i64 P)).setCell ⟨E, 7, none⟩ (.int .i64 (tk : Int))).setCell ⟨E, 9, none⟩ (.int .i64 (hh : Int)) = wh at *
          have pe := HH.out.1
          have p1 : Hid (St wh G (gotC 0 false ⟨#[]⟩ (.slice none 0 0) false 0 0 0 0 0)) := HH.out.2.1
          have pB : Hid (Below G w wh) := HH.out.2.2
          clear gE5 gE6 gE7 gE9 xE5 xE6 xE7 xE9 d0 d4 d5 d6
          have e0 := pe.get 0 _ rfl
          have e1 := pe.get 1 _ rfl
          have e2 := pe.get 2 _ rfl
          have e3 := pe.get 3 _ rfl
          have e4 := pe.get 4 _ rfl
          have e5 := pe.get 5 _ rfl
          have e6 := pe.get 6 _ rfl
          have e7 := pe.get 7 _ rfl
          have e8 := pe.get 8 _ rfl
          have e9 := pe.get 9 _ rfl
          have v0 := p1.out.fr 0 (by show 0 < 10; decide)
          have v1 := p1.out.fr 1 (by show 1 < 10; decide)
          have v2 := p1.out.fr 2 (by show 2 < 10; decide)
          have v3 := p1.out.fr 3 (by show 3 < 10; decide)
          have v4 := p1.out.fr 4 (by show 4 < 10; decide)
          have v5 := p1.out.fr 5 (by show 5 < 10; decide)
          have v6 := p1.out.fr 6 (by show 6 < 10; decide)
          have v7 := p1.out.fr 7 (by show 7 < 10; decide)
          have v8 := p1.out.fr 8 (by show 8 < 10; decide)
          have v9 := p1.out.fr 9 (by show 9 < 10; decide)
          have u0 := p1.out.get 0 _ rfl
          have u1 := p1.out.get 1 _ rfl
          have u2 := p1.out.get 2 _ rfl
          have u3 := p1.out.get 3 _ rfl
          have u4 := p1.out.get 4 _ rfl
          have u5 := p1.out.get 5 _ rfl
          have u6 := p1.out.get 6 _ rfl
          have u7 := p1.out.get 7 _ rfl
          have u8 := p1.out.get 8 _ rfl
          have u9 := p1.out.get 9 _ rfl
          go_wp2
          have hst := set10_st p1.out 0 false ⟨#[]⟩ (.slice none 0 0) false 0 P (tk : Int) (opn : Int) (hh : Int)
          have hb0 := set10_below pB.out (Nat.le_refl G) 0 false ⟨#[]⟩ (.slice none 0 0) false 0 P (tk : Int) (opn : Int) (hh : Int)
          have hbel : Below w.heap.size w (set10 wh G 0 false ⟨#[]⟩ (.slice none 0 0) false 0 P (tk : Int) (opn : Int) (hh : Int)) := by rw [HG.out]; exact hb0
          have hoth : ∀ b, b ≠ G → (set10 wh G 0 false ⟨#[]⟩ (.slice none 0 0) false 0 P (tk : Int) (opn : Int) (hh : Int)).heap[b]? = wh.heap[b]? := fun b hb => set10_other wh G 0 false ⟨#[]⟩ (.slice none 0 0) false 0 P (tk : Int) (opn : Int) (hh : Int) b hb
          change bodyPost Try.prog _ _ _ _ (set10 wh G 0 false ⟨#[]⟩ (.slice none 0 0) false 0 P (tk : Int) (opn : Int) (hh : Int))
          generalize set10 wh G 0 false ⟨#[]⟩ (.slice none 0 0) false 0 P (tk : Int) (opn : Int) (hh : Int) = wq at *
          refine ret_got rfl rfl hst ?_
          have hv : (gotV 0 false ⟨#[]⟩ (.slice none 0 0) false 0 P (tk : Int) (opn : Int) (hh : Int)) = gotV 0 false ⟨#[]⟩ (.slice none 0 0) (decide (q.c.next = 17)) q.code q.fat (q.taken : Int) (q.c.op.length : Int) (q.held : Int) := by
            obtain ⟨a1, a2, a3, a4, a5⟩ := HZ.out
            rw [a4, a5, a2, a3, hop'.out, decide_eq_false a1]
            all_goals rfl
          rw [hv]
          exact HRD.out _ _ ⟨0, false, ⟨#[]⟩, none, 0, 0, rfl, hbel, fun h => absurd h HZ.out.1, fun _ => ⟨rfl, rfl, rfl, rfl, rfl, rfl⟩⟩
        · have hc0b : (c == 0) = false := by simp [hc0]
          go_upto_region 30 with fail
          have HH : Hid (St ((((wg.setCell ⟨E, 5, none⟩ (.int .i64 c)).setCell ⟨E, 6, none⟩ (.int .i64 P)).setCell ⟨E, 7, none⟩ (.int .i64 (tk : Int))).setCell ⟨E, 9, none⟩ (.int .i64 (hh : Int))) E (gotC 0 false ⟨#[]⟩ (.slice none 0 0) false c P tk opn hh) ∧ St ((((wg.setCell ⟨E, 5, none⟩ (.int .i64 c)).setCell ⟨E, 6, none⟩ (.int .i64 P)).setCell ⟨E, 7, none⟩ (.int .i64 (tk : Int))).setCell ⟨E, 9, none⟩ (.int .i64 (hh : Int))) G (gotC 0 false ⟨#[]⟩ (.slice none 0 0) false 0 0 0 0 0) ∧ Below G w ((((wg.setCell ⟨E, 5, none⟩ (.int .i64 c)).setCell ⟨E, 6, none⟩ (.int .i64 P)).setCell ⟨E, 7, none⟩ (.int .i64 (tk : Int))).setCell ⟨E, 9, none⟩ (.int .i64 (hh : Int)))) := by
            refine ⟨((((eE.out.set 5 _ (by show 5 < 10; decide)).set 6 _ (by show 6 < 10; decide)).set 7 _ (by show 7 < 10; decide)).set 9 _ (by show 9 < 10; decide)).cast rfl, ?_, (((BE.out.1.setCell (p := ⟨E, 5, none⟩) hGE.out.2 _).setCell (p := ⟨E, 6, none⟩) hGE.out.2 _).setCell (p := ⟨E, 7, none⟩) hGE.out.2 _).setCell (p := ⟨E, 9, none⟩) hGE.out.2 _⟩
            exact gG.out.same (by simp only [World.size_setCell]; exact Nat.le_refl _) ((((Below.heap_setCell _ ⟨E, 9, none⟩ _ G hGE.out.1).trans (Below.heap_setCell _ ⟨E, 7, none⟩ _ G hGE.out.1)).trans (Below.heap_setCell _ ⟨E, 6, none⟩ _ G hGE.out.1)).trans (Below.heap_setCell _ ⟨E, 5, none⟩ _ G hGE.out.1))
          change Code.wp Try.prog _ _ _ ((((wg.setCell ⟨E, 5, none⟩ (.int .i64 c)).setCell ⟨E, 6, none⟩ (.int .i64 P)).setCell ⟨E, 7, none⟩ (.int .i64 (tk : Int))).setCell ⟨E, 9, none⟩ (.int .i64 (hh : Int)))
          generalize (((wg.setCell ⟨E, 5, none⟩ (.int .i64 c)).setCell ⟨E, 6, none⟩ (.int .i64 P)).setCell ⟨E, 7, none⟩ (.int .i64 (tk : Int))).setCell ⟨E, 9, none⟩ (.int .i64 (hh : Int)) = wh at *
          have pe := HH.out.1
          have p1 : Hid (St wh G (gotC 0 false ⟨#[]⟩ (.slice none 0 0) false 0 0 0 0 0)) := HH.out.2.1
          have pB : Hid (Below G w wh) := HH.out.2.2
          clear gE5 gE6 gE7 gE9 xE5 xE6 xE7 xE9 d0 d4 d5 d6
          have e0 := pe.get 0 _ rfl
          have e1 := pe.get 1 _ rfl
          have e2 := pe.get 2 _ rfl
          have e3 := pe.get 3 _ rfl
          have e4 := pe.get 4 _ rfl
          have e5 := pe.get 5 _ rfl
          have e6 := pe.get 6 _ rfl
          have e7 := pe.get 7 _ rfl
          have e8 := pe.get 8 _ rfl
          have e9 := pe.get 9 _ rfl
          have v0 := p1.out.fr 0 (by show 0 < 10; decide)
          have v1 := p1.out.fr 1 (by show 1 < 10; decide)
          have v2 := p1.out.fr 2 (by show 2 < 10; decide)
          have v3 := p1.out.fr 3 (by show 3 < 10; decide)
          have v4 := p1.out.fr 4 (by show 4 < 10; decide)
          have v5 := p1.out.fr 5 (by show 5 < 10; decide)
          have v6 := p1.out.fr 6 (by show 6 < 10; decide)
          have v7 := p1.out.fr 7 (by show 7 < 10; decide)
          have v8 := p1.out.fr 8 (by show 8 < 10; decide)
          have v9 := p1.out.fr 9 (by show 9 < 10; decide)
          have u0 := p1.out.get 0 _ rfl
          have u1 := p1.out.get 1 _ rfl
          have u2 := p1.out.get 2 _ rfl
          have u3 := p1.out.get 3 _ rfl
          have u4 := p1.out.get 4 _ rfl
          have u5 := p1.out.get 5 _ rfl
          have u6 := p1.out.get 6 _ rfl
          have u7 := p1.out.get 7 _ rfl
          have u8 := p1.out.get 8 _ rfl
          have u9 := p1.out.get 9 _ rfl
          go_wp2
          have hst := set10_st p1.out 0 false ⟨#[]⟩ (.slice none 0 0) false c P (tk : Int) (opn : Int) (hh : Int)
          have hb0 := set10_below pB.out (Nat.le_refl G) 0 false ⟨#[]⟩ (.slice none 0 0) false c P (tk : Int) (opn : Int) (hh : Int)
          have hbel : Below w.heap.size w (set10 wh G 0 false ⟨#[]⟩ (.slice none 0 0) false c P (tk : Int) (opn : Int) (hh : Int)) := by rw [HG.out]; exact hb0
          have hoth : ∀ b, b ≠ G → (set10 wh G 0 false ⟨#[]⟩ (.slice none 0 0) false c P (tk : Int) (opn : Int) (hh : Int)).heap[b]? = wh.heap[b]? := fun b hb => set10_other wh G 0 false ⟨#[]⟩ (.slice none 0 0) false c P (tk : Int) (opn : Int) (hh : Int) b hb
          change bodyPost Try.prog _ _ _ _ (set10 wh G 0 false ⟨#[]⟩ (.slice none 0 0) false c P (tk : Int) (opn : Int) (hh : Int))
          generalize set10 wh G 0 false ⟨#[]⟩ (.slice none 0 0) false c P (tk : Int) (opn : Int) (hh : Int) = wq at *
          refine ret_got rfl rfl hst ?_
          have hv : (gotV 0 false ⟨#[]⟩ (.slice none 0 0) false c P (tk : Int) (opn : Int) (hh : Int)) = gotV 0 false ⟨#[]⟩ (.slice none 0 0) (decide (q.c.next = 17)) q.code q.fat (q.taken : Int) (q.c.op.length : Int) (q.held : Int) := by
            obtain ⟨a1, a2, a3, a4, a5⟩ := HZ.out
            rw [a4, a5, a2, a3, hop'.out, decide_eq_false a1]
            all_goals rfl
          rw [hv]
          exact HRD.out _ _ ⟨0, false, ⟨#[]⟩, none, 0, 0, rfl, hbel, fun h => absurd h HZ.out.1, fun _ => ⟨rfl, rfl, rfl, rfl, rfl, rfl⟩⟩
      · obtain ⟨b1, b2, b3, b4, b5, b6⟩ := HGR.out.1.b hc hm1
        rw [HGR.out.2, Nat.zero_add] at b4 b5
        rw [← HEN.out] at b4 b6
        obtain ⟨zw, hzw⟩ : ∃ zw, W[m + 1]? = some zw := ⟨_, List.getElem?_eq_getElem b1⟩
        have hnx := fwS_next hzw
        rw [← HEN.out] at hnx
        have hz8 : 8 ≤ fs8 zw := by unfold fs8; omega
        have hzb := fwS_take W (m + 1 + 1)
        obtain ⟨g3, hg3, zg1, -, zg2, zg3⟩ := (HFA.out _ BE.out.2.1).at hzw
        obtain rfl : g3 = g' := by injection hg3 with h; injection h with h1 h2; exact h1.symm
        have hgE : g3 ≠ E := by have := (HFA.out wf (Below.refl _ _)); obtain ⟨g4, hg4, h4, -⟩ := this.at hzw; injection hg4 with h; injection h with h1 h2; have := hEb.out; omega
        clear hg3
        rw [← HEN.out] at zg2
        obtain ⟨zz, hzz⟩ : ∃ zz, fwS (W.take (m + 1 + 1)) = zz := ⟨_, rfl⟩
        rw [hzz] at zg3 b5 b6 hnx hzb
        skip
        have hcp : 0 < code := by
          have := goA_nn _ _ _ _ _ _ hgah.out
          omega
        have hcg : decide (code > 0) = true := by simp; omega
        obtain ⟨tk, htk⟩ : ∃ tk : Nat, zz = tk + 1 := ⟨zz - 1, by omega⟩
        obtain ⟨hh, hhe⟩ : ∃ hh : Nat, tk = en + hh := ⟨tk - en, by omega⟩
        have HZ : Hid (q.c.next ≠ 17 ∧ q.taken = tk ∧ q.held = hh ∧ q.code = code ∧ q.fat = (en : Int)) := ⟨by rw [HGR.out.1.pc]; exact b2, by omega, by omega, b3, b4⟩
        have htI : (zz : Int) - 1 = (tk : Int) := by omega
        have hhI : (tk : Int) - (en : Int) = (hh : Int) := by omega
        have hzb2 : zz ≤ 1048576 := by omega
        have hnI : (m + 1 : Int) < (W.length : Int) := by omega
        clear b1 b2 b3 b4 b5 b6 htk hnx hz8 hzz hzw
        skip
        clear hhe
        go_upto_region 30 with fail
        have HH : Hid (St ((((wg.setCell ⟨E, 5, none⟩ (.int .i64 code)).setCell ⟨E, 6, none⟩ (.int .i64 (en : Int))).setCell ⟨E, 7, none⟩ (.int .i64 (tk : Int))).setCell ⟨E, 9, none⟩ (.int .i64 (hh : Int))) E (gotC 0 false ⟨#[]⟩ (.slice none 0 0) false code (en : Int) tk opn hh) ∧ St ((((wg.setCell ⟨E, 5, none⟩ (.int .i64 code)).setCell ⟨E, 6, none⟩ (.int .i64 (en : Int))).setCell ⟨E, 7, none⟩ (.int .i64 (tk : Int))).setCell ⟨E, 9, none⟩ (.int .i64 (hh : Int))) G (gotC 0 false ⟨#[]⟩ (.slice none 0 0) false 0 0 0 0 0) ∧ Below G w ((((wg.setCell ⟨E, 5, none⟩ (.int .i64 code)).setCell ⟨E, 6, none⟩ (.int .i64 (en : Int))).setCell ⟨E, 7, none⟩ (.int .i64 (tk : Int))).setCell ⟨E, 9, none⟩ (.int .i64 (hh : Int)))) := by
          refine ⟨((((eE.out.set 5 _ (by show 5 < 10; decide)).set 6 _ (by show 6 < 10; decide)).set 7 _ (by show 7 < 10; decide)).set 9 _ (by show 9 < 10; decide)).cast rfl, ?_, (((BE.out.1.setCell (p := ⟨E, 5, none⟩) hGE.out.2 _).setCell (p := ⟨E, 6, none⟩) hGE.out.2 _).setCell (p := ⟨E, 7, none⟩) hGE.out.2 _).setCell (p := ⟨E, 9, none⟩) hGE.out.2 _⟩
          exact gG.out.same (by simp only [World.size_setCell]; exact Nat.le_refl _) ((((Below.heap_setCell _ ⟨E, 9, none⟩ _ G hGE.out.1).trans (Below.heap_setCell _ ⟨E, 7, none⟩ _ G hGE.out.1)).trans (Below.heap_setCell _ ⟨E, 6, none⟩ _ G hGE.out.1)).trans (Below.heap_setCell _ ⟨E, 5, none⟩ _ G hGE.out.1))
        change Code.wp Try.prog _ _ _ ((((wg.setCell ⟨E, 5, none⟩ (.int .i64 code)).setCell ⟨E, 6, none⟩ (.int .i64 (en : Int))).setCell ⟨E, 7, none⟩ (.int .i64 (tk : Int))).setCell ⟨E, 9, none⟩ (.int .i64 (hh : Int)))
        generalize (((wg.setCell ⟨E, 5, none⟩ (.int .i64 code)).setCell ⟨E, 6, none⟩ (.int .i64 (en : Int))).setCell ⟨E, 7, none⟩ (.int .i64 (tk : Int))).setCell ⟨E, 9, none⟩ (.int .i64 (hh : Int)) = wh at *
        have pe := HH.out.1
        have p1 : Hid (St wh G (gotC 0 false ⟨#[]⟩ (.slice none 0 0) false 0 0 0 0 0)) := HH.out.2.1
        have pB : Hid (Below G w wh) := HH.out.2.2
        clear gE5 gE6 gE7 gE9 xE5 xE6 xE7 xE9 d0 d4 d5 d6
        have e0 := pe.get 0 _ rfl
        have e1 := pe.get 1 _ rfl
        have e2 := pe.get 2 _ rfl
        have e3 := pe.get 3 _ rfl
        have e4 := pe.get 4 _ rfl
        have e5 := pe.get 5 _ rfl
        have e6 := pe.get 6 _ rfl
        have e7 := pe.get 7 _ rfl
        have e8 := pe.get 8 _ rfl
        have e9 := pe.get 9 _ rfl
        have v0 := p1.out.fr 0 (by show 0 < 10; decide)
        have v1 := p1.out.fr 1 (by show 1 < 10; decide)
        have v2 := p1.out.fr 2 (by show 2 < 10; decide)
        have v3 := p1.out.fr 3 (by show 3 < 10; decide)
        have v4 := p1.out.fr 4 (by show 4 < 10; decide)
        have v5 := p1.out.fr 5 (by show 5 < 10; decide)
        have v6 := p1.out.fr 6 (by show 6 < 10; decide)
        have v7 := p1.out.fr 7 (by show 7 < 10; decide)
        have v8 := p1.out.fr 8 (by show 8 < 10; decide)
        have v9 := p1.out.fr 9 (by show 9 < 10; decide)
        have u0 := p1.out.get 0 _ rfl
        have u1 := p1.out.get 1 _ rfl
        have u2 := p1.out.get 2 _ rfl
        have u3 := p1.out.get 3 _ rfl
        have u4 := p1.out.get 4 _ rfl
        have u5 := p1.out.get 5 _ rfl
        have u6 := p1.out.get 6 _ rfl
        have u7 := p1.out.get 7 _ rfl
        have u8 := p1.out.get 8 _ rfl
        have u9 := p1.out.get 9 _ rfl
        go_wp2
        have hst := set10_st p1.out 0 false ⟨#[]⟩ (.slice none 0 0) false code (en : Int) (tk : Int) (opn : Int) (hh : Int)
        have hb0 := set10_below pB.out (Nat.le_refl G) 0 false ⟨#[]⟩ (.slice none 0 0) false code (en : Int) (tk : Int) (opn : Int) (hh : Int)
        have hbel : Below w.heap.size w (set10 wh G 0 false ⟨#[]⟩ (.slice none 0 0) false code (en : Int) (tk : Int) (opn : Int) (hh : Int)) := by rw [HG.out]; exact hb0
        have hoth : ∀ b, b ≠ G → (set10 wh G 0 false ⟨#[]⟩ (.slice none 0 0) false code (en : Int) (tk : Int) (opn : Int) (hh : Int)).heap[b]? = wh.heap[b]? := fun b hb => set10_other wh G 0 false ⟨#[]⟩ (.slice none 0 0) false code (en : Int) (tk : Int) (opn : Int) (hh : Int) b hb
        change bodyPost Try.prog _ _ _ _ (set10 wh G 0 false ⟨#[]⟩ (.slice none 0 0) false code (en : Int) (tk : Int) (opn : Int) (hh : Int))
        generalize set10 wh G 0 false ⟨#[]⟩ (.slice none 0 0) false code (en : Int) (tk : Int) (opn : Int) (hh : Int) = wq at *
        refine ret_got rfl rfl hst ?_
        have hv : (gotV 0 false ⟨#[]⟩ (.slice none 0 0) false code (en : Int) (tk : Int) (opn : Int) (hh : Int)) = gotV 0 false ⟨#[]⟩ (.slice none 0 0) (decide (q.c.next = 17)) q.code q.fat (q.taken : Int) (q.c.op.length : Int) (q.held : Int) := by
          obtain ⟨a1, a2, a3, a4, a5⟩ := HZ.out
          rw [a4, a5, a2, a3, hop'.out, decide_eq_false a1]
          all_goals rfl
        rw [hv]
        exact HRD.out _ _ ⟨0, false, ⟨#[]⟩, none, 0, 0, rfl, hbel, fun h => absurd h HZ.out.1, fun _ => ⟨rfl, rfl, rfl, rfl, rfl, rfl⟩⟩
  · have hc : cd ≠ 0 := hcd0
    have hE0 : Ends W ⟨0, [], PC.new.root⟩ 0 nx cd 0 := by
      rcases HOW.out with ⟨h1, _⟩ | ⟨_, h⟩
      · exact absurd h1 hc
      · exact h
    have hnx0 : nx = 0 := HNX.out hc
    subst hnx0
    obtain ⟨d, hga0, hop⟩ := hE0
    have hga : goA PC.new W 0 = (d, 0, cd) := hga0
    clear hga0 HOW HNX HN1 d0 d1 d2 d3 d4 d5 d6 g0 g1 g2 g3 g4 g5 g6
    have zD : Hid (St wb D (stC 0 false ⟨#[]⟩ (.slice none 0 0) ((0 : Nat) : Int) cd 0)) := e2
    have zG : Hid (St wb G (gotC 0 false ⟨#[]⟩ (.slice none 0 0) false 0 0 0 0 0)) := z1
    have zB := ZB
    have hcb : (cd == 0) = false := by simp [hc]
    obtain ⟨gr, hr1, hr2⟩ := new_goA HP0.out HQ.out HU.out hl hga
    have hnl : 0 ≤ W.length := by
      by_cases h1 : cd = -1
      · rw [(gr.m h1).1]; exact Nat.le_refl _
      · have := (gr.b hc h1).1; omega
    have hop' : Hid (q.c.op.length = 0) := by rw [gr.pc]; exact hop
    have HGR : Hid (GoR p0 q W u n c a d 0 cd ∧ p0.taken = 0) := ⟨gr, hr1⟩
    have hWb : fwS W ≤ 1048576 := by have := HU.out.2.2.2.2.2; omega
    have hgah : Hid (goA PC.new W 0 = (d, 0, cd)) := hga
    clear gr hr1 hr2 hop hga
    obtain ⟨en, hen0⟩ : ∃ en, en = 0 := ⟨0, rfl⟩
    have HEN : Hid (en = fwS (W.take 0)) := hen0
    have hfs : en ≤ 1048576 := by omega
    have HE0 : Hid (en = 0) := hen0
    clear hen0
    have d0 := zD.out.get 0 _ rfl
    have d1 := zD.out.get 1 _ rfl
    have d2 := zD.out.get 2 _ rfl
    have d3 := zD.out.get 3 _ rfl
    have d4 := zD.out.get 4 _ rfl
    have d5 := zD.out.get 5 _ rfl
    have d6 := zD.out.get 6 _ rfl
    have bE : Below wb.heap.size wb (wb.alloc (.cells (gotC 0 false ⟨#[]⟩ (.slice none 0 0) false 0 0 0 0 0).toArray 86)) := (Below.refl _ _).alloc (Nat.le_refl _) _
    have eE : Hid (St (wb.alloc (.cells (gotC 0 false ⟨#[]⟩ (.slice none 0 0) false 0 0 0 0 0).toArray 86)) wb.heap.size (gotC 0 false ⟨#[]⟩ (.slice none 0 0) false 0 0 0 0 0)) := St.new wb _ _
    have gG : Hid (St (wb.alloc (.cells (gotC 0 false ⟨#[]⟩ (.slice none 0 0) false 0 0 0 0 0).toArray 86)) G (gotC 0 false ⟨#[]⟩ (.slice none 0 0) false 0 0 0 0 0)) := zG.out.bel bE
    have dD : Hid (St (wb.alloc (.cells (gotC 0 false ⟨#[]⟩ (.slice none 0 0) false 0 0 0 0 0).toArray 86)) D (stC 0 false ⟨#[]⟩ (.slice none 0 0) ((0 : Nat) : Int) cd 0)) := zD.out.bel bE
    have BE : Hid (Below G w (wb.alloc (.cells (gotC 0 false ⟨#[]⟩ (.slice none 0 0) false 0 0 0 0 0).toArray 86)) ∧ Below wf.heap.size wf (wb.alloc (.cells (gotC 0 false ⟨#[]⟩ (.slice none 0 0) false 0 0 0 0 0).toArray 86)) ∧ Below wb.heap.size wb (wb.alloc (.cells (gotC 0 false ⟨#[]⟩ (.slice none 0 0) false 0 0 0 0 0).toArray 86))) := ⟨zB.out.1.trans (bE.mono (by have := zG.out.lt; omega)), zB.out.2.trans (bE.mono zB.out.2.size), bE⟩
    have hEb : Hid (G < wb.heap.size ∧ D < wb.heap.size ∧ wf.heap.size ≤ wb.heap.size) := ⟨zG.out.lt, zD.out.lt, zB.out.2.size⟩
    clear bE
    unfold gotC at eE
    unfold gotC at BE
    unfold gotC at dD
    unfold gotC at gG
    go_upto_region 19 with fail
    obtain ⟨E, hE⟩ : ∃ E, wb.heap.size = E := ⟨_, rfl⟩
    rw [hE] at eE BE hEb ⊢
    clear d0 d1 d2 d3 d4 d5 d6 
    generalize wb.alloc (.cells _ 86) = wg at *
    have gE5 := eE.out.fr 5 (by show 5 < 10; decide)
    have gE6 := eE.out.fr 6 (by show 6 < 10; decide)
    have gE7 := eE.out.fr 7 (by show 7 < 10; decide)
    have gE9 := eE.out.fr 9 (by show 9 < 10; decide)
    have xE5 := eE.out.get 5 _ rfl
    have xE6 := eE.out.get 6 _ rfl
    have xE7 := eE.out.get 7 _ rfl
    have xE9 := eE.out.get 9 _ rfl
    have d0 := dD.out.get 0 _ rfl
    have d4 := dD.out.get 4 _ rfl
    have d5 := dD.out.get 5 _ rfl
    have d6 := dD.out.get 6 _ rfl
    have hGE : Hid (G ≠ E ∧ G ≤ E) := by have := hEb.out; exact ⟨by omega, by omega⟩
    have hDE : D ≠ E := by have := hEb.out; omega
    by_cases hm1 : cd = -1
    · obtain ⟨m1, m2, m3, m4, m5, m6, m7⟩ := HGR.out.1.m hm1
      rw [HGR.out.2, Nat.zero_add] at m3
      rw [HGR.out.2] at m7
      have HZ0 : Hid (q.c.next ≠ 17 ∧ q.taken = fwS W + n ∧ q.held = n ∧ q.code = c ∧ q.fat = P) := ⟨by rw [HGR.out.1.pc]; exact m2, m3, m4, m5, by
        by_cases hc0 : c = 0
        · rw [m6 hc0, HU.out.2.2.1 hc0]
        · rw [m7 hc0, HU.out.2.2.2.1 hc0]; omega⟩
      have hen : Hid (en = fwS W) := by
        have h := HEN.out
        rw [m1, List.take_length] at h
        exact h
      have hnb : n ≤ 1048576 := by
        cases HU.out.2.1 with
        | short h => have := HU.out.2.2.2.2.2; omega
        | long => omega
        | pad k z h1 h2 h3 h4 h5 => have := HU.out.2.2.2.2.2; omega
        | part k h1 h2 h3 h4 => have := HU.out.2.2.2.2.2; omega
      clear m1 m2 m3 m4 m5 m6 m7
      subst hm1
      have hcg : decide ((-1 : Int) > 0) = false := by decide
      obtain ⟨tk, htk⟩ : ∃ tk : Nat, fwS W + n = tk := ⟨_, rfl⟩
      have HTK : Hid (fwS W + n = tk) := htk
      have htkb : tk ≤ 2097152 := by omega
      have htI : (fwS W : Int) + (n : Int) = (tk : Int) := by omega
      have hte : en ≤ tk := by have := hen.out; omega
      obtain ⟨hh, hhe⟩ : ∃ hh : Nat, tk = en + hh := ⟨tk - en, by omega⟩
      have HHH : Hid (hh = n) := by have := hen.out; unfold Hid; omega
      have hhI : (tk : Int) - (en : Int) = (hh : Int) := by omega
      have HZ : Hid (q.c.next ≠ 17 ∧ q.taken = tk ∧ q.held = hh ∧ q.code = c ∧ q.fat = P) := ⟨HZ0.out.1, by have := HZ0.out.2.1; omega, by have := HZ0.out.2.2.1; have := HHH.out; omega, HZ0.out.2.2.2⟩
      clear htk HZ0
      have hht : tk = hh := by have := HE0.out; omega
      subst hht
      clear hhI
      clear hhe
      by_cases hc0 : c = 0
      · subst hc0
        go_upto_region 30 with fail
        have HH : Hid (St ((((wg.setCell ⟨E, 5, none⟩ (.int .i64 0)).setCell ⟨E, 6, none⟩ (.int .i64 P)).setCell ⟨E, 7, none⟩ (.int .i64 (tk : Int))).setCell ⟨E, 9, none⟩ (.int .i64 (tk : Int))) E (gotC 0 false ⟨#[]⟩ (.slice none 0 0) false 0 P tk 0 tk) ∧ St ((((wg.setCell ⟨E, 5, none⟩ (.int .i64 0)).setCell ⟨E, 6, none⟩ (.int .i64 P)).setCell ⟨E, 7, none⟩ (.int .i64 (tk : Int))).setCell ⟨E, 9, none⟩ (.int .i64 (tk : Int))) G (gotC 0 false ⟨#[]⟩ (.slice none 0 0) false 0 0 0 0 0) ∧ Below G w ((((wg.setCell ⟨E, 5, none⟩ (.int .i64 0)).setCell ⟨E, 6, none⟩ (.int .i64 P)).setCell ⟨E, 7, none⟩ (.int .i64 (tk : Int))).setCell ⟨E, 9, none⟩ (.int .i64 (tk : Int)))) := by
          refine ⟨((((eE.out.set 5 _ (by show 5 < 10; decide)).set 6 _ (by show 6 < 10; decide)).set 7 _ (by show 7 < 10; decide)).set 9 _ (by show 9 < 10; decide)).cast rfl, ?_, (((BE.out.1.setCell (p := ⟨E, 5, none⟩) hGE.out.2 _).setCell (p := ⟨E, 6, none⟩) hGE.out.2 _).setCell (p := ⟨E, 7, none⟩) hGE.out.2 _).setCell (p := ⟨E, 9, none⟩) hGE.out.2 _⟩
          exact gG.out.same (by simp only [World.size_setCell]; exact Nat.le_refl _) ((((Below.heap_setCell _ ⟨E, 9, none⟩ _ G hGE.out.1).trans (Below.heap_setCell _ ⟨E, 7, none⟩ _ G hGE.out.1)).trans (Below.heap_setCell _ ⟨E, 6, none⟩ _ G hGE.out.1)).trans (Below.heap_setCell _ ⟨E, 5, none⟩ _ G hGE.out.1))
        change Code.wp Try.prog _ _ _ ((((wg.setCell ⟨E, 5, none⟩ (.int .i64 0)).setCell ⟨E, 6, none⟩ (.int .i64 P)).setCell ⟨E, 7, none⟩ (.int .i64 (tk : Int))).setCell ⟨E, 9, none⟩ (.int .i64 (tk : Int)))
        generalize (((wg.setCell ⟨E, 5, none⟩ (.int .i64 0)).setCell ⟨E, 6, none⟩ (.int .i64 P)).setCell ⟨E, 7, none⟩ (.int .i64 (tk : Int))).setCell ⟨E, 9, none⟩ (.int .i64 (tk : Int)) = wh at *
        have pe := HH.out.1
        have p1 : Hid (St wh G (gotC 0 false ⟨#[]⟩ (.slice none 0 0) false 0 0 0 0 0)) := HH.out.2.1
        have pB : Hid (Below G w wh) := HH.out.2.2
        clear gE5 gE6 gE7 gE9 xE5 xE6 xE7 xE9 d0 d4 d5 d6
        have e0 := pe.get 0 _ rfl
        have e1 := pe.get 1 _ rfl
        have e2 := pe.get 2 _ rfl
        have e3 := pe.get 3 _ rfl
        have e4 := pe.get 4 _ rfl
        have e5 := pe.get 5 _ rfl
        have e6 := pe.get 6 _ rfl
        have e7 := pe.get 7 _ rfl
        have e8 := pe.get 8 _ rfl
        have e9 := pe.get 9 _ rfl
        have v0 := p1.out.fr 0 (by show 0 < 10; decide)
        have v1 := p1.out.fr 1 (by show 1 < 10; decide)
        have v2 := p1.out.fr 2 (by show 2 < 10; decide)
        have v3 := p1.out.fr 3 (by show 3 < 10; decide)
        have v4 := p1.out.fr 4 (by show 4 < 10; decide)
        have v5 := p1.out.fr 5 (by show 5 < 10; decide)
        have v6 := p1.out.fr 6 (by show 6 < 10; decide)
        have v7 := p1.out.fr 7 (by show 7 < 10; decide)
        have v8 := p1.out.fr 8 (by show 8 < 10; decide)
        have v9 := p1.out.fr 9 (by show 9 < 10; decide)
        have u0 := p1.out.get 0 _ rfl
        have u1 := p1.out.get 1 _ rfl
        have u2 := p1.out.get 2 _ rfl
        have u3 := p1.out.get 3 _ rfl
        have u4 := p1.out.get 4 _ rfl
        have u5 := p1.out.get 5 _ rfl
        have u6 := p1.out.get 6 _ rfl
        have u7 := p1.out.get 7 _ rfl
        have u8 := p1.out.get 8 _ rfl
        have u9 := p1.out.get 9 _ rfl
        go_wp2
        have hst := set10_st p1.out 0 false ⟨#[]⟩ (.slice none 0 0) false 0 P (tk : Int) (0 : Int) (tk : Int)
        have hb0 := set10_below pB.out (Nat.le_refl G) 0 false ⟨#[]⟩ (.slice none 0 0) false 0 P (tk : Int) (0 : Int) (tk : Int)
        have hbel : Below w.heap.size w (set10 wh G 0 false ⟨#[]⟩ (.slice none 0 0) false 0 P (tk : Int) (0 : Int) (tk : Int)) := by rw [HG.out]; exact hb0
        have hoth : ∀ b, b ≠ G → (set10 wh G 0 false ⟨#[]⟩ (.slice none 0 0) false 0 P (tk : Int) (0 : Int) (tk : Int)).heap[b]? = wh.heap[b]? := fun b hb => set10_other wh G 0 false ⟨#[]⟩ (.slice none 0 0) false 0 P (tk : Int) (0 : Int) (tk : Int) b hb
        change bodyPost Try.prog _ _ _ _ (set10 wh G 0 false ⟨#[]⟩ (.slice none 0 0) false 0 P (tk : Int) (0 : Int) (tk : Int))
        generalize set10 wh G 0 false ⟨#[]⟩ (.slice none 0 0) false 0 P (tk : Int) (0 : Int) (tk : Int) = wq at *
        refine ret_got rfl rfl hst ?_
        have hv : (gotV 0 false ⟨#[]⟩ (.slice none 0 0) false 0 P (tk : Int) (0 : Int) (tk : Int)) = gotV 0 false ⟨#[]⟩ (.slice none 0 0) (decide (q.c.next = 17)) q.code q.fat (q.taken : Int) (q.c.op.length : Int) (q.held : Int) := by
          obtain ⟨a1, a2, a3, a4, a5⟩ := HZ.out
          rw [a4, a5, a2, a3, hop'.out, decide_eq_false a1]
          all_goals rfl
        rw [hv]
        exact HRD.out _ _ ⟨0, false, ⟨#[]⟩, none, 0, 0, rfl, hbel, fun h => absurd h HZ.out.1, fun _ => ⟨rfl, rfl, rfl, rfl, rfl, rfl⟩⟩
      · have hc0b : (c == 0) = false := by simp [hc0]
        go_upto_region 30 with fail
        have HH : Hid (St ((((wg.setCell ⟨E, 5, none⟩ (.int .i64 c)).setCell ⟨E, 6, none⟩ (.int .i64 P)).setCell ⟨E, 7, none⟩ (.int .i64 (tk : Int))).setCell ⟨E, 9, none⟩ (.int .i64 (tk : Int))) E (gotC 0 false ⟨#[]⟩ (.slice none 0 0) false c P tk 0 tk) ∧ St ((((wg.setCell ⟨E, 5, none⟩ (.int .i64 c)).setCell ⟨E, 6, none⟩ (.int .i64 P)).setCell ⟨E, 7, none⟩ (.int .i64 (tk : Int))).setCell ⟨E, 9, none⟩ (.int .i64 (tk : Int))) G (gotC 0 false ⟨#[]⟩ (.slice none 0 0) false 0 0 0 0 0) ∧ Below G w ((((wg.setCell ⟨E, 5, none⟩ (.int .i64 c)).setCell ⟨E, 6, none⟩ (.int .i64 P)).setCell ⟨E, 7, none⟩ (.int .i64 (tk : Int))).setCell ⟨E, 9, none⟩ (.int .i64 (tk : Int)))) := by
          refine ⟨((((eE.out.set 5 _ (by show 5 < 10; decide)).set 6 _ (by show 6 < 10; decide)).set 7 _ (by show 7 < 10; decide)).set 9 _ (by show 9 < 10; decide)).cast rfl, ?_, (((BE.out.1.setCell (p := ⟨E, 5, none⟩) hGE.out.2 _).setCell (p := ⟨E, 6, none⟩) hGE.out.2 _).setCell (p := ⟨E, 7, none⟩) hGE.out.2 _).setCell (p := ⟨E, 9, none⟩) hGE.out.2 _⟩
          exact gG.out.same (by simp only [World.size_setCell]; exact Nat.le_refl _) ((((Below.heap_setCell _ ⟨E, 9, none⟩ _ G hGE.out.1).trans (Below.heap_setCell _ ⟨E, 7, none⟩ _ G hGE.out.1)).trans (Below.heap_setCell _ ⟨E, 6, none⟩ _ G hGE.out.1)).trans (Below.heap_setCell _ ⟨E, 5, none⟩ _ G hGE.out.1))
        change Code.wp Try.prog _ _ _ ((((wg.setCell ⟨E, 5, none⟩ (.int .i64 c)).setCell ⟨E, 6, none⟩ (.int .i64 P)).setCell ⟨E, 7, none⟩ (.int .i64 (tk : Int))).setCell ⟨E, 9, none⟩ (.int .i64 (tk : Int)))
        generalize (((wg.setCell ⟨E, 5, none⟩ (.int .i64 c)).setCell ⟨E, 6, none⟩ (.int .i64 P)).setCell ⟨E, 7, none⟩ (.int .i64 (tk : Int))).setCell ⟨E, 9, none⟩ (.int .i64 (tk : Int)) = wh at *
        have pe := HH.out.1
        have p1 : Hid (St wh G (gotC 0 false ⟨#[]⟩ (.slice none 0 0) false 0 0 0 0 0)) := HH.out.2.1
        have pB : Hid (Below G w wh) := HH.out.2.2
        clear gE5 gE6 gE7 gE9 xE5 xE6 xE7 xE9 d0 d4 d5 d6
        have e0 := pe.get 0 _ rfl
        have e1 := pe.get 1 _ rfl
        have e2 := pe.get 2 _ rfl
        have e3 := pe.get 3 _ rfl
        have e4 := pe.get 4 _ rfl
        have e5 := pe.get 5 _ rfl
        have e6 := pe.get 6 _ rfl
        have e7 := pe.get 7 _ rfl
        have e8 := pe.get 8 _ rfl
        have e9 := pe.get 9 _ rfl
        have v0 := p1.out.fr 0 (by show 0 < 10; decide)
        have v1 := p1.out.fr 1 (by show 1 < 10; decide)
        have v2 := p1.out.fr 2 (by show 2 < 10; decide)
        have v3 := p1.out.fr 3 (by show 3 < 10; decide)
        have v4 := p1.out.fr 4 (by show 4 < 10; decide)
        have v5 := p1.out.fr 5 (by show 5 < 10; decide)
        have v6 := p1.out.fr 6 (by show 6 < 10; decide)
        have v7 := p1.out.fr 7 (by show 7 < 10; decide)
        have v8 := p1.out.fr 8 (by show 8 < 10; decide)
        have v9 := p1.out.fr 9 (by show 9 < 10; decide)
        have u0 := p1.out.get 0 _ rfl
        have u1 := p1.out.get 1 _ rfl
        have u2 := p1.out.get 2 _ rfl
        have u3 := p1.out.get 3 _ rfl
        have u4 := p1.out.get 4 _ rfl
        have u5 := p1.out.get 5 _ rfl
        have u6 := p1.out.get 6 _ rfl
        have u7 := p1.out.get 7 _ rfl
        have u8 := p1.out.get 8 _ rfl
        have u9 := p1.out.get 9 _ rfl
        go_wp2
        have hst := set10_st p1.out 0 false ⟨#[]⟩ (.slice none 0 0) false c P (tk : Int) (0 : Int) (tk : Int)
        have hb0 := set10_below pB.out (Nat.le_refl G) 0 false ⟨#[]⟩ (.slice none 0 0) false c P (tk : Int) (0 : Int) (tk : Int)
        have hbel : Below w.heap.size w (set10 wh G 0 false ⟨#[]⟩ (.slice none 0 0) false c P (tk : Int) (0 : Int) (tk : Int)) := by rw [HG.out]; exact hb0
        have hoth : ∀ b, b ≠ G → (set10 wh G 0 false ⟨#[]⟩ (.slice none 0 0) false c P (tk : Int) (0 : Int) (tk : Int)).heap[b]? = wh.heap[b]? := fun b hb => set10_other wh G 0 false ⟨#[]⟩ (.slice none 0 0) false c P (tk : Int) (0 : Int) (tk : Int) b hb
        change bodyPost Try.prog _ _ _ _ (set10 wh G 0 false ⟨#[]⟩ (.slice none 0 0) false c P (tk : Int) (0 : Int) (tk : Int))
        generalize set10 wh G 0 false ⟨#[]⟩ (.slice none 0 0) false c P (tk : Int) (0 : Int) (tk : Int) = wq at *
        refine ret_got rfl rfl hst ?_
        have hv : (gotV 0 false ⟨#[]⟩ (.slice none 0 0) false c P (tk : Int) (0 : Int) (tk : Int)) = gotV 0 false ⟨#[]⟩ (.slice none 0 0) (decide (q.c.next = 17)) q.code q.fat (q.taken : Int) (q.c.op.length : Int) (q.held : Int) := by
          obtain ⟨a1, a2, a3, a4, a5⟩ := HZ.out
          rw [a4, a5, a2, a3, hop'.out, decide_eq_false a1]
          all_goals rfl
        rw [hv]
        exact HRD.out _ _ ⟨0, false, ⟨#[]⟩, none, 0, 0, rfl, hbel, fun h => absurd h HZ.out.1, fun _ => ⟨rfl, rfl, rfl, rfl, rfl, rfl⟩⟩
    · obtain ⟨b1, b2, b3, b4, b5, b6⟩ := HGR.out.1.b hc hm1
      rw [HGR.out.2, Nat.zero_add] at b4 b5
      rw [← HEN.out] at b4 b6
      obtain ⟨zw, hzw⟩ : ∃ zw, W[0]? = some zw := ⟨_, List.getElem?_eq_getElem b1⟩
      have hnx := fwS_next hzw
      rw [← HEN.out] at hnx
      have hz8 : 8 ≤ fs8 zw := by unfold fs8; omega
      have hzb := fwS_take W (0 + 1)
      obtain ⟨g3, hg3, zg1, -, zg2, zg3⟩ := (HFA.out _ BE.out.2.1).at hzw
      subst hg3
      have hgE : g3 ≠ E := by have := (HFA.out wf (Below.refl _ _)); obtain ⟨g4, hg4, h4, -⟩ := this.at hzw; injection hg4 with h; injection h with h1 h2; have := hEb.out; omega
      rw [← HEN.out] at zg2
      obtain ⟨zz, hzz⟩ : ∃ zz, fwS (W.take (0 + 1)) = zz := ⟨_, rfl⟩
      rw [hzz] at zg3 b5 b6 hnx hzb
      simp only [Nat.zero_mul, Nat.zero_add] at zg2 zg3
      have hcp : 0 < cd := by
        have := goA_nn _ _ _ _ _ _ hgah.out
        omega
      have hcg : decide (cd > 0) = true := by simp; omega
      obtain ⟨tk, htk⟩ : ∃ tk : Nat, zz = tk + 1 := ⟨zz - 1, by omega⟩
      obtain ⟨hh, hhe⟩ : ∃ hh : Nat, tk = en + hh := ⟨tk - en, by omega⟩
      have HZ : Hid (q.c.next ≠ 17 ∧ q.taken = tk ∧ q.held = hh ∧ q.code = cd ∧ q.fat = (en : Int)) := ⟨by rw [HGR.out.1.pc]; exact b2, by omega, by omega, b3, b4⟩
      have htI : (zz : Int) - 1 = (tk : Int) := by omega
      have hhI : (tk : Int) - (en : Int) = (hh : Int) := by omega
      have hzb2 : zz ≤ 1048576 := by omega
      have hnI : (0 : Int) < (W.length : Int) := by omega
      clear b1 b2 b3 b4 b5 b6 htk hnx hz8 hzz hzw
      have hht : tk = hh := by have := HE0.out; omega
      subst hht
      clear hhI
      clear hhe
      go_upto_region 30 with fail
      have HH : Hid (St ((((wg.setCell ⟨E, 5, none⟩ (.int .i64 cd)).setCell ⟨E, 6, none⟩ (.int .i64 (en : Int))).setCell ⟨E, 7, none⟩ (.int .i64 (tk : Int))).setCell ⟨E, 9, none⟩ (.int .i64 (tk : Int))) E (gotC 0 false ⟨#[]⟩ (.slice none 0 0) false cd (en : Int) tk 0 tk) ∧ St ((((wg.setCell ⟨E, 5, none⟩ (.int .i64 cd)).setCell ⟨E, 6, none⟩ (.int .i64 (en : Int))).setCell ⟨E, 7, none⟩ (.int .i64 (tk : Int))).setCell ⟨E, 9, none⟩ (.int .i64 (tk : Int))) G (gotC 0 false ⟨#[]⟩ (.slice none 0 0) false 0 0 0 0 0) ∧ Below G w ((((wg.setCell ⟨E, 5, none⟩ (.int .i64 cd)).setCell ⟨E, 6, none⟩ (.int .i64 (en : Int))).setCell ⟨E, 7, none⟩ (.int .i64 (tk : Int))).setCell ⟨E, 9, none⟩ (.int .i64 (tk : Int)))) := by
        refine ⟨((((eE.out.set 5 _ (by show 5 < 10; decide)).set 6 _ (by show 6 < 10; decide)).set 7 _ (by show 7 < 10; decide)).set 9 _ (by show 9 < 10; decide)).cast rfl, ?_, (((BE.out.1.setCell (p := ⟨E, 5, none⟩) hGE.out.2 _).setCell (p := ⟨E, 6, none⟩) hGE.out.2 _).setCell (p := ⟨E, 7, none⟩) hGE.out.2 _).setCell (p := ⟨E, 9, none⟩) hGE.out.2 _⟩
        exact gG.out.same (by simp only [World.size_setCell]; exact Nat.le_refl _) ((((Below.heap_setCell _ ⟨E, 9, none⟩ _ G hGE.out.1).trans (Below.heap_setCell _ ⟨E, 7, none⟩ _ G hGE.out.1)).trans (Below.heap_setCell _ ⟨E, 6, none⟩ _ G hGE.out.1)).trans (Below.heap_setCell _ ⟨E, 5, none⟩ _ G hGE.out.1))
      change Code.wp Try.prog _ _ _ ((((wg.setCell ⟨E, 5, none⟩ (.int .i64 cd)).setCell ⟨E, 6, none⟩ (.int .i64 (en : Int))).setCell ⟨E, 7, none⟩ (.int .i64 (tk : Int))).setCell ⟨E, 9, none⟩ (.int .i64 (tk : Int)))
      generalize (((wg.setCell ⟨E, 5, none⟩ (.int .i64 cd)).setCell ⟨E, 6, none⟩ (.int .i64 (en : Int))).setCell ⟨E, 7, none⟩ (.int .i64 (tk : Int))).setCell ⟨E, 9, none⟩ (.int .i64 (tk : Int)) = wh at *
      have pe := HH.out.1
      have p1 : Hid (St wh G (gotC 0 false ⟨#[]⟩ (.slice none 0 0) false 0 0 0 0 0)) := HH.out.2.1
      have pB : Hid (Below G w wh) := HH.out.2.2
      clear gE5 gE6 gE7 gE9 xE5 xE6 xE7 xE9 d0 d4 d5 d6
      have e0 := pe.get 0 _ rfl
      have e1 := pe.get 1 _ rfl
      have e2 := pe.get 2 _ rfl
      have e3 := pe.get 3 _ rfl
      have e4 := pe.get 4 _ rfl
      have e5 := pe.get 5 _ rfl
      have e6 := pe.get 6 _ rfl
      have e7 := pe.get 7 _ rfl
      have e8 := pe.get 8 _ rfl
      have e9 := pe.get 9 _ rfl
      have v0 := p1.out.fr 0 (by show 0 < 10; decide)
      have v1 := p1.out.fr 1 (by show 1 < 10; decide)
      have v2 := p1.out.fr 2 (by show 2 < 10; decide)
      have v3 := p1.out.fr 3 (by show 3 < 10; decide)
      have v4 := p1.out.fr 4 (by show 4 < 10; decide)
      have v5 := p1.out.fr 5 (by show 5 < 10; decide)
      have v6 := p1.out.fr 6 (by show 6 < 10; decide)
      have v7 := p1.out.fr 7 (by show 7 < 10; decide)
      have v8 := p1.out.fr 8 (by show 8 < 10; decide)
      have v9 := p1.out.fr 9 (by show 9 < 10; decide)
      have u0 := p1.out.get 0 _ rfl
      have u1 := p1.out.get 1 _ rfl
      have u2 := p1.out.get 2 _ rfl
      have u3 := p1.out.get 3 _ rfl
      have u4 := p1.out.get 4 _ rfl
      have u5 := p1.out.get 5 _ rfl
      have u6 := p1.out.get 6 _ rfl
      have u7 := p1.out.get 7 _ rfl
      have u8 := p1.out.get 8 _ rfl
      have u9 := p1.out.get 9 _ rfl
      go_wp2
      have hst := set10_st p1.out 0 false ⟨#[]⟩ (.slice none 0 0) false cd (en : Int) (tk : Int) (0 : Int) (tk : Int)
      have hb0 := set10_below pB.out (Nat.le_refl G) 0 false ⟨#[]⟩ (.slice none 0 0) false cd (en : Int) (tk : Int) (0 : Int) (tk : Int)
      have hbel : Below w.heap.size w (set10 wh G 0 false ⟨#[]⟩ (.slice none 0 0) false cd (en : Int) (tk : Int) (0 : Int) (tk : Int)) := by rw [HG.out]; exact hb0
      have hoth : ∀ b, b ≠ G → (set10 wh G 0 false ⟨#[]⟩ (.slice none 0 0) false cd (en : Int) (tk : Int) (0 : Int) (tk : Int)).heap[b]? = wh.heap[b]? := fun b hb => set10_other wh G 0 false ⟨#[]⟩ (.slice none 0 0) false cd (en : Int) (tk : Int) (0 : Int) (tk : Int) b hb
      change bodyPost Try.prog _ _ _ _ (set10 wh G 0 false ⟨#[]⟩ (.slice none 0 0) false cd (en : Int) (tk : Int) (0 : Int) (tk : Int))
      generalize set10 wh G 0 false ⟨#[]⟩ (.slice none 0 0) false cd (en : Int) (tk : Int) (0 : Int) (tk : Int) = wq at *
      refine ret_got rfl rfl hst ?_
      have hv : (gotV 0 false ⟨#[]⟩ (.slice none 0 0) false cd (en : Int) (tk : Int) (0 : Int) (tk : Int)) = gotV 0 false ⟨#[]⟩ (.slice none 0 0) (decide (q.c.next = 17)) q.code q.fat (q.taken : Int) (q.c.op.length : Int) (q.held : Int) := by
        obtain ⟨a1, a2, a3, a4, a5⟩ := HZ.out
        rw [a4, a5, a2, a3, hop'.out, decide_eq_false a1]
        all_goals rfl
      rw [hv]
      exact HRD.out _ _ ⟨0, false, ⟨#[]⟩, none, 0, 0, rfl, hbel, fun h => absurd h HZ.out.1, fun _ => ⟨rfl, rfl, rfl, rfl, rfl, rfl⟩⟩
end Go.Proofs.Ythlioedahoiahaa
