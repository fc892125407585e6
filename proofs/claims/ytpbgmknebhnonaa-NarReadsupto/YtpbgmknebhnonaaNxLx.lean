/- The document's Parse, and the law NarReads, walked (own text of the verifier; made by mkxp.py). -/
import Derived.Test.YtpbgmknebhnonaaNxKx
import Derived.Test.YtpbgmknebhnonaaXQ
namespace Go.Proofs.Ytpbgmknebhnonaa
open Go.RowKit

theorem ret_nii {f : Func} {tmps : Array Value} {W : World} {K1 : Nat} {i j m : Nat} {k : Int} {e : Bool} {t : ByteArray} {v : Value} {a b : Int} {R : Ending → World → Prop} (hf : f.results = #[.cell i 25, .tmp j, .tmp m]) (h1 : tmps[i]?.getD undef = .pointer (some ⟨K1, 0, none⟩)) (h2 : tmps[j]?.getD undef = .int .i64 a) (h3 : tmps[m]?.getD undef = .int .i64 b)
    (q : St W K1 [.int .i64 k, .bool e, .string t, v]) (hR : R (.returned (.tuple #[.agg #[.int .i64 k, .bool e, .string t, v], .int .i64 a, .int .i64 b])) W) :
    bodyPost Try.prog f R .ret { tmps := tmps, defers := [] } W := by
  have q0 := q.get 0 _ rfl
  have q1 := q.get 1 _ rfl
  have q2 := q.get 2 _ rfl
  have q3 := q.get 3 _ rfl
  exact bodyPost_ret (v := .tuple #[.agg #[.int .i64 k, .bool e, .string t, v], .int .i64 a, .int .i64 b]) (by simp [results, hf, go_sem, h1, h2, h3, q0, q1, q2, q3]) rfl hR
theorem set4_below {W w : World} {B G : Nat} (hB : Below B w W) (hG : B ≤ G) (k : Int) (e : Bool) (t : ByteArray) (v : Value) : Below B w (set4 W G 0 k e t v) :=
  (((hB.setCell (p := ⟨G, 0, none⟩) hG _).setCell (p := ⟨G, 0 + 1, none⟩) hG _).setCell (p := ⟨G, 0 + 2, none⟩) hG _).setCell (p := ⟨G, 0 + 3, none⟩) hG _
/-- What the document's Parse answers. -/
def RPaP (l : List UInt8) (w : World) (en : Ending) (w' : World) : Prop := ∃ (x : Option Addr) (n c : Nat) (fr : List Nat), en = .returned (.tuple #[.agg #[.int .i64 (prs l).ansT.k, .bool (prs l).ansT.e, .string (prs l).ansT.t, .slice x n c], .int .i64 (prs l).ansF.1, .int .i64 (prs l).ansF.2]) ∧ TrV w' w.heap.size (prs l).ansT (.slice x n c) fr ∧ Below w.heap.size w w'

set_option maxHeartbeats 16000000 in
set_option maxRecDepth 10000 in
theorem rparse_any (l : List UInt8) (w : World) (hl : l.length ≤ 1048576) : Calls Try.prog 13 #[.string (NB.ba l)] w (RPaP l w) := by
  have bA : Hid (Below w.heap.size w (w.alloc (.cells #[.int .i64 0, .bool false, .string ⟨#[]⟩, .slice none 0 0] 25))) := (Below.refl _ _).alloc (Nat.le_refl _) _
  have s1 : Hid (St (w.alloc (.cells #[.int .i64 0, .bool false, .string ⟨#[]⟩, .slice none 0 0] 25)) w.heap.size [.int .i64 0, .bool false, .string ⟨#[]⟩, .slice none 0 0]) := St.new w _ _
  have hq : (PS.new (!true)).run l = prs l := (prs_run l).symm
  go_enter Try.func13, Try.ntmps13
  go_upto_region 1 with fail
  obtain ⟨G, hG⟩ : ∃ G, w.heap.size = G := ⟨_, rfl⟩
  have HG : Hid (w.heap.size = G) := hG
  rw [hG] at bA s1 ⊢
  clear hG
  generalize w.alloc (.cells _ 25) = w1 at *
  have CR := rread_any l true w1 hl
  unfold RdP at CR
  rw [hq] at CR
  clear hq
  by_cases hc : (prs l).code = 0
  · by_cases hn : (prs l).c.next = 17
    · obtain ⟨a1, a2⟩ := fin_whole hc hn
      have HA : Hid ((prs l).ansT = (prs l).c.root ∧ (prs l).ansF = (0, 0) ∧ (prs l).c.next = 17) := ⟨a1, a2, hn⟩
      rw [hc, hn] at CR
      go_wp2_with fail
      refine CR.mono ?_
      rintro e2 w2 ⟨k, e, t, x, n, c, rfl, b2, hW, hN⟩
      clear CR
      unfold gotV
      simp only [decide_true]
      have f1 : Hid (St w2 G [.int .i64 0, .bool false, .string ⟨#[]⟩, .slice none 0 0]) := s1.out.bel b2
      have FB : Hid (Below G w w2) := bA.out.trans (b2.mono (by have := s1.out.lt; omega))
      have hG1 : Hid (G < w1.heap.size) := s1.out.lt
      have bE : Below w2.heap.size w2 (w2.alloc (.cells (gotC k e t (.slice x n c) true 0 ((prs l).fat) ((prs l).taken : Int) ((prs l).c.op.length : Int) ((prs l).held : Int)).toArray 45)) := (Below.refl _ _).alloc (Nat.le_refl _) _
      have eE : Hid (St (w2.alloc (.cells (gotC k e t (.slice x n c) true 0 ((prs l).fat) ((prs l).taken : Int) ((prs l).c.op.length : Int) ((prs l).held : Int)).toArray 45)) w2.heap.size (gotC k e t (.slice x n c) true 0 ((prs l).fat) ((prs l).taken : Int) ((prs l).c.op.length : Int) ((prs l).held : Int))) := St.new w2 _ _
      have gG : Hid (St (w2.alloc (.cells (gotC k e t (.slice x n c) true 0 ((prs l).fat) ((prs l).taken : Int) ((prs l).c.op.length : Int) ((prs l).held : Int)).toArray 45)) G [.int .i64 0, .bool false, .string ⟨#[]⟩, .slice none 0 0]) := f1.out.bel bE
      have BE : Hid (Below G w (w2.alloc (.cells (gotC k e t (.slice x n c) true 0 ((prs l).fat) ((prs l).taken : Int) ((prs l).c.op.length : Int) ((prs l).held : Int)).toArray 45)) ∧ Below w2.heap.size w2 (w2.alloc (.cells (gotC k e t (.slice x n c) true 0 ((prs l).fat) ((prs l).taken : Int) ((prs l).c.op.length : Int) ((prs l).held : Int)).toArray 45))) := ⟨FB.out.trans (bE.mono (by have := f1.out.lt; omega)), bE⟩
      have hGl : Hid (G < w2.heap.size) := f1.out.lt
      clear bE f1 FB s1 bA
      unfold gotC at eE
      unfold gotC at BE
      unfold gotC at gG
      go_upto_region 2 with fail
      obtain ⟨E, hE⟩ : ∃ E, w2.heap.size = E := ⟨_, rfl⟩
      have hEE : Hid (w2.heap.size = E) := hE
      rw [hE] at eE BE hGl ⊢
      clear hE
      generalize w2.alloc (.cells _ 45) = w3 at *
      have pe := eE.out
      have p1 := gG
      have hGE : G ≠ E := by have := hGl.out; omega
      have e0 := pe.get 0 _ rfl
      have e1 := pe.get 1 _ rfl
      have e2 := pe.get 2 _ rfl
      have e3 := pe.get 3 _ rfl
      have e4 := pe.get 4 _ rfl
      have e5 := pe.get 5 _ rfl
      have e6 := pe.get 6 _ rfl
      have e7 := pe.get 7 _ rfl
      have e8 := pe.get 8 _ rfl
      have e9 := pe.get 9 _ rfl
      have v0 := p1.out.fr 0 (by show 0 < 4; decide)
      have v1 := p1.out.fr 1 (by show 1 < 4; decide)
      have v2 := p1.out.fr 2 (by show 2 < 4; decide)
      have v3 := p1.out.fr 3 (by show 3 < 4; decide)
      have u0 := p1.out.get 0 _ rfl
      have u1 := p1.out.get 1 _ rfl
      have u2 := p1.out.get 2 _ rfl
      have u3 := p1.out.get 3 _ rfl
      go_wp2
      have hst0 : St (set4 w3 G 0 k e t (.slice x n c)) G [.int .i64 k, .bool e, .string t, (.slice x n c)] := ((((p1.out.set 0 (.int .i64 k) (by show 0 < 4; decide)).set 1 (.bool e) (by show 1 < 4; decide)).set 2 (.string t) (by show 2 < 4; decide)).set 3 ((.slice x n c)) (by show 3 < 4; decide)).cast rfl
      have hst : St (set4 w3 G 0 k e t (.slice x n c)) G [.int .i64 k, .bool e, .string t, (.slice x n c)] := hst0
      have hb0 : Below G w (set4 w3 G 0 k e t (.slice x n c)) := set4_below BE.out.1 (Nat.le_refl G) k e t (.slice x n c)
      have hbel : Below w.heap.size w (set4 w3 G 0 k e t (.slice x n c)) := by rw [HG.out]; exact hb0
      have hoth : ∀ b, b ≠ G → (set4 w3 G 0 k e t (.slice x n c)).heap[b]? = w3.heap[b]? := fun b hb => set4_other w3 G 0 k e t (.slice x n c) b hb
      change bodyPost Try.prog _ _ _ _ (set4 w3 G 0 k e t (.slice x n c))
      generalize (set4 w3 G 0 k e t (.slice x n c)) = wq at *
      refine ret_nii rfl rfl rfl rfl hst ?_
      obtain ⟨fr, r1, r2, r3, r4, r5⟩ := hW (by first | rfl | trivial)
      have hTF : TrV wq w.heap.size (prs l).c.root (.slice x n c) fr := TrV.low (by have := HG.out; have := hG1.out; omega) _ _ _ (TrV.same _ _ _ r4 (fun b hb => (hoth b (by have := (TrV.lt _ _ _ r4 b hb).1; have := hG1.out; omega)).trans (BE.out.2.block b (by have := (TrV.lt _ _ _ r4 b hb).2; have := hEE.out; omega))))
      refine ⟨x, n, c, fr, ?_, by rw [HA.out.1]; exact hTF, hbel⟩
      rw [HA.out.1, HA.out.2.1, r1, r2, r3]
    · have e0 : (prs l).fin = ((prs l).sf 4 (prs l).taken).shut := by unfold PS.fin; rw [if_pos ⟨hc, hn⟩]
      have hc4 : (prs l).fin.code ≠ 0 := by rw [e0]; show (4 : Int) ≠ 0; decide
      have HA : Hid ((prs l).ansT = .mk 0 false ⟨#[]⟩ [] [] ∧ (prs l).ansF = (4, ((prs l).taken : Int))) := ⟨by unfold PS.ansT; rw [if_pos hc4], by unfold PS.ansF; rw [if_pos hc4, e0]; rfl⟩
      clear e0 hc4
      rw [hc, decide_eq_false hn] at CR
      go_wp2_with fail
      refine CR.mono ?_
      rintro e2 w2 ⟨k, e, t, x, n, c, rfl, b2, hW, hN⟩
      clear CR
      unfold gotV
      obtain ⟨rfl, rfl, rfl, rfl, rfl, rfl⟩ := hN (by first | exact hn | trivial)
      clear hN hW
      have f1 : Hid (St w2 G [.int .i64 0, .bool false, .string ⟨#[]⟩, .slice none 0 0]) := s1.out.bel b2
      have FB : Hid (Below G w w2) := bA.out.trans (b2.mono (by have := s1.out.lt; omega))
      have hG1 : Hid (G < w1.heap.size) := s1.out.lt
      have bE : Below w2.heap.size w2 (w2.alloc (.cells (gotC 0 false ⟨#[]⟩ (.slice none 0 0) false 0 ((prs l).fat) ((prs l).taken : Int) ((prs l).c.op.length : Int) ((prs l).held : Int)).toArray 45)) := (Below.refl _ _).alloc (Nat.le_refl _) _
      have eE : Hid (St (w2.alloc (.cells (gotC 0 false ⟨#[]⟩ (.slice none 0 0) false 0 ((prs l).fat) ((prs l).taken : Int) ((prs l).c.op.length : Int) ((prs l).held : Int)).toArray 45)) w2.heap.size (gotC 0 false ⟨#[]⟩ (.slice none 0 0) false 0 ((prs l).fat) ((prs l).taken : Int) ((prs l).c.op.length : Int) ((prs l).held : Int))) := St.new w2 _ _
      have gG : Hid (St (w2.alloc (.cells (gotC 0 false ⟨#[]⟩ (.slice none 0 0) false 0 ((prs l).fat) ((prs l).taken : Int) ((prs l).c.op.length : Int) ((prs l).held : Int)).toArray 45)) G [.int .i64 0, .bool false, .string ⟨#[]⟩, .slice none 0 0]) := f1.out.bel bE
      have BE : Hid (Below G w (w2.alloc (.cells (gotC 0 false ⟨#[]⟩ (.slice none 0 0) false 0 ((prs l).fat) ((prs l).taken : Int) ((prs l).c.op.length : Int) ((prs l).held : Int)).toArray 45)) ∧ Below w2.heap.size w2 (w2.alloc (.cells (gotC 0 false ⟨#[]⟩ (.slice none 0 0) false 0 ((prs l).fat) ((prs l).taken : Int) ((prs l).c.op.length : Int) ((prs l).held : Int)).toArray 45))) := ⟨FB.out.trans (bE.mono (by have := f1.out.lt; omega)), bE⟩
      have hGl : Hid (G < w2.heap.size) := f1.out.lt
      clear bE f1 FB s1 bA
      unfold gotC at eE
      unfold gotC at BE
      unfold gotC at gG
      go_upto_region 2 with fail
      obtain ⟨E, hE⟩ : ∃ E, w2.heap.size = E := ⟨_, rfl⟩
      have hEE : Hid (w2.heap.size = E) := hE
      rw [hE] at eE BE hGl ⊢
      clear hE
      generalize w2.alloc (.cells _ 45) = w3 at *
      have pe := eE.out
      have p1 := gG
      have hGE : G ≠ E := by have := hGl.out; omega
      have e0 := pe.get 0 _ rfl
      have e1 := pe.get 1 _ rfl
      have e2 := pe.get 2 _ rfl
      have e3 := pe.get 3 _ rfl
      have e4 := pe.get 4 _ rfl
      have e5 := pe.get 5 _ rfl
      have e6 := pe.get 6 _ rfl
      have e7 := pe.get 7 _ rfl
      have e8 := pe.get 8 _ rfl
      have e9 := pe.get 9 _ rfl
      have v0 := p1.out.fr 0 (by show 0 < 4; decide)
      have v1 := p1.out.fr 1 (by show 1 < 4; decide)
      have v2 := p1.out.fr 2 (by show 2 < 4; decide)
      have v3 := p1.out.fr 3 (by show 3 < 4; decide)
      have u0 := p1.out.get 0 _ rfl
      have u1 := p1.out.get 1 _ rfl
      have u2 := p1.out.get 2 _ rfl
      have u3 := p1.out.get 3 _ rfl
      go_upto_region 3 with fail
      go_region
      go_wp2
      have hst0 : St (set4 w3 G 0 0 false ⟨#[]⟩ (.slice none 0 0)) G [.int .i64 0, .bool false, .string ⟨#[]⟩, (.slice none 0 0)] := ((((p1.out.set 0 (.int .i64 0) (by show 0 < 4; decide)).set 1 (.bool false) (by show 1 < 4; decide)).set 2 (.string ⟨#[]⟩) (by show 2 < 4; decide)).set 3 ((.slice none 0 0)) (by show 3 < 4; decide)).cast rfl
      have hst : St (set4 w3 G 0 0 false ⟨#[]⟩ (.slice none 0 0)).drew G [.int .i64 0, .bool false, .string ⟨#[]⟩, (.slice none 0 0)] := hst0.drew
      have hb0 : Below G w (set4 w3 G 0 0 false ⟨#[]⟩ (.slice none 0 0)).drew := belR_drewN (set4_below BE.out.1 (Nat.le_refl G) 0 false ⟨#[]⟩ (.slice none 0 0)) 1
      have hbel : Below w.heap.size w (set4 w3 G 0 0 false ⟨#[]⟩ (.slice none 0 0)).drew := by rw [HG.out]; exact hb0
      have hoth : ∀ b, b ≠ G → (set4 w3 G 0 0 false ⟨#[]⟩ (.slice none 0 0)).drew.heap[b]? = w3.heap[b]? := fun b hb => (drew_at _ b).trans (set4_other w3 G 0 0 false ⟨#[]⟩ (.slice none 0 0) b hb)
      change bodyPost Try.prog _ _ _ _ (set4 w3 G 0 0 false ⟨#[]⟩ (.slice none 0 0)).drew
      generalize (set4 w3 G 0 0 false ⟨#[]⟩ (.slice none 0 0)).drew = wq at *
      refine ret_nii rfl rfl rfl rfl hst ?_
      refine ⟨none, 0, 0, [], ?_, by rw [HA.out.1]; exact leafV _ _ _ _ _, hbel⟩
      rw [HA.out.1, HA.out.2]
      rfl
  · have e0 : (prs l).fin = (prs l).shut := by unfold PS.fin; rw [if_neg (fun h => hc h.1)]
    have hc4 : (prs l).fin.code ≠ 0 := by rw [e0]; exact hc
    have HA : Hid ((prs l).ansT = .mk 0 false ⟨#[]⟩ [] [] ∧ (prs l).ansF = ((prs l).code, (prs l).fat)) := ⟨by unfold PS.ansT; rw [if_pos hc4], by unfold PS.ansF; rw [if_pos hc4, e0]; rfl⟩
    clear e0 hc4
    go_wp2_with fail
    refine CR.mono ?_
    rintro e2 w2 ⟨k, e, t, x, n, c, rfl, b2, hW, hN⟩
    clear CR
    unfold gotV
    clear hN hW
    have f1 : Hid (St w2 G [.int .i64 0, .bool false, .string ⟨#[]⟩, .slice none 0 0]) := s1.out.bel b2
    have FB : Hid (Below G w w2) := bA.out.trans (b2.mono (by have := s1.out.lt; omega))
    have hG1 : Hid (G < w1.heap.size) := s1.out.lt
    have bE : Below w2.heap.size w2 (w2.alloc (.cells (gotC k e t (.slice x n c) (decide ((prs l).c.next = 17)) ((prs l).code) ((prs l).fat) ((prs l).taken : Int) ((prs l).c.op.length : Int) ((prs l).held : Int)).toArray 45)) := (Below.refl _ _).alloc (Nat.le_refl _) _
    have eE : Hid (St (w2.alloc (.cells (gotC k e t (.slice x n c) (decide ((prs l).c.next = 17)) ((prs l).code) ((prs l).fat) ((prs l).taken : Int) ((prs l).c.op.length : Int) ((prs l).held : Int)).toArray 45)) w2.heap.size (gotC k e t (.slice x n c) (decide ((prs l).c.next = 17)) ((prs l).code) ((prs l).fat) ((prs l).taken : Int) ((prs l).c.op.length : Int) ((prs l).held : Int))) := St.new w2 _ _
    have gG : Hid (St (w2.alloc (.cells (gotC k e t (.slice x n c) (decide ((prs l).c.next = 17)) ((prs l).code) ((prs l).fat) ((prs l).taken : Int) ((prs l).c.op.length : Int) ((prs l).held : Int)).toArray 45)) G [.int .i64 0, .bool false, .string ⟨#[]⟩, .slice none 0 0]) := f1.out.bel bE
    have BE : Hid (Below G w (w2.alloc (.cells (gotC k e t (.slice x n c) (decide ((prs l).c.next = 17)) ((prs l).code) ((prs l).fat) ((prs l).taken : Int) ((prs l).c.op.length : Int) ((prs l).held : Int)).toArray 45)) ∧ Below w2.heap.size w2 (w2.alloc (.cells (gotC k e t (.slice x n c) (decide ((prs l).c.next = 17)) ((prs l).code) ((prs l).fat) ((prs l).taken : Int) ((prs l).c.op.length : Int) ((prs l).held : Int)).toArray 45))) := ⟨FB.out.trans (bE.mono (by have := f1.out.lt; omega)), bE⟩
    have hGl : Hid (G < w2.heap.size) := f1.out.lt
    clear bE f1 FB s1 bA
    unfold gotC at eE
    unfold gotC at BE
    unfold gotC at gG
    go_upto_region 2 with fail
    obtain ⟨E, hE⟩ : ∃ E, w2.heap.size = E := ⟨_, rfl⟩
    have hEE : Hid (w2.heap.size = E) := hE
    rw [hE] at eE BE hGl ⊢
    clear hE
    generalize w2.alloc (.cells _ 45) = w3 at *
    have pe := eE.out
    have p1 := gG
    have hGE : G ≠ E := by have := hGl.out; omega
    have e0 := pe.get 0 _ rfl
    have e1 := pe.get 1 _ rfl
    have e2 := pe.get 2 _ rfl
    have e3 := pe.get 3 _ rfl
    have e4 := pe.get 4 _ rfl
    have e5 := pe.get 5 _ rfl
    have e6 := pe.get 6 _ rfl
    have e7 := pe.get 7 _ rfl
    have e8 := pe.get 8 _ rfl
    have e9 := pe.get 9 _ rfl
    have v0 := p1.out.fr 0 (by show 0 < 4; decide)
    have v1 := p1.out.fr 1 (by show 1 < 4; decide)
    have v2 := p1.out.fr 2 (by show 2 < 4; decide)
    have v3 := p1.out.fr 3 (by show 3 < 4; decide)
    have u0 := p1.out.get 0 _ rfl
    have u1 := p1.out.get 1 _ rfl
    have u2 := p1.out.get 2 _ rfl
    have u3 := p1.out.get 3 _ rfl
    have hcb : ((prs l).code == 0) = false := by simp [hc]
    have hcn : ((prs l).code != 0) = true := by simp [hc]
    go_upto_region 5 with fail
    go_region
    go_wp2
    have hst0 : St (set4 w3 G 0 0 false ⟨#[]⟩ (.slice none 0 0)) G [.int .i64 0, .bool false, .string ⟨#[]⟩, (.slice none 0 0)] := ((((p1.out.set 0 (.int .i64 0) (by show 0 < 4; decide)).set 1 (.bool false) (by show 1 < 4; decide)).set 2 (.string ⟨#[]⟩) (by show 2 < 4; decide)).set 3 ((.slice none 0 0)) (by show 3 < 4; decide)).cast rfl
    have hst : St (set4 w3 G 0 0 false ⟨#[]⟩ (.slice none 0 0)).drew G [.int .i64 0, .bool false, .string ⟨#[]⟩, (.slice none 0 0)] := hst0.drew
    have hb0 : Below G w (set4 w3 G 0 0 false ⟨#[]⟩ (.slice none 0 0)).drew := belR_drewN (set4_below BE.out.1 (Nat.le_refl G) 0 false ⟨#[]⟩ (.slice none 0 0)) 1
    have hbel : Below w.heap.size w (set4 w3 G 0 0 false ⟨#[]⟩ (.slice none 0 0)).drew := by rw [HG.out]; exact hb0
    have hoth : ∀ b, b ≠ G → (set4 w3 G 0 0 false ⟨#[]⟩ (.slice none 0 0)).drew.heap[b]? = w3.heap[b]? := fun b hb => (drew_at _ b).trans (set4_other w3 G 0 0 false ⟨#[]⟩ (.slice none 0 0) b hb)
    change bodyPost Try.prog _ _ _ _ (set4 w3 G 0 0 false ⟨#[]⟩ (.slice none 0 0)).drew
    generalize (set4 w3 G 0 0 false ⟨#[]⟩ (.slice none 0 0)).drew = wq at *
    refine ret_nii rfl rfl rfl rfl hst ?_
    refine ⟨none, 0, 0, [], ?_, by rw [HA.out.1]; exact leafV _ _ _ _ _, hbel⟩
    rw [HA.out.1, HA.out.2]
    rfl

set_option maxHeartbeats 16000000 in
set_option maxRecDepth 10000 in
theorem nreads_walk (b : ByteArray) (w : World) (hb : b.size ≤ 1048576) :
    Calls Try.prog 4 #[.string b] w fun en w' => en = .returned (.bool true) ∧ Below w.heap.size w w' := by
  obtain ⟨l, rfl⟩ : ∃ l, b = NB.ba l := ⟨b.data.toList, (NB.ba_list b).symm⟩
  have hz1 : (NB.ba l).size = l.length := NB.ba_size l
  have hl : l.length ≤ 1048576 := by rw [hz1] at hb; exact hb
  have HLN : Hid (lnT (prs l).ansT) := by
    unfold Hid PS.ansT
    by_cases hc : (prs l).fin.code ≠ 0
    · rw [if_pos hc]; exact ln_zero
    · rw [if_neg hc]; exact (prs_inv l).2.1.rt
  clear hb
  go_enter Try.func4, Try.ntmps4
  go_wp2_with fail
  refine (awN w).mono ?_
  rintro e1 w1 ⟨rfl, b1⟩
  have HB1 : Hid (Below w.heap.size w w1) := b1
  clear b1
  have CP := parse_any l w1 (by omega)
  go_wp2_with fail
  refine CP.mono ?_
  rintro e2 w2 ⟨⟨v, fr, rfl, hT, _⟩, b2⟩
  clear CP
  have HB2 : Hid (Below w.heap.size w w2) := HB1.out.trans (b2.mono HB1.out.size)
  obtain ⟨xx, nn, cc, rfl⟩ : ∃ x n c, v = .slice x n c := by obtain ⟨x, c, h⟩ := hT.shape; exact ⟨x, _, c, h⟩
  have HT : Hid (TrV w2 w1.heap.size (prs l).ansT (.slice xx nn cc) fr) := hT
  clear hT b2 HB1
  obtain ⟨s1, s2, b3⟩ := two_blk w2 (prs l).ansT (.slice xx nn cc) (prs l).ansF.1 (prs l).ansF.2
  have CQ := rparse_any l ((w2.alloc (.cells #[.int .i64 (prs l).ansT.k, .bool (prs l).ansT.e, .string (prs l).ansT.t, .slice xx nn cc] 25)).alloc (.cells #[.int .i64 (prs l).ansF.1, .int .i64 (prs l).ansF.2] 34)) hl
  unfold RPaP at CQ
  obtain ⟨T, hTT⟩ : ∃ T, (prs l).ansT = T := ⟨_, rfl⟩
  obtain ⟨F, hFF⟩ : ∃ F, (prs l).ansF = F := ⟨_, rfl⟩
  rw [hTT] at HT HLN
  rw [hTT, hFF] at s1 s2 b3 CQ ⊢
  clear hTT hFF
  obtain ⟨f1, f2⟩ := F
  dsimp only at s1 s2 b3 CQ ⊢
  obtain ⟨M, hM⟩ := TrV.at T _ fr HT.out HLN.out
  have HM : Hid (At ((w2.alloc (.cells #[.int .i64 T.k, .bool T.e, .string T.t, .slice xx nn cc] 25)).alloc (.cells #[.int .i64 f1, .int .i64 f2] 34)) M (.agg #[.int .i64 T.k, .bool T.e, .string T.t, .slice xx nn cc]) T) := hM.below b3
  have HB3 : Hid (Below w.heap.size w ((w2.alloc (.cells #[.int .i64 T.k, .bool T.e, .string T.t, .slice xx nn cc] 25)).alloc (.cells #[.int .i64 f1, .int .i64 f2] 34))) := HB2.out.trans (b3.mono HB2.out.size)
  clear hM HT HB2 b3
  go_upto_region 4 with fail
  obtain ⟨D, hD⟩ : ∃ D, w2.heap.size = D := ⟨_, rfl⟩
  rw [hD] at s1 s2 ⊢
  clear hD
  generalize (w2.alloc (.cells #[.int .i64 T.k, .bool T.e, .string T.t, .slice xx nn cc] 25)).alloc (.cells #[.int .i64 f1, .int .i64 f2] 34) = w3 at *
  have HS : Hid (St w3 D [.int .i64 T.k, .bool T.e, .string T.t, .slice xx nn cc] ∧ St w3 (D + 1) [.int .i64 f1, .int .i64 f2]) := ⟨s1, s2⟩
  clear s1 s2
  go_wp2_with fail
  refine CQ.mono ?_
  rintro e4 w4 ⟨x4, n4, c4, fr4, rfl, hT4, b4⟩
  clear CQ
  have bE : Below w4.heap.size w4 (w4.alloc (.cells #[.int .i64 T.k, .bool T.e, .string T.t, .slice x4 n4 c4] 25)) := (Below.refl _ _).alloc (Nat.le_refl _) _
  obtain ⟨M4, hM4⟩ := TrV.at T _ fr4 hT4 HLN.out
  have HM4 : Hid (At (w4.alloc (.cells #[.int .i64 T.k, .bool T.e, .string T.t, .slice x4 n4 c4] 25)) M4 (.agg #[.int .i64 T.k, .bool T.e, .string T.t, .slice x4 n4 c4]) T) := hM4.below bE
  have b5 : Below w3.heap.size w3 (w4.alloc (.cells #[.int .i64 T.k, .bool T.e, .string T.t, .slice x4 n4 c4] 25)) := b4.trans (bE.mono b4.size)
  have HM5 : Hid (At (w4.alloc (.cells #[.int .i64 T.k, .bool T.e, .string T.t, .slice x4 n4 c4] 25)) M (.agg #[.int .i64 T.k, .bool T.e, .string T.t, .slice xx nn cc]) T) := HM.out.below b5
  have p1 : Hid (St (w4.alloc (.cells #[.int .i64 T.k, .bool T.e, .string T.t, .slice x4 n4 c4] 25)) D [.int .i64 T.k, .bool T.e, .string T.t, .slice xx nn cc]) := HS.out.1.bel b5
  have p2 : Hid (St (w4.alloc (.cells #[.int .i64 T.k, .bool T.e, .string T.t, .slice x4 n4 c4] 25)) (D + 1) [.int .i64 f1, .int .i64 f2]) := HS.out.2.bel b5
  have p3 : Hid (St (w4.alloc (.cells #[.int .i64 T.k, .bool T.e, .string T.t, .slice x4 n4 c4] 25)) w4.heap.size [.int .i64 T.k, .bool T.e, .string T.t, .slice x4 n4 c4]) := St.new w4 _ _
  have HB5 : Hid (Below w.heap.size w (w4.alloc (.cells #[.int .i64 T.k, .bool T.e, .string T.t, .slice x4 n4 c4] 25))) := HB3.out.trans (b5.mono HB3.out.size)
  clear bE hM4 hT4 b4 b5 HM HB3 HS
  go_upto_region 5 with fail
  obtain ⟨E, hE⟩ : ∃ E, w4.heap.size = E := ⟨_, rfl⟩
  rw [hE] at p3 ⊢
  clear hE
  generalize w4.alloc (.cells #[.int .i64 T.k, .bool T.e, .string T.t, .slice x4 n4 c4] 25) = w5 at *
  have x0 := p1.out.get 0 _ rfl
  have x1 := p1.out.get 1 _ rfl
  have x2 := p1.out.get 2 _ rfl
  have x3 := p1.out.get 3 _ rfl
  have y0 := p2.out.get 0 _ rfl
  have y1 := p2.out.get 1 _ rfl
  have z0 := p3.out.get 0 _ rfl
  have z1 := p3.out.get 1 _ rfl
  have z2 := p3.out.get 2 _ rfl
  have z3 := p3.out.get 3 _ rfl
  have q1 : (f1 == f1) = true := by simp
  have q2 : (f2 == f2) = true := by simp
  have CE := requal_any (max M M4) _ _ T T w5 (HM5.out.upto (Nat.le_max_left _ _)) (HM4.out.upto (Nat.le_max_right _ _))
  go_wp2_with fail
  refine CE.mono ?_
  rintro e8 w8 ⟨⟨r, rfl, hr⟩, b8⟩
  have hrt : r = true := by simpa using hr
  subst hrt
  have HB8 : Hid (Below w.heap.size w w8) := HB5.out.trans (b8.mono HB5.out.size)
  clear CE b8 hr
  go_wp2
  go_ret
  exact ⟨rfl, HB8.out⟩
end Go.Proofs.Ytpbgmknebhnonaa
