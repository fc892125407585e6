/- The laws' plain, walked. -/
import Derived.Test.YtbfhfejdmhjccaaRiC
namespace Go.Proofs.Ytbfhfejdmhjccaa
open Go.RowKit

theorem infoRStp : (Try.prog.info? 63).map (fun i => (i.zero, i.size, i.bytes)) = some (some (.agg #[.string ⟨#[]⟩, .slice none 0 0]), 2, 40) := by kernel_rfl
theorem undRLST : Try.prog.underlying 31 = some (.slice 63) := by kernel_rfl
/-- Block h holds a recipe of the document. -/
def R3 (w : World) (h : Nat) (a b c : Value) : Prop := w.heap[h]? = some (.cells #[a, b, c] 33 (0, 0))
theorem R3.lt {w : World} {h : Nat} {a b c : Value} (s : R3 w h a b c) : h < w.heap.size := (Array.getElem?_eq_some_iff.1 s).1
theorem R3.c0 {w : World} {h : Nat} {a b c : Value} (s : R3 w h a b c) : w.cell? ⟨h, 0, none⟩ = some a := by rw [Lib.cell_of_heap s]; rfl
theorem R3.c1 {w : World} {h : Nat} {a b c : Value} (s : R3 w h a b c) : w.cell? ⟨h, 1, none⟩ = some b := by rw [Lib.cell_of_heap s]; rfl
theorem R3.c2 {w : World} {h : Nat} {a b c : Value} (s : R3 w h a b c) : w.cell? ⟨h, 2, none⟩ = some c := by rw [Lib.cell_of_heap s]; rfl
theorem R3.f {w : World} {h : Nat} {a b c : Value} (s : R3 w h a b c) (j : Nat) : w.frozen? ⟨h, j, none⟩ = false := Lib.frozen_of_heap s j
theorem R3.same {w w' : World} {h : Nat} {a b c : Value} (s : R3 w h a b c) (e : w'.heap[h]? = w.heap[h]?) : R3 w' h a b c := e.trans s
theorem R3.set0 {w : World} {h : Nat} {a b c : Value} (s : R3 w h a b c) (a' : Value) : R3 (w.setCell ⟨h, 0, none⟩ a') h a' b c := by
  unfold R3 at s ⊢
  simp [World.setCell, Array.getElem?_modify, s]
theorem R3.set1 {w : World} {h : Nat} {a b c : Value} (s : R3 w h a b c) (b' : Value) : R3 (w.setCell ⟨h, 1, none⟩ b') h a b' c := by
  unfold R3 at s ⊢
  simp [World.setCell, Array.getElem?_modify, s]
theorem R3.set2 {w : World} {h : Nat} {a b c : Value} (s : R3 w h a b c) (c' : Value) : R3 (w.setCell ⟨h, 2, none⟩ c') h a b c' := by
  unfold R3 at s ⊢
  simp [World.setCell, Array.getElem?_modify, s]
theorem R3.new (w : World) (a b c : Value) : R3 (w.alloc (.cells #[a, b, c] 33)) w.heap.size a b c := Array.getElem?_push_size

/-- v is a slice of these steps of the document, which the call itself made. -/
def PlS (w : World) (B : Nat) (v : Value) (P : List (Stp × Value)) : Prop := w.ownsRow B 63 2 v P.length (P.flatMap stC)
theorem PlS.lt {w : World} {B : Nat} {v : Value} {P : List (Stp × Value)} (h : PlS w B v P) : ∀ k, v.ownBlock = some k → B ≤ k ∧ k < w.heap.size := fun k hk => World.ownsRow.lt h k hk
theorem PlS.same {w w' : World} {B : Nat} {v : Value} {P : List (Stp × Value)} (h : PlS w B v P) (e : ∀ k, v.ownBlock = some k → w'.heap[k]? = w.heap[k]?) : PlS w' B v P := row_same h e
theorem PlS.app {w : World} {B : Nat} {v : Value} {P : List (Stp × Value)} (h : PlS w B v P) (t : Stp) (x : Value) (hx1 : x.oneCell' = true) (hB : B ≤ w.heap.size) (hl : P.length ≤ 1073741824) :
    ∃ p c w', (Builtin.append_ #[31, 31] 31 #[v, .slice (some ⟨w.heap.size, 0, none⟩) 1 1]).run Try.prog (w.alloc (.cells #[.string (ba t.1), x] 63)) = .ok (.slice p (P.length + 1) c) w' ∧ PlS w' B (.slice p (P.length + 1) c) (P ++ [(t, x)]) ∧ w.grownBy w' v.ownBlock := by
  obtain ⟨i0, hi, hz0, hz1, hz2⟩ := info_parts infoRStp
  obtain ⟨v', w2, hr, hown', hgrow, -, -⟩ := run_append_own_at (P := Try.prog) (w.alloc (.cells #[.string (ba t.1), x] 63)) B 31 31 63 i0 (.agg #[.string ⟨#[]⟩, .slice none 0 0]) 2 40 undRLST hi hz0 hz1 hz2 rfl (by decide) v P.length (P.flatMap stC) (World.ownsRow.alloc h _) ⟨w.heap.size, 0, none⟩ 1 1 [.string (ba t.1), x] rfl (fun j u hj => by
      match j, hj with
      | 0, hj => simp at hj; subst hj; exact (World.cell?_alloc_new w _ _ 0).trans rfl
      | 1, hj => simp at hj; subst hj; exact (World.cell?_alloc_new w _ _ 1).trans rfl) (by intro u hu; simp at hu; rcases hu with rfl | rfl; rfl; exact hx1) (by unfold maxLen; omega) (by omega) (by rw [World.size_alloc]; omega)
  obtain ⟨p, c, rfl⟩ := slice_of_row hown'
  refine ⟨p, c, w2, hr, ?_, (World.grownBy_alloc w _ _).trans hgrow⟩
  unfold PlS
  rw [List.length_append, List.flatMap_append]
  have : [(t, x)].flatMap stC = [.string (ba t.1), x] := by simp [stC]
  rw [this]
  exact hown'
theorem PlS.read {w : World} {B C : Nat} {v : Value} {P : List (Stp × Value)} (h : PlS w B v P) (hR : ∀ p ∈ P, RT w C p.2 p.1.2) (hC : C ≤ w.heap.size) : RS w w.heap.size v (P.map Prod.fst) := by
  rcases h.2 with ⟨rfl, e⟩ | ⟨g, cap, cur, rfl, hb, hg, r⟩
  · have e' : P = [] := List.eq_nil_of_length_eq_zero e
    subst e'
    exact ⟨none, 0, rfl, fun i t hi => by simp at hi⟩
  · refine ⟨some ⟨g, 0, none⟩, cap, by rw [List.length_map], fun i t hi => ?_⟩
    rw [List.getElem?_map] at hi
    obtain ⟨p, hp, hpt⟩ := Option.map_eq_some_iff.1 hi
    have hi' : i < P.length := (List.getElem?_eq_some_iff.1 hp).1
    have hf := flat_at P i p hp
    refine ⟨g, 0, p.2, rfl, (Array.getElem?_eq_some_iff.1 hg).1, ?_, ?_, ?_⟩
    · rw [Nat.zero_add, World.ownsRow.cellAt h _ (by omega), hf.1, hpt]
    · rw [Nat.zero_add, World.ownsRow.cellAt h _ (by omega), hf.2]
    · rw [← hpt]
      exact (hR p (List.mem_of_getElem? hp)).up hC

set_option maxHeartbeats 16000000 in
theorem plain_any (r : Rec) (vd vs : Value) (w : World) (hd : RT w w.heap.size vd r.ds) (hS : RS w w.heap.size vs r.ss) (hl : r.ss.length ≤ 1073741824) :
    Calls Try.prog 12 #[.agg #[.string (ba r.nm), vd, vs]] w fun e w' => (∃ vp, e = .returned (.agg #[.string (ba r.nm), vd, vp]) ∧ RS w' w'.heap.size vp r.ss) ∧ Below w.heap.size w w' := by
  obtain ⟨nm, ds, ss⟩ := r
  dsimp only at hd hS hl ⊢
  obtain ⟨xd, cd, rfl, -⟩ := hd
  obtain ⟨xt, ct, rfl, hx⟩ := hS
  have HX : Hid (∀ i t, ss[i]? = some t → ∃ b o y, xt = some ⟨b, o, none⟩ ∧ b < w.heap.size ∧ w.cell? ⟨b, o + i * 2, none⟩ = some (.string (ba t.1)) ∧ w.cell? ⟨b, o + i * 2 + 1, none⟩ = some y ∧ RT w w.heap.size y t.2) := hx
  clear hx
  have s1 : (w.alloc (.cells #[.string (ba nm), .slice xd ds.length cd, .slice xt ss.length ct] 26)).heap.size = w.heap.size + 1 := World.size_alloc _ _
  have s2 : ((w.alloc (.cells #[.string (ba nm), .slice xd ds.length cd, .slice xt ss.length ct] 26)).alloc (.cells #[.string ⟨#[]⟩, .slice none 0 0, .slice none 0 0] 33)).heap.size = w.heap.size + 1 + 1 := by rw [World.size_alloc, s1]
  have B0 : Below w.heap.size w ((w.alloc (.cells #[.string (ba nm), .slice xd ds.length cd, .slice xt ss.length ct] 26)).alloc (.cells #[.string ⟨#[]⟩, .slice none 0 0, .slice none 0 0] 33)) := ((Below.refl _ _).alloc (Nat.le_refl _) _).alloc (by rw [s1]; omega) _
  have S0 : St3 ((w.alloc (.cells #[.string (ba nm), .slice xd ds.length cd, .slice xt ss.length ct] 26)).alloc (.cells #[.string ⟨#[]⟩, .slice none 0 0, .slice none 0 0] 33)) w.heap.size (.string (ba nm)) (.slice xd ds.length cd) (.slice xt ss.length ct) := (St3.new w _ _ _).same (Below.heap_alloc _ _ _ (by rw [s1]; omega))
  have a0 := S0.c0
  have a1 := S0.c1
  go_enter Try.func12, Try.ntmps12
  go_upto_region 2 with fail
  have B3 : Below w.heap.size w (((w.alloc (.cells #[.string (ba nm), .slice xd ds.length cd, .slice xt ss.length ct] 26)).alloc (.cells #[.string ⟨#[]⟩, .slice none 0 0, .slice none 0 0] 33)).alloc (.cells #[.string (ba nm), .slice xd ds.length cd, .slice none 0 0] 33)) := B0.alloc (by rw [s2]; omega) _
  have S3 : St3 (((w.alloc (.cells #[.string (ba nm), .slice xd ds.length cd, .slice xt ss.length ct] 26)).alloc (.cells #[.string ⟨#[]⟩, .slice none 0 0, .slice none 0 0] 33)).alloc (.cells #[.string (ba nm), .slice xd ds.length cd, .slice none 0 0] 33)) w.heap.size (.string (ba nm)) (.slice xd ds.length cd) (.slice xt ss.length ct) := S0.same (Below.heap_alloc _ _ _ (by rw [s2]; omega))
  have R3a : R3 (((w.alloc (.cells #[.string (ba nm), .slice xd ds.length cd, .slice xt ss.length ct] 26)).alloc (.cells #[.string ⟨#[]⟩, .slice none 0 0, .slice none 0 0] 33)).alloc (.cells #[.string (ba nm), .slice xd ds.length cd, .slice none 0 0] 33)) (w.heap.size + 1) (.string ⟨#[]⟩) (.slice none 0 0) (.slice none 0 0) := by
    have h := R3.new (w.alloc (.cells #[.string (ba nm), .slice xd ds.length cd, .slice xt ss.length ct] 26)) (.string ⟨#[]⟩) (.slice none 0 0) (.slice none 0 0)
    rw [s1] at h
    exact h.same (Below.heap_alloc _ _ _ (by rw [s2]; omega))
  have R3b : R3 (((w.alloc (.cells #[.string (ba nm), .slice xd ds.length cd, .slice xt ss.length ct] 26)).alloc (.cells #[.string ⟨#[]⟩, .slice none 0 0, .slice none 0 0] 33)).alloc (.cells #[.string (ba nm), .slice xd ds.length cd, .slice none 0 0] 33)) (w.heap.size + 1 + 1) (.string (ba nm)) (.slice xd ds.length cd) (.slice none 0 0) := by
    have h := R3.new ((w.alloc (.cells #[.string (ba nm), .slice xd ds.length cd, .slice xt ss.length ct] 26)).alloc (.cells #[.string ⟨#[]⟩, .slice none 0 0, .slice none 0 0] 33)) (.string (ba nm)) (.slice xd ds.length cd) (.slice none 0 0)
    rw [s2] at h
    exact h
  clear s1 s2 B0 S0 a0 a1
  generalize (((w.alloc (.cells #[.string (ba nm), .slice xd ds.length cd, .slice xt ss.length ct] 26)).alloc (.cells #[.string ⟨#[]⟩, .slice none 0 0, .slice none 0 0] 33)).alloc (.cells #[.string (ba nm), .slice xd ds.length cd, .slice none 0 0] 33)) = w3 at B3 S3 R3a R3b ⊢
  have HB3 : Hid (Below w.heap.size w w3) := B3
  have HA3 : Hid (R3 w3 (w.heap.size + 1) (.string ⟨#[]⟩) (.slice none 0 0) (.slice none 0 0)) := R3a
  have HO3 : Hid (R3 w3 (w.heap.size + 1 + 1) (.string (ba nm)) (.slice xd ds.length cd) (.slice none 0 0)) := R3b
  have a2 := S3.c2
  clear B3 R3a R3b S3
  generalize hr : w.heap.size = r at *
  have Hr : Hid (w.heap.size = r) := hr
  clear hr
  obtain ⟨g, hg⟩ : ∃ g, g = r + 1 := ⟨_, rfl⟩
  obtain ⟨k, hk⟩ : ∃ k, k = r + 1 + 1 := ⟨_, rfl⟩
  rw [← hk] at HO3
  rw [← hg] at HA3
  rw [← hk, ← hg]
  have h1 : r < g := by omega
  have h2 : g < k := by omega
  clear hg hk
  go_wp2_with fail
  go_loopg [5, 14] ss.length (fun gk u5 iv wr => ∃ (i : Nat) (P : List (Stp × Value)) (p : Option Addr) (c : Nat), gk + i = ss.length ∧ iv = .int .i64 (i : Int) ∧ Hid (P.map Prod.fst = ss.take i ∧ ∀ q ∈ P, RT w r q.2 q.1.2) ∧ P.length = i ∧ Hid (R3 wr k (.string (ba nm)) (.slice xd ds.length cd) (.slice p i c)) ∧ Hid (PlS wr (k + 1) (.slice p i c) P) ∧ Hid (R3 wr g (.string ⟨#[]⟩) (.slice none 0 0) (.slice none 0 0)) ∧ Hid (Below r w wr))
  case atStart => exact ⟨0, [], none, 0, rfl, rfl, ⟨rfl, fun q hq => absurd hq (by simp)⟩, rfl, HO3, World.ownsRow_nil _ _ _ _, HA3, HB3⟩
  case round =>
    obtain ⟨i, P, p, c, hgk, rfl, hP, hPl, hO, hT, hA, hB⟩ := hrel
    clear HB3 HA3 HO3 a2
    by_cases hi : i < ss.length
    · obtain ⟨t, ht⟩ : ∃ t, ss[i]? = some t := ⟨_, List.getElem?_eq_getElem hi⟩
      obtain ⟨b, o, y, rfl, lb, c1, c2, r1⟩ := HX.out i t ht
      have d1 : wr.cell? ⟨b, o + i * 2, none⟩ = some (.string (ba t.1)) := cell_keep hB.out (by show b < r; omega) c1
      have d2 : wr.cell? ⟨b, o + i * 2 + 1, none⟩ = some y := cell_keep hB.out (by show b < r; omega) c2
      have HY : Hid (RT w r y t.2) := r1
      obtain ⟨xa, ca, rfl, -⟩ := r1
      have hi' : (i : Int) < (ss.length : Int) := by omega
      have HP2 : Hid ((P ++ [(t, Value.slice xa t.2.length ca)]).map Prod.fst = ss.take (i + 1) ∧ ∀ q ∈ P ++ [(t, Value.slice xa t.2.length ca)], RT w r q.2 q.1.2) := by
        refine ⟨?_, fun q hq => ?_⟩
        · rw [List.map_append, hP.out.1, List.take_add_one, ht]
          rfl
        · rw [List.mem_append] at hq
          rcases hq with hq | hq
          · exact hP.out.2 q hq
          · simp at hq; subst hq; exact HY.out
      have hwl : k < wr.heap.size := hO.out.lt
      have b4 : Below wr.heap.size wr (wr.alloc (.cells #[.string (ba t.1), .slice xa t.2.length ca] 47)) := (Below.refl _ _).alloc (Nat.le_refl _) _
      have S4 := St2.new wr (.string (ba t.1)) (.slice xa t.2.length ca)
      have HO4 : Hid (R3 (wr.alloc (.cells #[.string (ba t.1), .slice xa t.2.length ca] 47)) k (.string (ba nm)) (.slice xd ds.length cd) (.slice p i c)) := hO.out.same (b4.block k hwl)
      have HA4 : Hid (R3 (wr.alloc (.cells #[.string (ba t.1), .slice xa t.2.length ca] 47)) g (.string ⟨#[]⟩) (.slice none 0 0) (.slice none 0 0)) := hA.out.same (b4.block g (by omega))
      have HT4 : Hid (PlS (wr.alloc (.cells #[.string (ba t.1), .slice xa t.2.length ca] 47)) (k + 1) (.slice p i c) P) := hT.out.same (fun j hj => b4.block j (hT.out.lt j hj).2)
      have HB4 : Hid (Below r w (wr.alloc (.cells #[.string (ba t.1), .slice xa t.2.length ca] 47))) := hB.out.trans (b4.mono (by omega))
      clear c1 c2 lb b4 hO hA hT hB hP
      go_upto_region 5 with fail
      generalize wr.alloc (.cells #[.string (ba t.1), .slice xa t.2.length ca] 47) = w4 at S4 HO4 HA4 HT4 HB4 ⊢
      have e0 := S4.c0
      have e1 := S4.c1
      have e2 := HO4.out.c2
      have hk4 : k + 1 ≤ w4.heap.size := HO4.out.lt
      obtain ⟨p5, c5, w5, hr5, T5, G5⟩ := HT4.out.app t (.slice xa t.2.length ca) rfl hk4 (by omega)
      rw [hPl] at hr5 T5
      have hb5 : ∀ j, j ≤ k → w5.heap[j]? = w4.heap[j]? := fun j hj => G5.block j (by omega) (fun e => by have := (HT4.out.lt j e.symm).1; omega)
      have HO5 : Hid (R3 w5 k (.string (ba nm)) (.slice xd ds.length cd) (.slice p i c)) := HO4.out.same (hb5 k (Nat.le_refl _))
      have f2 := HO5.out.c2
      have f3 := HO5.out.f 2
      have HO6 : Hid (R3 (w5.setCell ⟨k, 2, none⟩ (.slice p5 (i + 1) c5)) k (.string (ba nm)) (.slice xd ds.length cd) (.slice p5 (i + 1) c5)) := HO5.out.set2 _
      have HA6 : Hid (R3 (w5.setCell ⟨k, 2, none⟩ (.slice p5 (i + 1) c5)) g (.string ⟨#[]⟩) (.slice none 0 0) (.slice none 0 0)) := HA4.out.same ((Below.heap_setCell w5 ⟨k, 2, none⟩ _ g (by show g ≠ k; omega)).trans (hb5 g (by omega)))
      have HT6 : Hid (PlS (w5.setCell ⟨k, 2, none⟩ (.slice p5 (i + 1) c5)) (k + 1) (.slice p5 (i + 1) c5) (P ++ [(t, .slice xa t.2.length ca)])) := T5.same (fun j hj => Below.heap_setCell w5 ⟨k, 2, none⟩ _ j (by have := (T5.lt j hj).1; show j ≠ k; omega))
      have HB6 : Hid (Below r w (w5.setCell ⟨k, 2, none⟩ (.slice p5 (i + 1) c5))) := (HB4.out.grown G5 (by omega) (fun j hj => by have := (HT4.out.lt j hj).1; omega)).setCell (p := ⟨k, 2, none⟩) (by show r ≤ k; omega) _
      clear T5 G5 hb5 HO4 HA4 HT4 HB4 S4 HO5
      go_wp2_with (first | (refine wpList_app_is (by rfl) 31 31 (.tmp 19) (.tmp 25) (by rfl) _ _ _ _ (by rfl) (by rfl) hr5 ?_))
      go_roundg (gk - 1)
      case measure => omega
      case rel => exact ⟨i + 1, P ++ [(t, .slice xa t.2.length ca)], p5, c5, by omega, by go_num, HP2, by rw [List.length_append, hPl]; rfl, HO6, HT6, HA6, HB6⟩
    · have hi' : ¬ (i : Int) < (ss.length : Int) := by omega
      have e0 := hO.out.c0
      have e1 := hO.out.c1
      have e2 := hO.out.c2
      have g0 := hA.out.c0
      have g1 := hA.out.c1
      have g2 := hA.out.c2
      have q0 := hA.out.f 0
      have q1 := hA.out.f 1
      have q2 := hA.out.f 2
      have R9 : R3 (((wr.setCell ⟨g, 0, none⟩ (.string (ba nm))).setCell ⟨g, 1, none⟩ (.slice xd ds.length cd)).setCell ⟨g, 2, none⟩ (.slice p i c)) g (.string (ba nm)) (.slice xd ds.length cd) (.slice p i c) := ((hA.out.set0 _).set1 _).set2 _
      have hs9 : ∀ j, j ≠ g → (((wr.setCell ⟨g, 0, none⟩ (.string (ba nm))).setCell ⟨g, 1, none⟩ (.slice xd ds.length cd)).setCell ⟨g, 2, none⟩ (.slice p i c)).heap[j]? = wr.heap[j]? := fun j hj => (Below.heap_setCell _ ⟨g, 2, none⟩ _ j hj).trans ((Below.heap_setCell _ ⟨g, 1, none⟩ _ j hj).trans (Below.heap_setCell _ ⟨g, 0, none⟩ _ j hj))
      have B9 : Below r w (((wr.setCell ⟨g, 0, none⟩ (.string (ba nm))).setCell ⟨g, 1, none⟩ (.slice xd ds.length cd)).setCell ⟨g, 2, none⟩ (.slice p i c)) := ((hB.out.setCell (p := ⟨g, 0, none⟩) (by show r ≤ g; omega) _).setCell (p := ⟨g, 1, none⟩) (by show r ≤ g; omega) _).setCell (p := ⟨g, 2, none⟩) (by show r ≤ g; omega) _
      have T9 : PlS (((wr.setCell ⟨g, 0, none⟩ (.string (ba nm))).setCell ⟨g, 1, none⟩ (.slice xd ds.length cd)).setCell ⟨g, 2, none⟩ (.slice p i c)) (k + 1) (.slice p i c) P := hT.out.same (fun j hj => hs9 j (by have := (hT.out.lt j hj).1; omega))
      have HR9 : Hid (RS (((wr.setCell ⟨g, 0, none⟩ (.string (ba nm))).setCell ⟨g, 1, none⟩ (.slice xd ds.length cd)).setCell ⟨g, 2, none⟩ (.slice p i c)) (((wr.setCell ⟨g, 0, none⟩ (.string (ba nm))).setCell ⟨g, 1, none⟩ (.slice xd ds.length cd)).setCell ⟨g, 2, none⟩ (.slice p i c)).heap.size (.slice p i c) ss) := by
        have hh := T9.read (C := r) (fun q hq => (hP.out.2 q hq).below B9 (Nat.le_refl _)) (by have := B9.size; rw [Hr.out] at this; exact this)
        rw [hP.out.1, List.take_of_length_le (by omega)] at hh
        exact hh
      have HR3 : Hid (R3 (((wr.setCell ⟨g, 0, none⟩ (.string (ba nm))).setCell ⟨g, 1, none⟩ (.slice xd ds.length cd)).setCell ⟨g, 2, none⟩ (.slice p i c)) g (.string (ba nm)) (.slice xd ds.length cd) (.slice p i c)) := R9
      have HB9 : Hid (Below r w (((wr.setCell ⟨g, 0, none⟩ (.string (ba nm))).setCell ⟨g, 1, none⟩ (.slice xd ds.length cd)).setCell ⟨g, 2, none⟩ (.slice p i c))) := B9
      clear R9 hs9 B9 T9 hO hA hT hB hP
      go_wp2
      generalize ((wr.setCell ⟨g, 0, none⟩ (.string (ba nm))).setCell ⟨g, 1, none⟩ (.slice xd ds.length cd)).setCell ⟨g, 2, none⟩ (.slice p i c) = w9 at HR9 HR3 HB9 ⊢
      have z0 := HR3.out.c0
      have z1 := HR3.out.c1
      have z2 := HR3.out.c2
      refine bodyPost_ret (v := .agg #[.string (ba nm), .slice xd ds.length cd, .slice p i c]) (by simp [results, Try.results12, go_sem, z0, z1, z2]) rfl ?_
      exact ⟨⟨_, rfl, HR9.out⟩, by rw [Hr.out]; exact HB9.out⟩

end Go.Proofs.Ytbfhfejdmhjccaa
