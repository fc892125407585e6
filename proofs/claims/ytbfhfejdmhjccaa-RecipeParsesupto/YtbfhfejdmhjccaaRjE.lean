/- The document's Parse, walked; made by mkrje.py. -/
import Derived.Test.YtbfhfejdmhjccaaRjD
namespace Go.Proofs.Ytbfhfejdmhjccaa
open Go.RowKit

theorem PlS.up {w : World} {B B' : Nat} {v : Value} {P : List (Stp × Value)} (h : PlS w B v P) (e : B' ≤ B) : PlS w B' v P := row_up h e
theorem StW.up {w : World} {B B' : Nat} {v : Value} {p : Stp × Value} (h : StW w B v p) (e : B' ≤ B) : StW w B' v p := by
  obtain ⟨k, c, c', pa, h1, h2, h3, h4⟩ := h
  exact ⟨k, c, c', pa, h1.up e, h2, h3, h4⟩
/-- What the document's Parse answers. -/
def ParP (s : List UInt8) (B : Nat) (R : Rs Rec) (e : Ending) (w : World) : Prop :=
  match R with
  | .ok r _ => ∃ vd vs P, e = .returned (.tuple #[.agg #[.string (ba r.nm), vd, vs], .int .i64 0, .bool true]) ∧ TxS w B vd r.ds ∧ PlS w B vs P ∧ P.map Prod.fst = r.ss ∧ ∀ p ∈ P, StW w B vs p
  | .bad m => e = .returned (.tuple #[.agg #[.string ⟨#[]⟩, .slice none 0 0, .slice none 0 0], .int .i64 ((s.length - m.length : Nat) : Int), .bool false])
/-- Parse's two blocks: the answer's (still zero), and the recipe under way. -/
structure PI (w : World) (g k : Nat) (a b c : Value) (W : World) : Prop where
  A : R3 W g (.string ⟨#[]⟩) (.slice none 0 0) (.slice none 0 0)
  O : R3 W k a b c
  B : Below g w W
theorem PI.next {w : World} {g k : Nat} {a b c : Value} {W W' : World} (h : PI w g k a b c W) (n : Below W.heap.size W W') : PI w g k a b c W' :=
  ⟨h.A.same (n.block g h.A.lt), h.O.same (n.block k h.O.lt), h.B.trans (n.mono (Nat.le_of_lt h.A.lt))⟩
theorem PI.set0 {w : World} {g k : Nat} {a b c : Value} {W : World} (h : PI w g k a b c W) (e : g < k) (x : Value) : PI w g k x b c (W.setCell ⟨k, 0, none⟩ x) :=
  ⟨h.A.same (Below.heap_setCell W ⟨k, 0, none⟩ x g (by show g ≠ k; omega)), h.O.set0 x, h.B.setCell (p := ⟨k, 0, none⟩) (by show g ≤ k; omega) x⟩
theorem PI.set1 {w : World} {g k : Nat} {a b c : Value} {W : World} (h : PI w g k a b c W) (e : g < k) (x : Value) : PI w g k a x c (W.setCell ⟨k, 1, none⟩ x) :=
  ⟨h.A.same (Below.heap_setCell W ⟨k, 1, none⟩ x g (by show g ≠ k; omega)), h.O.set1 x, h.B.setCell (p := ⟨k, 1, none⟩) (by show g ≤ k; omega) x⟩
theorem PI.set2 {w : World} {g k : Nat} {a b c : Value} {W : World} (h : PI w g k a b c W) (e : g < k) (x : Value) : PI w g k a b x (W.setCell ⟨k, 2, none⟩ x) :=
  ⟨h.A.same (Below.heap_setCell W ⟨k, 2, none⟩ x g (by show g ≠ k; omega)), h.O.set2 x, h.B.setCell (p := ⟨k, 2, none⟩) (by show g ≤ k; omega) x⟩
theorem PI.fin {w : World} {g k : Nat} {a b c : Value} {W : World} (h : PI w g k a b c W) (x y z : Value) : R3 (((W.setCell ⟨g, 0, none⟩ x).setCell ⟨g, 1, none⟩ y).setCell ⟨g, 2, none⟩ z) g x y z ∧ Below g w (((W.setCell ⟨g, 0, none⟩ x).setCell ⟨g, 1, none⟩ y).setCell ⟨g, 2, none⟩ z) :=
  ⟨((h.A.set0 x).set1 y).set2 z, ((h.B.setCell (p := ⟨g, 0, none⟩) (Nat.le_refl _) x).setCell (p := ⟨g, 1, none⟩) (Nat.le_refl _) y).setCell (p := ⟨g, 2, none⟩) (Nat.le_refl _) z⟩

set_option maxHeartbeats 32000000 in
theorem refParse_any (s : List UInt8) (w : World) (hs : s.length ≤ 16777216) :
    Calls Try.prog 10 #[.string (ba s)] w fun e w' => ParP s w.heap.size (prs s) e w' ∧ Below w.heap.size w w' := by
  have hsz := ba_size s
  have eo : ba opn = ⟨#[82, 101, 99, 105, 112, 101, 40]⟩ := rfl
  have ec : ba [44, 91] = ⟨#[44, 91]⟩ := rfl
  have e93 : ba [93] = ⟨#[93]⟩ := rfl
  have e41 : ba [41] = ⟨#[41]⟩ := rfl
  have hSf : Sf s s := ⟨[], rfl⟩
  obtain ⟨w0, hw0⟩ : ∃ w0, w0 = (w.alloc (.cells #[.string ⟨#[]⟩, .slice none 0 0, .slice none 0 0] 33)).alloc (.cells #[.string ⟨#[]⟩, .slice none 0 0, .slice none 0 0] 33) := ⟨_, rfl⟩
  have I0 : PI w w.heap.size (w.heap.size + 1) (.string ⟨#[]⟩) (.slice none 0 0) (.slice none 0 0) w0 := by
    have s1 : (w.alloc (.cells #[.string ⟨#[]⟩, .slice none 0 0, .slice none 0 0] 33)).heap.size = w.heap.size + 1 := World.size_alloc _ _
    rw [hw0]
    refine ⟨(R3.new w _ _ _).same (Below.heap_alloc _ _ _ (by rw [s1]; omega)), ?_, ((Below.refl _ _).alloc (Nat.le_refl _) _).alloc (by rw [s1]; omega) _⟩
    have h := R3.new (w.alloc (.cells #[.string ⟨#[]⟩, .slice none 0 0, .slice none 0 0] 33)) (.string ⟨#[]⟩) (.slice none 0 0) (.slice none 0 0)
    rw [s1] at h
    exact h
  have WC := word_any s s opn w0 hs (show 7 ≤ 1024 by decide) hSf
  rw [eo, Nat.sub_self] at WC
  generalize hR : prs s = R
  have HR : Hid (((ex opn s).bind fun _ l => (quo l).bind fun nm l => (ex [44, 91] l).bind fun _ l => (lst 93 quo (s.length + 1) true l).bind fun ds l => (ex [44, 91] l).bind fun _ l => (lst 93 (stp (s.length + 1)) (s.length + 1) true l).bind fun ss l => (ex [41] l).bind fun _ l => .ok ⟨nm, ds, ss⟩ l).bind (fun (r : Rec) l => if l = [] then .ok r l else .bad l) = R) := hR
  clear hR
  go_enter Try.func10, Try.ntmps10
  go_wp2_with fail
  rw [← hw0]
  clear hw0
  have HI0 : Hid (PI w w.heap.size (w.heap.size + 1) (.string ⟨#[]⟩) (.slice none 0 0) (.slice none 0 0) w0) := I0
  clear I0
  generalize hg : w.heap.size = g at *
  have Hg : Hid (w.heap.size = g) := hg
  clear hg
  obtain ⟨k, hk⟩ : ∃ k, k = g + 1 := ⟨_, rfl⟩
  rw [← hk] at HI0 ⊢
  have hgk : g < k := by omega
  clear hk
  refine WC.mono ?_
  rintro e w1 ⟨hX, q1, rfl⟩
  clear WC hSf
  have HI1 : Hid (PI w g k (.string ⟨#[]⟩) (.slice none 0 0) (.slice none 0 0) (w0.drewN q1)) := HI0.out.next (bel_drewN (Below.refl _ _) q1)
  generalize w0.drewN q1 = w1 at HI1 ⊢
  clear HI0
  cases hx : ex opn s with
  | bad m =>
    rw [hx] at hX HR
    obtain ⟨rfl, -⟩ := hX
    clear hx
    have q0 := HI1.out.A.c0
    have q1 := HI1.out.A.c1
    have q2 := HI1.out.A.c2
    have f0 := HI1.out.A.f 0
    have f1 := HI1.out.A.f 1
    have f2 := HI1.out.A.f 2
    have HZ : Hid (R3 (((w1.setCell ⟨g, 0, none⟩ (.string ⟨#[]⟩)).setCell ⟨g, 1, none⟩ (.slice none 0 0)).setCell ⟨g, 2, none⟩ (.slice none 0 0)) g (.string ⟨#[]⟩) (.slice none 0 0) (.slice none 0 0) ∧ Below g w (((w1.setCell ⟨g, 0, none⟩ (.string ⟨#[]⟩)).setCell ⟨g, 1, none⟩ (.slice none 0 0)).setCell ⟨g, 2, none⟩ (.slice none 0 0))) := HI1.out.fin _ _ _
    go_wp2
    generalize ((w1.setCell ⟨g, 0, none⟩ (.string ⟨#[]⟩)).setCell ⟨g, 1, none⟩ (.slice none 0 0)).setCell ⟨g, 2, none⟩ (.slice none 0 0) = w9 at HZ ⊢
    have z0 := HZ.out.1.c0
    have z1 := HZ.out.1.c1
    have z2 := HZ.out.1.c2
    refine bodyPost_ret (v := .tuple #[.agg #[.string ⟨#[]⟩, .slice none 0 0, .slice none 0 0], .int .i64 ((s.length - m.length : Nat) : Int), .bool false]) (by simp [results, Try.results10, go_sem, z0, z1, z2]) rfl ?_
    rw [← HR.out]
    exact ⟨rfl, by rw [Hg.out]; exact HZ.out.2⟩
  | ok u m =>
    rw [hx] at hX HR
    obtain ⟨rfl, hm⟩ := hX
    have HM : Hid (Sf s m) := hm
    clear hx hm
    have HR2 : Hid (((quo m).bind fun nm l => (ex [44, 91] l).bind fun _ l => (lst 93 quo (s.length + 1) true l).bind fun ds l => (ex [44, 91] l).bind fun _ l => (lst 93 (stp (s.length + 1)) (s.length + 1) true l).bind fun ss l => (ex [41] l).bind fun _ l => Rs.ok (⟨nm, ds, ss⟩ : Rec) l).bind (fun (r : Rec) l => if l = [] then .ok r l else .bad l) = R) := HR.out
    clear HR
    go_wp2_with fail
    refine (str_any s m w1 hs HM.out).mono ?_
    rintro e w2 ⟨hX, B2⟩
    have HI2 : Hid (PI w g k (.string ⟨#[]⟩) (.slice none 0 0) (.slice none 0 0) w2) := HI1.out.next B2
    clear HI1 B2
    have a0 := HI2.out.O.c0
    have b0 := HI2.out.O.f 0
    cases hx : quo m with
    | bad m2 =>
      rw [hx] at hX HR2
      obtain ⟨rfl, -⟩ := hX
      clear hx
      have HJ : Hid (PI w g k (.string ⟨#[]⟩) (.slice none 0 0) (.slice none 0 0) (w2.setCell ⟨k, 0, none⟩ (.string ⟨#[]⟩))) := HI2.out.set0 hgk _
      have q0 := HJ.out.A.c0
      have q1 := HJ.out.A.c1
      have q2 := HJ.out.A.c2
      have f0 := HJ.out.A.f 0
      have f1 := HJ.out.A.f 1
      have f2 := HJ.out.A.f 2
      have HZ : Hid (R3 ((((w2.setCell ⟨k, 0, none⟩ (.string ⟨#[]⟩)).setCell ⟨g, 0, none⟩ (.string ⟨#[]⟩)).setCell ⟨g, 1, none⟩ (.slice none 0 0)).setCell ⟨g, 2, none⟩ (.slice none 0 0)) g (.string ⟨#[]⟩) (.slice none 0 0) (.slice none 0 0) ∧ Below g w ((((w2.setCell ⟨k, 0, none⟩ (.string ⟨#[]⟩)).setCell ⟨g, 0, none⟩ (.string ⟨#[]⟩)).setCell ⟨g, 1, none⟩ (.slice none 0 0)).setCell ⟨g, 2, none⟩ (.slice none 0 0))) := HJ.out.fin _ _ _
      go_wp2
      generalize (((w2.setCell ⟨k, 0, none⟩ (.string ⟨#[]⟩)).setCell ⟨g, 0, none⟩ (.string ⟨#[]⟩)).setCell ⟨g, 1, none⟩ (.slice none 0 0)).setCell ⟨g, 2, none⟩ (.slice none 0 0) = w9 at HZ ⊢
      have z0 := HZ.out.1.c0
      have z1 := HZ.out.1.c1
      have z2 := HZ.out.1.c2
      refine bodyPost_ret (v := .tuple #[.agg #[.string ⟨#[]⟩, .slice none 0 0, .slice none 0 0], .int .i64 ((s.length - m2.length : Nat) : Int), .bool false]) (by simp [results, Try.results10, go_sem, z0, z1, z2]) rfl ?_
      rw [← HR2.out]
      exact ⟨rfl, by rw [Hg.out]; exact HZ.out.2⟩
    | ok nm m2 =>
      rw [hx] at hX HR2
      obtain ⟨rfl, hm2⟩ := hX
      have HM2 : Hid (Sf s m2) := hm2
      have HR3 : Hid (((ex [44, 91] m2).bind fun _ l => (lst 93 quo (s.length + 1) true l).bind fun ds l => (ex [44, 91] l).bind fun _ l => (lst 93 (stp (s.length + 1)) (s.length + 1) true l).bind fun ss l => (ex [41] l).bind fun _ l => Rs.ok (⟨nm, ds, ss⟩ : Rec) l).bind (fun (r : Rec) l => if l = [] then .ok r l else .bad l) = R) := HR2.out
      have HI3 : Hid (PI w g k (.string (ba nm)) (.slice none 0 0) (.slice none 0 0) (w2.setCell ⟨k, 0, none⟩ (.string (ba nm)))) := HI2.out.set0 hgk _
      clear hx hm2 HR2 HI2
      go_wp2_with fail
      clear a0 b0
      generalize w2.setCell ⟨k, 0, none⟩ (.string (ba nm)) = w3 at HI3 ⊢
      have WC := word_any s m2 [44, 91] w3 hs (show 2 ≤ 1024 by decide) HM2.out
      rw [ec] at WC
      refine WC.mono ?_
      rintro e w4 ⟨hX, q4, rfl⟩
      clear WC
      have HI4 : Hid (PI w g k (.string (ba nm)) (.slice none 0 0) (.slice none 0 0) (w3.drewN q4)) := HI3.out.next (bel_drewN (Below.refl _ _) q4)
      generalize w3.drewN q4 = w4 at HI4 ⊢
      clear HI3
      cases hx : ex [44, 91] m2 with
      | bad m3 =>
        rw [hx] at hX HR3
        obtain ⟨rfl, -⟩ := hX
        clear hx
        have q0 := HI4.out.A.c0
        have q1 := HI4.out.A.c1
        have q2 := HI4.out.A.c2
        have f0 := HI4.out.A.f 0
        have f1 := HI4.out.A.f 1
        have f2 := HI4.out.A.f 2
        have HZ : Hid (R3 (((w4.setCell ⟨g, 0, none⟩ (.string ⟨#[]⟩)).setCell ⟨g, 1, none⟩ (.slice none 0 0)).setCell ⟨g, 2, none⟩ (.slice none 0 0)) g (.string ⟨#[]⟩) (.slice none 0 0) (.slice none 0 0) ∧ Below g w (((w4.setCell ⟨g, 0, none⟩ (.string ⟨#[]⟩)).setCell ⟨g, 1, none⟩ (.slice none 0 0)).setCell ⟨g, 2, none⟩ (.slice none 0 0))) := HI4.out.fin _ _ _
        go_wp2
        generalize ((w4.setCell ⟨g, 0, none⟩ (.string ⟨#[]⟩)).setCell ⟨g, 1, none⟩ (.slice none 0 0)).setCell ⟨g, 2, none⟩ (.slice none 0 0) = w9 at HZ ⊢
        have z0 := HZ.out.1.c0
        have z1 := HZ.out.1.c1
        have z2 := HZ.out.1.c2
        refine bodyPost_ret (v := .tuple #[.agg #[.string ⟨#[]⟩, .slice none 0 0, .slice none 0 0], .int .i64 ((s.length - m3.length : Nat) : Int), .bool false]) (by simp [results, Try.results10, go_sem, z0, z1, z2]) rfl ?_
        rw [← HR3.out]
        exact ⟨rfl, by rw [Hg.out]; exact HZ.out.2⟩
      | ok u3 m3 =>
        rw [hx] at hX HR3
        obtain ⟨rfl, hm3⟩ := hX
        have HM3 : Hid (Sf s m3) := hm3
        have HR4 : Hid (((lst 93 quo (s.length + 1) true m3).bind fun ds l => (ex [44, 91] l).bind fun _ l => (lst 93 (stp (s.length + 1)) (s.length + 1) true l).bind fun ss l => (ex [41] l).bind fun _ l => Rs.ok (⟨nm, ds, ss⟩ : Rec) l).bind (fun (r : Rec) l => if l = [] then .ok r l else .bad l) = R) := HR3.out
        clear hx hm3 HR3
        have SC := strs_any s m3 93 s.length true HM3.out.le w4 hs HM3.out
        rw [e93] at SC
        go_wp2_with fail
        refine SC.mono ?_
        rintro e w5 ⟨hX, B5⟩
        clear SC
        have hk4 : k + 1 ≤ w4.heap.size := HI4.out.O.lt
        have HI5 : Hid (PI w g k (.string (ba nm)) (.slice none 0 0) (.slice none 0 0) w5) := HI4.out.next B5
        clear HI4 B5
        have a1 := HI5.out.O.c1
        have b1 := HI5.out.O.f 1
        rw [if_pos (by trivial)] at hX
        cases hx : lst 93 quo (s.length + 1) true m3 with
        | bad m4 =>
          rw [hx] at hX HR4
          obtain ⟨rfl, -⟩ := hX
          clear hx
          have HJ : Hid (PI w g k (.string (ba nm)) (.slice none 0 0) (.slice none 0 0) (w5.setCell ⟨k, 1, none⟩ (.slice none 0 0))) := HI5.out.set1 hgk _
          have q0 := HJ.out.A.c0
          have q1 := HJ.out.A.c1
          have q2 := HJ.out.A.c2
          have f0 := HJ.out.A.f 0
          have f1 := HJ.out.A.f 1
          have f2 := HJ.out.A.f 2
          have HZ : Hid (R3 ((((w5.setCell ⟨k, 1, none⟩ (.slice none 0 0)).setCell ⟨g, 0, none⟩ (.string ⟨#[]⟩)).setCell ⟨g, 1, none⟩ (.slice none 0 0)).setCell ⟨g, 2, none⟩ (.slice none 0 0)) g (.string ⟨#[]⟩) (.slice none 0 0) (.slice none 0 0) ∧ Below g w ((((w5.setCell ⟨k, 1, none⟩ (.slice none 0 0)).setCell ⟨g, 0, none⟩ (.string ⟨#[]⟩)).setCell ⟨g, 1, none⟩ (.slice none 0 0)).setCell ⟨g, 2, none⟩ (.slice none 0 0))) := HJ.out.fin _ _ _
          go_wp2
          generalize (((w5.setCell ⟨k, 1, none⟩ (.slice none 0 0)).setCell ⟨g, 0, none⟩ (.string ⟨#[]⟩)).setCell ⟨g, 1, none⟩ (.slice none 0 0)).setCell ⟨g, 2, none⟩ (.slice none 0 0) = w9 at HZ ⊢
          have z0 := HZ.out.1.c0
          have z1 := HZ.out.1.c1
          have z2 := HZ.out.1.c2
          refine bodyPost_ret (v := .tuple #[.agg #[.string ⟨#[]⟩, .slice none 0 0, .slice none 0 0], .int .i64 ((s.length - m4.length : Nat) : Int), .bool false]) (by simp [results, Try.results10, go_sem, z0, z1, z2]) rfl ?_
          rw [← HR4.out]
          exact ⟨rfl, by rw [Hg.out]; exact HZ.out.2⟩
        | ok ds m4 =>
          rw [hx] at hX HR4
          obtain ⟨vd, rfl, hd, hm4⟩ := hX
          obtain ⟨pd, cd, rfl⟩ := hd.shape
          have HM4 : Hid (Sf s m4) := hm4
          have HR5 : Hid (((ex [44, 91] m4).bind fun _ l => (lst 93 (stp (s.length + 1)) (s.length + 1) true l).bind fun ss l => (ex [41] l).bind fun _ l => Rs.ok (⟨nm, ds, ss⟩ : Rec) l).bind (fun (r : Rec) l => if l = [] then .ok r l else .bad l) = R) := HR4.out
          have HI6 : Hid (PI w g k (.string (ba nm)) (.slice pd ds.length cd) (.slice none 0 0) (w5.setCell ⟨k, 1, none⟩ (.slice pd ds.length cd))) := HI5.out.set1 hgk _
          have HD6 : Hid (TxS (w5.setCell ⟨k, 1, none⟩ (.slice pd ds.length cd)) (k + 1) (.slice pd ds.length cd) ds) := (hd.up hk4).same (fun j hj => Below.heap_setCell w5 ⟨k, 1, none⟩ _ j (by have := (hd.lt j hj).1; show j ≠ k; omega))
          clear hx hm4 HR4 HI5 hd
          go_wp2_with fail
          clear a1 b1
          generalize w5.setCell ⟨k, 1, none⟩ (.slice pd ds.length cd) = w6 at HI6 HD6 ⊢
          have WC := word_any s m4 [44, 91] w6 hs (show 2 ≤ 1024 by decide) HM4.out
          rw [ec] at WC
          refine WC.mono ?_
          rintro e w7 ⟨hX, q7, rfl⟩
          clear WC
          have HI7 : Hid (PI w g k (.string (ba nm)) (.slice pd ds.length cd) (.slice none 0 0) (w6.drewN q7)) := HI6.out.next (bel_drewN (Below.refl _ _) q7)
          have HD7 : Hid (TxS (w6.drewN q7) (k + 1) (.slice pd ds.length cd) ds) := HD6.out.same (fun _ _ => rfl)
          generalize w6.drewN q7 = w7 at HI7 HD7 ⊢
          clear HI6 HD6
          cases hx : ex [44, 91] m4 with
          | bad m5 =>
            rw [hx] at hX HR5
            obtain ⟨rfl, -⟩ := hX
            clear hx
            have q0 := HI7.out.A.c0
            have q1 := HI7.out.A.c1
            have q2 := HI7.out.A.c2
            have f0 := HI7.out.A.f 0
            have f1 := HI7.out.A.f 1
            have f2 := HI7.out.A.f 2
            have HZ : Hid (R3 (((w7.setCell ⟨g, 0, none⟩ (.string ⟨#[]⟩)).setCell ⟨g, 1, none⟩ (.slice none 0 0)).setCell ⟨g, 2, none⟩ (.slice none 0 0)) g (.string ⟨#[]⟩) (.slice none 0 0) (.slice none 0 0) ∧ Below g w (((w7.setCell ⟨g, 0, none⟩ (.string ⟨#[]⟩)).setCell ⟨g, 1, none⟩ (.slice none 0 0)).setCell ⟨g, 2, none⟩ (.slice none 0 0))) := HI7.out.fin _ _ _
            go_wp2
            generalize ((w7.setCell ⟨g, 0, none⟩ (.string ⟨#[]⟩)).setCell ⟨g, 1, none⟩ (.slice none 0 0)).setCell ⟨g, 2, none⟩ (.slice none 0 0) = w9 at HZ ⊢
            have z0 := HZ.out.1.c0
            have z1 := HZ.out.1.c1
            have z2 := HZ.out.1.c2
            refine bodyPost_ret (v := .tuple #[.agg #[.string ⟨#[]⟩, .slice none 0 0, .slice none 0 0], .int .i64 ((s.length - m5.length : Nat) : Int), .bool false]) (by simp [results, Try.results10, go_sem, z0, z1, z2]) rfl ?_
            rw [← HR5.out]
            exact ⟨rfl, by rw [Hg.out]; exact HZ.out.2⟩
          | ok u5 m5 =>
            rw [hx] at hX HR5
            obtain ⟨rfl, hm5⟩ := hX
            have HM5 : Hid (Sf s m5) := hm5
            have HR6 : Hid (((lst 93 (stp (s.length + 1)) (s.length + 1) true m5).bind fun ss l => (ex [41] l).bind fun _ l => Rs.ok (⟨nm, ds, ss⟩ : Rec) l).bind (fun (r : Rec) l => if l = [] then .ok r l else .bad l) = R) := HR5.out
            clear hx hm5 HR5
            go_wp2_with fail
            refine (steps_any s m5 (s.length + 1) s.length (by have := HM5.out.le; omega) HM5.out.le w7 hs HM5.out).mono ?_
            rintro e w8 ⟨hX, B8⟩
            have hk7 : k + 1 ≤ w7.heap.size := HI7.out.O.lt
            have HI8 : Hid (PI w g k (.string (ba nm)) (.slice pd ds.length cd) (.slice none 0 0) w8) := HI7.out.next B8
            have HD8 : Hid (TxS w8 (k + 1) (.slice pd ds.length cd) ds) := HD7.out.below B8
            clear HI7 HD7 B8
            have a2 := HI8.out.O.c2
            have b2 := HI8.out.O.f 2
            cases hx : lst 93 (stp (s.length + 1)) (s.length + 1) true m5 with
            | bad m6 =>
              rw [hx] at hX HR6
              obtain ⟨rfl, -⟩ := hX
              clear hx
              have HJ : Hid (PI w g k (.string (ba nm)) (.slice pd ds.length cd) (.slice none 0 0) (w8.setCell ⟨k, 2, none⟩ (.slice none 0 0))) := HI8.out.set2 hgk _
              have q0 := HJ.out.A.c0
              have q1 := HJ.out.A.c1
              have q2 := HJ.out.A.c2
              have f0 := HJ.out.A.f 0
              have f1 := HJ.out.A.f 1
              have f2 := HJ.out.A.f 2
              have HZ : Hid (R3 ((((w8.setCell ⟨k, 2, none⟩ (.slice none 0 0)).setCell ⟨g, 0, none⟩ (.string ⟨#[]⟩)).setCell ⟨g, 1, none⟩ (.slice none 0 0)).setCell ⟨g, 2, none⟩ (.slice none 0 0)) g (.string ⟨#[]⟩) (.slice none 0 0) (.slice none 0 0) ∧ Below g w ((((w8.setCell ⟨k, 2, none⟩ (.slice none 0 0)).setCell ⟨g, 0, none⟩ (.string ⟨#[]⟩)).setCell ⟨g, 1, none⟩ (.slice none 0 0)).setCell ⟨g, 2, none⟩ (.slice none 0 0))) := HJ.out.fin _ _ _
              go_wp2
              generalize (((w8.setCell ⟨k, 2, none⟩ (.slice none 0 0)).setCell ⟨g, 0, none⟩ (.string ⟨#[]⟩)).setCell ⟨g, 1, none⟩ (.slice none 0 0)).setCell ⟨g, 2, none⟩ (.slice none 0 0) = w9 at HZ ⊢
              have z0 := HZ.out.1.c0
              have z1 := HZ.out.1.c1
              have z2 := HZ.out.1.c2
              refine bodyPost_ret (v := .tuple #[.agg #[.string ⟨#[]⟩, .slice none 0 0, .slice none 0 0], .int .i64 ((s.length - m6.length : Nat) : Int), .bool false]) (by simp [results, Try.results10, go_sem, z0, z1, z2]) rfl ?_
              rw [← HR6.out]
              exact ⟨rfl, by rw [Hg.out]; exact HZ.out.2⟩
            | ok ss m6 =>
              rw [hx] at hX HR6
              obtain ⟨vs, P, rfl, hp, hps, hst, hm6⟩ := hX
              obtain ⟨pt, ct, rfl⟩ := hp.shape
              have HM6 : Hid (Sf s m6) := hm6
              have HR7 : Hid (((ex [41] m6).bind fun _ l => Rs.ok (⟨nm, ds, ss⟩ : Rec) l).bind (fun (r : Rec) l => if l = [] then .ok r l else .bad l) = R) := HR6.out
              have HI9 : Hid (PI w g k (.string (ba nm)) (.slice pd ds.length cd) (.slice pt P.length ct) (w8.setCell ⟨k, 2, none⟩ (.slice pt P.length ct))) := HI8.out.set2 hgk _
              have hsc : ∀ j, k + 1 ≤ j → (w8.setCell ⟨k, 2, none⟩ (.slice pt P.length ct)).heap[j]? = w8.heap[j]? := fun j hj => Below.heap_setCell w8 ⟨k, 2, none⟩ _ j (by show j ≠ k; omega)
              have HD9 : Hid (TxS (w8.setCell ⟨k, 2, none⟩ (.slice pt P.length ct)) (k + 1) (.slice pd ds.length cd) ds) := HD8.out.same (fun j hj => hsc j (HD8.out.lt j hj).1)
              have HP9 : Hid (PlS (w8.setCell ⟨k, 2, none⟩ (.slice pt P.length ct)) (k + 1) (.slice pt P.length ct) P) := (PlS.up hp hk7).same (fun j hj => hsc j (by have := (hp.lt j hj).1; omega))
              have HT9 : Hid (∀ p ∈ P, StW (w8.setCell ⟨k, 2, none⟩ (.slice pt P.length ct)) (k + 1) (.slice pt P.length ct) p) := fun p hq => ((hst p hq).up hk7).next (fun j hj _ h => ⟨hsc j hj, h⟩)
              have HPS : Hid (P.map Prod.fst = ss) := hps
              clear hx hm6 HR6 HI8 HD8 hp hst hps hsc
              go_wp2_with fail
              clear a2 b2
              generalize w8.setCell ⟨k, 2, none⟩ (.slice pt P.length ct) = w9 at HI9 HD9 HP9 HT9 ⊢
              have WC := word_any s m6 [41] w9 hs (show 1 ≤ 1024 by decide) HM6.out
              rw [e41] at WC
              refine WC.mono ?_
              rintro e w10 ⟨hX, q10, rfl⟩
              clear WC
              have HI10 : Hid (PI w g k (.string (ba nm)) (.slice pd ds.length cd) (.slice pt P.length ct) (w9.drewN q10)) := HI9.out.next (bel_drewN (Below.refl _ _) q10)
              have HD10 : Hid (TxS (w9.drewN q10) (k + 1) (.slice pd ds.length cd) ds) := HD9.out.same (fun _ _ => rfl)
              have HP10 : Hid (PlS (w9.drewN q10) (k + 1) (.slice pt P.length ct) P) := HP9.out.same (fun _ _ => rfl)
              have HT10 : Hid (∀ p ∈ P, StW (w9.drewN q10) (k + 1) (.slice pt P.length ct) p) := fun p hq => (HT9.out p hq).next (fun j _ _ h => ⟨rfl, h⟩)
              generalize w9.drewN q10 = w10 at HI10 HD10 HP10 HT10 ⊢
              clear HI9 HD9 HP9 HT9
              cases hx : ex [41] m6 with
              | bad m7 =>
                rw [hx] at hX HR7
                obtain ⟨rfl, -⟩ := hX
                clear hx
                have q0 := HI10.out.A.c0
                have q1 := HI10.out.A.c1
                have q2 := HI10.out.A.c2
                have f0 := HI10.out.A.f 0
                have f1 := HI10.out.A.f 1
                have f2 := HI10.out.A.f 2
                have HZ : Hid (R3 (((w10.setCell ⟨g, 0, none⟩ (.string ⟨#[]⟩)).setCell ⟨g, 1, none⟩ (.slice none 0 0)).setCell ⟨g, 2, none⟩ (.slice none 0 0)) g (.string ⟨#[]⟩) (.slice none 0 0) (.slice none 0 0) ∧ Below g w (((w10.setCell ⟨g, 0, none⟩ (.string ⟨#[]⟩)).setCell ⟨g, 1, none⟩ (.slice none 0 0)).setCell ⟨g, 2, none⟩ (.slice none 0 0))) := HI10.out.fin _ _ _
                go_wp2
                generalize ((w10.setCell ⟨g, 0, none⟩ (.string ⟨#[]⟩)).setCell ⟨g, 1, none⟩ (.slice none 0 0)).setCell ⟨g, 2, none⟩ (.slice none 0 0) = w9 at HZ ⊢
                have z0 := HZ.out.1.c0
                have z1 := HZ.out.1.c1
                have z2 := HZ.out.1.c2
                refine bodyPost_ret (v := .tuple #[.agg #[.string ⟨#[]⟩, .slice none 0 0, .slice none 0 0], .int .i64 ((s.length - m7.length : Nat) : Int), .bool false]) (by simp [results, Try.results10, go_sem, z0, z1, z2]) rfl ?_
                rw [← HR7.out]
                exact ⟨rfl, by rw [Hg.out]; exact HZ.out.2⟩
              | ok u7 m7 =>
                rw [hx] at hX HR7
                obtain ⟨rfl, hm7⟩ := hX
                clear hx
                cases m7 with
                | cons y m7 =>
                  have HR8 : Hid (Rs.bad (y :: m7) = R) := HR7.out
                  have hlt := hm7.cons.1
                  generalize hat : s.length - (y :: m7).length = t at hlt ⊢
                  have HAT : Hid (s.length - (y :: m7).length = t) := hat
                  have hlt' : (t : Int) < (s.length : Int) := by omega
                  clear hat hm7 HR7
                  have q0 := HI10.out.A.c0
                  have q1 := HI10.out.A.c1
                  have q2 := HI10.out.A.c2
                  have f0 := HI10.out.A.f 0
                  have f1 := HI10.out.A.f 1
                  have f2 := HI10.out.A.f 2
                  have HZ : Hid (R3 (((w10.setCell ⟨g, 0, none⟩ (.string ⟨#[]⟩)).setCell ⟨g, 1, none⟩ (.slice none 0 0)).setCell ⟨g, 2, none⟩ (.slice none 0 0)) g (.string ⟨#[]⟩) (.slice none 0 0) (.slice none 0 0) ∧ Below g w (((w10.setCell ⟨g, 0, none⟩ (.string ⟨#[]⟩)).setCell ⟨g, 1, none⟩ (.slice none 0 0)).setCell ⟨g, 2, none⟩ (.slice none 0 0))) := HI10.out.fin _ _ _
                  go_wp2
                  generalize ((w10.setCell ⟨g, 0, none⟩ (.string ⟨#[]⟩)).setCell ⟨g, 1, none⟩ (.slice none 0 0)).setCell ⟨g, 2, none⟩ (.slice none 0 0) = w9 at HZ ⊢
                  have z0 := HZ.out.1.c0
                  have z1 := HZ.out.1.c1
                  have z2 := HZ.out.1.c2
                  refine bodyPost_ret (v := .tuple #[.agg #[.string ⟨#[]⟩, .slice none 0 0, .slice none 0 0], .int .i64 (t : Int), .bool false]) (by simp [results, Try.results10, go_sem, z0, z1, z2]) rfl ?_
                  rw [← HR8.out]
                  exact ⟨by rw [← HAT.out]; rfl, by rw [Hg.out]; exact HZ.out.2⟩
                | nil =>
                  have HR8 : Hid (Rs.ok (⟨nm, ds, ss⟩ : Rec) [] = R) := HR7.out
                  rw [show s.length - ([] : List UInt8).length = s.length from rfl]
                  have hlt : ¬ (s.length : Int) < (s.length : Int) := by omega
                  clear hm7 HR7
                  have c0 := HI10.out.O.c0
                  have c1 := HI10.out.O.c1
                  have c2 := HI10.out.O.c2
                  have q0 := HI10.out.A.c0
                  have q1 := HI10.out.A.c1
                  have q2 := HI10.out.A.c2
                  have f0 := HI10.out.A.f 0
                  have f1 := HI10.out.A.f 1
                  have f2 := HI10.out.A.f 2
                  have hsc : ∀ j, k + 1 ≤ j → (((w10.setCell ⟨g, 0, none⟩ (.string (ba nm))).setCell ⟨g, 1, none⟩ (.slice pd ds.length cd)).setCell ⟨g, 2, none⟩ (.slice pt P.length ct)).heap[j]? = w10.heap[j]? := fun j hj => (Below.heap_setCell _ ⟨g, 2, none⟩ _ j (by show j ≠ g; omega)).trans ((Below.heap_setCell _ ⟨g, 1, none⟩ _ j (by show j ≠ g; omega)).trans (Below.heap_setCell _ ⟨g, 0, none⟩ _ j (by show j ≠ g; omega)))
                  have HZ : Hid (R3 (((w10.setCell ⟨g, 0, none⟩ (.string (ba nm))).setCell ⟨g, 1, none⟩ (.slice pd ds.length cd)).setCell ⟨g, 2, none⟩ (.slice pt P.length ct)) g (.string (ba nm)) (.slice pd ds.length cd) (.slice pt P.length ct) ∧ Below g w (((w10.setCell ⟨g, 0, none⟩ (.string (ba nm))).setCell ⟨g, 1, none⟩ (.slice pd ds.length cd)).setCell ⟨g, 2, none⟩ (.slice pt P.length ct))) := HI10.out.fin _ _ _
                  have HD11 : Hid (TxS (((w10.setCell ⟨g, 0, none⟩ (.string (ba nm))).setCell ⟨g, 1, none⟩ (.slice pd ds.length cd)).setCell ⟨g, 2, none⟩ (.slice pt P.length ct)) (k + 1) (.slice pd ds.length cd) ds) := HD10.out.same (fun j hj => hsc j (HD10.out.lt j hj).1)
                  have HP11 : Hid (PlS (((w10.setCell ⟨g, 0, none⟩ (.string (ba nm))).setCell ⟨g, 1, none⟩ (.slice pd ds.length cd)).setCell ⟨g, 2, none⟩ (.slice pt P.length ct)) (k + 1) (.slice pt P.length ct) P) := HP10.out.same (fun j hj => hsc j (HP10.out.lt j hj).1)
                  have HT11 : Hid (∀ p ∈ P, StW (((w10.setCell ⟨g, 0, none⟩ (.string (ba nm))).setCell ⟨g, 1, none⟩ (.slice pd ds.length cd)).setCell ⟨g, 2, none⟩ (.slice pt P.length ct)) (k + 1) (.slice pt P.length ct) p) := fun p hq => (HT10.out p hq).next (fun j hj _ h => ⟨hsc j hj, h⟩)
                  clear hsc HI10 HD10 HP10 HT10
                  go_wp2
                  generalize ((w10.setCell ⟨g, 0, none⟩ (.string (ba nm))).setCell ⟨g, 1, none⟩ (.slice pd ds.length cd)).setCell ⟨g, 2, none⟩ (.slice pt P.length ct) = w11 at HZ HD11 HP11 HT11 ⊢
                  have z0 := HZ.out.1.c0
                  have z1 := HZ.out.1.c1
                  have z2 := HZ.out.1.c2
                  refine bodyPost_ret (v := .tuple #[.agg #[.string (ba nm), .slice pd ds.length cd, .slice pt P.length ct], .int .i64 0, .bool true]) (by simp [results, Try.results10, go_sem, z0, z1, z2]) rfl ?_
                  rw [← HR8.out, Hg.out]
                  exact ⟨⟨_, _, P, rfl, HD11.out.up (by omega), PlS.up HP11.out (by omega), HPS.out, fun p hp => (HT11.out p hp).up (by omega)⟩, HZ.out.2⟩

end Go.Proofs.Ytbfhfejdmhjccaa
