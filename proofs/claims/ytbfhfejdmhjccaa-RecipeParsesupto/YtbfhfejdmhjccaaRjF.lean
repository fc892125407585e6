/- RecipeParses, walked. -/
import Derived.Test.YtbfhfejdmhjccaaRjE
namespace Go.Proofs.Ytbfhfejdmhjccaa
open Go.RowKit

theorem StW.read {w : World} {B : Nat} {v : Value} {p : Stp × Value} (h : StW w B v p) : RT w w.heap.size p.2 p.1.2 := by
  obtain ⟨k, c, c', pa, h1, h2, h3, h4⟩ := h
  obtain ⟨x, d, e, r⟩ := h1.read
  injection e with e1 e2 e3
  subst e1
  refine ⟨pa, c', h2, fun i t hi => ?_⟩
  obtain ⟨b, o, f1, f2, f3⟩ := r (i + 1) t (by rw [List.getElem?_cons_succ]; exact hi)
  injection f1 with f1
  injection f1 with f1 f4
  subst f1 f4
  refine ⟨k, 1, h3 (by have := (List.getElem?_eq_some_iff.1 hi).1; omega), f2, ?_⟩
  rw [show 1 + i = 0 + (i + 1) by omega]
  exact f3

/-- The two recipes that the law holds, and what they say. -/
structure PW (w : World) (a c : Nat) (r : Rec) (vd vs ud us : Value) (W : World) : Prop where
  x : St3 W a (.string (ba r.nm)) vd vs
  y : R3 W c (.string (ba r.nm)) ud us
  d : RT W W.heap.size vd r.ds
  s : RS W W.heap.size vs r.ss
  e : RT W W.heap.size ud r.ds
  f : RS W W.heap.size us r.ss
  bel : Below w.heap.size w W
theorem PW.next {w : World} {a c : Nat} {r : Rec} {vd vs ud us : Value} {W W' : World} (h : PW w a c r vd vs ud us W) (n : Below W.heap.size W W') : PW w a c r vd vs ud us W' :=
  ⟨h.x.same (n.block a h.x.lt), h.y.same (n.block c h.y.lt), (h.d.below n (Nat.le_refl _)).up n.size, (h.s.below n (Nat.le_refl _)).up n.size, (h.e.below n (Nat.le_refl _)).up n.size, (h.f.below n (Nat.le_refl _)).up n.size, bel_trans h.bel n⟩

set_option maxHeartbeats 16000000 in
theorem parses_walk (s : ByteArray) (w : World) (hs : s.size ≤ 1048576) : Calls Try.prog 3 #[.string s] w fun e w' => e = .returned (.bool true) ∧ Below w.heap.size w w' := by
  obtain ⟨l, rfl⟩ : ∃ l, s = ba l := ⟨s.data.toList, (ba_list s).symm⟩
  rw [ba_size] at hs
  have PC := fun W => parse_any l W (by omega)
  have RC := fun W => refParse_any l W (by omega)
  unfold ParseP at PC
  unfold ParP at RC
  cases hp : prs l with
  | ok r m =>
    have hl : l = rT r := prs_one hp
    have hsm : Sml r := sml_of r (by rw [← hl]; omega)
    have hsl : r.ss.length ≤ 1073741824 := hsm.s
    rw [hp] at PC RC
    dsimp only at PC RC
    clear hp hl
    go_enter Try.func3, Try.ntmps3
    go_wp2_with fail
    refine (awake_any w).mono ?_
    rintro e w1 ⟨rfl, b1⟩
    have HB1 : Hid (Below w.heap.size w w1) := b1
    go_wp2_with fail
    refine (PC w1).mono ?_
    rintro e w2 ⟨⟨vd, vs, rfl, TD, TS⟩, b2⟩
    have HB2 : Hid (Below w.heap.size w w2) := bel_trans HB1.out b2
    obtain ⟨pd, cd, rfl⟩ := TD.shape
    obtain ⟨pt, ct, rfl⟩ := TS.shape
    go_wp2_with fail
    have b3 : Below w2.heap.size w2 (w2.alloc (.cells #[.string (ba r.nm), .slice pd r.ds.length cd, .slice pt r.ss.length ct] 26)) := (Below.refl _ _).alloc (Nat.le_refl _) _
    have X3 : St3 (w2.alloc (.cells #[.string (ba r.nm), .slice pd r.ds.length cd, .slice pt r.ss.length ct] 26)) w2.heap.size (.string (ba r.nm)) (.slice pd r.ds.length cd) (.slice pt r.ss.length ct) := St3.new w2 _ _ _
    have D3 := ((TD.read).below b3 (Nat.le_refl _)).up b3.size
    have S3 := ((TS.read).below b3 (Nat.le_refl _)).up b3.size
    have HB3 : Hid (Below w.heap.size w (w2.alloc (.cells #[.string (ba r.nm), .slice pd r.ds.length cd, .slice pt r.ss.length ct] 26))) := bel_trans HB2.out b3
    clear TD TS b1 b2 b3 PC HB1 HB2
    generalize w2.alloc (.cells #[.string (ba r.nm), .slice pd r.ds.length cd, .slice pt r.ss.length ct] 26) = w3 at X3 D3 S3 HB3 ⊢
    generalize w2.heap.size = a at X3 ⊢
    refine (RC w3).mono ?_
    rintro e w4 ⟨⟨ud, us, P, rfl, UD, UP, hP, UW⟩, b4⟩
    have F4 : RS w4 w4.heap.size us r.ss := by
      have := UP.read (C := w4.heap.size) (fun p hp => (UW p hp).read) (Nat.le_refl _)
      rw [hP] at this
      exact this
    have E4 := UD.read
    obtain ⟨pu, cu, rfl⟩ := UD.shape
    obtain ⟨pv, cv, rfl⟩ := UP.shape
    have hPl : P.length = r.ss.length := by rw [← hP, List.length_map]
    rw [hPl] at F4 ⊢
    have b5 : Below w4.heap.size w4 (w4.alloc (.cells #[.string (ba r.nm), .slice pu r.ds.length cu, .slice pv r.ss.length cv] 33)) := (Below.refl _ _).alloc (Nat.le_refl _) _
    have K5 : PW w a w4.heap.size r (.slice pd r.ds.length cd) (.slice pt r.ss.length ct) (.slice pu r.ds.length cu) (.slice pv r.ss.length cv) (w4.alloc (.cells #[.string (ba r.nm), .slice pu r.ds.length cu, .slice pv r.ss.length cv] 33)) :=
      ⟨(X3.same (b4.block _ X3.lt)).same (b5.block _ (Nat.lt_of_lt_of_le X3.lt b4.size)), R3.new w4 _ _ _, (((D3.below b4 (Nat.le_refl _)).up b4.size).below b5 (Nat.le_refl _)).up b5.size, (((S3.below b4 (Nat.le_refl _)).up b4.size).below b5 (Nat.le_refl _)).up b5.size, (E4.below b5 (Nat.le_refl _)).up b5.size, (F4.below b5 (Nat.le_refl _)).up b5.size, bel_trans (bel_trans HB3.out b4) b5⟩
    clear RC X3 D3 S3 HB3 UD UP hP UW b4 F4 E4 hPl b5
    have a0 := K5.x.c0
    have a1 := K5.x.c1
    have a2 := K5.x.c2
    have y0 := K5.y.c0
    have y1 := K5.y.c1
    have y2 := K5.y.c2
    go_wp2_with fail
    clear a0 a1 a2 y0 y1 y2
    generalize w4.alloc (.cells #[.string (ba r.nm), .slice pu r.ds.length cu, .slice pv r.ss.length cv] 33) = w5 at K5 ⊢
    generalize w4.heap.size = c at K5 ⊢
    have K6 := K5.next ((Below.refl _ _).drew)
    clear K5
    refine wp_region_held_drew (S := PW w a c r (.slice pd r.ds.length cd) (.slice pt r.ss.length ct) (.slice pu r.ds.length cu) (.slice pv r.ss.length cv)) (by kernel_rfl) K6 (fun hS => ?_)
    generalize w5.drew = W at hS ⊢
    clear K6
    refine wpAnyH_take (i := 0) (oi := { dst := some 21, op := Op.load 26 (Operand.tmp 3), type := 26, pos := "law.go:83", after := #[], guard := none }) (v := .agg #[.string (ba r.nm), .slice pd r.ds.length cd, .slice pt r.ss.length ct]) rfl (by kernel_rfl) (by kernel_rfl) (by kernel_rfl) (fun _ _ _ h => h) (Or.inl ⟨by rfl, by intro w' s'; have c7 := s'.x.c0; have c8 := s'.x.c1; have c9 := s'.x.c2; go_simp⟩) hS ?_
    simp only [Act.put, List.setIfInBounds_toArray, List.set_cons_zero, List.set_cons_succ]
    refine wpAnyH_take (i := 2) (oi := { dst := some 23, op := Op.load 33 (Operand.tmp 5), type := 33, pos := "law.go:83", after := #[], guard := none }) (v := .agg #[.string (ba r.nm), .slice pu r.ds.length cu, .slice pv r.ss.length cv]) rfl (by kernel_rfl) (by kernel_rfl) (by kernel_rfl) (fun _ _ _ h => h) (Or.inl ⟨by rfl, by intro w' s'; have c7 := s'.y.c0; have c8 := s'.y.c1; have c9 := s'.y.c2; go_simp⟩) hS ?_
    simp only [Act.put, List.setIfInBounds_toArray, List.set_cons_zero, List.set_cons_succ]
    refine wpAnyH_ready (rs := [1]) (by kernel_rfl) (by decide) (AllReadyH.cons rfl (fun K hK => ?_) AllReadyH.nil)
    rw [if_pos (by rfl)]
    go_simp
    refine (plain_any r (.slice pd r.ds.length cd) (.slice pt r.ss.length ct) W hS.d hS.s hsl).mono ?_
    rintro e v1 ⟨⟨vp, rfl, hvp⟩, q1⟩
    have hS1 := hS.next q1
    obtain ⟨xp, cp, rfl, -⟩ := id hvp
    go_wp2_with fail
    refine hK.out _ _ hS1 (fun _ => ?_)
    clear hK K
    try simp only [Act.put, List.setIfInBounds_toArray, List.set_cons_zero, List.set_cons_succ]
    refine wpAnyH_ready (rs := [3]) (by kernel_rfl) (by decide) (AllReadyH.cons rfl (fun K hK => ?_) AllReadyH.nil)
    rw [if_pos (by rfl)]
    go_simp
    refine (alike_self r (.slice pd r.ds.length cd) (.slice xp r.ss.length cp) (.slice pu r.ds.length cu) (.slice pv r.ss.length cv) v1 hS1.d hvp hS1.e hS1.f hsm).mono ?_
    rintro e v2 ⟨rfl, q2⟩
    have hS2 := hS1.next q2
    go_wp2_with fail
    refine hK.out _ _ hS2 (fun _ => ?_)
    clear hK K
    try simp only [Act.put, List.setIfInBounds_toArray, List.set_cons_zero, List.set_cons_succ]
    refine wpAnyH_ready (rs := [4]) (by kernel_rfl) (by decide) (AllReadyH.cons rfl (fun K hK => ?_) AllReadyH.nil)
    rw [if_pos (by rfl)]
    go_simp
    refine hK.out _ _ hS2 (fun _ => ?_)
    clear hK K
    refine wpAnyH_done (by kernel_rfl) ?_ _
    have HB9 : Hid (Below w.heap.size w v2) := hS2.bel
    clear hS hS1
    clear hS2
    go_wp2
    try rw [Exit.noGoto_ret]
    go_ret
    exact ⟨rfl, HB9.out⟩
  | bad b =>
    have hsm : Sml ⟨[], [], []⟩ := ⟨by decide, by decide, fun s hs => absurd hs (by simp)⟩
    have hsl : (Rec.mk [] [] []).ss.length ≤ 1073741824 := hsm.s
    rw [hp] at PC RC
    dsimp only at PC RC
    clear hp
    have hib : l.length - b.length ≤ 1048576 := by omega
    generalize l.length - b.length = i at PC RC hib
    go_enter Try.func3, Try.ntmps3
    go_wp2_with fail
    refine (awake_any w).mono ?_
    rintro e w1 ⟨rfl, b1⟩
    have HB1 : Hid (Below w.heap.size w w1) := b1
    go_wp2_with fail
    refine (PC w1).mono ?_
    rintro e w2 ⟨⟨k, hk, rfl, hF⟩, b2⟩
    have HB2 : Hid (Below w.heap.size w w2) := bel_trans HB1.out b2
    go_wp2_with fail
    have b3 : Below w2.heap.size w2 (w2.alloc (.cells #[.string ⟨#[]⟩, .slice none 0 0, .slice none 0 0] 26)) := (Below.refl _ _).alloc (Nat.le_refl _) _
    have X3 : St3 (w2.alloc (.cells #[.string ⟨#[]⟩, .slice none 0 0, .slice none 0 0] 26)) w2.heap.size (.string ⟨#[]⟩) (.slice none 0 0) (.slice none 0 0) := St3.new w2 _ _ _
    have F3 : Flt (w2.alloc (.cells #[.string ⟨#[]⟩, .slice none 0 0, .slice none 0 0] 26)) k 210 i := Flt.below (show Flt w2 k 210 i from hF) b3
    have HB3 : Hid (Below w.heap.size w (w2.alloc (.cells #[.string ⟨#[]⟩, .slice none 0 0, .slice none 0 0] 26))) := bel_trans HB2.out b3
    clear b1 b2 b3 PC HB1 HB2 hk hF
    generalize w2.alloc (.cells #[.string ⟨#[]⟩, .slice none 0 0, .slice none 0 0] 26) = w3 at X3 F3 HB3 ⊢
    generalize w2.heap.size = a at X3 ⊢
    refine (RC w3).mono ?_
    rintro e w4 ⟨rfl, b4⟩
    have b5 : Below w4.heap.size w4 (w4.alloc (.cells #[.string ⟨#[]⟩, .slice none 0 0, .slice none 0 0] 33)) := (Below.refl _ _).alloc (Nat.le_refl _) _
    have nT : ∀ W : World, RT W W.heap.size (.slice none 0 0) [] := fun W => ⟨none, 0, rfl, fun i t hi => by simp at hi⟩
    have nS : ∀ W : World, RS W W.heap.size (.slice none 0 0) [] := fun W => ⟨none, 0, rfl, fun i t hi => by simp at hi⟩
    have K5 : PW w a w4.heap.size ⟨[], [], []⟩ (.slice none 0 0) (.slice none 0 0) (.slice none 0 0) (.slice none 0 0) (w4.alloc (.cells #[.string ⟨#[]⟩, .slice none 0 0, .slice none 0 0] 33)) :=
      ⟨(X3.same (b4.block _ X3.lt)).same (b5.block _ (Nat.lt_of_lt_of_le X3.lt b4.size)), R3.new w4 _ _ _, nT _, nS _, nT _, nS _, bel_trans (bel_trans HB3.out b4) b5⟩
    have F5 := (F3.below b4).below b5
    clear RC X3 HB3 b4 b5 F3 nT nS
    have a0 := K5.x.c0
    have a1 := K5.x.c1
    have a2 := K5.x.c2
    have y0 := K5.y.c0
    have y1 := K5.y.c1
    have y2 := K5.y.c2
    go_wp2_with fail
    clear a0 a1 a2 y0 y1 y2
    generalize w4.alloc (.cells #[.string ⟨#[]⟩, .slice none 0 0, .slice none 0 0] 33) = w5 at K5 F5 ⊢
    generalize w4.heap.size = c at K5 ⊢
    have K6 := K5.next ((Below.refl _ _).drew)
    clear K5
    refine wp_region_held_drew (S := PW w a c ⟨[], [], []⟩ (.slice none 0 0) (.slice none 0 0) (.slice none 0 0) (.slice none 0 0)) (by kernel_rfl) K6 (fun hS => ?_)
    have FD : Flt w5.drew k 210 i := F5.same rfl
    clear F5
    generalize w5.drew = W at hS FD ⊢
    clear K6
    refine wpAnyH_take (i := 0) (oi := { dst := some 21, op := Op.load 26 (Operand.tmp 3), type := 26, pos := "law.go:83", after := #[], guard := none }) (v := .agg #[.string ⟨#[]⟩, .slice none 0 0, .slice none 0 0]) rfl (by kernel_rfl) (by kernel_rfl) (by kernel_rfl) (fun _ _ _ h => h) (Or.inl ⟨by rfl, by intro w' s'; have c7 := s'.x.c0; have c8 := s'.x.c1; have c9 := s'.x.c2; rw [show ba (Rec.nm ⟨[], [], []⟩) = ⟨#[]⟩ from rfl] at c7; go_simp⟩) hS ?_
    simp only [Act.put, List.setIfInBounds_toArray, List.set_cons_zero, List.set_cons_succ]
    refine wpAnyH_take (i := 2) (oi := { dst := some 23, op := Op.load 33 (Operand.tmp 5), type := 33, pos := "law.go:83", after := #[], guard := none }) (v := .agg #[.string ⟨#[]⟩, .slice none 0 0, .slice none 0 0]) rfl (by kernel_rfl) (by kernel_rfl) (by kernel_rfl) (fun _ _ _ h => h) (Or.inl ⟨by rfl, by intro w' s'; have c7 := s'.y.c0; have c8 := s'.y.c1; have c9 := s'.y.c2; rw [show ba (Rec.nm ⟨[], [], []⟩) = ⟨#[]⟩ from rfl] at c7; go_simp⟩) hS ?_
    simp only [Act.put, List.setIfInBounds_toArray, List.set_cons_zero, List.set_cons_succ]
    refine wpAnyH_ready (rs := [1]) (by kernel_rfl) (by decide) (AllReadyH.cons rfl (fun K hK => ?_) AllReadyH.nil)
    rw [if_pos (by rfl)]
    go_simp
    refine (plain_any ⟨[], [], []⟩ (.slice none 0 0) (.slice none 0 0) W hS.d hS.s hsl).mono ?_
    rintro e v1 ⟨⟨vp, rfl, hvp⟩, q1⟩
    have hS1 := hS.next q1
    have F1 := FD.below q1
    obtain ⟨xp, cp, rfl, -⟩ := id hvp
    go_wp2_with fail
    refine hK.out _ _ hS1 (fun _ => ?_)
    clear hK K
    try simp only [Act.put, List.setIfInBounds_toArray, List.set_cons_zero, List.set_cons_succ]
    refine wpAnyH_ready (rs := [3]) (by kernel_rfl) (by decide) (AllReadyH.cons rfl (fun K hK => ?_) AllReadyH.nil)
    rw [if_pos (by rfl)]
    go_simp
    refine (alike_self ⟨[], [], []⟩ (.slice none 0 0) (.slice xp 0 cp) (.slice none 0 0) (.slice none 0 0) v1 hS1.d hvp hS1.e hS1.f hsm).mono ?_
    rintro e v2 ⟨rfl, q2⟩
    have hS2 := hS1.next q2
    have F2 := F1.below q2
    go_wp2_with fail
    refine hK.out _ _ hS2 (fun _ => ?_)
    clear hK K
    try simp only [Act.put, List.setIfInBounds_toArray, List.set_cons_zero, List.set_cons_succ]
    refine wpAnyH_ready (rs := [4]) (by kernel_rfl) (by decide) (AllReadyH.cons rfl (fun K hK => ?_) AllReadyH.nil)
    rw [if_pos (by rfl)]
    go_simp
    refine hK.out _ _ hS2 (fun _ => ?_)
    clear hK K
    refine wpAnyH_done (by kernel_rfl) ?_ _
    have HB9 : Hid (Below w.heap.size w v2) := hS2.bel
    clear hS hS1
    clear hS2 FD F1
    go_wp2_with fail
    refine (fault_any k i v2 F2).mono ?_
    rintro e v3 ⟨rfl, q3⟩
    have HB10 : Hid (Below w.heap.size w v3) := bel_trans HB9.out q3
    clear F2 q3 HB9
    go_wp2
    try rw [Exit.noGoto_ret]
    go_ret
    exact ⟨rfl, HB10.out⟩

end Go.Proofs.Ytbfhfejdmhjccaa
