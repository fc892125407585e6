/- Gathered: ScT ScU. -/
import Derived.Test.YtdjjleahfciipaaGreatDoorQM
import Derived.Test.YtdjjleahfciipaaGreatDoorQO
/- scan.Scanner's Feed, walked (own text of the verifier). -/
namespace Go.Proofs.YtdjjleahfciipaaGreatDoor
open Go.RowKit Go.Maps Go.WideMaps
namespace Sc

/-- What a scanner has come to that has taken A in. -/
structure GF (H : List (List UInt8)) (A kept : List UInt8) (S F : List (List UInt8)) : Prop where
  le : kept.length ≤ A.length
  kp : kept = A.drop (A.length - kept.length)
  base : Base Lt A (A.length - kept.length)
  fb : FB H A (A.length - kept.length) F S
  fl : F.length ≤ A.length - kept.length
theorem GF.fed {H : List (List UInt8)} {A kept p : List UInt8} {S F : List (List UInt8)} {r : Nat} (h : GF H A kept S F) (h1 : r ≤ (kept ++ p).length) (h2 : (kept ++ p).length < r + 32) (S' F' : List (List UInt8)) (fb : FB H (A ++ p) (A.length - kept.length + r) F' S') (fl : F'.length ≤ A.length - kept.length + r)
    (dn : ∀ q, q < A.length - kept.length + r → q + 32 ≤ (A ++ p).length ∨ bad Lt (A ++ p) q) : GF H (A ++ p) ((kept ++ p).drop r) S' F' := by
  have hle := h.le
  have e : (A ++ p).length - ((kept ++ p).drop r).length = A.length - kept.length + r := by
    rw [List.length_drop, List.length_append, List.length_append] at *
    omega
  refine ⟨?_, ?_, ?_, by rw [e]; exact fb, by rw [e]; exact fl⟩
  · rw [List.length_drop, List.length_append, List.length_append] at *; omega
  · have q : kept ++ p = (A ++ p).drop (A.length - kept.length) := by rw [List.drop_append_of_le_length (by omega), ← h.kp]
    rw [e, q, List.drop_drop]
  · rw [e]
    refine ⟨?_, ?_, dn⟩
    · rw [List.length_append] at *; omega
    · rw [List.length_append] at *; omega
theorem SM.taken {w w' : World} {g n k m N : Nat} {kept kept' : List UInt8} {S F : List (List UInt8)} {fv : Value} (h : SM w g n kept m N S F fv) (hw : Win w' g k kept') (G : w.grownBy w' (some g)) (hi : ∀ i, 33 ≤ i → w'.cell? ⟨g, i, none⟩ = w.cell? ⟨g, i, none⟩ ∧ w'.frozen? ⟨g, i, none⟩ = w.frozen? ⟨g, i, none⟩) : SM w' g k kept' m N S F fv :=
  ⟨hw, (hi _ (by omega)).1.trans h.cm, (hi _ (by omega)).1.trans h.cf, (hi _ (by omega)).2.trans h.ff, h.st.same (G.block m h.st.lt (fun e => h.apart.1 (Option.some.inj e))), row_same' h.fr (fun k hk => by
    obtain ⟨cur, hc⟩ := row_cells h.fr k hk
    exact G.block k (Array.getElem?_eq_some_iff.1 hc).1 (fun e => h.fg (by rw [hk, Option.some.inj e]))), h.fg⟩

set_option maxRecDepth 100000 in
set_option maxHeartbeats 8000000 in
theorem sfeed_any (g m N : Nat) (H : List (List UInt8)) (A kept p : List UInt8) (S F : List (List UInt8)) (fv y : Value) (w : World) (hS : SM w g A.length kept m N S F fv) (hG : GF H A kept S F) (hH : ∀ h ∈ H, isH Lt h) (hp : Txt w y p) (hyg : ∀ x l c, y = .slice (some x) l c → x.block ≠ g) (hpl : A.length + p.length ≤ 268435456) :
    Calls Tryz.prog 11 #[.pointer (some ⟨g, 0, none⟩), y] w fun e w' => ∃ kept' S' F' fv', e = .returned (.tuple #[]) ∧ SM w' g (A ++ p).length kept' m N S' F' fv' ∧ GF H (A ++ p) kept' S' F' ∧ KS g m fv.ownBlock w w' ∧ (fv'.ownBlock = fv.ownBlock ∨ ∀ k, fv'.ownBlock = some k → w.heap.size ≤ k) := by
  have HS : Hid (SM w g A.length kept m N S F fv) := hS
  have HP : Hid (Txt w y p) := hp
  clear hS hp
  go_enter Tryz.func11, Tryz.ntmps11
  go_wp2_with fail
  have bA : Below w.heap.size w (w.alloc (.cells #[.pointer (some ⟨g, 0, none⟩)] 40)) := (Below.refl _ _).alloc (Nat.le_refl _) _
  have S1 : Hid _ := HS.out.below bA
  have P1 : Hid _ := HP.out.below bA
  have B1 : Hid (Boxed (w.alloc (.cells #[.pointer (some ⟨g, 0, none⟩)] 40)) w.heap.size 40 (.pointer (some ⟨g, 0, none⟩))) := Boxed.new _ _ _
  have HB1 : Hid _ := bA
  have hz1 : Hid ((w.alloc (.cells #[.pointer (some ⟨g, 0, none⟩)] 40)).heap.size = w.heap.size + 1) := World.size_alloc _ _
  clear bA
  generalize w.alloc (.cells #[.pointer (some ⟨g, 0, none⟩)] 40) = w3 at *
  obtain ⟨S2, hS2⟩ : ∃ S, w.heap.size = S := ⟨_, rfl⟩
  have HS2 : Hid (w.heap.size = S2) := hS2
  rw [hS2] at B1 hz1 ⊢
  clear hS2
  have hgS : g < S2 := by rw [← HS2.out]; exact HS.out.lt
  have hmS : m < S2 := by rw [← HS2.out]; exact HS.out.st.lt
  have hpvS : Hid (∀ k, fv.ownBlock = some k → k < S2) := fun k hk => by
    rw [← HS2.out]
    obtain ⟨cur, hc⟩ := row_cells HS.out.fr k hk
    exact (Array.getElem?_eq_some_iff.1 hc).1
  have CT := take_any g A.length kept y p w3 S1.out.win P1.out hyg (by omega) (by omega)
  with_reducible refine CT.mono ?_
  rintro e w4 ⟨x, c, rfl, T4, W4, G4, hx, hi4⟩
  clear CT
  have hsh := S1.out.win.sh
  have hlen : (kept ++ p).length = kept.length + p.length := List.length_append
  have SX : Hid (SM w4 g (A.length + p.length) kept m N S F fv) := S1.out.taken W4 G4 hi4
  have T4' : Hid (Txt w4 (.slice x (kept ++ p).length c) (kept ++ p)) := T4
  have B4 : Hid (Boxed w4 S2 40 (.pointer (some ⟨g, 0, none⟩))) := B1.out.kept G4 (fun e => by injection e; omega)
  have hz4 : Hid (S2 + 1 ≤ w4.heap.size) := by unfold Hid; rw [← hz1.out]; exact G4.size
  have K4 : Hid (KS g m fv.ownBlock w w4) := ((KS.refl g m fv.ownBlock w).below HB1.out (Nat.le_refl _)).grown G4 (fun j hj => .inl (Option.some.inj hj).symm)
  have hxx : Hid ((p = [] ∧ x = some ⟨g, 2, none⟩) ∨ ∃ b, x = some ⟨b, 0, none⟩ ∧ S2 + 1 ≤ b ∧ p ≠ []) := by rw [← hz1.out]; exact hx
  have hxl : Hid (∀ a, x = some a → a.block < w4.heap.size) := fun a ha => by
    rcases hxx.out with ⟨_, h2⟩ | ⟨b, h2, h3, h4⟩
    · rw [h2] at ha; obtain rfl := Option.some.inj ha; exact SX.out.lt
    · rw [h2] at ha
      obtain rfl := Option.some.inj ha
      have hz : 0 < (kept ++ p).length := by
        rw [List.length_append]
        have := List.length_pos_iff.2 h4
        omega
      obtain ⟨a', o', c', e, hlt, _⟩ := T4.at hz
      injection e with e _ _
      rw [h2] at e
      injection e with e
      injection e with e _
      rw [e]; exact hlt
  clear T4 W4 G4 hx hi4 S1 P1 B1 HB1 hz1
  obtain ⟨Ab, Ao, hxs⟩ : ∃ Ab Ao, x = some ⟨Ab, Ao, none⟩ := by
    rcases hxx.out with ⟨_, h2⟩ | ⟨b, h2, _⟩
    · exact ⟨g, 2, h2⟩
    · exact ⟨b, 0, h2⟩
  have hxg : Hid (32 ≤ kept.length + p.length → Ab ≠ g) := fun h32 e => by
    rcases hxx.out with ⟨h1, _⟩ | ⟨b, h2, h3, _⟩
    · rw [h1] at h32; simp at h32; omega
    · rw [h2] at hxs; injection hxs with hxs; injection hxs with hxs _; omega
  have hxb : Hid (Ab < w4.heap.size ∧ Ab ≠ m ∧ ∀ k, fv.ownBlock = some k → k ≠ Ab) := by
    refine ⟨hxl.out ⟨Ab, Ao, none⟩ hxs, ?_, fun k hk => ?_⟩
    · rcases hxx.out with ⟨_, h2⟩ | ⟨b, h2, h3, _⟩
      · rw [h2] at hxs; injection hxs with hxs; injection hxs with hxs _; rw [← hxs]; exact fun e => SX.out.apart.1 e.symm
      · rw [h2] at hxs; injection hxs with hxs; injection hxs with hxs _; omega
    · rcases hxx.out with ⟨_, h2⟩ | ⟨b, h2, h3, _⟩
      · rw [h2] at hxs; injection hxs with hxs; injection hxs with hxs _; rw [← hxs]; exact fun e => SX.out.fg (by rw [hk, e])
      · rw [h2] at hxs; injection hxs with hxs; injection hxs with hxs _; have := hpvS.out k hk; omega
  subst hxs
  clear hxx hxl
  obtain ⟨o, ho⟩ : ∃ o, A.length - kept.length = o := ⟨_, rfl⟩
  have HO : Hid (A.length - kept.length = o) := ho
  have hle := hG.le
  have hall : kept ++ p = (A ++ p).drop o := by rw [← ho, List.drop_append_of_le_length (by omega), ← hG.kp]
  have hAp : (A ++ p).length = A.length + p.length := List.length_append
  have b7 : Below w4.heap.size w4 (w4.alloc (.cells #[.slice (some ⟨Ab, Ao, none⟩) (kept ++ p).length c] 45)) := (Below.refl _ _).alloc (Nat.le_refl _) _
  have HJ0 : Hid (SJ w (w4.alloc (.cells #[.slice (some ⟨Ab, Ao, none⟩) (kept ++ p).length c] 45)) g S2 w4.heap.size (A.length + p.length) o kept (A ++ p) (kept ++ p) m N H fv.ownBlock (.slice (some ⟨Ab, Ao, none⟩) (kept ++ p).length c) 0 S F fv) := by
    refine ⟨⟨hG.fb.nd, fun h => ?_, fun h => ?_⟩, by have := hG.fl; omega, SX.out.below b7, bx_of b7 B4.out, Boxed.new _ _ _, T4'.out.below b7, fun k hk => ?_, ⟨hgS, hmS, by have := hz4.out; omega⟩, .inl rfl, K4.out.below b7 K4.out.size, fun a l cc e => ?_, Nat.le_of_eq HS2.out⟩
    · rw [hG.fb.mem h]
      constructor
      · rintro ⟨h1, h2⟩; exact ⟨h1, by rw [Nat.add_zero, ← ho]; exact (hG.base.more p (hH h h1)).2 h2⟩
      · rintro ⟨h1, h2⟩; rw [Nat.add_zero, ← ho] at h2; exact ⟨h1, (hG.base.more p (hH h h1)).1 h2⟩
    · rw [hG.fb.sgt h]
      constructor
      · rintro ⟨h1, h2⟩; exact ⟨h1, fun q => h2 (by rw [Nat.add_zero, ← ho] at q; exact (hG.base.more p (hH h h1)).1 q)⟩
      · rintro ⟨h1, h2⟩; exact ⟨h1, fun q => h2 (by rw [Nat.add_zero, ← ho]; exact (hG.base.more p (hH h h1)).2 q)⟩
    · have := hpvS.out k hk
      have := hz4.out
      exact ⟨by omega, by omega⟩
    · injection e with e _ _
      injection e with e
      subst e
      exact hxb.out
  clear b7 SX B4 K4 hxb hpvS T4'
  have HALL : Hid (kept ++ p = (A ++ p).drop o) := hall
  clear hall
  obtain ⟨S6, hS6⟩ : ∃ S, w4.heap.size = S := ⟨_, rfl⟩
  go_wp2_with fail
  rw [hlen] at HJ0
  rw [hS6] at HJ0 hz4
  clear hS6
  generalize w4.alloc (.cells #[.slice (some ⟨Ab, Ao, none⟩) (kept.length + p.length) c] 45) = w7 at *
  have CS := slide_any 33 #[.pointer (some ⟨S2, 0, none⟩), .pointer (some ⟨S6, 0, none⟩)] (enters_of Tryz.func33 (by kernel_rfl) rfl) (.slice (some ⟨Ab, Ao, none⟩) (kept.length + p.length) c) (kept ++ p)
    (fun at_ W => (∃ S F fv', SJ w W g S2 S6 (A.length + p.length) o kept (A ++ p) (kept ++ p) m N H fv.ownBlock (.slice (some ⟨Ab, Ao, none⟩) (kept.length + p.length) c) at_ S F fv') ∧ ∀ q, q < o + at_ → q + 32 ≤ (A ++ p).length ∨ bad Lt (A ++ p) q)
    (fun q W hq => by obtain ⟨⟨S, F, fv', h⟩, _⟩ := hq; exact h.tx) (by rw [hlen]; omega)
    (fun q W hq hlt hb => by
      obtain ⟨⟨S, F, fv', h⟩, hd⟩ := hq
      have hb' : bad Lt (A ++ p) (o + q) := bad_drop (by rw [← HALL.out]; exact hb)
      refine ⟨⟨S, F, fv', ⟨h.fb.step_bad hH hb', by have := h.fl; omega, h.sm, h.bs, h.bt, h.tx, h.ap, h.ord, h.px, h.kx, h.xb, h.w0⟩⟩, fun k hk => ?_⟩
      by_cases e : k < o + q
      · exact hd k e
      · obtain rfl : k = o + q := by omega
        exact .inr hb')
    (fun q W hq h32 _ => by
      obtain ⟨⟨S, F, fv', h⟩, hd⟩ := hq
      have := sfeedc_any w W g S2 S6 (A.length + p.length) o kept (A ++ p) (kept ++ p) m N H fv.ownBlock _ q S F fv' h HALL.out h32 (by omega) (fun xx l cc e => by injection e with e _ _; injection e with e; subst e; exact hxg.out (by rw [← hlen]; omega))
      refine (show Calls _ _ _ _ _ from ?_)
      refine (show Calls Tryz.prog 33 #[.int .i64 (q : Int), .pointer (some ⟨S2, 0, none⟩), .pointer (some ⟨S6, 0, none⟩)] W _ from this.mono ?_)
      rintro e W' ⟨rfl, S', F', fv'', h'⟩
      refine ⟨1, .inl rfl, rfl, ⟨S', F', fv'', h'⟩, fun k hk => ?_⟩
      by_cases e : k < o + q
      · exact hd k e
      · obtain rfl : k = o + q := by omega
        left
        have : (kept ++ p).length = (A ++ p).length - o := by rw [HALL.out, List.length_drop]
        omega)
    w7 ⟨⟨S, F, fv, HJ0.out⟩, fun q hq => by
      rw [Nat.add_zero, ← HO.out] at hq
      rcases hG.base.done q hq with h | h
      · left; omega
      · right; exact bad_app p h⟩
  with_reducible refine CS.mono ?_
  rintro e w9 ⟨r, hr1, hr2, rfl, ⟨S', F', fv', hJ⟩, hd⟩
  clear CS HJ0
  have HJ : Hid _ := hJ
  have HD : Hid _ := hd
  have HR2 : Hid ((kept ++ p).length < r + 32) := hr2
  have hlc : kept.length + p.length ≤ c := by
    obtain ⟨x', c', e, _, h2⟩ := hJ.tx
    injection e with _ _ e3
    rw [hlen] at h2
    omega
  have hrl : r ≤ kept.length + p.length := by rw [← hlen]; exact hr1
  have HR1 : Hid (r ≤ (kept ++ p).length) := hr1
  clear hJ hd hr2 hr1
  have g5 : (r : Int) ≤ (kept.length : Int) + (p.length : Int) := by omega
  have c6 := HJ.out.bt.cell
  have c2 := HJ.out.bs.cell
  go_upto_region 3 with fail
  have c6d : w9.drew.cell? ⟨S6, 0, none⟩ = some (.slice (some ⟨Ab, Ao, none⟩) (kept.length + p.length) c) := c6
  have c2d : w9.drew.cell? ⟨S2, 0, none⟩ = some (.pointer (some ⟨g, 0, none⟩)) := c2
  have HZD : Hid _ := HJ.out.below (Below.refl _ _).drew
  refine wp_region_held_drew (S := fun V => V.cell? ⟨S2, 0, none⟩ = some (.pointer (some ⟨g, 0, none⟩)) ∧ V.cell? ⟨S6, 0, none⟩ = some (.slice (some ⟨Ab, Ao, none⟩) (kept.length + p.length) c)) (by kernel_rfl) ⟨c2d, c6d⟩ (fun hH => ?_)
  clear HJ c6d c2d c6 c2
  generalize w9.drew = wD at *
  by_cases hI : r < c
  · have g6 : Hid (¬ c = r) := by unfold Hid; omega
    have hlk : ((kept ++ p).drop r).length ≤ 31 := by rw [List.length_drop]; have := HR2.out; omega
    have hvK : Txt wD (.slice (some ⟨Ab, Ao + r, none⟩) (kept.length + p.length - r) (c - r)) ((kept ++ p).drop r) := by have := HZD.out.tx; rw [← hlen] at this; have := this.sub (p := r) (q := (kept ++ p).length) HR1.out (Nat.le_refl _); rw [List.take_length] at this; rw [← hlen]; exact this
    have CK := keep_any g (A.length + p.length) kept (.slice (some ⟨Ab, Ao + r, none⟩) (kept.length + p.length - r) (c - r)) ((kept ++ p).drop r) wD HZD.out.sm.win hvK hlk
    clear hvK
    refine wpAnyH_take (i := 0) (oi := { dst := some 14, op := Op.load 40 (Operand.tmp 2), type := 40, pos := "scan.go:37", after := #[], guard := none }) (v := .pointer (some ⟨g, 0, none⟩)) rfl (by kernel_rfl) (by kernel_rfl) (by kernel_rfl) (fun _ _ _ h => h) (Or.inl ⟨by rfl, by intro w' s'; have q0 := s'.1; go_simp⟩) hH ?_
    simp only [Act.put, List.setIfInBounds_toArray, List.set_cons_zero, List.set_cons_succ]
    refine wpAnyH_take (i := 1) (oi := { dst := some 15, op := Op.nilCheck (Operand.tmp 14), type := 0, pos := "scan.go:37", after := #[{ on := 0, ground := Ground.data }], guard := none }) (v := .pointer (some ⟨g, 0, none⟩)) rfl (by kernel_rfl) (by kernel_rfl) (by kernel_rfl) (fun _ _ _ h => h) (Or.inl ⟨by rfl, by intro w _; go_simp⟩) hH ?_
    simp only [Act.put, List.setIfInBounds_toArray, List.set_cons_zero, List.set_cons_succ]
    refine wpAnyH_take (i := 2) (oi := { dst := some 16, op := Op.fieldAddr 80 (Operand.tmp 15) 0, type := 0, pos := "scan.go:37", after := #[{ on := 1, ground := Ground.data }], guard := none }) (v := .pointer (some ⟨g, 0, none⟩)) rfl (by kernel_rfl) (by kernel_rfl) (by kernel_rfl) (fun _ _ _ h => h) (Or.inl ⟨by rfl, by intro w _; go_simp⟩) hH ?_
    simp only [Act.put, List.setIfInBounds_toArray, List.set_cons_zero, List.set_cons_succ]
    refine wpAnyH_take (i := 3) (oi := { dst := some 17, op := Op.load 45 (Operand.tmp 4), type := 45, pos := "scan.go:37", after := #[], guard := none }) (v := .slice (some ⟨Ab, Ao, none⟩) (kept.length + p.length) c) rfl (by kernel_rfl) (by kernel_rfl) (by kernel_rfl) (fun _ _ _ h => h) (Or.inl ⟨by rfl, by intro w' s'; have q0 := s'.2; go_simp⟩) hH ?_
    simp only [Act.put, List.setIfInBounds_toArray, List.set_cons_zero, List.set_cons_succ]
    refine wpAnyH_take (i := 4) (oi := { dst := some 18, op := Op.move (Operand.tmp 5), type := 3, pos := "scan.go:37", after := #[], guard := none }) (v := .int .i64 (r : Int)) rfl (by kernel_rfl) (by kernel_rfl) (by kernel_rfl) (fun _ _ _ h => h) (Or.inl ⟨by rfl, by intro w _; go_simp⟩) hH ?_
    simp only [Act.put, List.setIfInBounds_toArray, List.set_cons_zero, List.set_cons_succ]
    refine wpAnyH_take (i := 5) (oi := { dst := some 19, op := Op.slice 45 (Operand.tmp 17) (some (Operand.tmp 18)) none none, type := 45, pos := "scan.go:37", after := #[{ on := 3, ground := Ground.data }, { on := 4, ground := Ground.data }], guard := none }) (v := .slice (some ⟨Ab, Ao + r, none⟩) (kept.length + p.length - r) (c - r)) rfl (by kernel_rfl) (by kernel_rfl) (by kernel_rfl) (fun _ _ _ h => h) (Or.inl ⟨by rfl, by intro w' s'; have q0 := g5; have q1 := g6.out; go_simp⟩) hH ?_
    simp only [Act.put, List.setIfInBounds_toArray, List.set_cons_zero, List.set_cons_succ]
    refine wpAnyH_ready (rs := [6]) (by kernel_rfl) (by decide) (AllReadyH.cons rfl (fun K hK => ?_) AllReadyH.nil)
    rw [if_pos (by rfl)]
    go_simp
    with_reducible refine CK.mono ?_
    rintro e wE ⟨rfl, winE, GE, hiE⟩
    clear CK
    have RK : Hid (SM wE g (A.length + p.length) ((kept ++ p).drop r) m N S' F' fv') := HZD.out.sm.taken winE GE hiE
    have kE : Hid (KS g m fv.ownBlock w wE) := HZD.out.kx.grown GE (fun j hj => .inl (Option.some.inj hj).symm)
    have hHE : wE.cell? ⟨S2, 0, none⟩ = some (.pointer (some ⟨g, 0, none⟩)) ∧ wE.cell? ⟨S6, 0, none⟩ = some (.slice (some ⟨Ab, Ao, none⟩) (kept.length + p.length) c) := ⟨(World.cell?_of_block (w := wD) (w' := wE) (a := ⟨S2, 0, none⟩) (GE.block S2 HZD.out.bs.lt (fun e => by injection e; omega))).trans hH.1, (World.cell?_of_block (w := wD) (w' := wE) (a := ⟨S6, 0, none⟩) (GE.block S6 HZD.out.bt.lt (fun e => by injection e; have := HZD.out.ord; omega))).trans hH.2⟩
    clear GE winE hiE hH
    go_wp2_with fail
    refine hK.out _ _ hHE (fun _ => ?_)
    clear hK K
    refine wpAnyH_done (by kernel_rfl) ?_ _
    clear hHE
    try go_wp2
    go_end0
    refine ⟨(kept ++ p).drop r, S', F', fv', rfl, by rw [hAp]; exact RK.out, hG.fed HR1.out HR2.out S' F' ?_ ?_ ?_, kE.out, HZD.out.px⟩
    · rw [HO.out]; exact HZD.out.fb
    · rw [HO.out]; exact HZD.out.fl
    · rw [HO.out]; exact HD.out
  · have g6 : Hid (c = r) := by unfold Hid; omega
    have hlk : ((kept ++ p).drop r).length ≤ 31 := by rw [List.length_drop]; have := HR2.out; omega
    have hvK : Txt wD (.slice (some ⟨Ab, Ao, none⟩) (kept.length + p.length - r) 0) ((kept ++ p).drop r) := Txt.nil (List.drop_eq_nil_of_le (by omega)) (by omega)
    have CK := keep_any g (A.length + p.length) kept (.slice (some ⟨Ab, Ao, none⟩) (kept.length + p.length - r) 0) ((kept ++ p).drop r) wD HZD.out.sm.win hvK hlk
    clear hvK
    refine wpAnyH_take (i := 0) (oi := { dst := some 14, op := Op.load 40 (Operand.tmp 2), type := 40, pos := "scan.go:37", after := #[], guard := none }) (v := .pointer (some ⟨g, 0, none⟩)) rfl (by kernel_rfl) (by kernel_rfl) (by kernel_rfl) (fun _ _ _ h => h) (Or.inl ⟨by rfl, by intro w' s'; have q0 := s'.1; go_simp⟩) hH ?_
    simp only [Act.put, List.setIfInBounds_toArray, List.set_cons_zero, List.set_cons_succ]
    refine wpAnyH_take (i := 1) (oi := { dst := some 15, op := Op.nilCheck (Operand.tmp 14), type := 0, pos := "scan.go:37", after := #[{ on := 0, ground := Ground.data }], guard := none }) (v := .pointer (some ⟨g, 0, none⟩)) rfl (by kernel_rfl) (by kernel_rfl) (by kernel_rfl) (fun _ _ _ h => h) (Or.inl ⟨by rfl, by intro w _; go_simp⟩) hH ?_
    simp only [Act.put, List.setIfInBounds_toArray, List.set_cons_zero, List.set_cons_succ]
    refine wpAnyH_take (i := 2) (oi := { dst := some 16, op := Op.fieldAddr 80 (Operand.tmp 15) 0, type := 0, pos := "scan.go:37", after := #[{ on := 1, ground := Ground.data }], guard := none }) (v := .pointer (some ⟨g, 0, none⟩)) rfl (by kernel_rfl) (by kernel_rfl) (by kernel_rfl) (fun _ _ _ h => h) (Or.inl ⟨by rfl, by intro w _; go_simp⟩) hH ?_
    simp only [Act.put, List.setIfInBounds_toArray, List.set_cons_zero, List.set_cons_succ]
    refine wpAnyH_take (i := 3) (oi := { dst := some 17, op := Op.load 45 (Operand.tmp 4), type := 45, pos := "scan.go:37", after := #[], guard := none }) (v := .slice (some ⟨Ab, Ao, none⟩) (kept.length + p.length) c) rfl (by kernel_rfl) (by kernel_rfl) (by kernel_rfl) (fun _ _ _ h => h) (Or.inl ⟨by rfl, by intro w' s'; have q0 := s'.2; go_simp⟩) hH ?_
    simp only [Act.put, List.setIfInBounds_toArray, List.set_cons_zero, List.set_cons_succ]
    refine wpAnyH_take (i := 4) (oi := { dst := some 18, op := Op.move (Operand.tmp 5), type := 3, pos := "scan.go:37", after := #[], guard := none }) (v := .int .i64 (r : Int)) rfl (by kernel_rfl) (by kernel_rfl) (by kernel_rfl) (fun _ _ _ h => h) (Or.inl ⟨by rfl, by intro w _; go_simp⟩) hH ?_
    simp only [Act.put, List.setIfInBounds_toArray, List.set_cons_zero, List.set_cons_succ]
    refine wpAnyH_take (i := 5) (oi := { dst := some 19, op := Op.slice 45 (Operand.tmp 17) (some (Operand.tmp 18)) none none, type := 45, pos := "scan.go:37", after := #[{ on := 3, ground := Ground.data }, { on := 4, ground := Ground.data }], guard := none }) (v := .slice (some ⟨Ab, Ao, none⟩) (kept.length + p.length - r) 0) rfl (by kernel_rfl) (by kernel_rfl) (by kernel_rfl) (fun _ _ _ h => h) (Or.inl ⟨by rfl, by intro w' s'; have q0 := g5; have q1 := g6.out; go_simp⟩) hH ?_
    simp only [Act.put, List.setIfInBounds_toArray, List.set_cons_zero, List.set_cons_succ]
    refine wpAnyH_ready (rs := [6]) (by kernel_rfl) (by decide) (AllReadyH.cons rfl (fun K hK => ?_) AllReadyH.nil)
    rw [if_pos (by rfl)]
    go_simp
    with_reducible refine CK.mono ?_
    rintro e wE ⟨rfl, winE, GE, hiE⟩
    clear CK
    have RK : Hid (SM wE g (A.length + p.length) ((kept ++ p).drop r) m N S' F' fv') := HZD.out.sm.taken winE GE hiE
    have kE : Hid (KS g m fv.ownBlock w wE) := HZD.out.kx.grown GE (fun j hj => .inl (Option.some.inj hj).symm)
    have hHE : wE.cell? ⟨S2, 0, none⟩ = some (.pointer (some ⟨g, 0, none⟩)) ∧ wE.cell? ⟨S6, 0, none⟩ = some (.slice (some ⟨Ab, Ao, none⟩) (kept.length + p.length) c) := ⟨(World.cell?_of_block (w := wD) (w' := wE) (a := ⟨S2, 0, none⟩) (GE.block S2 HZD.out.bs.lt (fun e => by injection e; omega))).trans hH.1, (World.cell?_of_block (w := wD) (w' := wE) (a := ⟨S6, 0, none⟩) (GE.block S6 HZD.out.bt.lt (fun e => by injection e; have := HZD.out.ord; omega))).trans hH.2⟩
    clear GE winE hiE hH
    go_wp2_with fail
    refine hK.out _ _ hHE (fun _ => ?_)
    clear hK K
    refine wpAnyH_done (by kernel_rfl) ?_ _
    clear hHE
    try go_wp2
    go_end0
    refine ⟨(kept ++ p).drop r, S', F', fv', rfl, by rw [hAp]; exact RK.out, hG.fed HR1.out HR2.out S' F' ?_ ?_ ?_, kE.out, HZD.out.px⟩
    · rw [HO.out]; exact HZD.out.fb
    · rw [HO.out]; exact HZD.out.fl
    · rw [HO.out]; exact HD.out

end Sc
end Go.Proofs.YtdjjleahfciipaaGreatDoor
/- slices.Clone at []string, walked (own text of the verifier). -/
namespace Go.Proofs.YtdjjleahfciipaaGreatDoor
open Go.RowKit
namespace Sc

set_option maxRecDepth 100000 in
set_option maxHeartbeats 8000000 in
theorem cloneS_any (a : Addr) (n c : Nat) (l : List (List UInt8)) (w : World) (hl : l.length = n) (hb : n ≤ 536870912) (hc : ∀ (j : Nat) (x : List UInt8), l[j]? = some x → w.cell? (a.add j) = some (.string (ba x))) :
    Calls Tryz.prog 36 #[.slice (some a) n c] w fun e w' => ∃ v', e = .returned v' ∧ w'.ownsRow w.heap.size 9 1 v' n (tv_ l) ∧ Below w.heap.size w w' := by
  have HC : Hid (∀ (j : Nat) (x : List UInt8), l[j]? = some x → w.cell? (a.add j) = some (.string (ba x))) := hc
  clear hc
  have hq : ∀ (w : World) (a : Option Addr) (n c n' c' : Nat), (binOp .eql 43 (.slice a n c) (.slice none n' c')).run Tryz.prog w = .ok (.bool a.isNone) w := fun w a n c n' c' => Lib.run_eql_slice_nil w _ _ a n c n' c' und22
  obtain ⟨i0, hi, hz0, hz1, hz2⟩ := info_parts info9
  go_enter Tryz.func36, Tryz.ntmps36
  go_wp2_with (at_builtin; refine wpList_append_own _ rfl _ _ 43 rfl w.heap.size 9 i0 (.string ⟨#[]⟩) 1 16 und22 hi hz0 hz1 hz2 rfl (by decide) _ _ _ rfl (World.ownsRow_made w #[] 0 (Nat.le_refl _) (Nat.zero_le _) rfl) a n c (tv_ l) rfl ?q1 ?q2 ?q3 ?q4 ?q5 ?q6 ?_)
  case q1 => rw [Nat.mul_one]; unfold tv_; rw [List.length_map]; exact hl
  case q2 =>
    intro j u hj
    unfold tv_ at hj
    rw [List.getElem?_map] at hj
    obtain ⟨x, hx, rfl⟩ := Option.map_eq_some_iff.1 hj
    exact Lib.cell?_alloc_some _ (HC.out j x hx)
  case q3 => intro u hu; unfold tv_ at hu; obtain ⟨x, _, rfl⟩ := List.mem_map.1 hu; rfl
  case q4 => unfold maxLen; omega
  case q5 => omega
  case q6 => simp
  intro v' w1 hown hgrow hnil
  go_wp2
  go_ret
  exact ⟨v', rfl, by simpa using hown, ((Below.refl _ w).alloc (Nat.le_refl _) _).grown hgrow (by simp) (by intro k hk; simp [Value.ownBlock] at hk; omega)⟩
theorem cloneS_nil (n c : Nat) (w : World) : Calls Tryz.prog 36 #[.slice none n c] w fun e w' => e = .returned (.slice none 0 0) ∧ w' = w := by
  have hq : ∀ (w : World) (a : Option Addr) (n c n' c' : Nat), (binOp .eql 43 (.slice a n c) (.slice none n' c')).run Tryz.prog w = .ok (.bool a.isNone) w := fun w a n c n' c' => Lib.run_eql_slice_nil w _ _ a n c n' c' und22
  go_enter Tryz.func36, Tryz.ntmps36
  go_wp2
  go_ret
  exact ⟨rfl, rfl⟩

end Sc
end Go.Proofs.YtdjjleahfciipaaGreatDoor
