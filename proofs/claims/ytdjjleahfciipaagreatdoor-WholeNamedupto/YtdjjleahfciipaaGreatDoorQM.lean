/- Gathered: ScG. -/
import Derived.Deep.Cut
import Derived.Shelf.Abstract
import Derived.Test.YtdjjleahfciipaaGreatDoorQL
/- scan.Rewriter's Feed, walked (own text of the verifier). -/
namespace Go.Proofs.YtdjjleahfciipaaGreatDoor
open Go.RowKit
namespace Sc

/-- What a rewriter has come to. -/
def RW (W : World) (g : Nat) (A f t E kept : List UInt8) (Ps : List Nat) (cl : Bool) (pv : Value) : Prop := RM W g A.length kept f t Ps cl pv ∧ GS f t A E kept Ps

theorem bx_of {W W' : World} {B : Nat} {t : TypeId} {v : Value} (b : Below W.heap.size W W') (h : Boxed W B t v) : Boxed W' B t v := (b.block B h.lt).trans h
theorem RM.taken {w w' : World} {g n m : Nat} {kept kept' f t : List UInt8} {Ps : List Nat} {cl : Bool} {pv : Value} (h : RM w g n kept f t Ps cl pv) (hw : Win w' g m kept') (G : w.grownBy w' (some g)) (hi : ∀ i, 33 ≤ i → w'.cell? ⟨g, i, none⟩ = w.cell? ⟨g, i, none⟩ ∧ w'.frozen? ⟨g, i, none⟩ = w.frozen? ⟨g, i, none⟩) : RM w' g m kept' f t Ps cl pv :=
  ⟨hw, (hi _ (by omega)).1.trans h.cf, (hi _ (by omega)).1.trans h.ct, (hi _ (by omega)).1.trans h.cp, (hi _ (by omega)).2.trans h.fp, (hi _ (by omega)).1.trans h.cc, (hi _ (by omega)).2.trans h.fc, row_same h.pr (fun k hk => G.block k (h.pr.lt k hk).2 (fun e => h.pg (by rw [← Option.some.inj e]; exact hk))), h.pg⟩

theorem Txt.nil {W : World} {x : Option Addr} {n c : Nat} {l : List UInt8} (hl : l = []) (hn : n = 0) : Txt W (.slice x n c) l := by subst hl hn; exact ⟨x, c, rfl, by simp, Nat.zero_le _⟩

set_option maxRecDepth 100000 in
set_option maxHeartbeats 8000000 in
theorem rfeed_any (g : Nat) (A f t E kept p : List UInt8) (Ps : List Nat) (pv y : Value) (w : World) (hR : RM w g A.length kept f t Ps false pv) (hG : GS f t A E kept Ps) (hp : Txt w y p) (hyg : ∀ x l c, y = .slice (some x) l c → x.block ≠ g) (hpl : p.length ≤ 268435456) (hA : A.length ≤ 268435456) (hf : isH Lt f) (ht : t.length = 32) (hps : Ps.length ≤ 536870912) :
    Calls Tryz.prog 28 #[.pointer (some ⟨g, 0, none⟩), y] w fun e w' => ∃ ans kept' Ps' pv', e = .returned (.string (ba ans)) ∧ RM w' g (A ++ p).length kept' f t Ps' false pv' ∧ GS f t (A ++ p) (E ++ ans) kept' Ps' ∧ KX g pv.ownBlock w w' ∧ (pv'.ownBlock = pv.ownBlock ∨ ∀ k, pv'.ownBlock = some k → w.heap.size ≤ k) := by
  have cc := hR.cc
  have HR : Hid (RM w g A.length kept f t Ps false pv) := hR
  have HP : Hid (Txt w y p) := hp
  have bA : Below w.heap.size w (w.alloc (.cells #[.pointer (some ⟨g, 0, none⟩)] 70)) := (Below.refl _ _).alloc (Nat.le_refl _) _
  have B2 : Hid (Boxed (w.alloc (.cells #[.pointer (some ⟨g, 0, none⟩)] 70)) w.heap.size 70 (.pointer (some ⟨g, 0, none⟩))) := Boxed.new _ _ _
  have R1 : Hid (RM (w.alloc (.cells #[.pointer (some ⟨g, 0, none⟩)] 70)) g A.length kept f t Ps false pv) := hR.below bA
  have P1 : Hid (Txt (w.alloc (.cells #[.pointer (some ⟨g, 0, none⟩)] 70)) y p) := hp.below bA
  have HB1 : Hid (Below w.heap.size w (w.alloc (.cells #[.pointer (some ⟨g, 0, none⟩)] 70))) := bA
  have cc1 := R1.out.cc
  clear hR hp bA cc
  go_enter Tryz.func28, Tryz.ntmps28
  go_upto_region 3 with fail
  obtain ⟨S2, hS2⟩ : ∃ S, w.heap.size = S := ⟨_, rfl⟩
  have HS2 : Hid (w.heap.size = S2) := hS2
  have hgS : g < S2 := by rw [← hS2]; exact HR.out.lt
  rw [hS2] at B2 HB1 ⊢
  clear hS2 cc1
  obtain ⟨o, ho⟩ : ∃ o, A.length - kept.length = o := ⟨_, rfl⟩
  have HO : Hid (A.length - kept.length = o) := ho
  have hle := hG.le
  have hnk : (A.length : Int) - (kept.length : Int) = (o : Int) := by omega
  have hnw : IntKind.i64.wrap (o : Int) = (o : Int) := by rw [IntKind.wrap_i64]; omega
  clear ho
  have w0 := R1.out.win.c0
  have w1 := R1.out.win.c1
  have R1d : Hid (RM (w.alloc (.cells #[.pointer (some ⟨g, 0, none⟩)] 70)).drew g A.length kept f t Ps false pv) := R1.out.below (Below.refl _ _).drew
  have P1d : Hid (Txt (w.alloc (.cells #[.pointer (some ⟨g, 0, none⟩)] 70)).drew y p) := P1.out.below (Below.refl _ _).drew
  have B2d : Hid (Boxed (w.alloc (.cells #[.pointer (some ⟨g, 0, none⟩)] 70)).drew S2 70 (.pointer (some ⟨g, 0, none⟩))) := B2.out
  have HB1d : Hid (Below S2 w (w.alloc (.cells #[.pointer (some ⟨g, 0, none⟩)] 70)).drew) := HB1.out.drew
  have hz1 : Hid ((w.alloc (.cells #[.pointer (some ⟨g, 0, none⟩)] 70)).drew.heap.size = S2 + 1) := by show (w.alloc _).heap.size = _; rw [World.size_alloc, HS2.out]
  refine wp_region_held_drew (S := fun V => V.cell? ⟨S2, 0, none⟩ = some (.pointer (some ⟨g, 0, none⟩)) ∧ V.cell? ⟨g, 0, none⟩ = some (.int .i64 (A.length : Int)) ∧ V.cell? ⟨g, 1, none⟩ = some (.int .i64 (kept.length : Int))) (by kernel_rfl) ⟨B2.out.cell, w0, w1⟩ (fun hH => ?_)
  clear R1 P1 B2 HB1 w0 w1
  generalize (w.alloc (.cells #[.pointer (some ⟨g, 0, none⟩)] 70)).drew = wd at *
  -- @R3
  have bz : ∀ z : Int, Below wd.heap.size wd (wd.alloc (.cells #[.int .i64 z] 3)) := fun z => (Below.refl _ _).alloc (Nat.le_refl _) _
  have hHz : ∀ z : Int, (wd.alloc (.cells #[.int .i64 z] 3)).cell? ⟨S2, 0, none⟩ = some (.pointer (some ⟨g, 0, none⟩)) ∧ (wd.alloc (.cells #[.int .i64 z] 3)).cell? ⟨g, 0, none⟩ = some (.int .i64 (A.length : Int)) ∧ (wd.alloc (.cells #[.int .i64 z] 3)).cell? ⟨g, 1, none⟩ = some (.int .i64 (kept.length : Int)) := fun z => ⟨((bz z).cell (p := ⟨S2, 0, none⟩) B2d.out.lt).trans hH.1, ((bz z).cell (p := ⟨g, 0, none⟩) R1d.out.lt).trans hH.2.1, ((bz z).cell (p := ⟨g, 1, none⟩) R1d.out.lt).trans hH.2.2⟩
  refine wpAnyH_take (i := 0) (oi := { dst := some 14, op := Op.load 70 (Operand.tmp 2), type := 70, pos := "rewrite.go:39", after := #[], guard := none }) (v := .pointer (some ⟨g, 0, none⟩)) rfl (by kernel_rfl) (by kernel_rfl) (by kernel_rfl) (fun _ _ _ h => h) (Or.inl ⟨by rfl, by intro w' s'; have q0 := s'.1; go_simp⟩) hH ?_
  simp only [Act.put, List.setIfInBounds_toArray, List.set_cons_zero, List.set_cons_succ]
  refine wpAnyH_take (i := 1) (oi := { dst := some 15, op := Op.nilCheck (Operand.tmp 14), type := 0, pos := "rewrite.go:39", after := #[{ on := 0, ground := Ground.data }], guard := none }) (v := .pointer (some ⟨g, 0, none⟩)) rfl (by kernel_rfl) (by kernel_rfl) (by kernel_rfl) (fun _ _ _ h => h) (Or.inl ⟨by rfl, by intro w _; go_simp⟩) hH ?_
  simp only [Act.put, List.setIfInBounds_toArray, List.set_cons_zero, List.set_cons_succ]
  refine wpAnyH_take (i := 2) (oi := { dst := some 16, op := Op.fieldAddr 119 (Operand.tmp 15) 0, type := 0, pos := "rewrite.go:39", after := #[{ on := 1, ground := Ground.data }], guard := none }) (v := .pointer (some ⟨g, 0, none⟩)) rfl (by kernel_rfl) (by kernel_rfl) (by kernel_rfl) (fun _ _ _ h => h) (Or.inl ⟨by rfl, by intro w _; go_simp⟩) hH ?_
  simp only [Act.put, List.setIfInBounds_toArray, List.set_cons_zero, List.set_cons_succ]
  refine wpAnyH_take (i := 3) (oi := { dst := some 17, op := Op.fieldAddr 78 (Operand.tmp 16) 0, type := 0, pos := "rewrite.go:39", after := #[{ on := 2, ground := Ground.data }], guard := none }) (v := .pointer (some ⟨g, 0, none⟩)) rfl (by kernel_rfl) (by kernel_rfl) (by kernel_rfl) (fun _ _ _ h => h) (Or.inl ⟨by rfl, by intro w _; go_simp⟩) hH ?_
  simp only [Act.put, List.setIfInBounds_toArray, List.set_cons_zero, List.set_cons_succ]
  refine wpAnyH_take (i := 4) (oi := { dst := some 18, op := Op.load 3 (Operand.tmp 17), type := 3, pos := "rewrite.go:39", after := #[{ on := 3, ground := Ground.data }], guard := none }) (v := .int .i64 (A.length : Int)) rfl (by kernel_rfl) (by kernel_rfl) (by kernel_rfl) (fun _ _ _ h => h) (Or.inl ⟨by rfl, by intro w' s'; have q0 := s'.2.1; go_simp⟩) hH ?_
  simp only [Act.put, List.setIfInBounds_toArray, List.set_cons_zero, List.set_cons_succ]
  refine wpAnyH_take (i := 5) (oi := { dst := some 19, op := Op.load 70 (Operand.tmp 2), type := 70, pos := "rewrite.go:39", after := #[], guard := none }) (v := .pointer (some ⟨g, 0, none⟩)) rfl (by kernel_rfl) (by kernel_rfl) (by kernel_rfl) (fun _ _ _ h => h) (Or.inl ⟨by rfl, by intro w' s'; have q0 := s'.1; go_simp⟩) hH ?_
  simp only [Act.put, List.setIfInBounds_toArray, List.set_cons_zero, List.set_cons_succ]
  refine wpAnyH_take (i := 6) (oi := { dst := some 20, op := Op.nilCheck (Operand.tmp 19), type := 0, pos := "rewrite.go:39", after := #[{ on := 5, ground := Ground.data }], guard := none }) (v := .pointer (some ⟨g, 0, none⟩)) rfl (by kernel_rfl) (by kernel_rfl) (by kernel_rfl) (fun _ _ _ h => h) (Or.inl ⟨by rfl, by intro w _; go_simp⟩) hH ?_
  simp only [Act.put, List.setIfInBounds_toArray, List.set_cons_zero, List.set_cons_succ]
  refine wpAnyH_take (i := 7) (oi := { dst := some 21, op := Op.fieldAddr 119 (Operand.tmp 20) 0, type := 0, pos := "rewrite.go:39", after := #[{ on := 6, ground := Ground.data }], guard := none }) (v := .pointer (some ⟨g, 0, none⟩)) rfl (by kernel_rfl) (by kernel_rfl) (by kernel_rfl) (fun _ _ _ h => h) (Or.inl ⟨by rfl, by intro w _; go_simp⟩) hH ?_
  simp only [Act.put, List.setIfInBounds_toArray, List.set_cons_zero, List.set_cons_succ]
  refine wpAnyH_take (i := 8) (oi := { dst := some 22, op := Op.fieldAddr 78 (Operand.tmp 21) 1, type := 0, pos := "rewrite.go:39", after := #[{ on := 7, ground := Ground.data }], guard := none }) (v := .pointer (some ⟨g, 1, none⟩)) rfl (by kernel_rfl) (by kernel_rfl) (by kernel_rfl) (fun _ _ _ h => h) (Or.inl ⟨by rfl, by intro w _; go_simp⟩) hH ?_
  simp only [Act.put, List.setIfInBounds_toArray, List.set_cons_zero, List.set_cons_succ]
  refine wpAnyH_take (i := 9) (oi := { dst := some 23, op := Op.load 3 (Operand.tmp 22), type := 3, pos := "rewrite.go:39", after := #[{ on := 8, ground := Ground.data }], guard := none }) (v := .int .i64 (kept.length : Int)) rfl (by kernel_rfl) (by kernel_rfl) (by kernel_rfl) (fun _ _ _ h => h) (Or.inl ⟨by rfl, by intro w' s'; have q0 := s'.2.2; go_simp⟩) hH ?_
  simp only [Act.put, List.setIfInBounds_toArray, List.set_cons_zero, List.set_cons_succ]
  refine wpAnyH_take (i := 10) (oi := { dst := some 24, op := Op.binOp BinOp.sub 3 (Operand.tmp 18) (Operand.tmp 23) 3, type := 3, pos := "rewrite.go:39", after := #[{ on := 4, ground := Ground.data }, { on := 9, ground := Ground.data }], guard := none }) (v := .int .i64 (o : Int)) rfl (by kernel_rfl) (by kernel_rfl) (by kernel_rfl) (fun _ _ _ h => h) (Or.inl ⟨by rfl, by intro w _; go_simp⟩) hH ?_
  simp only [Act.put, List.setIfInBounds_toArray, List.set_cons_zero, List.set_cons_succ]
  refine wpAnyH_ready (rs := [11]) (by kernel_rfl) (by decide) (AllReadyH.cons rfl (fun K hK => ?_) AllReadyH.nil)
  rw [if_pos (by rfl)]
  go_simp
  refine hK.out _ _ (hHz 0) (fun _ => ?_)
  clear hK K
  try simp only [Act.put, List.setIfInBounds_toArray, List.set_cons_zero, List.set_cons_succ]
  refine wpAnyH_ready (rs := [12]) (by kernel_rfl) (by decide) (AllReadyH.cons rfl (fun K hK => ?_) AllReadyH.nil)
  rw [if_pos (by rfl)]
  go_simp
  refine hK.out _ _ (hHz o) (fun _ => ?_)
  clear hK K
  refine wpAnyH_done (by kernel_rfl) ?_ _
  clear hHz bz hH
  -- @E3
  have b3 : Below wd.heap.size wd (wd.alloc (.cells #[.int .i64 (o : Int)] 3)) := (Below.refl _ _).alloc (Nat.le_refl _) _
  have R3 : Hid (RM (wd.alloc (.cells #[.int .i64 (o : Int)] 3)) g A.length kept f t Ps false pv) := R1d.out.below b3
  have P3 : Hid (Txt (wd.alloc (.cells #[.int .i64 (o : Int)] 3)) y p) := P1d.out.below b3
  have B23 : Hid (Boxed (wd.alloc (.cells #[.int .i64 (o : Int)] 3)) S2 70 (.pointer (some ⟨g, 0, none⟩))) := B2d.out.alloc _
  have B53 : Hid (Boxed (wd.alloc (.cells #[.int .i64 (o : Int)] 3)) (S2 + 1) 3 (.int .i64 (o : Int))) := by rw [← hz1.out]; exact Boxed.new wd 3 _
  have HB3 : Hid (Below S2 w (wd.alloc (.cells #[.int .i64 (o : Int)] 3))) := HB1d.out.alloc (by rw [hz1.out]; omega) _
  have hz3 : Hid ((wd.alloc (.cells #[.int .i64 (o : Int)] 3)).heap.size = S2 + 2) := by unfold Hid; rw [World.size_alloc, hz1.out]
  rw [hz1.out]
  clear b3 R1d P1d B2d HB1d hz1
  generalize wd.alloc (.cells #[.int .i64 (o : Int)] 3) = w3 at *
  have c2 := B23.out.cell
  have CT := take_any g A.length kept y p w3 R3.out.win P3.out hyg (by omega) (by omega)
  go_wp2_with fail
  refine CT.mono ?_
  rintro e w4 ⟨x, c, rfl, T4, W4, G4, hx, hi4⟩
  clear CT
  have hsh := R3.out.win.sh
  have hlen : (kept ++ p).length = kept.length + p.length := List.length_append
  have HT4 : Hid (Txt w4 (.slice x (kept ++ p).length c) (kept ++ p)) := T4
  have R4 : Hid (RM w4 g (A.length + p.length) kept f t Ps false pv) := R3.out.taken W4 G4 hi4
  have B24 : Hid (Boxed w4 S2 70 (.pointer (some ⟨g, 0, none⟩))) := B23.out.kept G4 (fun e => by injection e; omega)
  have B54 : Hid (Boxed w4 (S2 + 1) 3 (.int .i64 (o : Int))) := B53.out.kept G4 (fun e => by injection e; omega)
  have hz4 : Hid (S2 + 2 ≤ w4.heap.size) := by unfold Hid; rw [← hz3.out]; exact G4.size
  have K4 : Hid (KX g pv.ownBlock w w4) := ((KX.refl g pv.ownBlock w).below HB3.out (Nat.le_of_eq HS2.out)).grown G4 (fun j hj => .inl (Option.some.inj hj).symm)
  have hpvS : Hid (∀ k, pv.ownBlock = some k → k < S2) := fun k hk => by rw [← HS2.out]; exact (HR.out.pr.lt k hk).2
  have hxx : Hid ((p = [] ∧ x = some ⟨g, 2, none⟩) ∨ ∃ b, x = some ⟨b, 0, none⟩ ∧ S2 + 2 ≤ b ∧ p ≠ []) := by rw [← hz3.out]; exact hx
  have hxl : Hid (∀ a, x = some a → a.block < w4.heap.size) := fun a ha => by
    rcases hxx.out with ⟨_, h2⟩ | ⟨b, h2, h3, h4⟩
    · rw [h2] at ha; obtain rfl := Option.some.inj ha; exact R4.out.lt
    · rw [h2] at ha
      obtain rfl := Option.some.inj ha
      have hz : 0 < (kept ++ p).length := by
        rw [List.length_append]
        have := List.length_pos_iff.2 h4
        omega
      obtain ⟨a', o', c', e, hlt, _⟩ := T4.at hz
      injection e with e _ _
      rw [h2] at e
      injection e with e
      injection e with e _
      rw [e]; exact hlt
  rw [hlen] at HT4
  have hord : S2 + 2 ≤ w4.heap.size := hz4.out
  have z5 : (w4.alloc (.cells #[.slice x (kept.length + p.length) c] 45)).heap.size = w4.heap.size + 1 := World.size_alloc _ _
  have z6 : ((w4.alloc (.cells #[.slice x (kept.length + p.length) c] 45)).alloc (.cells #[.pointer none, .slice none 0 0] 54)).heap.size = w4.heap.size + 2 := by rw [World.size_alloc, z5]
  have b5 : Below w4.heap.size w4 (w4.alloc (.cells #[.slice x (kept.length + p.length) c] 45)) := (Below.refl _ _).alloc (Nat.le_refl _) _
  have b6 : Below w4.heap.size w4 ((w4.alloc (.cells #[.slice x (kept.length + p.length) c] 45)).alloc (.cells #[.pointer none, .slice none 0 0] 54)) := b5.alloc (by rw [z5]; omega) _
  have b7 : Below w4.heap.size w4 (((w4.alloc (.cells #[.slice x (kept.length + p.length) c] 45)).alloc (.cells #[.pointer none, .slice none 0 0] 54)).alloc (.cells #[.int .i64 0] 3)) := b6.alloc (by rw [z6]; omega) _
  have HZ : Hid (FJ0 w (((w4.alloc (.cells #[.slice x (kept.length + p.length) c] 45)).alloc (.cells #[.pointer none, .slice none 0 0] 54)).alloc (.cells #[.int .i64 0] 3)) g S2 (S2 + 1) w4.heap.size (w4.heap.size + 1) (w4.heap.size + 1 + 1) (A.length + p.length) o kept (kept ++ p) f t pv.ownBlock (.slice x (kept.length + p.length) c) 0 [] Ps pv) := by
    refine ⟨R4.out.below b7, bx_of b7 B24.out, bx_of b7 B54.out, (Boxed.new w4 _ _).alloc _ |>.alloc _, ?_, ?_, HT4.out.below b7, fun k hk => ?_, ⟨hgS, by omega, by omega, by omega, by omega⟩, .inl rfl, K4.out.below b7 (by have := K4.out.size; omega), fun a l cc e => ?_, Nat.le_of_eq HS2.out⟩
    · have := Boxed.new ((w4.alloc (.cells #[.slice x (kept.length + p.length) c] 45)).alloc (.cells #[.pointer none, .slice none 0 0] 54)) 3 (.int .i64 0)
      rw [z6] at this
      exact this
    · have := (BdS.new 54 (w4.alloc (.cells #[.slice x (kept.length + p.length) c] 45))).below ((Below.refl _ _).alloc (Nat.le_refl _) (.cells #[.int .i64 0] 3))
      rw [z5] at this
      exact this
    · have := hpvS.out k hk
      exact ⟨by omega, by omega, by omega, by omega, by omega⟩
    · injection e with e _ _
      refine ⟨hxl.out a e, fun k hk hka => ?_⟩
      rcases hxx.out with ⟨_, h2⟩ | ⟨b, h2, h3, _⟩
      · rw [h2] at e; obtain rfl := Option.some.inj e; exact R4.out.pg (by rw [hk, hka])
      · rw [h2] at e; obtain rfl := Option.some.inj e; have := hpvS.out k hk; simp at hka; omega
  have hsz7 : Hid ((((w4.alloc (.cells #[.slice x (kept.length + p.length) c] 45)).alloc (.cells #[.pointer none, .slice none 0 0] 54)).alloc (.cells #[.int .i64 0] 3)).heap.size = w4.heap.size + 3) := by unfold Hid; rw [World.size_alloc, z6]
  clear hx hi4 W4 G4 T4 R3 P3 B23 B53 HB3 hz3 c2 z5 z6 b5 b6 b7 R4 B24 B54 K4 HT4 hxl
  obtain ⟨Ab, Ao, hxs⟩ : ∃ Ab Ao, x = some ⟨Ab, Ao, none⟩ := by
    rcases hxx.out with ⟨_, h2⟩ | ⟨b, h2, _⟩
    · exact ⟨g, 2, h2⟩
    · exact ⟨b, 0, h2⟩
  have hxg : Hid (32 ≤ kept.length + p.length → Ab ≠ g) := fun h32 e => by
    rcases hxx.out with ⟨h1, _⟩ | ⟨b, h2, h3, _⟩
    · rw [h1] at h32; simp at h32; omega
    · rw [h2] at hxs; injection hxs with hxs; injection hxs with hxs _; omega
  subst hxs
  clear hxx hyg
  obtain ⟨S6, hS6⟩ : ∃ S, w4.heap.size = S := ⟨_, rfl⟩
  go_upto_region 7 with fail
  rw [hS6] at HZ hz4 hsz7 hord
  clear hS6
  generalize ((w4.alloc (.cells #[.slice (some ⟨Ab, Ao, none⟩) (kept.length + p.length) c] 45)).alloc (.cells #[.pointer none, .slice none 0 0] 54)).alloc (.cells #[.int .i64 0] 3) = w7 at *
  have c6 := HZ.out.b6.cell
  have CS := slide_any 57 #[.pointer (some ⟨S6, 0, none⟩), .pointer (some ⟨S2, 0, none⟩), .pointer (some ⟨S2 + 1, 0, none⟩), .pointer (some ⟨S6 + 1, 0, none⟩), .pointer (some ⟨S6 + 1 + 1, 0, none⟩)] (enters_of Tryz.func57 (by kernel_rfl) rfl) (.slice (some ⟨Ab, Ao, none⟩) (kept.length + p.length) c) (kept ++ p)
    (fun at_ W => ∃ wr O Qs pv', FJ w W g S2 (S2 + 1) S6 (S6 + 1) (S6 + 1 + 1) (A.length + p.length) o kept (kept ++ p) f t pv.ownBlock Ps (.slice (some ⟨Ab, Ao, none⟩) (kept.length + p.length) c) at_ wr O Qs pv' ∧ O.length = wr ∧ Qs.length ≤ at_)
    (fun q W hq => by obtain ⟨wr, O, Qs, pv', h, _⟩ := hq; exact h.z.tx) (by rw [hlen]; omega)
    (fun q W hq hlt hb => by
      obtain ⟨wr, O, Qs, pv', h, h1, h2⟩ := hq
      exact ⟨wr, O, Qs, pv', h.rs' (h.rs.bad hf hlt hb), h1, by omega⟩)
    (fun q W hq h32 _ => by
      obtain ⟨wr, O, Qs, pv', h, h1, h2⟩ := hq
      have := rfeedc_any w W g S2 (S2 + 1) S6 (S6 + 1) (S6 + 1 + 1) (A.length + p.length) o kept (kept ++ p) f t pv.ownBlock Ps _ q wr O Qs pv' h h32 (by rw [hlen]; omega) (by omega) hf.len ht h1 h2 (by omega) (fun xx l cc e => by injection e with e _ _; injection e with e; subst e; exact hxg.out (by rw [← hlen]; omega))
      refine (show Calls _ _ _ _ _ from ?_)
      simpa using this)
    w7 ⟨0, [], [], pv, ⟨RS.start f t (kept ++ p) o, by rw [List.append_nil]; exact HZ.out⟩, rfl, Nat.le_refl _⟩
  go_wp2_with fail
  refine CS.mono ?_
  rintro e w9 ⟨r, hr1, hr2, rfl, wr, O, Qs, pv', hFJ, hol, hql⟩
  clear CS c6 HZ
  have HF : Hid (FJ w w9 g S2 (S2 + 1) S6 (S6 + 1) (S6 + 1 + 1) (A.length + p.length) o kept (kept ++ p) f t pv.ownBlock Ps (.slice (some ⟨Ab, Ao, none⟩) (kept.length + p.length) c) r wr O Qs pv') := hFJ
  have hrs := hFJ.rs
  have hwr := hrs.wl
  have htx := hFJ.z.tx
  rw [← hlen] at htx
  have hlc : kept.length + p.length ≤ c := by
    obtain ⟨x', c', e, _, h2⟩ := htx
    injection e with _ _ e3
    rw [hlen] at h2
    omega
  have c6 := hFJ.z.b6.cell
  have c8 := hFJ.z.b8.cell
  have hxb := (hFJ.z.xb ⟨Ab, Ao, none⟩ _ _ rfl).1
  have hrl : r ≤ kept.length + p.length := by rw [← hlen]; exact hr1
  have g1 : (wr : Int) ≤ (r : Int) := by omega
  have g2 : (r : Int) ≤ (c : Int) := by omega
  have g4 : r ≤ c := by omega
  have CWX : ∀ v, Txt w9 v (((kept ++ p).take r).drop wr) → (∀ x n c, v = .slice (some x) n c → x.block < S6 + 1) → Calls Tryz.prog 58 #[.pointer (some ⟨S6 + 1, 0, none⟩), v] w9 fun e w' => e = .returned (.tuple #[.int .i64 ((((kept ++ p).take r).drop wr).length : Int), .nilIface]) ∧ BdS 54 w' (S6 + 1) (O ++ ((kept ++ p).take r).drop wr) ∧ Below (S6 + 1) w9 w' ∧ Bk (S6 + 1) w9 w' := fun v hv hb =>
    wbytesK_any 54 (.inl rfl) (S6 + 1) O (((kept ++ p).take r).drop wr) v w9 hFJ.z.bd hv hb (by rw [List.length_drop, List.length_take]; omega)
  have h9 : Ab < S6 := hxb
  have HTX : Hid (Txt w9 (.slice (some ⟨Ab, Ao, none⟩) (kept ++ p).length c) (kept ++ p)) := htx
  clear hFJ hxb htx
  by_cases hI : r < c
  · have g3 : wr < c := by omega
    have CW := CWX (.slice (some ⟨Ab, Ao + wr, none⟩) (r - wr) (c - wr)) (HTX.out.sub hwr hr1) (fun x n cc e => by injection e with e _ _; injection e with e; subst e; show Ab < S6 + 1; omega)
    clear CWX
    go_wp2_with fail
    with_reducible refine CW.mono ?_
    rintro e wA ⟨rfl, bdA, bA, kA⟩
    clear CW
    have HZA : Hid _ := HF.out.z.wrote bdA bA kA
    clear bdA bA kA c6 c8 HTX
    have c6d : wA.drew.cell? ⟨S6, 0, none⟩ = some (.slice (some ⟨Ab, Ao, none⟩) (kept.length + p.length) c) := HZA.out.b6.cell
    have c2d : wA.drew.cell? ⟨S2, 0, none⟩ = some (.pointer (some ⟨g, 0, none⟩)) := HZA.out.b2.cell
    have HZD : Hid _ := HZA.out.below (Below.refl _ _).drew
    go_wp2_with fail
    refine wp_region_held_drew (S := fun V => V.cell? ⟨S2, 0, none⟩ = some (.pointer (some ⟨g, 0, none⟩)) ∧ V.cell? ⟨S6, 0, none⟩ = some (.slice (some ⟨Ab, Ao, none⟩) (kept.length + p.length) c)) (by kernel_rfl) ⟨c2d, c6d⟩ (fun hH => ?_)
    clear HZA c6d c2d
    generalize wA.drew = wD at *
    have g5 : (r : Int) ≤ (kept.length : Int) + (p.length : Int) := by omega
    have g6 : Hid (¬ c = r) := by unfold Hid; omega
    have hap : Hid (∀ j, pv'.ownBlock = some j → j ≠ S6 + 1) := fun j hj => (HZD.out.ap j hj).2.2.2.1
    have hlk : ((kept ++ p).drop r).length ≤ 31 := by rw [List.length_drop]; omega
    have hvK : Txt wD (.slice (some ⟨Ab, Ao + r, none⟩) (kept.length + p.length - r) (c - r)) ((kept ++ p).drop r) := by have := HZD.out.tx; rw [← hlen] at this; have := this.sub (p := r) (q := (kept ++ p).length) hr1 (Nat.le_refl _); rw [List.take_length] at this; rw [← hlen]; exact this
    have CK := keep_any g (A.length + p.length) kept (.slice (some ⟨Ab, Ao + r, none⟩) (kept.length + p.length - r) (c - r)) ((kept ++ p).drop r) wD HZD.out.rm.win hvK hlk
    clear hvK
    refine wpAnyH_take (i := 0) (oi := { dst := some 38, op := Op.load 70 (Operand.tmp 2), type := 70, pos := "rewrite.go:54", after := #[], guard := none }) (v := .pointer (some ⟨g, 0, none⟩)) rfl (by kernel_rfl) (by kernel_rfl) (by kernel_rfl) (fun _ _ _ h => h) (Or.inl ⟨by rfl, by intro w' s'; have q0 := s'.1; go_simp⟩) hH ?_
    simp only [Act.put, List.setIfInBounds_toArray, List.set_cons_zero, List.set_cons_succ]
    refine wpAnyH_take (i := 1) (oi := { dst := some 39, op := Op.nilCheck (Operand.tmp 38), type := 0, pos := "rewrite.go:54", after := #[{ on := 0, ground := Ground.data }], guard := none }) (v := .pointer (some ⟨g, 0, none⟩)) rfl (by kernel_rfl) (by kernel_rfl) (by kernel_rfl) (fun _ _ _ h => h) (Or.inl ⟨by rfl, by intro w _; go_simp⟩) hH ?_
    simp only [Act.put, List.setIfInBounds_toArray, List.set_cons_zero, List.set_cons_succ]
    refine wpAnyH_take (i := 2) (oi := { dst := some 40, op := Op.fieldAddr 119 (Operand.tmp 39) 0, type := 0, pos := "rewrite.go:54", after := #[{ on := 1, ground := Ground.data }], guard := none }) (v := .pointer (some ⟨g, 0, none⟩)) rfl (by kernel_rfl) (by kernel_rfl) (by kernel_rfl) (fun _ _ _ h => h) (Or.inl ⟨by rfl, by intro w _; go_simp⟩) hH ?_
    simp only [Act.put, List.setIfInBounds_toArray, List.set_cons_zero, List.set_cons_succ]
    refine wpAnyH_take (i := 3) (oi := { dst := some 41, op := Op.load 45 (Operand.tmp 6), type := 45, pos := "rewrite.go:54", after := #[], guard := none }) (v := .slice (some ⟨Ab, Ao, none⟩) (kept.length + p.length) c) rfl (by kernel_rfl) (by kernel_rfl) (by kernel_rfl) (fun _ _ _ h => h) (Or.inl ⟨by rfl, by intro w' s'; have q0 := s'.2; go_simp⟩) hH ?_
    simp only [Act.put, List.setIfInBounds_toArray, List.set_cons_zero, List.set_cons_succ]
    refine wpAnyH_take (i := 4) (oi := { dst := some 42, op := Op.move (Operand.tmp 9), type := 3, pos := "rewrite.go:54", after := #[], guard := none }) (v := .int .i64 (r : Int)) rfl (by kernel_rfl) (by kernel_rfl) (by kernel_rfl) (fun _ _ _ h => h) (Or.inl ⟨by rfl, by intro w _; go_simp⟩) hH ?_
    simp only [Act.put, List.setIfInBounds_toArray, List.set_cons_zero, List.set_cons_succ]
    refine wpAnyH_take (i := 5) (oi := { dst := some 43, op := Op.slice 45 (Operand.tmp 41) (some (Operand.tmp 42)) none none, type := 45, pos := "rewrite.go:54", after := #[{ on := 3, ground := Ground.data }, { on := 4, ground := Ground.data }], guard := none }) (v := .slice (some ⟨Ab, Ao + r, none⟩) (kept.length + p.length - r) (c - r)) rfl (by kernel_rfl) (by kernel_rfl) (by kernel_rfl) (fun _ _ _ h => h) (Or.inl ⟨by rfl, by intro w' s'; have q0 := g5; have q1 := g6.out; go_simp⟩) hH ?_
    simp only [Act.put, List.setIfInBounds_toArray, List.set_cons_zero, List.set_cons_succ]
    refine wpAnyH_ready (rs := [6]) (by kernel_rfl) (by decide) (AllReadyH.cons rfl (fun K hK => ?_) AllReadyH.nil)
    rw [if_pos (by rfl)]
    go_simp
    with_reducible refine CK.mono ?_
    rintro e wE ⟨rfl, winE, GE, hiE⟩
    clear CK
    have RK : Hid (RM wE g (A.length + p.length) ((kept ++ p).drop r) f t (Ps ++ Qs) false pv') := HZD.out.rm.taken winE GE hiE
    have bdE : Hid (BdS 54 wE (S6 + 1) (O ++ ((kept ++ p).take r).drop wr)) := HZD.out.bd.same (fun j h1 h2 => GE.block j h2 (fun e => by injection e; omega))
    have kE : Hid (KX g pv.ownBlock w wE) := HZD.out.kx.grown GE (fun j hj => .inl (Option.some.inj hj).symm)
    have pE : Hid (pv'.ownBlock = pv.ownBlock ∨ ∀ k, pv'.ownBlock = some k → w.heap.size ≤ k) := HZD.out.px
    have wE0 : Hid (w.heap.size ≤ S2) := HZD.out.w0
    have hHE : wE.cell? ⟨S2, 0, none⟩ = some (.pointer (some ⟨g, 0, none⟩)) ∧ wE.cell? ⟨S6, 0, none⟩ = some (.slice (some ⟨Ab, Ao, none⟩) (kept.length + p.length) c) := ⟨(World.cell?_of_block (w := wD) (w' := wE) (a := ⟨S2, 0, none⟩) (GE.block S2 HZD.out.b2.lt (fun e => by injection e; omega))).trans hH.1, (World.cell?_of_block (w := wD) (w' := wE) (a := ⟨S6, 0, none⟩) (GE.block S6 HZD.out.b6.lt (fun e => by injection e; omega))).trans hH.2⟩
    clear GE winE hiE HZD hH
    go_wp2_with fail
    refine hK.out _ _ hHE (fun _ => ?_)
    clear hK K
    refine wpAnyH_done (by kernel_rfl) ?_ _
    clear hHE
    have CS := bstrK_any 54 (S6 + 1) _ wE bdE.out
    go_wp2_with fail
    with_reducible refine CS.mono ?_
    rintro e wG ⟨rfl, bG, kG⟩
    clear CS
    go_wp2
    go_ret
    refine ⟨O ++ ((kept ++ p).take r).drop wr, (kept ++ p).drop r, Ps ++ Qs, pv', rfl, ?_, ?_, kE.out.below bG (by have := wE0.out; omega), pE.out⟩
    · rw [List.length_append]
      refine RK.out.same (bG.block g (by omega)) (fun j hj => ?_)
      obtain ⟨cur, fz, hc⟩ := row_i64 RK.out.pr j hj
      exact kG.keep j (RK.out.pr.lt j hj).2 (hap.out j hj) (fun cur' fz' e => by rw [hc] at e; injection e with e; injection e with _ e _; cases e)
    · exact hG.fed (by rw [HO.out]; exact hrs) hr2
  · by_cases hW : wr < c
    · have g3 : wr < c := by omega
      have CW := CWX (.slice (some ⟨Ab, Ao + wr, none⟩) (r - wr) (c - wr)) (HTX.out.sub hwr hr1) (fun x n cc e => by injection e with e _ _; injection e with e; subst e; show Ab < S6 + 1; omega)
      clear CWX
      go_wp2_with fail
      with_reducible refine CW.mono ?_
      rintro e wA ⟨rfl, bdA, bA, kA⟩
      clear CW
      have HZA : Hid _ := HF.out.z.wrote bdA bA kA
      clear bdA bA kA c6 c8 HTX
      have c6d : wA.drew.cell? ⟨S6, 0, none⟩ = some (.slice (some ⟨Ab, Ao, none⟩) (kept.length + p.length) c) := HZA.out.b6.cell
      have c2d : wA.drew.cell? ⟨S2, 0, none⟩ = some (.pointer (some ⟨g, 0, none⟩)) := HZA.out.b2.cell
      have HZD : Hid _ := HZA.out.below (Below.refl _ _).drew
      go_wp2_with fail
      refine wp_region_held_drew (S := fun V => V.cell? ⟨S2, 0, none⟩ = some (.pointer (some ⟨g, 0, none⟩)) ∧ V.cell? ⟨S6, 0, none⟩ = some (.slice (some ⟨Ab, Ao, none⟩) (kept.length + p.length) c)) (by kernel_rfl) ⟨c2d, c6d⟩ (fun hH => ?_)
      clear HZA c6d c2d
      generalize wA.drew = wD at *
      have g5 : (r : Int) ≤ (kept.length : Int) + (p.length : Int) := by omega
      have g6 : Hid (c = r) := by unfold Hid; omega
      have hap : Hid (∀ j, pv'.ownBlock = some j → j ≠ S6 + 1) := fun j hj => (HZD.out.ap j hj).2.2.2.1
      have hlk : ((kept ++ p).drop r).length ≤ 31 := by rw [List.length_drop]; omega
      have hvK : Txt wD (.slice (some ⟨Ab, Ao, none⟩) (kept.length + p.length - r) 0) ((kept ++ p).drop r) := Txt.nil (List.drop_eq_nil_of_le (by omega)) (by omega)
      have CK := keep_any g (A.length + p.length) kept (.slice (some ⟨Ab, Ao, none⟩) (kept.length + p.length - r) 0) ((kept ++ p).drop r) wD HZD.out.rm.win hvK hlk
      clear hvK
      refine wpAnyH_take (i := 0) (oi := { dst := some 38, op := Op.load 70 (Operand.tmp 2), type := 70, pos := "rewrite.go:54", after := #[], guard := none }) (v := .pointer (some ⟨g, 0, none⟩)) rfl (by kernel_rfl) (by kernel_rfl) (by kernel_rfl) (fun _ _ _ h => h) (Or.inl ⟨by rfl, by intro w' s'; have q0 := s'.1; go_simp⟩) hH ?_
      simp only [Act.put, List.setIfInBounds_toArray, List.set_cons_zero, List.set_cons_succ]
      refine wpAnyH_take (i := 1) (oi := { dst := some 39, op := Op.nilCheck (Operand.tmp 38), type := 0, pos := "rewrite.go:54", after := #[{ on := 0, ground := Ground.data }], guard := none }) (v := .pointer (some ⟨g, 0, none⟩)) rfl (by kernel_rfl) (by kernel_rfl) (by kernel_rfl) (fun _ _ _ h => h) (Or.inl ⟨by rfl, by intro w _; go_simp⟩) hH ?_
      simp only [Act.put, List.setIfInBounds_toArray, List.set_cons_zero, List.set_cons_succ]
      refine wpAnyH_take (i := 2) (oi := { dst := some 40, op := Op.fieldAddr 119 (Operand.tmp 39) 0, type := 0, pos := "rewrite.go:54", after := #[{ on := 1, ground := Ground.data }], guard := none }) (v := .pointer (some ⟨g, 0, none⟩)) rfl (by kernel_rfl) (by kernel_rfl) (by kernel_rfl) (fun _ _ _ h => h) (Or.inl ⟨by rfl, by intro w _; go_simp⟩) hH ?_
      simp only [Act.put, List.setIfInBounds_toArray, List.set_cons_zero, List.set_cons_succ]
      refine wpAnyH_take (i := 3) (oi := { dst := some 41, op := Op.load 45 (Operand.tmp 6), type := 45, pos := "rewrite.go:54", after := #[], guard := none }) (v := .slice (some ⟨Ab, Ao, none⟩) (kept.length + p.length) c) rfl (by kernel_rfl) (by kernel_rfl) (by kernel_rfl) (fun _ _ _ h => h) (Or.inl ⟨by rfl, by intro w' s'; have q0 := s'.2; go_simp⟩) hH ?_
      simp only [Act.put, List.setIfInBounds_toArray, List.set_cons_zero, List.set_cons_succ]
      refine wpAnyH_take (i := 4) (oi := { dst := some 42, op := Op.move (Operand.tmp 9), type := 3, pos := "rewrite.go:54", after := #[], guard := none }) (v := .int .i64 (r : Int)) rfl (by kernel_rfl) (by kernel_rfl) (by kernel_rfl) (fun _ _ _ h => h) (Or.inl ⟨by rfl, by intro w _; go_simp⟩) hH ?_
      simp only [Act.put, List.setIfInBounds_toArray, List.set_cons_zero, List.set_cons_succ]
      refine wpAnyH_take (i := 5) (oi := { dst := some 43, op := Op.slice 45 (Operand.tmp 41) (some (Operand.tmp 42)) none none, type := 45, pos := "rewrite.go:54", after := #[{ on := 3, ground := Ground.data }, { on := 4, ground := Ground.data }], guard := none }) (v := .slice (some ⟨Ab, Ao, none⟩) (kept.length + p.length - r) 0) rfl (by kernel_rfl) (by kernel_rfl) (by kernel_rfl) (fun _ _ _ h => h) (Or.inl ⟨by rfl, by intro w' s'; have q0 := g5; have q1 := g6.out; go_simp⟩) hH ?_
      simp only [Act.put, List.setIfInBounds_toArray, List.set_cons_zero, List.set_cons_succ]
      refine wpAnyH_ready (rs := [6]) (by kernel_rfl) (by decide) (AllReadyH.cons rfl (fun K hK => ?_) AllReadyH.nil)
      rw [if_pos (by rfl)]
      go_simp
      with_reducible refine CK.mono ?_
      rintro e wE ⟨rfl, winE, GE, hiE⟩
      clear CK
      have RK : Hid (RM wE g (A.length + p.length) ((kept ++ p).drop r) f t (Ps ++ Qs) false pv') := HZD.out.rm.taken winE GE hiE
      have bdE : Hid (BdS 54 wE (S6 + 1) (O ++ ((kept ++ p).take r).drop wr)) := HZD.out.bd.same (fun j h1 h2 => GE.block j h2 (fun e => by injection e; omega))
      have kE : Hid (KX g pv.ownBlock w wE) := HZD.out.kx.grown GE (fun j hj => .inl (Option.some.inj hj).symm)
      have pE : Hid (pv'.ownBlock = pv.ownBlock ∨ ∀ k, pv'.ownBlock = some k → w.heap.size ≤ k) := HZD.out.px
      have wE0 : Hid (w.heap.size ≤ S2) := HZD.out.w0
      have hHE : wE.cell? ⟨S2, 0, none⟩ = some (.pointer (some ⟨g, 0, none⟩)) ∧ wE.cell? ⟨S6, 0, none⟩ = some (.slice (some ⟨Ab, Ao, none⟩) (kept.length + p.length) c) := ⟨(World.cell?_of_block (w := wD) (w' := wE) (a := ⟨S2, 0, none⟩) (GE.block S2 HZD.out.b2.lt (fun e => by injection e; omega))).trans hH.1, (World.cell?_of_block (w := wD) (w' := wE) (a := ⟨S6, 0, none⟩) (GE.block S6 HZD.out.b6.lt (fun e => by injection e; omega))).trans hH.2⟩
      clear GE winE hiE HZD hH
      go_wp2_with fail
      refine hK.out _ _ hHE (fun _ => ?_)
      clear hK K
      refine wpAnyH_done (by kernel_rfl) ?_ _
      clear hHE
      have CS := bstrK_any 54 (S6 + 1) _ wE bdE.out
      go_wp2_with fail
      with_reducible refine CS.mono ?_
      rintro e wG ⟨rfl, bG, kG⟩
      clear CS
      go_wp2
      go_ret
      refine ⟨O ++ ((kept ++ p).take r).drop wr, (kept ++ p).drop r, Ps ++ Qs, pv', rfl, ?_, ?_, kE.out.below bG (by have := wE0.out; omega), pE.out⟩
      · rw [List.length_append]
        refine RK.out.same (bG.block g (by omega)) (fun j hj => ?_)
        obtain ⟨cur, fz, hc⟩ := row_i64 RK.out.pr j hj
        exact kG.keep j (RK.out.pr.lt j hj).2 (hap.out j hj) (fun cur' fz' e => by rw [hc] at e; injection e with e; injection e with _ e _; cases e)
      · exact hG.fed (by rw [HO.out]; exact hrs) hr2
    · have g3 : c = wr := by omega
      have CW := CWX (.slice (some ⟨Ab, Ao, none⟩) (r - wr) 0) (Txt.nil (List.drop_eq_nil_of_le (by rw [List.length_take]; omega)) (by omega)) (fun x n cc e => by injection e with e _ _; injection e with e; subst e; show Ab < S6 + 1; omega)
      clear CWX
      go_wp2_with fail
      with_reducible refine CW.mono ?_
      rintro e wA ⟨rfl, bdA, bA, kA⟩
      clear CW
      have HZA : Hid _ := HF.out.z.wrote bdA bA kA
      clear bdA bA kA c6 c8 HTX
      have c6d : wA.drew.cell? ⟨S6, 0, none⟩ = some (.slice (some ⟨Ab, Ao, none⟩) (kept.length + p.length) c) := HZA.out.b6.cell
      have c2d : wA.drew.cell? ⟨S2, 0, none⟩ = some (.pointer (some ⟨g, 0, none⟩)) := HZA.out.b2.cell
      have HZD : Hid _ := HZA.out.below (Below.refl _ _).drew
      go_wp2_with fail
      refine wp_region_held_drew (S := fun V => V.cell? ⟨S2, 0, none⟩ = some (.pointer (some ⟨g, 0, none⟩)) ∧ V.cell? ⟨S6, 0, none⟩ = some (.slice (some ⟨Ab, Ao, none⟩) (kept.length + p.length) c)) (by kernel_rfl) ⟨c2d, c6d⟩ (fun hH => ?_)
      clear HZA c6d c2d
      generalize wA.drew = wD at *
      have g5 : (r : Int) ≤ (kept.length : Int) + (p.length : Int) := by omega
      have g6 : Hid (wr = r) := by unfold Hid; omega
      have hap : Hid (∀ j, pv'.ownBlock = some j → j ≠ S6 + 1) := fun j hj => (HZD.out.ap j hj).2.2.2.1
      have hlk : ((kept ++ p).drop r).length ≤ 31 := by rw [List.length_drop]; omega
      have hvK : Txt wD (.slice (some ⟨Ab, Ao, none⟩) (kept.length + p.length - r) 0) ((kept ++ p).drop r) := Txt.nil (List.drop_eq_nil_of_le (by omega)) (by omega)
      have CK := keep_any g (A.length + p.length) kept (.slice (some ⟨Ab, Ao, none⟩) (kept.length + p.length - r) 0) ((kept ++ p).drop r) wD HZD.out.rm.win hvK hlk
      clear hvK
      refine wpAnyH_take (i := 0) (oi := { dst := some 38, op := Op.load 70 (Operand.tmp 2), type := 70, pos := "rewrite.go:54", after := #[], guard := none }) (v := .pointer (some ⟨g, 0, none⟩)) rfl (by kernel_rfl) (by kernel_rfl) (by kernel_rfl) (fun _ _ _ h => h) (Or.inl ⟨by rfl, by intro w' s'; have q0 := s'.1; go_simp⟩) hH ?_
      simp only [Act.put, List.setIfInBounds_toArray, List.set_cons_zero, List.set_cons_succ]
      refine wpAnyH_take (i := 1) (oi := { dst := some 39, op := Op.nilCheck (Operand.tmp 38), type := 0, pos := "rewrite.go:54", after := #[{ on := 0, ground := Ground.data }], guard := none }) (v := .pointer (some ⟨g, 0, none⟩)) rfl (by kernel_rfl) (by kernel_rfl) (by kernel_rfl) (fun _ _ _ h => h) (Or.inl ⟨by rfl, by intro w _; go_simp⟩) hH ?_
      simp only [Act.put, List.setIfInBounds_toArray, List.set_cons_zero, List.set_cons_succ]
      refine wpAnyH_take (i := 2) (oi := { dst := some 40, op := Op.fieldAddr 119 (Operand.tmp 39) 0, type := 0, pos := "rewrite.go:54", after := #[{ on := 1, ground := Ground.data }], guard := none }) (v := .pointer (some ⟨g, 0, none⟩)) rfl (by kernel_rfl) (by kernel_rfl) (by kernel_rfl) (fun _ _ _ h => h) (Or.inl ⟨by rfl, by intro w _; go_simp⟩) hH ?_
      simp only [Act.put, List.setIfInBounds_toArray, List.set_cons_zero, List.set_cons_succ]
      refine wpAnyH_take (i := 3) (oi := { dst := some 41, op := Op.load 45 (Operand.tmp 6), type := 45, pos := "rewrite.go:54", after := #[], guard := none }) (v := .slice (some ⟨Ab, Ao, none⟩) (kept.length + p.length) c) rfl (by kernel_rfl) (by kernel_rfl) (by kernel_rfl) (fun _ _ _ h => h) (Or.inl ⟨by rfl, by intro w' s'; have q0 := s'.2; go_simp⟩) hH ?_
      simp only [Act.put, List.setIfInBounds_toArray, List.set_cons_zero, List.set_cons_succ]
      refine wpAnyH_take (i := 4) (oi := { dst := some 42, op := Op.move (Operand.tmp 9), type := 3, pos := "rewrite.go:54", after := #[], guard := none }) (v := .int .i64 (r : Int)) rfl (by kernel_rfl) (by kernel_rfl) (by kernel_rfl) (fun _ _ _ h => h) (Or.inl ⟨by rfl, by intro w _; go_simp⟩) hH ?_
      simp only [Act.put, List.setIfInBounds_toArray, List.set_cons_zero, List.set_cons_succ]
      refine wpAnyH_take (i := 5) (oi := { dst := some 43, op := Op.slice 45 (Operand.tmp 41) (some (Operand.tmp 42)) none none, type := 45, pos := "rewrite.go:54", after := #[{ on := 3, ground := Ground.data }, { on := 4, ground := Ground.data }], guard := none }) (v := .slice (some ⟨Ab, Ao, none⟩) (kept.length + p.length - r) 0) rfl (by kernel_rfl) (by kernel_rfl) (by kernel_rfl) (fun _ _ _ h => h) (Or.inl ⟨by rfl, by intro w' s'; have q0 := g5; have q1 := g6.out; go_simp⟩) hH ?_
      simp only [Act.put, List.setIfInBounds_toArray, List.set_cons_zero, List.set_cons_succ]
      refine wpAnyH_ready (rs := [6]) (by kernel_rfl) (by decide) (AllReadyH.cons rfl (fun K hK => ?_) AllReadyH.nil)
      rw [if_pos (by rfl)]
      go_simp
      with_reducible refine CK.mono ?_
      rintro e wE ⟨rfl, winE, GE, hiE⟩
      clear CK
      have RK : Hid (RM wE g (A.length + p.length) ((kept ++ p).drop r) f t (Ps ++ Qs) false pv') := HZD.out.rm.taken winE GE hiE
      have bdE : Hid (BdS 54 wE (S6 + 1) (O ++ ((kept ++ p).take r).drop wr)) := HZD.out.bd.same (fun j h1 h2 => GE.block j h2 (fun e => by injection e; omega))
      have kE : Hid (KX g pv.ownBlock w wE) := HZD.out.kx.grown GE (fun j hj => .inl (Option.some.inj hj).symm)
      have pE : Hid (pv'.ownBlock = pv.ownBlock ∨ ∀ k, pv'.ownBlock = some k → w.heap.size ≤ k) := HZD.out.px
      have wE0 : Hid (w.heap.size ≤ S2) := HZD.out.w0
      have hHE : wE.cell? ⟨S2, 0, none⟩ = some (.pointer (some ⟨g, 0, none⟩)) ∧ wE.cell? ⟨S6, 0, none⟩ = some (.slice (some ⟨Ab, Ao, none⟩) (kept.length + p.length) c) := ⟨(World.cell?_of_block (w := wD) (w' := wE) (a := ⟨S2, 0, none⟩) (GE.block S2 HZD.out.b2.lt (fun e => by injection e; omega))).trans hH.1, (World.cell?_of_block (w := wD) (w' := wE) (a := ⟨S6, 0, none⟩) (GE.block S6 HZD.out.b6.lt (fun e => by injection e; omega))).trans hH.2⟩
      clear GE winE hiE HZD hH
      go_wp2_with fail
      refine hK.out _ _ hHE (fun _ => ?_)
      clear hK K
      refine wpAnyH_done (by kernel_rfl) ?_ _
      clear hHE
      have CS := bstrK_any 54 (S6 + 1) _ wE bdE.out
      go_wp2_with fail
      with_reducible refine CS.mono ?_
      rintro e wG ⟨rfl, bG, kG⟩
      clear CS
      go_wp2
      go_ret
      refine ⟨O ++ ((kept ++ p).take r).drop wr, (kept ++ p).drop r, Ps ++ Qs, pv', rfl, ?_, ?_, kE.out.below bG (by have := wE0.out; omega), pE.out⟩
      · rw [List.length_append]
        refine RK.out.same (bG.block g (by omega)) (fun j hj => ?_)
        obtain ⟨cur, fz, hc⟩ := row_i64 RK.out.pr j hj
        exact kG.keep j (RK.out.pr.lt j hj).2 (hap.out j hj) (fun cur' fz' e => by rw [hc] at e; injection e with e; injection e with _ e _; cases e)
      · exact hG.fed (by rw [HO.out]; exact hrs) hr2

end Sc
end Go.Proofs.YtdjjleahfciipaaGreatDoor
