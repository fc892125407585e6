/- Gathered: ScG ScH ScI ScJ ScL ScM ScN. -/
import Derived.Deep.Cut
import Derived.Shelf.Abstract
import Derived.Maps.OwnSet
import Derived.Maps.Keyed
import Derived.StringKeys
import Derived.Test.YtojefckhefanhabDoorQe
/- scan.Rewriter's Feed, walked (own text of the verifier). -/
namespace Go.Proofs.YtojefckhefanhabDoor
open Go.RowKit
namespace Sc

/-- What a rewriter has come to. -/
def RW (W : World) (g : Nat) (A f t E kept : List UInt8) (Ps : List Nat) (cl : Bool) (pv : Value) : Prop := RM W g A.length kept f t Ps cl pv ∧ GS f t A E kept Ps

theorem bx_of {W W' : World} {B : Nat} {t : TypeId} {v : Value} (b : Below W.heap.size W W') (h : Boxed W B t v) : Boxed W' B t v := (b.block B h.lt).trans h
theorem RM.taken {w w' : World} {g n m : Nat} {kept kept' f t : List UInt8} {Ps : List Nat} {cl : Bool} {pv : Value} (h : RM w g n kept f t Ps cl pv) (hw : Win w' g m kept') (G : w.grownBy w' (some g)) (hi : ∀ i, 33 ≤ i → w'.cell? ⟨g, i, none⟩ = w.cell? ⟨g, i, none⟩ ∧ w'.frozen? ⟨g, i, none⟩ = w.frozen? ⟨g, i, none⟩) : RM w' g m kept' f t Ps cl pv :=
  ⟨hw, (hi _ (by omega)).1.trans h.cf, (hi _ (by omega)).1.trans h.ct, (hi _ (by omega)).1.trans h.cp, (hi _ (by omega)).2.trans h.fp, (hi _ (by omega)).1.trans h.cc, (hi _ (by omega)).2.trans h.fc, row_same h.pr (fun k hk => G.block k (h.pr.lt k hk).2 (fun e => h.pg (by rw [← Option.some.inj e]; exact hk))), h.pg⟩

theorem Txt.nil {W : World} {x : Option Addr} {n c : Nat} {l : List UInt8} (hl : l = []) (hn : n = 0) : Txt W (.slice x n c) l := by subst hl hn; exact ⟨x, c, rfl, by simp, Nat.zero_le _⟩

set_option maxRecDepth 100000 in
set_option maxHeartbeats 8000000 in
theorem rfeed_any (g : Nat) (A f t E kept p : List UInt8) (Ps : List Nat) (pv y : Value) (w : World) (hR : RM w g A.length kept f t Ps false pv) (hG : GS f t A E kept Ps) (hp : Txt w y p) (hyg : ∀ x l c, y = .slice (some x) l c → x.block ≠ g) (hpl : p.length ≤ 268435456) (hA : A.length ≤ 268435456) (hf : isH Lt f) (ht : t.length = 32) (hps : Ps.length ≤ 536870912) :
    Calls Tryd.prog 16 #[.pointer (some ⟨g, 0, none⟩), y] w fun e w' => ∃ ans kept' Ps' pv', e = .returned (.string (ba ans)) ∧ RM w' g (A ++ p).length kept' f t Ps' false pv' ∧ GS f t (A ++ p) (E ++ ans) kept' Ps' ∧ KX g pv.ownBlock w w' ∧ (pv'.ownBlock = pv.ownBlock ∨ ∀ k, pv'.ownBlock = some k → w.heap.size ≤ k) := by
  have cc := hR.cc
  have HR : Hid (RM w g A.length kept f t Ps false pv) := hR
  have HP : Hid (Txt w y p) := hp
  have bA : Below w.heap.size w (w.alloc (.cells #[.pointer (some ⟨g, 0, none⟩)] 45)) := (Below.refl _ _).alloc (Nat.le_refl _) _
  have B2 : Hid (Boxed (w.alloc (.cells #[.pointer (some ⟨g, 0, none⟩)] 45)) w.heap.size 45 (.pointer (some ⟨g, 0, none⟩))) := Boxed.new _ _ _
  have R1 : Hid (RM (w.alloc (.cells #[.pointer (some ⟨g, 0, none⟩)] 45)) g A.length kept f t Ps false pv) := hR.below bA
  have P1 : Hid (Txt (w.alloc (.cells #[.pointer (some ⟨g, 0, none⟩)] 45)) y p) := hp.below bA
  have HB1 : Hid (Below w.heap.size w (w.alloc (.cells #[.pointer (some ⟨g, 0, none⟩)] 45))) := bA
  have cc1 := R1.out.cc
  clear hR hp bA cc
  go_enter Tryd.func16, Tryd.ntmps16
  go_upto_region 3 with fail
  obtain ⟨S2, hS2⟩ : ∃ S, w.heap.size = S := ⟨_, rfl⟩
  have HS2 : Hid (w.heap.size = S2) := hS2
  have hgS : g < S2 := by rw [← hS2]; exact HR.out.lt
  rw [hS2] at B2 HB1 ⊢
  clear hS2 cc1
  obtain ⟨o, ho⟩ : ∃ o, A.length - kept.length = o := ⟨_, rfl⟩
  have HO : Hid (A.length - kept.length = o) := ho
  have hle := hG.le
  have hnk : (A.length : Int) - (kept.length : Int) = (o : Int) := by omega
  have hnw : IntKind.i64.wrap (o : Int) = (o : Int) := by rw [IntKind.wrap_i64]; omega
  clear ho
  have w0 := R1.out.win.c0
  have w1 := R1.out.win.c1
  have R1d : Hid (RM (w.alloc (.cells #[.pointer (some ⟨g, 0, none⟩)] 45)).drew g A.length kept f t Ps false pv) := R1.out.below (Below.refl _ _).drew
  have P1d : Hid (Txt (w.alloc (.cells #[.pointer (some ⟨g, 0, none⟩)] 45)).drew y p) := P1.out.below (Below.refl _ _).drew
  have B2d : Hid (Boxed (w.alloc (.cells #[.pointer (some ⟨g, 0, none⟩)] 45)).drew S2 45 (.pointer (some ⟨g, 0, none⟩))) := B2.out
  have HB1d : Hid (Below S2 w (w.alloc (.cells #[.pointer (some ⟨g, 0, none⟩)] 45)).drew) := HB1.out.drew
  have hz1 : Hid ((w.alloc (.cells #[.pointer (some ⟨g, 0, none⟩)] 45)).drew.heap.size = S2 + 1) := by show (w.alloc _).heap.size = _; rw [World.size_alloc, HS2.out]
  refine wp_region_held_drew (S := fun V => V.cell? ⟨S2, 0, none⟩ = some (.pointer (some ⟨g, 0, none⟩)) ∧ V.cell? ⟨g, 0, none⟩ = some (.int .i64 (A.length : Int)) ∧ V.cell? ⟨g, 1, none⟩ = some (.int .i64 (kept.length : Int))) (by kernel_rfl) ⟨B2.out.cell, w0, w1⟩ (fun hH => ?_)
  clear R1 P1 B2 HB1 w0 w1
  generalize (w.alloc (.cells #[.pointer (some ⟨g, 0, none⟩)] 45)).drew = wd at *
  -- @R3
  have bz : ∀ z : Int, Below wd.heap.size wd (wd.alloc (.cells #[.int .i64 z] 3)) := fun z => (Below.refl _ _).alloc (Nat.le_refl _) _
  have hHz : ∀ z : Int, (wd.alloc (.cells #[.int .i64 z] 3)).cell? ⟨S2, 0, none⟩ = some (.pointer (some ⟨g, 0, none⟩)) ∧ (wd.alloc (.cells #[.int .i64 z] 3)).cell? ⟨g, 0, none⟩ = some (.int .i64 (A.length : Int)) ∧ (wd.alloc (.cells #[.int .i64 z] 3)).cell? ⟨g, 1, none⟩ = some (.int .i64 (kept.length : Int)) := fun z => ⟨((bz z).cell (p := ⟨S2, 0, none⟩) B2d.out.lt).trans hH.1, ((bz z).cell (p := ⟨g, 0, none⟩) R1d.out.lt).trans hH.2.1, ((bz z).cell (p := ⟨g, 1, none⟩) R1d.out.lt).trans hH.2.2⟩
  refine wpAnyH_take (i := 0) (oi := { dst := some 14, op := Op.load 45 (Operand.tmp 2), type := 45, pos := "rewrite.go:39", after := #[], guard := none }) (v := .pointer (some ⟨g, 0, none⟩)) rfl (by kernel_rfl) (by kernel_rfl) (by kernel_rfl) (fun _ _ _ h => h) (Or.inl ⟨by rfl, by intro w' s'; have q0 := s'.1; go_simp⟩) hH ?_
  simp only [Act.put, List.setIfInBounds_toArray, List.set_cons_zero, List.set_cons_succ]
  refine wpAnyH_take (i := 1) (oi := { dst := some 15, op := Op.nilCheck (Operand.tmp 14), type := 0, pos := "rewrite.go:39", after := #[{ on := 0, ground := Ground.data }], guard := none }) (v := .pointer (some ⟨g, 0, none⟩)) rfl (by kernel_rfl) (by kernel_rfl) (by kernel_rfl) (fun _ _ _ h => h) (Or.inl ⟨by rfl, by intro w _; go_simp⟩) hH ?_
  simp only [Act.put, List.setIfInBounds_toArray, List.set_cons_zero, List.set_cons_succ]
  refine wpAnyH_take (i := 2) (oi := { dst := some 16, op := Op.fieldAddr 75 (Operand.tmp 15) 0, type := 0, pos := "rewrite.go:39", after := #[{ on := 1, ground := Ground.data }], guard := none }) (v := .pointer (some ⟨g, 0, none⟩)) rfl (by kernel_rfl) (by kernel_rfl) (by kernel_rfl) (fun _ _ _ h => h) (Or.inl ⟨by rfl, by intro w _; go_simp⟩) hH ?_
  simp only [Act.put, List.setIfInBounds_toArray, List.set_cons_zero, List.set_cons_succ]
  refine wpAnyH_take (i := 3) (oi := { dst := some 17, op := Op.fieldAddr 54 (Operand.tmp 16) 0, type := 0, pos := "rewrite.go:39", after := #[{ on := 2, ground := Ground.data }], guard := none }) (v := .pointer (some ⟨g, 0, none⟩)) rfl (by kernel_rfl) (by kernel_rfl) (by kernel_rfl) (fun _ _ _ h => h) (Or.inl ⟨by rfl, by intro w _; go_simp⟩) hH ?_
  simp only [Act.put, List.setIfInBounds_toArray, List.set_cons_zero, List.set_cons_succ]
  refine wpAnyH_take (i := 4) (oi := { dst := some 18, op := Op.load 3 (Operand.tmp 17), type := 3, pos := "rewrite.go:39", after := #[{ on := 3, ground := Ground.data }], guard := none }) (v := .int .i64 (A.length : Int)) rfl (by kernel_rfl) (by kernel_rfl) (by kernel_rfl) (fun _ _ _ h => h) (Or.inl ⟨by rfl, by intro w' s'; have q0 := s'.2.1; go_simp⟩) hH ?_
  simp only [Act.put, List.setIfInBounds_toArray, List.set_cons_zero, List.set_cons_succ]
  refine wpAnyH_take (i := 5) (oi := { dst := some 19, op := Op.load 45 (Operand.tmp 2), type := 45, pos := "rewrite.go:39", after := #[], guard := none }) (v := .pointer (some ⟨g, 0, none⟩)) rfl (by kernel_rfl) (by kernel_rfl) (by kernel_rfl) (fun _ _ _ h => h) (Or.inl ⟨by rfl, by intro w' s'; have q0 := s'.1; go_simp⟩) hH ?_
  simp only [Act.put, List.setIfInBounds_toArray, List.set_cons_zero, List.set_cons_succ]
  refine wpAnyH_take (i := 6) (oi := { dst := some 20, op := Op.nilCheck (Operand.tmp 19), type := 0, pos := "rewrite.go:39", after := #[{ on := 5, ground := Ground.data }], guard := none }) (v := .pointer (some ⟨g, 0, none⟩)) rfl (by kernel_rfl) (by kernel_rfl) (by kernel_rfl) (fun _ _ _ h => h) (Or.inl ⟨by rfl, by intro w _; go_simp⟩) hH ?_
  simp only [Act.put, List.setIfInBounds_toArray, List.set_cons_zero, List.set_cons_succ]
  refine wpAnyH_take (i := 7) (oi := { dst := some 21, op := Op.fieldAddr 75 (Operand.tmp 20) 0, type := 0, pos := "rewrite.go:39", after := #[{ on := 6, ground := Ground.data }], guard := none }) (v := .pointer (some ⟨g, 0, none⟩)) rfl (by kernel_rfl) (by kernel_rfl) (by kernel_rfl) (fun _ _ _ h => h) (Or.inl ⟨by rfl, by intro w _; go_simp⟩) hH ?_
  simp only [Act.put, List.setIfInBounds_toArray, List.set_cons_zero, List.set_cons_succ]
  refine wpAnyH_take (i := 8) (oi := { dst := some 22, op := Op.fieldAddr 54 (Operand.tmp 21) 1, type := 0, pos := "rewrite.go:39", after := #[{ on := 7, ground := Ground.data }], guard := none }) (v := .pointer (some ⟨g, 1, none⟩)) rfl (by kernel_rfl) (by kernel_rfl) (by kernel_rfl) (fun _ _ _ h => h) (Or.inl ⟨by rfl, by intro w _; go_simp⟩) hH ?_
  simp only [Act.put, List.setIfInBounds_toArray, List.set_cons_zero, List.set_cons_succ]
  refine wpAnyH_take (i := 9) (oi := { dst := some 23, op := Op.load 3 (Operand.tmp 22), type := 3, pos := "rewrite.go:39", after := #[{ on := 8, ground := Ground.data }], guard := none }) (v := .int .i64 (kept.length : Int)) rfl (by kernel_rfl) (by kernel_rfl) (by kernel_rfl) (fun _ _ _ h => h) (Or.inl ⟨by rfl, by intro w' s'; have q0 := s'.2.2; go_simp⟩) hH ?_
  simp only [Act.put, List.setIfInBounds_toArray, List.set_cons_zero, List.set_cons_succ]
  refine wpAnyH_take (i := 10) (oi := { dst := some 24, op := Op.binOp BinOp.sub 3 (Operand.tmp 18) (Operand.tmp 23) 3, type := 3, pos := "rewrite.go:39", after := #[{ on := 4, ground := Ground.data }, { on := 9, ground := Ground.data }], guard := none }) (v := .int .i64 (o : Int)) rfl (by kernel_rfl) (by kernel_rfl) (by kernel_rfl) (fun _ _ _ h => h) (Or.inl ⟨by rfl, by intro w _; go_simp⟩) hH ?_
  simp only [Act.put, List.setIfInBounds_toArray, List.set_cons_zero, List.set_cons_succ]
  refine wpAnyH_ready (rs := [11]) (by kernel_rfl) (by decide) (AllReadyH.cons rfl (fun K hK => ?_) AllReadyH.nil)
  rw [if_pos (by rfl)]
  go_simp
  refine hK.out _ _ (hHz 0) (fun _ => ?_)
  clear hK K
  try simp only [Act.put, List.setIfInBounds_toArray, List.set_cons_zero, List.set_cons_succ]
  refine wpAnyH_ready (rs := [12]) (by kernel_rfl) (by decide) (AllReadyH.cons rfl (fun K hK => ?_) AllReadyH.nil)
  rw [if_pos (by rfl)]
  go_simp
  refine hK.out _ _ (hHz o) (fun _ => ?_)
  clear hK K
  refine wpAnyH_done (by kernel_rfl) ?_ _
  clear hHz bz hH
  -- @E3
  have b3 : Below wd.heap.size wd (wd.alloc (.cells #[.int .i64 (o : Int)] 3)) := (Below.refl _ _).alloc (Nat.le_refl _) _
  have R3 : Hid (RM (wd.alloc (.cells #[.int .i64 (o : Int)] 3)) g A.length kept f t Ps false pv) := R1d.out.below b3
  have P3 : Hid (Txt (wd.alloc (.cells #[.int .i64 (o : Int)] 3)) y p) := P1d.out.below b3
  have B23 : Hid (Boxed (wd.alloc (.cells #[.int .i64 (o : Int)] 3)) S2 45 (.pointer (some ⟨g, 0, none⟩))) := B2d.out.alloc _
  have B53 : Hid (Boxed (wd.alloc (.cells #[.int .i64 (o : Int)] 3)) (S2 + 1) 3 (.int .i64 (o : Int))) := by rw [← hz1.out]; exact Boxed.new wd 3 _
  have HB3 : Hid (Below S2 w (wd.alloc (.cells #[.int .i64 (o : Int)] 3))) := HB1d.out.alloc (by rw [hz1.out]; omega) _
  have hz3 : Hid ((wd.alloc (.cells #[.int .i64 (o : Int)] 3)).heap.size = S2 + 2) := by unfold Hid; rw [World.size_alloc, hz1.out]
  rw [hz1.out]
  clear b3 R1d P1d B2d HB1d hz1
  generalize wd.alloc (.cells #[.int .i64 (o : Int)] 3) = w3 at *
  have c2 := B23.out.cell
  have CT := take_any g A.length kept y p w3 R3.out.win P3.out hyg (by omega) (by omega)
  go_wp2_with fail
  refine CT.mono ?_
  rintro e w4 ⟨x, c, rfl, T4, W4, G4, hx, hi4⟩
  clear CT
  have hsh := R3.out.win.sh
  have hlen : (kept ++ p).length = kept.length + p.length := List.length_append
  have HT4 : Hid (Txt w4 (.slice x (kept ++ p).length c) (kept ++ p)) := T4
  have R4 : Hid (RM w4 g (A.length + p.length) kept f t Ps false pv) := R3.out.taken W4 G4 hi4
  have B24 : Hid (Boxed w4 S2 45 (.pointer (some ⟨g, 0, none⟩))) := B23.out.kept G4 (fun e => by injection e; omega)
  have B54 : Hid (Boxed w4 (S2 + 1) 3 (.int .i64 (o : Int))) := B53.out.kept G4 (fun e => by injection e; omega)
  have hz4 : Hid (S2 + 2 ≤ w4.heap.size) := by unfold Hid; rw [← hz3.out]; exact G4.size
  have K4 : Hid (KX g pv.ownBlock w w4) := ((KX.refl g pv.ownBlock w).below HB3.out (Nat.le_of_eq HS2.out)).grown G4 (fun j hj => .inl (Option.some.inj hj).symm)
  have hpvS : Hid (∀ k, pv.ownBlock = some k → k < S2) := fun k hk => by rw [← HS2.out]; exact (HR.out.pr.lt k hk).2
  have hxx : Hid ((p = [] ∧ x = some ⟨g, 2, none⟩) ∨ ∃ b, x = some ⟨b, 0, none⟩ ∧ S2 + 2 ≤ b ∧ p ≠ []) := by rw [← hz3.out]; exact hx
  have hxl : Hid (∀ a, x = some a → a.block < w4.heap.size) := fun a ha => by
    rcases hxx.out with ⟨_, h2⟩ | ⟨b, h2, h3, h4⟩
    · rw [h2] at ha; obtain rfl := Option.some.inj ha; exact R4.out.lt
    · rw [h2] at ha
      obtain rfl := Option.some.inj ha
      have hz : 0 < (kept ++ p).length := by
        rw [List.length_append]
        have := List.length_pos_iff.2 h4
        omega
      obtain ⟨a', o', c', e, hlt, _⟩ := T4.at hz
      injection e with e _ _
      rw [h2] at e
      injection e with e
      injection e with e _
      rw [e]; exact hlt
  rw [hlen] at HT4
  have hord : S2 + 2 ≤ w4.heap.size := hz4.out
  have z5 : (w4.alloc (.cells #[.slice x (kept.length + p.length) c] 38)).heap.size = w4.heap.size + 1 := World.size_alloc _ _
  have z6 : ((w4.alloc (.cells #[.slice x (kept.length + p.length) c] 38)).alloc (.cells #[.pointer none, .slice none 0 0] 78)).heap.size = w4.heap.size + 2 := by rw [World.size_alloc, z5]
  have b5 : Below w4.heap.size w4 (w4.alloc (.cells #[.slice x (kept.length + p.length) c] 38)) := (Below.refl _ _).alloc (Nat.le_refl _) _
  have b6 : Below w4.heap.size w4 ((w4.alloc (.cells #[.slice x (kept.length + p.length) c] 38)).alloc (.cells #[.pointer none, .slice none 0 0] 78)) := b5.alloc (by rw [z5]; omega) _
  have b7 : Below w4.heap.size w4 (((w4.alloc (.cells #[.slice x (kept.length + p.length) c] 38)).alloc (.cells #[.pointer none, .slice none 0 0] 78)).alloc (.cells #[.int .i64 0] 3)) := b6.alloc (by rw [z6]; omega) _
  have HZ : Hid (FJ0 w (((w4.alloc (.cells #[.slice x (kept.length + p.length) c] 38)).alloc (.cells #[.pointer none, .slice none 0 0] 78)).alloc (.cells #[.int .i64 0] 3)) g S2 (S2 + 1) w4.heap.size (w4.heap.size + 1) (w4.heap.size + 1 + 1) (A.length + p.length) o kept (kept ++ p) f t pv.ownBlock (.slice x (kept.length + p.length) c) 0 [] Ps pv) := by
    refine ⟨R4.out.below b7, bx_of b7 B24.out, bx_of b7 B54.out, (Boxed.new w4 _ _).alloc _ |>.alloc _, ?_, ?_, HT4.out.below b7, fun k hk => ?_, ⟨hgS, by omega, by omega, by omega, by omega⟩, .inl rfl, K4.out.below b7 (by have := K4.out.size; omega), fun a l cc e => ?_, Nat.le_of_eq HS2.out⟩
    · have := Boxed.new ((w4.alloc (.cells #[.slice x (kept.length + p.length) c] 38)).alloc (.cells #[.pointer none, .slice none 0 0] 78)) 3 (.int .i64 0)
      rw [z6] at this
      exact this
    · have := (Bd.new 78 (w4.alloc (.cells #[.slice x (kept.length + p.length) c] 38))).below ((Below.refl _ _).alloc (Nat.le_refl _) (.cells #[.int .i64 0] 3))
      rw [z5] at this
      exact this
    · have := hpvS.out k hk
      exact ⟨by omega, by omega, by omega, by omega, by omega⟩
    · injection e with e _ _
      refine ⟨hxl.out a e, fun k hk hka => ?_⟩
      rcases hxx.out with ⟨_, h2⟩ | ⟨b, h2, h3, _⟩
      · rw [h2] at e; obtain rfl := Option.some.inj e; exact R4.out.pg (by rw [hk, hka])
      · rw [h2] at e; obtain rfl := Option.some.inj e; have := hpvS.out k hk; simp at hka; omega
  have hsz7 : Hid ((((w4.alloc (.cells #[.slice x (kept.length + p.length) c] 38)).alloc (.cells #[.pointer none, .slice none 0 0] 78)).alloc (.cells #[.int .i64 0] 3)).heap.size = w4.heap.size + 3) := by unfold Hid; rw [World.size_alloc, z6]
  clear hx hi4 W4 G4 T4 R3 P3 B23 B53 HB3 hz3 c2 z5 z6 b5 b6 b7 R4 B24 B54 K4 HT4 hxl
  obtain ⟨Ab, Ao, hxs⟩ : ∃ Ab Ao, x = some ⟨Ab, Ao, none⟩ := by
    rcases hxx.out with ⟨_, h2⟩ | ⟨b, h2, _⟩
    · exact ⟨g, 2, h2⟩
    · exact ⟨b, 0, h2⟩
  have hxg : Hid (32 ≤ kept.length + p.length → Ab ≠ g) := fun h32 e => by
    rcases hxx.out with ⟨h1, _⟩ | ⟨b, h2, h3, _⟩
    · rw [h1] at h32; simp at h32; omega
    · rw [h2] at hxs; injection hxs with hxs; injection hxs with hxs _; omega
  subst hxs
  clear hxx hyg
  obtain ⟨S6, hS6⟩ : ∃ S, w4.heap.size = S := ⟨_, rfl⟩
  go_upto_region 7 with fail
  rw [hS6] at HZ hz4 hsz7 hord
  clear hS6
  generalize ((w4.alloc (.cells #[.slice (some ⟨Ab, Ao, none⟩) (kept.length + p.length) c] 38)).alloc (.cells #[.pointer none, .slice none 0 0] 78)).alloc (.cells #[.int .i64 0] 3) = w7 at *
  have c6 := HZ.out.b6.cell
  have CS := slide_any 32 #[.pointer (some ⟨S6, 0, none⟩), .pointer (some ⟨S2, 0, none⟩), .pointer (some ⟨S2 + 1, 0, none⟩), .pointer (some ⟨S6 + 1, 0, none⟩), .pointer (some ⟨S6 + 1 + 1, 0, none⟩)] (enters_of Tryd.func32 (by kernel_rfl) rfl) (.slice (some ⟨Ab, Ao, none⟩) (kept.length + p.length) c) (kept ++ p)
    (fun at_ W => ∃ wr O Qs pv', FJ w W g S2 (S2 + 1) S6 (S6 + 1) (S6 + 1 + 1) (A.length + p.length) o kept (kept ++ p) f t pv.ownBlock Ps (.slice (some ⟨Ab, Ao, none⟩) (kept.length + p.length) c) at_ wr O Qs pv' ∧ O.length = wr ∧ Qs.length ≤ at_)
    (fun q W hq => by obtain ⟨wr, O, Qs, pv', h, _⟩ := hq; exact h.z.tx) (by rw [hlen]; omega)
    (fun q W hq hlt hb => by
      obtain ⟨wr, O, Qs, pv', h, h1, h2⟩ := hq
      exact ⟨wr, O, Qs, pv', h.rs' (h.rs.bad hf hlt hb), h1, by omega⟩)
    (fun q W hq h32 _ => by
      obtain ⟨wr, O, Qs, pv', h, h1, h2⟩ := hq
      have := rfeedc_any w W g S2 (S2 + 1) S6 (S6 + 1) (S6 + 1 + 1) (A.length + p.length) o kept (kept ++ p) f t pv.ownBlock Ps _ q wr O Qs pv' h h32 (by rw [hlen]; omega) (by omega) hf.len ht h1 h2 (by omega) (fun xx l cc e => by injection e with e _ _; injection e with e; subst e; exact hxg.out (by rw [← hlen]; omega))
      refine (show Calls _ _ _ _ _ from ?_)
      simpa using this)
    w7 ⟨0, [], [], pv, ⟨RS.start f t (kept ++ p) o, by rw [List.append_nil]; exact HZ.out⟩, rfl, Nat.le_refl _⟩
  go_wp2_with fail
  refine CS.mono ?_
  rintro e w9 ⟨r, hr1, hr2, rfl, wr, O, Qs, pv', hFJ, hol, hql⟩
  clear CS c6 HZ
  have HF : Hid (FJ w w9 g S2 (S2 + 1) S6 (S6 + 1) (S6 + 1 + 1) (A.length + p.length) o kept (kept ++ p) f t pv.ownBlock Ps (.slice (some ⟨Ab, Ao, none⟩) (kept.length + p.length) c) r wr O Qs pv') := hFJ
  have hrs := hFJ.rs
  have hwr := hrs.wl
  have htx := hFJ.z.tx
  rw [← hlen] at htx
  have hlc : kept.length + p.length ≤ c := by
    obtain ⟨x', c', e, _, h2⟩ := htx
    injection e with _ _ e3
    rw [hlen] at h2
    omega
  have c6 := hFJ.z.b6.cell
  have c8 := hFJ.z.b8.cell
  have hxb := (hFJ.z.xb ⟨Ab, Ao, none⟩ _ _ rfl).1
  have hrl : r ≤ kept.length + p.length := by rw [← hlen]; exact hr1
  have g1 : (wr : Int) ≤ (r : Int) := by omega
  have g2 : (r : Int) ≤ (c : Int) := by omega
  have g4 : r ≤ c := by omega
  have CWX : ∀ v, Txt w9 v (((kept ++ p).take r).drop wr) → (∀ x n c, v = .slice (some x) n c → x.block < S6 + 1) → Calls Tryd.prog 33 #[.pointer (some ⟨S6 + 1, 0, none⟩), v] w9 fun e w' => e = .returned (.tuple #[.int .i64 ((((kept ++ p).take r).drop wr).length : Int), .nilIface]) ∧ Bd 78 w' (S6 + 1) (O ++ ((kept ++ p).take r).drop wr) ∧ Below (S6 + 1) w9 w' ∧ Bk (S6 + 1) w9 w' := fun v hv hb =>
    wbytesK_any 78 (.inl rfl) (S6 + 1) O (((kept ++ p).take r).drop wr) v w9 hFJ.z.bd hv hb (by rw [List.length_drop, List.length_take]; omega)
  have h9 : Ab < S6 := hxb
  have HTX : Hid (Txt w9 (.slice (some ⟨Ab, Ao, none⟩) (kept ++ p).length c) (kept ++ p)) := htx
  clear hFJ hxb htx
  by_cases hI : r < c
  · have g3 : wr < c := by omega
    have CW := CWX (.slice (some ⟨Ab, Ao + wr, none⟩) (r - wr) (c - wr)) (HTX.out.sub hwr hr1) (fun x n cc e => by injection e with e _ _; injection e with e; subst e; show Ab < S6 + 1; omega)
    clear CWX
    go_wp2_with fail
    with_reducible refine CW.mono ?_
    rintro e wA ⟨rfl, bdA, bA, kA⟩
    clear CW
    have HZA : Hid _ := HF.out.z.wrote bdA bA kA
    clear bdA bA kA c6 c8 HTX
    have c6d : wA.drew.cell? ⟨S6, 0, none⟩ = some (.slice (some ⟨Ab, Ao, none⟩) (kept.length + p.length) c) := HZA.out.b6.cell
    have c2d : wA.drew.cell? ⟨S2, 0, none⟩ = some (.pointer (some ⟨g, 0, none⟩)) := HZA.out.b2.cell
    have HZD : Hid _ := HZA.out.below (Below.refl _ _).drew
    go_wp2_with fail
    refine wp_region_held_drew (S := fun V => V.cell? ⟨S2, 0, none⟩ = some (.pointer (some ⟨g, 0, none⟩)) ∧ V.cell? ⟨S6, 0, none⟩ = some (.slice (some ⟨Ab, Ao, none⟩) (kept.length + p.length) c)) (by kernel_rfl) ⟨c2d, c6d⟩ (fun hH => ?_)
    clear HZA c6d c2d
    generalize wA.drew = wD at *
    have g5 : (r : Int) ≤ (kept.length : Int) + (p.length : Int) := by omega
    have g6 : Hid (¬ c = r) := by unfold Hid; omega
    have hap : Hid (∀ j, pv'.ownBlock = some j → j ≠ S6 + 1) := fun j hj => (HZD.out.ap j hj).2.2.2.1
    have hlk : ((kept ++ p).drop r).length ≤ 31 := by rw [List.length_drop]; omega
    have hvK : Txt wD (.slice (some ⟨Ab, Ao + r, none⟩) (kept.length + p.length - r) (c - r)) ((kept ++ p).drop r) := by have := HZD.out.tx; rw [← hlen] at this; have := this.sub (p := r) (q := (kept ++ p).length) hr1 (Nat.le_refl _); rw [List.take_length] at this; rw [← hlen]; exact this
    have CK := keep_any g (A.length + p.length) kept (.slice (some ⟨Ab, Ao + r, none⟩) (kept.length + p.length - r) (c - r)) ((kept ++ p).drop r) wD HZD.out.rm.win hvK hlk
    clear hvK
    refine wpAnyH_take (i := 0) (oi := { dst := some 38, op := Op.load 45 (Operand.tmp 2), type := 45, pos := "rewrite.go:54", after := #[], guard := none }) (v := .pointer (some ⟨g, 0, none⟩)) rfl (by kernel_rfl) (by kernel_rfl) (by kernel_rfl) (fun _ _ _ h => h) (Or.inl ⟨by rfl, by intro w' s'; have q0 := s'.1; go_simp⟩) hH ?_
    simp only [Act.put, List.setIfInBounds_toArray, List.set_cons_zero, List.set_cons_succ]
    refine wpAnyH_take (i := 1) (oi := { dst := some 39, op := Op.nilCheck (Operand.tmp 38), type := 0, pos := "rewrite.go:54", after := #[{ on := 0, ground := Ground.data }], guard := none }) (v := .pointer (some ⟨g, 0, none⟩)) rfl (by kernel_rfl) (by kernel_rfl) (by kernel_rfl) (fun _ _ _ h => h) (Or.inl ⟨by rfl, by intro w _; go_simp⟩) hH ?_
    simp only [Act.put, List.setIfInBounds_toArray, List.set_cons_zero, List.set_cons_succ]
    refine wpAnyH_take (i := 2) (oi := { dst := some 40, op := Op.fieldAddr 75 (Operand.tmp 39) 0, type := 0, pos := "rewrite.go:54", after := #[{ on := 1, ground := Ground.data }], guard := none }) (v := .pointer (some ⟨g, 0, none⟩)) rfl (by kernel_rfl) (by kernel_rfl) (by kernel_rfl) (fun _ _ _ h => h) (Or.inl ⟨by rfl, by intro w _; go_simp⟩) hH ?_
    simp only [Act.put, List.setIfInBounds_toArray, List.set_cons_zero, List.set_cons_succ]
    refine wpAnyH_take (i := 3) (oi := { dst := some 41, op := Op.load 38 (Operand.tmp 6), type := 38, pos := "rewrite.go:54", after := #[], guard := none }) (v := .slice (some ⟨Ab, Ao, none⟩) (kept.length + p.length) c) rfl (by kernel_rfl) (by kernel_rfl) (by kernel_rfl) (fun _ _ _ h => h) (Or.inl ⟨by rfl, by intro w' s'; have q0 := s'.2; go_simp⟩) hH ?_
    simp only [Act.put, List.setIfInBounds_toArray, List.set_cons_zero, List.set_cons_succ]
    refine wpAnyH_take (i := 4) (oi := { dst := some 42, op := Op.move (Operand.tmp 9), type := 3, pos := "rewrite.go:54", after := #[], guard := none }) (v := .int .i64 (r : Int)) rfl (by kernel_rfl) (by kernel_rfl) (by kernel_rfl) (fun _ _ _ h => h) (Or.inl ⟨by rfl, by intro w _; go_simp⟩) hH ?_
    simp only [Act.put, List.setIfInBounds_toArray, List.set_cons_zero, List.set_cons_succ]
    refine wpAnyH_take (i := 5) (oi := { dst := some 43, op := Op.slice 38 (Operand.tmp 41) (some (Operand.tmp 42)) none none, type := 38, pos := "rewrite.go:54", after := #[{ on := 3, ground := Ground.data }, { on := 4, ground := Ground.data }], guard := none }) (v := .slice (some ⟨Ab, Ao + r, none⟩) (kept.length + p.length - r) (c - r)) rfl (by kernel_rfl) (by kernel_rfl) (by kernel_rfl) (fun _ _ _ h => h) (Or.inl ⟨by rfl, by intro w' s'; have q0 := g5; have q1 := g6.out; go_simp⟩) hH ?_
    simp only [Act.put, List.setIfInBounds_toArray, List.set_cons_zero, List.set_cons_succ]
    refine wpAnyH_ready (rs := [6]) (by kernel_rfl) (by decide) (AllReadyH.cons rfl (fun K hK => ?_) AllReadyH.nil)
    rw [if_pos (by rfl)]
    go_simp
    with_reducible refine CK.mono ?_
    rintro e wE ⟨rfl, winE, GE, hiE⟩
    clear CK
    have RK : Hid (RM wE g (A.length + p.length) ((kept ++ p).drop r) f t (Ps ++ Qs) false pv') := HZD.out.rm.taken winE GE hiE
    have bdE : Hid (Bd 78 wE (S6 + 1) (O ++ ((kept ++ p).take r).drop wr)) := HZD.out.bd.same (fun j h1 h2 => GE.block j h2 (fun e => by injection e; omega))
    have kE : Hid (KX g pv.ownBlock w wE) := HZD.out.kx.grown GE (fun j hj => .inl (Option.some.inj hj).symm)
    have pE : Hid (pv'.ownBlock = pv.ownBlock ∨ ∀ k, pv'.ownBlock = some k → w.heap.size ≤ k) := HZD.out.px
    have wE0 : Hid (w.heap.size ≤ S2) := HZD.out.w0
    have hHE : wE.cell? ⟨S2, 0, none⟩ = some (.pointer (some ⟨g, 0, none⟩)) ∧ wE.cell? ⟨S6, 0, none⟩ = some (.slice (some ⟨Ab, Ao, none⟩) (kept.length + p.length) c) := ⟨(World.cell?_of_block (w := wD) (w' := wE) (a := ⟨S2, 0, none⟩) (GE.block S2 HZD.out.b2.lt (fun e => by injection e; omega))).trans hH.1, (World.cell?_of_block (w := wD) (w' := wE) (a := ⟨S6, 0, none⟩) (GE.block S6 HZD.out.b6.lt (fun e => by injection e; omega))).trans hH.2⟩
    clear GE winE hiE HZD hH
    go_wp2_with fail
    refine hK.out _ _ hHE (fun _ => ?_)
    clear hK K
    refine wpAnyH_done (by kernel_rfl) ?_ _
    clear hHE
    have CS := bstrK_any 78 (S6 + 1) _ wE bdE.out
    go_wp2_with fail
    with_reducible refine CS.mono ?_
    rintro e wG ⟨rfl, bG, kG⟩
    clear CS
    go_wp2
    go_ret
    refine ⟨O ++ ((kept ++ p).take r).drop wr, (kept ++ p).drop r, Ps ++ Qs, pv', rfl, ?_, ?_, kE.out.below bG (by have := wE0.out; omega), pE.out⟩
    · rw [List.length_append]
      refine RK.out.same (bG.block g (by omega)) (fun j hj => ?_)
      obtain ⟨cur, fz, hc⟩ := row_i64 RK.out.pr j hj
      exact kG.keep j (RK.out.pr.lt j hj).2 (hap.out j hj) (fun cur' fz' e => by rw [hc] at e; injection e with e; injection e with _ e _; cases e)
    · exact hG.fed (by rw [HO.out]; exact hrs) hr2
  · by_cases hW : wr < c
    · have g3 : wr < c := by omega
      have CW := CWX (.slice (some ⟨Ab, Ao + wr, none⟩) (r - wr) (c - wr)) (HTX.out.sub hwr hr1) (fun x n cc e => by injection e with e _ _; injection e with e; subst e; show Ab < S6 + 1; omega)
      clear CWX
      go_wp2_with fail
      with_reducible refine CW.mono ?_
      rintro e wA ⟨rfl, bdA, bA, kA⟩
      clear CW
      have HZA : Hid _ := HF.out.z.wrote bdA bA kA
      clear bdA bA kA c6 c8 HTX
      have c6d : wA.drew.cell? ⟨S6, 0, none⟩ = some (.slice (some ⟨Ab, Ao, none⟩) (kept.length + p.length) c) := HZA.out.b6.cell
      have c2d : wA.drew.cell? ⟨S2, 0, none⟩ = some (.pointer (some ⟨g, 0, none⟩)) := HZA.out.b2.cell
      have HZD : Hid _ := HZA.out.below (Below.refl _ _).drew
      go_wp2_with fail
      refine wp_region_held_drew (S := fun V => V.cell? ⟨S2, 0, none⟩ = some (.pointer (some ⟨g, 0, none⟩)) ∧ V.cell? ⟨S6, 0, none⟩ = some (.slice (some ⟨Ab, Ao, none⟩) (kept.length + p.length) c)) (by kernel_rfl) ⟨c2d, c6d⟩ (fun hH => ?_)
      clear HZA c6d c2d
      generalize wA.drew = wD at *
      have g5 : (r : Int) ≤ (kept.length : Int) + (p.length : Int) := by omega
      have g6 : Hid (c = r) := by unfold Hid; omega
      have hap : Hid (∀ j, pv'.ownBlock = some j → j ≠ S6 + 1) := fun j hj => (HZD.out.ap j hj).2.2.2.1
      have hlk : ((kept ++ p).drop r).length ≤ 31 := by rw [List.length_drop]; omega
      have hvK : Txt wD (.slice (some ⟨Ab, Ao, none⟩) (kept.length + p.length - r) 0) ((kept ++ p).drop r) := Txt.nil (List.drop_eq_nil_of_le (by omega)) (by omega)
      have CK := keep_any g (A.length + p.length) kept (.slice (some ⟨Ab, Ao, none⟩) (kept.length + p.length - r) 0) ((kept ++ p).drop r) wD HZD.out.rm.win hvK hlk
      clear hvK
      refine wpAnyH_take (i := 0) (oi := { dst := some 38, op := Op.load 45 (Operand.tmp 2), type := 45, pos := "rewrite.go:54", after := #[], guard := none }) (v := .pointer (some ⟨g, 0, none⟩)) rfl (by kernel_rfl) (by kernel_rfl) (by kernel_rfl) (fun _ _ _ h => h) (Or.inl ⟨by rfl, by intro w' s'; have q0 := s'.1; go_simp⟩) hH ?_
      simp only [Act.put, List.setIfInBounds_toArray, List.set_cons_zero, List.set_cons_succ]
      refine wpAnyH_take (i := 1) (oi := { dst := some 39, op := Op.nilCheck (Operand.tmp 38), type := 0, pos := "rewrite.go:54", after := #[{ on := 0, ground := Ground.data }], guard := none }) (v := .pointer (some ⟨g, 0, none⟩)) rfl (by kernel_rfl) (by kernel_rfl) (by kernel_rfl) (fun _ _ _ h => h) (Or.inl ⟨by rfl, by intro w _; go_simp⟩) hH ?_
      simp only [Act.put, List.setIfInBounds_toArray, List.set_cons_zero, List.set_cons_succ]
      refine wpAnyH_take (i := 2) (oi := { dst := some 40, op := Op.fieldAddr 75 (Operand.tmp 39) 0, type := 0, pos := "rewrite.go:54", after := #[{ on := 1, ground := Ground.data }], guard := none }) (v := .pointer (some ⟨g, 0, none⟩)) rfl (by kernel_rfl) (by kernel_rfl) (by kernel_rfl) (fun _ _ _ h => h) (Or.inl ⟨by rfl, by intro w _; go_simp⟩) hH ?_
      simp only [Act.put, List.setIfInBounds_toArray, List.set_cons_zero, List.set_cons_succ]
      refine wpAnyH_take (i := 3) (oi := { dst := some 41, op := Op.load 38 (Operand.tmp 6), type := 38, pos := "rewrite.go:54", after := #[], guard := none }) (v := .slice (some ⟨Ab, Ao, none⟩) (kept.length + p.length) c) rfl (by kernel_rfl) (by kernel_rfl) (by kernel_rfl) (fun _ _ _ h => h) (Or.inl ⟨by rfl, by intro w' s'; have q0 := s'.2; go_simp⟩) hH ?_
      simp only [Act.put, List.setIfInBounds_toArray, List.set_cons_zero, List.set_cons_succ]
      refine wpAnyH_take (i := 4) (oi := { dst := some 42, op := Op.move (Operand.tmp 9), type := 3, pos := "rewrite.go:54", after := #[], guard := none }) (v := .int .i64 (r : Int)) rfl (by kernel_rfl) (by kernel_rfl) (by kernel_rfl) (fun _ _ _ h => h) (Or.inl ⟨by rfl, by intro w _; go_simp⟩) hH ?_
      simp only [Act.put, List.setIfInBounds_toArray, List.set_cons_zero, List.set_cons_succ]
      refine wpAnyH_take (i := 5) (oi := { dst := some 43, op := Op.slice 38 (Operand.tmp 41) (some (Operand.tmp 42)) none none, type := 38, pos := "rewrite.go:54", after := #[{ on := 3, ground := Ground.data }, { on := 4, ground := Ground.data }], guard := none }) (v := .slice (some ⟨Ab, Ao, none⟩) (kept.length + p.length - r) 0) rfl (by kernel_rfl) (by kernel_rfl) (by kernel_rfl) (fun _ _ _ h => h) (Or.inl ⟨by rfl, by intro w' s'; have q0 := g5; have q1 := g6.out; go_simp⟩) hH ?_
      simp only [Act.put, List.setIfInBounds_toArray, List.set_cons_zero, List.set_cons_succ]
      refine wpAnyH_ready (rs := [6]) (by kernel_rfl) (by decide) (AllReadyH.cons rfl (fun K hK => ?_) AllReadyH.nil)
      rw [if_pos (by rfl)]
      go_simp
      with_reducible refine CK.mono ?_
      rintro e wE ⟨rfl, winE, GE, hiE⟩
      clear CK
      have RK : Hid (RM wE g (A.length + p.length) ((kept ++ p).drop r) f t (Ps ++ Qs) false pv') := HZD.out.rm.taken winE GE hiE
      have bdE : Hid (Bd 78 wE (S6 + 1) (O ++ ((kept ++ p).take r).drop wr)) := HZD.out.bd.same (fun j h1 h2 => GE.block j h2 (fun e => by injection e; omega))
      have kE : Hid (KX g pv.ownBlock w wE) := HZD.out.kx.grown GE (fun j hj => .inl (Option.some.inj hj).symm)
      have pE : Hid (pv'.ownBlock = pv.ownBlock ∨ ∀ k, pv'.ownBlock = some k → w.heap.size ≤ k) := HZD.out.px
      have wE0 : Hid (w.heap.size ≤ S2) := HZD.out.w0
      have hHE : wE.cell? ⟨S2, 0, none⟩ = some (.pointer (some ⟨g, 0, none⟩)) ∧ wE.cell? ⟨S6, 0, none⟩ = some (.slice (some ⟨Ab, Ao, none⟩) (kept.length + p.length) c) := ⟨(World.cell?_of_block (w := wD) (w' := wE) (a := ⟨S2, 0, none⟩) (GE.block S2 HZD.out.b2.lt (fun e => by injection e; omega))).trans hH.1, (World.cell?_of_block (w := wD) (w' := wE) (a := ⟨S6, 0, none⟩) (GE.block S6 HZD.out.b6.lt (fun e => by injection e; omega))).trans hH.2⟩
      clear GE winE hiE HZD hH
      go_wp2_with fail
      refine hK.out _ _ hHE (fun _ => ?_)
      clear hK K
      refine wpAnyH_done (by kernel_rfl) ?_ _
      clear hHE
      have CS := bstrK_any 78 (S6 + 1) _ wE bdE.out
      go_wp2_with fail
      with_reducible refine CS.mono ?_
      rintro e wG ⟨rfl, bG, kG⟩
      clear CS
      go_wp2
      go_ret
      refine ⟨O ++ ((kept ++ p).take r).drop wr, (kept ++ p).drop r, Ps ++ Qs, pv', rfl, ?_, ?_, kE.out.below bG (by have := wE0.out; omega), pE.out⟩
      · rw [List.length_append]
        refine RK.out.same (bG.block g (by omega)) (fun j hj => ?_)
        obtain ⟨cur, fz, hc⟩ := row_i64 RK.out.pr j hj
        exact kG.keep j (RK.out.pr.lt j hj).2 (hap.out j hj) (fun cur' fz' e => by rw [hc] at e; injection e with e; injection e with _ e _; cases e)
      · exact hG.fed (by rw [HO.out]; exact hrs) hr2
    · have g3 : c = wr := by omega
      have CW := CWX (.slice (some ⟨Ab, Ao, none⟩) (r - wr) 0) (Txt.nil (List.drop_eq_nil_of_le (by rw [List.length_take]; omega)) (by omega)) (fun x n cc e => by injection e with e _ _; injection e with e; subst e; show Ab < S6 + 1; omega)
      clear CWX
      go_wp2_with fail
      with_reducible refine CW.mono ?_
      rintro e wA ⟨rfl, bdA, bA, kA⟩
      clear CW
      have HZA : Hid _ := HF.out.z.wrote bdA bA kA
      clear bdA bA kA c6 c8 HTX
      have c6d : wA.drew.cell? ⟨S6, 0, none⟩ = some (.slice (some ⟨Ab, Ao, none⟩) (kept.length + p.length) c) := HZA.out.b6.cell
      have c2d : wA.drew.cell? ⟨S2, 0, none⟩ = some (.pointer (some ⟨g, 0, none⟩)) := HZA.out.b2.cell
      have HZD : Hid _ := HZA.out.below (Below.refl _ _).drew
      go_wp2_with fail
      refine wp_region_held_drew (S := fun V => V.cell? ⟨S2, 0, none⟩ = some (.pointer (some ⟨g, 0, none⟩)) ∧ V.cell? ⟨S6, 0, none⟩ = some (.slice (some ⟨Ab, Ao, none⟩) (kept.length + p.length) c)) (by kernel_rfl) ⟨c2d, c6d⟩ (fun hH => ?_)
      clear HZA c6d c2d
      generalize wA.drew = wD at *
      have g5 : (r : Int) ≤ (kept.length : Int) + (p.length : Int) := by omega
      have g6 : Hid (wr = r) := by unfold Hid; omega
      have hap : Hid (∀ j, pv'.ownBlock = some j → j ≠ S6 + 1) := fun j hj => (HZD.out.ap j hj).2.2.2.1
      have hlk : ((kept ++ p).drop r).length ≤ 31 := by rw [List.length_drop]; omega
      have hvK : Txt wD (.slice (some ⟨Ab, Ao, none⟩) (kept.length + p.length - r) 0) ((kept ++ p).drop r) := Txt.nil (List.drop_eq_nil_of_le (by omega)) (by omega)
      have CK := keep_any g (A.length + p.length) kept (.slice (some ⟨Ab, Ao, none⟩) (kept.length + p.length - r) 0) ((kept ++ p).drop r) wD HZD.out.rm.win hvK hlk
      clear hvK
      refine wpAnyH_take (i := 0) (oi := { dst := some 38, op := Op.load 45 (Operand.tmp 2), type := 45, pos := "rewrite.go:54", after := #[], guard := none }) (v := .pointer (some ⟨g, 0, none⟩)) rfl (by kernel_rfl) (by kernel_rfl) (by kernel_rfl) (fun _ _ _ h => h) (Or.inl ⟨by rfl, by intro w' s'; have q0 := s'.1; go_simp⟩) hH ?_
      simp only [Act.put, List.setIfInBounds_toArray, List.set_cons_zero, List.set_cons_succ]
      refine wpAnyH_take (i := 1) (oi := { dst := some 39, op := Op.nilCheck (Operand.tmp 38), type := 0, pos := "rewrite.go:54", after := #[{ on := 0, ground := Ground.data }], guard := none }) (v := .pointer (some ⟨g, 0, none⟩)) rfl (by kernel_rfl) (by kernel_rfl) (by kernel_rfl) (fun _ _ _ h => h) (Or.inl ⟨by rfl, by intro w _; go_simp⟩) hH ?_
      simp only [Act.put, List.setIfInBounds_toArray, List.set_cons_zero, List.set_cons_succ]
      refine wpAnyH_take (i := 2) (oi := { dst := some 40, op := Op.fieldAddr 75 (Operand.tmp 39) 0, type := 0, pos := "rewrite.go:54", after := #[{ on := 1, ground := Ground.data }], guard := none }) (v := .pointer (some ⟨g, 0, none⟩)) rfl (by kernel_rfl) (by kernel_rfl) (by kernel_rfl) (fun _ _ _ h => h) (Or.inl ⟨by rfl, by intro w _; go_simp⟩) hH ?_
      simp only [Act.put, List.setIfInBounds_toArray, List.set_cons_zero, List.set_cons_succ]
      refine wpAnyH_take (i := 3) (oi := { dst := some 41, op := Op.load 38 (Operand.tmp 6), type := 38, pos := "rewrite.go:54", after := #[], guard := none }) (v := .slice (some ⟨Ab, Ao, none⟩) (kept.length + p.length) c) rfl (by kernel_rfl) (by kernel_rfl) (by kernel_rfl) (fun _ _ _ h => h) (Or.inl ⟨by rfl, by intro w' s'; have q0 := s'.2; go_simp⟩) hH ?_
      simp only [Act.put, List.setIfInBounds_toArray, List.set_cons_zero, List.set_cons_succ]
      refine wpAnyH_take (i := 4) (oi := { dst := some 42, op := Op.move (Operand.tmp 9), type := 3, pos := "rewrite.go:54", after := #[], guard := none }) (v := .int .i64 (r : Int)) rfl (by kernel_rfl) (by kernel_rfl) (by kernel_rfl) (fun _ _ _ h => h) (Or.inl ⟨by rfl, by intro w _; go_simp⟩) hH ?_
      simp only [Act.put, List.setIfInBounds_toArray, List.set_cons_zero, List.set_cons_succ]
      refine wpAnyH_take (i := 5) (oi := { dst := some 43, op := Op.slice 38 (Operand.tmp 41) (some (Operand.tmp 42)) none none, type := 38, pos := "rewrite.go:54", after := #[{ on := 3, ground := Ground.data }, { on := 4, ground := Ground.data }], guard := none }) (v := .slice (some ⟨Ab, Ao, none⟩) (kept.length + p.length - r) 0) rfl (by kernel_rfl) (by kernel_rfl) (by kernel_rfl) (fun _ _ _ h => h) (Or.inl ⟨by rfl, by intro w' s'; have q0 := g5; have q1 := g6.out; go_simp⟩) hH ?_
      simp only [Act.put, List.setIfInBounds_toArray, List.set_cons_zero, List.set_cons_succ]
      refine wpAnyH_ready (rs := [6]) (by kernel_rfl) (by decide) (AllReadyH.cons rfl (fun K hK => ?_) AllReadyH.nil)
      rw [if_pos (by rfl)]
      go_simp
      with_reducible refine CK.mono ?_
      rintro e wE ⟨rfl, winE, GE, hiE⟩
      clear CK
      have RK : Hid (RM wE g (A.length + p.length) ((kept ++ p).drop r) f t (Ps ++ Qs) false pv') := HZD.out.rm.taken winE GE hiE
      have bdE : Hid (Bd 78 wE (S6 + 1) (O ++ ((kept ++ p).take r).drop wr)) := HZD.out.bd.same (fun j h1 h2 => GE.block j h2 (fun e => by injection e; omega))
      have kE : Hid (KX g pv.ownBlock w wE) := HZD.out.kx.grown GE (fun j hj => .inl (Option.some.inj hj).symm)
      have pE : Hid (pv'.ownBlock = pv.ownBlock ∨ ∀ k, pv'.ownBlock = some k → w.heap.size ≤ k) := HZD.out.px
      have wE0 : Hid (w.heap.size ≤ S2) := HZD.out.w0
      have hHE : wE.cell? ⟨S2, 0, none⟩ = some (.pointer (some ⟨g, 0, none⟩)) ∧ wE.cell? ⟨S6, 0, none⟩ = some (.slice (some ⟨Ab, Ao, none⟩) (kept.length + p.length) c) := ⟨(World.cell?_of_block (w := wD) (w' := wE) (a := ⟨S2, 0, none⟩) (GE.block S2 HZD.out.b2.lt (fun e => by injection e; omega))).trans hH.1, (World.cell?_of_block (w := wD) (w' := wE) (a := ⟨S6, 0, none⟩) (GE.block S6 HZD.out.b6.lt (fun e => by injection e; omega))).trans hH.2⟩
      clear GE winE hiE HZD hH
      go_wp2_with fail
      refine hK.out _ _ hHE (fun _ => ?_)
      clear hK K
      refine wpAnyH_done (by kernel_rfl) ?_ _
      clear hHE
      have CS := bstrK_any 78 (S6 + 1) _ wE bdE.out
      go_wp2_with fail
      with_reducible refine CS.mono ?_
      rintro e wG ⟨rfl, bG, kG⟩
      clear CS
      go_wp2
      go_ret
      refine ⟨O ++ ((kept ++ p).take r).drop wr, (kept ++ p).drop r, Ps ++ Qs, pv', rfl, ?_, ?_, kE.out.below bG (by have := wE0.out; omega), pE.out⟩
      · rw [List.length_append]
        refine RK.out.same (bG.block g (by omega)) (fun j hj => ?_)
        obtain ⟨cur, fz, hc⟩ := row_i64 RK.out.pr j hj
        exact kG.keep j (RK.out.pr.lt j hj).2 (hap.out j hj) (fun cur' fz' e => by rw [hc] at e; injection e with e; injection e with _ e _; cases e)
      · exact hG.fed (by rw [HO.out]; exact hrs) hr2

end Sc
end Go.Proofs.YtojefckhefanhabDoor
/- scan.Rewriter's Close and Places, walked (own text of the verifier). -/
namespace Go.Proofs.YtojefckhefanhabDoor
open Go.RowKit
namespace Sc

theorem gbt {a b c : World} {r : Option Nat} (h : a.grownBy b r) (k : b.grownBy c r) : a.grownBy c r := ⟨k.os.trans h.os, k.tape.trans h.tape, k.output.trans h.output, Nat.le_trans h.size k.size, fun i h1 h2 => (k.block i (Nat.lt_of_lt_of_le h1 h.size) h2).trans (h.block i h1 h2)⟩
theorem RM.shut {W : World} {g n : Nat} {kept f t : List UInt8} {Ps : List Nat} {cl : Bool} {pv : Value} (h : RM W g n kept f t Ps cl pv) (v : Bool) : RM (W.setCell ⟨g, 36, none⟩ (.bool v)) g n kept f t Ps v pv := by
  have co : ∀ i, i ≠ 36 → (W.setCell ⟨g, 36, none⟩ (.bool v)).cell? ⟨g, i, none⟩ = W.cell? ⟨g, i, none⟩ := fun i hi => World.cell?_setCell_other _ _ _ _ (by intro q; injection q with _ q; exact hi q.symm)
  have fo : ∀ i, (W.setCell ⟨g, 36, none⟩ (.bool v)).frozen? ⟨g, i, none⟩ = W.frozen? ⟨g, i, none⟩ := fun i => World.frozen?_setCell _ _ _ _
  have hw := h.win
  have hsh := hw.sh
  refine ⟨⟨(co 0 (by omega)).trans hw.c0, (fo 0).trans hw.f0, (co 1 (by omega)).trans hw.c1, (fo 1).trans hw.f1, fun i b hb => (co _ (by have := (List.getElem?_eq_some_iff.1 hb).1; omega)).trans (hw.kp i b hb), fun i hi => by rw [co _ (by omega)]; exact hw.rm i hi, fun i hi => (fo _).trans (hw.fr i hi), hsh⟩, (co 33 (by omega)).trans h.cf, (co 34 (by omega)).trans h.ct, (co 35 (by omega)).trans h.cp, (fo 35).trans h.fp, World.cell?_setCell_same _ _ _ h.cc, (fo 36).trans h.fc, row_same h.pr (fun k hk => Below.heap_setCell W ⟨g, 36, none⟩ _ k (fun q => h.pg (by rw [hk, q]))), h.pg⟩

set_option maxRecDepth 100000 in
set_option maxHeartbeats 8000000 in
theorem rclose_any (g n : Nat) (f t kept : List UInt8) (Ps : List Nat) (pv : Value) (w : World) {cl : Bool} (hR : RM w g n kept f t Ps cl pv) :
    Calls Tryd.prog 17 #[.pointer (some ⟨g, 0, none⟩)] w fun e w' => e = .returned (.string (ba kept)) ∧ RM w' g n [] f t Ps true pv ∧ w.grownBy w' (some g) := by
  have HR : Hid (RM w g n kept f t Ps cl pv) := hR
  clear hR
  have CK := kept_any g n kept w HR.out.win
  go_enter Tryd.func17, Tryd.ntmps17
  go_wp2_with fail
  with_reducible refine CK.mono ?_
  rintro e w1 ⟨rfl, q, rfl⟩
  clear CK
  have R1 : Hid (RM (w.drewN q) g n kept f t Ps cl pv) := HR.out.below ⟨rfl, rfl, rfl, Nat.le_refl _, fun _ _ => rfl⟩
  have K1 : Hid (w.grownBy (w.drewN q) none) := ⟨rfl, rfl, rfl, Nat.le_refl _, fun _ _ _ => rfl⟩
  generalize w.drewN q = w1 at *
  have T1 : Txt w1 (.slice (some ⟨g, 2, none⟩) kept.length kept.length) kept := Txt.mk (Nat.le_refl _) fun i b hb => R1.out.win.kp i b hb
  have CV := conv_win T1 (p := 0) (q := kept.length) (Nat.zero_le _) (Nat.le_refl _) kept.length
  rw [List.take_length, List.drop_zero, Nat.add_zero, Nat.sub_zero] at CV
  clear T1
  go_wp2_with fail
  have CP := keep_any g n kept (.slice none 0 0) [] w1 R1.out.win (Txt.nil rfl rfl) (by simp)
  with_reducible refine CP.mono ?_
  rintro e w2 ⟨rfl, W2, G2, h2⟩
  clear CP CV
  have R2 : Hid (RM w2 g n [] f t Ps cl pv) := R1.out.taken W2 G2 h2
  have G : Hid (w.grownBy w2 (some g)) := gbt ⟨K1.out.os, K1.out.tape, K1.out.output, K1.out.size, fun k h1 _ => K1.out.block k h1 (by simp)⟩ G2
  clear W2 G2 h2 R1 K1
  have c36 := R2.out.cc
  have f36 := R2.out.fc
  go_wp2_with fail
  go_ret
  exact ⟨rfl, R2.out.shut true, gbt G.out (gb_setC w2 g 36 _)⟩

end Sc
end Go.Proofs.YtojefckhefanhabDoor
/- slices.Clone at []int, walked (own text of the verifier). -/
namespace Go.Proofs.YtojefckhefanhabDoor
open Go.RowKit
namespace Sc

set_option maxRecDepth 100000 in
set_option maxHeartbeats 8000000 in
theorem cloneI_any (a : Addr) (n c : Nat) (l : List Nat) (w : World) (hl : l.length = n) (hb : n ≤ 536870912) (hc : ∀ j x : Nat, l[j]? = some x → w.cell? (a.add j) = some (.int .i64 (x : Int))) :
    Calls Tryd.prog 37 #[.slice (some a) n c] w fun e w' => ∃ v', e = .returned v' ∧ w'.ownsRow w.heap.size 3 1 v' n (pv_ l) ∧ Below w.heap.size w w' := by
  have HC : Hid (∀ j x : Nat, l[j]? = some x → w.cell? (a.add j) = some (.int .i64 (x : Int))) := hc
  clear hc
  have hq : ∀ (w : World) (a : Option Addr) (n c n' c' : Nat), (binOp .eql 25 (.slice a n c) (.slice none n' c')).run Tryd.prog w = .ok (.bool a.isNone) w := fun w a n c n' c' => Lib.run_eql_slice_nil w _ _ a n c n' c' und41
  obtain ⟨i0, hi, hz0, hz1, hz2⟩ := info_parts info3
  go_enter Tryd.func37, Tryd.ntmps37
  go_wp2_with (at_builtin; refine wpList_append_own _ rfl _ _ 25 rfl w.heap.size 3 i0 (.int .i64 0) 1 8 und41 hi hz0 hz1 hz2 rfl (by decide) _ _ _ rfl (World.ownsRow_made w #[] 0 (Nat.le_refl _) (Nat.zero_le _) rfl) a n c (pv_ l) rfl ?q1 ?q2 ?q3 ?q4 ?q5 ?q6 ?_)
  case q1 => rw [Nat.mul_one]; unfold pv_; rw [List.length_map]; exact hl
  case q2 =>
    intro j u hj
    unfold pv_ at hj
    rw [List.getElem?_map] at hj
    obtain ⟨x, hx, rfl⟩ := Option.map_eq_some_iff.1 hj
    exact Lib.cell?_alloc_some _ (HC.out j x hx)
  case q3 => intro u hu; unfold pv_ at hu; obtain ⟨x, _, rfl⟩ := List.mem_map.1 hu; rfl
  case q4 => unfold maxLen; omega
  case q5 => omega
  case q6 => simp
  intro v' w1 hown hgrow hnil
  go_wp2
  go_ret
  exact ⟨v', rfl, by simpa using hown, ((Below.refl _ w).alloc (Nat.le_refl _) _).grown hgrow (by simp) (by intro k hk; simp [Value.ownBlock] at hk; omega)⟩
theorem cloneI_nil (n c : Nat) (w : World) : Calls Tryd.prog 37 #[.slice none n c] w fun e w' => e = .returned (.slice none 0 0) ∧ w' = w := by
  have hq : ∀ (w : World) (a : Option Addr) (n c n' c' : Nat), (binOp .eql 25 (.slice a n c) (.slice none n' c')).run Tryd.prog w = .ok (.bool a.isNone) w := fun w a n c n' c' => Lib.run_eql_slice_nil w _ _ a n c n' c' und41
  go_enter Tryd.func37, Tryd.ntmps37
  go_wp2
  go_ret
  exact ⟨rfl, rfl⟩

set_option maxRecDepth 100000 in
set_option maxHeartbeats 8000000 in
theorem rplaces_any (g n : Nat) (f t kept : List UInt8) (Ps : List Nat) (cl : Bool) (pv : Value) (w : World) (hR : RM w g n kept f t Ps cl pv) (hps : Ps.length ≤ 536870912) :
    Calls Tryd.prog 18 #[.pointer (some ⟨g, 0, none⟩)] w fun e w' => ∃ v', e = .returned v' ∧ w'.ownsRow w.heap.size 3 1 v' Ps.length (pv_ Ps) ∧ Below w.heap.size w w' := by
  have c35 := hR.cp
  rcases hR.pr with ⟨hl, ⟨hv, h0⟩ | ⟨b, cap, cur, hv, _, hb, h1, _, h3, h4⟩⟩
  · have CC := cloneI_nil 0 0 w
    rw [hv] at c35
    clear hR
    go_enter Tryd.func18, Tryd.ntmps18
    go_wp2_with fail
    with_reducible refine CC.mono ?_
    rintro e w' ⟨rfl, rfl⟩
    go_wp2
    go_ret
    exact ⟨_, rfl, ⟨hl, .inl ⟨rfl, h0⟩⟩, Below.refl _ _⟩
  · have CC := cloneI_any ⟨b, 0, none⟩ Ps.length cap Ps w rfl hps (fun j x hj => by
      have hk : cur.toList[j]? = some (.int .i64 (x : Int)) := by
        have hlt : j < Ps.length := (List.getElem?_eq_some_iff.1 hj).1
        have : (cur.toList.take (Ps.length * 1))[j]? = (pv_ Ps)[j]? := by rw [h4]
        rw [List.getElem?_take, if_pos (by omega)] at this
        rw [this]; unfold pv_; rw [List.getElem?_map, hj]; rfl
      rw [Addr.add_lit, Nat.zero_add, Lib.cell_of_heap hb]
      simpa using hk)
    rw [hv] at c35
    clear hR h4
    go_enter Tryd.func18, Tryd.ntmps18
    go_wp2_with fail
    with_reducible refine CC.mono ?_
    rintro e w' ⟨v', rfl, ho, hB⟩
    go_wp2
    go_ret
    exact ⟨v', rfl, ho, hB⟩

end Sc
end Go.Proofs.YtojefckhefanhabDoor
/- scan.NewRewriter, walked (own text of the verifier). -/
namespace Go.Proofs.YtojefckhefanhabDoor
open Go.RowKit
namespace Sc

/-- A new rewriter. -/
theorem RM.new {W : World} {g : Nat} {f t : ByteArray} {T : TypeId} (h : W.heap[g]? = some (.cells #[.int .i64 0, .int .i64 0, .int .u8 0, .int .u8 0, .int .u8 0, .int .u8 0, .int .u8 0, .int .u8 0, .int .u8 0, .int .u8 0, .int .u8 0, .int .u8 0, .int .u8 0, .int .u8 0, .int .u8 0, .int .u8 0, .int .u8 0, .int .u8 0, .int .u8 0, .int .u8 0, .int .u8 0, .int .u8 0, .int .u8 0, .int .u8 0, .int .u8 0, .int .u8 0, .int .u8 0, .int .u8 0, .int .u8 0, .int .u8 0, .int .u8 0, .int .u8 0, .int .u8 0, .string f, .string t, .slice none 0 0, .bool false] T (0, 0))) : RM W g 0 [] f.data.toList t.data.toList [] false (.slice none 0 0) := by
  have fz : ∀ i, W.frozen? ⟨g, i, none⟩ = false := fun i => Lib.frozen_of_heap h i
  refine ⟨⟨by rw [Lib.cell_of_heap h]; rfl, fz _, by rw [Lib.cell_of_heap h]; rfl, fz _, fun i b hb => by simp at hb, fun i hi => ?_, fun i _ => fz _, by simp⟩, by rw [Lib.cell_of_heap h]; rfl, by rw [Lib.cell_of_heap h]; rfl, by rw [Lib.cell_of_heap h]; rfl, fz _, by rw [Lib.cell_of_heap h]; rfl, fz _, ⟨rfl, .inl ⟨rfl, rfl⟩⟩, by simp [Value.ownBlock]⟩
  rw [Lib.cell_of_heap h]
  simp
  omega

set_option maxRecDepth 100000 in
set_option maxHeartbeats 8000000 in
theorem newrw_any (f t : ByteArray) (w : World) :
    Calls Tryd.prog 15 #[.string f, .string t] w fun e w' => Below w.heap.size w w' ∧ ((hsh f ≠ 0 ∧ e = .returned (.tuple #[.pointer none, .int .i64 (hsh f)])) ∨ (hsh f = 0 ∧ hsh t ≠ 0 ∧ e = .returned (.tuple #[.pointer none, .int .i64 (hsh t)])) ∨ (hsh f = 0 ∧ hsh t = 0 ∧ ∃ g, w.heap.size ≤ g ∧ e = .returned (.tuple #[.pointer (some ⟨g, 0, none⟩), .int .i64 0]) ∧ RM w' g 0 [] f.data.toList t.data.toList [] false (.slice none 0 0))) := by
  go_enter Tryd.func15, Tryd.ntmps15
  go_wp2_with fail
  have B1 : Hid (Below w.heap.size w (w.alloc (.cells #[.string f, .string t] 9))) := (Below.refl _ _).alloc (Nat.le_refl _) _
  obtain ⟨S, hS⟩ : ∃ S, w.heap.size = S := ⟨_, rfl⟩
  have hb : (w.alloc (.cells #[.string f, .string t] 9)).heap[w.heap.size]? = some (.cells #[.string f, .string t] 9) := heap_alloc_new _ _
  have d0 : (w.alloc (.cells #[.string f, .string t] 9)).cell? ⟨w.heap.size, 0, none⟩ = some (.string f) := by rw [Lib.cell_of_heap hb]; rfl
  have d1 : (w.alloc (.cells #[.string f, .string t] 9)).cell? ⟨w.heap.size, 1, none⟩ = some (.string t) := by rw [Lib.cell_of_heap hb]; rfl
  clear hb
  have HS : Hid (w.heap.size = S) := hS
  rw [hS] at d0 d1 ⊢
  clear hS
  generalize w.alloc (.cells #[.string f, .string t] 9) = w1 at *
  go_loop [13] (fun v => v = .int .i64 0 ∨ (v = .int .i64 1 ∧ hsh f = 0) ∨ (v = .int .i64 2 ∧ hsh f = 0 ∧ hsh t = 0)) (fun v => 2 - (intOf v).toNat)
  case atStart => exact .inl rfl
  case round =>
    rcases hrel with rfl | ⟨rfl, hf⟩ | ⟨rfl, hf, ht⟩
    · go_wp2_with fail
      refine (ckH_any f w1).mono ?_
      rintro e w2 ⟨rfl, rfl⟩
      by_cases hf : hsh f = 0
      · rw [hf]
        go_wp2
        go_round
        case rel => exact .inr (.inl ⟨rfl, hf⟩)
        case measure => simp [intOf]
      · go_wp2
        go_ret2
        exact ⟨B1.out, .inl ⟨hf, rfl⟩⟩
    · go_wp2_with fail
      refine (ckH_any t w1).mono ?_
      rintro e w2 ⟨rfl, rfl⟩
      by_cases ht : hsh t = 0
      · rw [ht]
        go_wp2
        go_round
        case rel => exact .inr (.inr ⟨rfl, hf, ht⟩)
        case measure => simp [intOf]
      · go_wp2
        go_ret2
        exact ⟨B1.out, .inr (.inl ⟨hf, ht, rfl⟩)⟩
    · go_wp2
      go_ret2
      exact ⟨B1.out.alloc (by have := B1.out.size; exact this) _, w1.heap.size, B1.out.size, rfl, RM.new (heap_alloc_new _ _)⟩

end Sc
end Go.Proofs.YtojefckhefanhabDoor
/- scan.Rewrite, walked (own text of the verifier). -/
namespace Go.Proofs.YtojefckhefanhabDoor
open Go.RowKit
namespace Sc

theorem pl_len (f : List UInt8) (o : Nat) (l : List UInt8) : (pl f o l).length ≤ l.length := by
  have : ∀ (n o : Nat) (l : List UInt8), (plN f n o l).length ≤ n := by
    intro n
    induction n with
    | zero => intro o l; exact Nat.le_refl _
    | succ n ih =>
      intro o l
      unfold plN
      by_cases h1 : l.length < 32
      · rw [if_pos h1]; simp
      · rw [if_neg h1]
        by_cases h2 : l.take 32 = f
        · rw [if_pos h2, List.length_cons]; have := ih (o + 32) (l.drop 32); omega
        · rw [if_neg h2]; have := ih (o + 1) (l.drop 1); omega
  exact this _ o l
theorem rw_len {f t : List UInt8} (ht : t.length = 32) (l : List UInt8) : (rw' f t l).length = l.length := by
  have : ∀ (n : Nat) (l : List UInt8), (rwN f t n l).length = l.length := by
    intro n
    induction n with
    | zero => intro l; rfl
    | succ n ih =>
      intro l
      unfold rwN
      by_cases h1 : l.length < 32
      · rw [if_pos h1]
      · rw [if_neg h1]
        by_cases h2 : l.take 32 = f
        · rw [if_pos h2, List.length_append, ih, List.length_drop, ht]; omega
        · rw [if_neg h2, List.length_append, ih, List.length_drop, List.length_take]; omega
  exact this _ l
theorem hshOk_of {f : ByteArray} (h : hsh f = 0) : hshOk f := by
  unfold hsh at h
  by_cases q : hshOk f
  · exact q
  · rw [if_neg q] at h; cases h
theorem isH_of {f : ByteArray} (h : hsh f = 0) : isH Lt f.data.toList := by
  obtain ⟨h1, h2⟩ := hshOk_of h
  have hl : f.data.toList.length = 32 := by rw [Array.length_toList]; exact h1
  refine ⟨hl, fun b hb => ?_⟩
  obtain ⟨k, hk, rfl⟩ := List.mem_iff_getElem.1 hb
  have h3 := h2 k (by omega)
  have hk2 : k < f.size := by rw [h1]; omega
  rw [← get_bt f k hk2] at h3
  exact h3
theorem txt_str (W : World) (s : ByteArray) (c : Nat) (e : TypeId) (z : Nat × Nat) (hc : s.size ≤ c) : Txt (W.alloc (.cells (bytesRow s c) e z)) (.slice (some ⟨W.heap.size, 0, none⟩) s.size c) s.data.toList := by
  have hl : s.data.toList.length = s.size := by rw [Array.length_toList]; rfl
  have hb := heap_alloc_new W (.cells (bytesRow s c) e z)
  rw [← hl]
  refine Txt.mk (by rw [hl]; exact hc) fun i b hi => ?_
  rw [Nat.zero_add, Lib.cell_of_heap hb]
  have hlt : i < s.data.size := by have := (List.getElem?_eq_some_iff.1 hi).1; rw [Array.length_toList] at this; exact this
  rw [bytesRow_at s c i hlt]
  obtain ⟨_, rfl⟩ := List.getElem?_eq_some_iff.1 hi
  rfl

set_option maxRecDepth 100000 in
set_option maxHeartbeats 8000000 in
theorem rewrite_any (x f t : ByteArray) (w : World) (hx : x.size ≤ 268435456) :
    Calls Tryd.prog 6 #[.string x, .string f, .string t] w fun e w' => Below w.heap.size w w' ∧ ((hsh f ≠ 0 ∧ e = .returned (.tuple #[.string ⟨#[]⟩, .slice none 0 0, .int .i64 (hsh f)])) ∨ (hsh f = 0 ∧ hsh t ≠ 0 ∧ e = .returned (.tuple #[.string ⟨#[]⟩, .slice none 0 0, .int .i64 (hsh t)])) ∨ (hsh f = 0 ∧ hsh t = 0 ∧ ∃ v, w'.ownsRow w.heap.size 3 1 v (pl f.data.toList 0 x.data.toList).length (pv_ (pl f.data.toList 0 x.data.toList)) ∧ e = .returned (.tuple #[.string (ba (rw' f.data.toList t.data.toList x.data.toList)), v, .int .i64 0]))) := by
  have CN := newrw_any f t w
  go_enter Tryd.func6, Tryd.ntmps6
  go_wp2_with fail
  with_reducible refine CN.mono ?_
  rintro e w1 ⟨B1, ⟨h1, rfl⟩ | ⟨h1, h2, rfl⟩ | ⟨h1, h2, g, hg, rfl, RM1⟩⟩
  · clear CN
    go_wp2
    go_ret3
    exact ⟨B1, .inl ⟨h1, rfl⟩⟩
  · clear CN
    go_wp2
    go_ret3
    exact ⟨B1, .inr (.inl ⟨h1, h2, rfl⟩)⟩
  · clear CN
    have R1 : Hid _ := RM1
    have HB1 : Hid _ := B1
    have H1 : Hid (hsh f = 0) := h1
    have H2 : Hid (hsh t = 0) := h2
    clear RM1 B1 h1 h2
    have CV := run_bytes_of_string (P := Tryd.prog) w1 9 38 5 x Tryd.underlying9 und30 Tryd.underlying5
    have hcx := grownCap_ge w1 x.size 0 5
    generalize grownCap w1 x.size 0 5 = cx at *
    replace CV : (convert 9 38 (.string x)).run Tryd.prog w1 = .ok (.slice (some ⟨w1.heap.size, 0, none⟩) x.size cx) (w1.alloc (.cells (bytesRow x cx) 5 ((bytesRow x cx).size, (bytesRow x cx).size + 1))).drew := CV
    have TX : Hid (Txt (w1.alloc (.cells (bytesRow x cx) 5 ((bytesRow x cx).size, (bytesRow x cx).size + 1))).drew _ _) := (txt_str w1 x cx 5 ((bytesRow x cx).size, (bytesRow x cx).size + 1) hcx).below (Below.refl _ _).drew
    have b2 : Below w1.heap.size w1 (w1.alloc (.cells (bytesRow x cx) 5 ((bytesRow x cx).size, (bytesRow x cx).size + 1))).drew := ((Below.refl _ _).alloc (Nat.le_refl _) _).drew
    have R2 : Hid _ := R1.out.below b2
    have B2 : Hid (Below w.heap.size w (w1.alloc (.cells (bytesRow x cx) 5 ((bytesRow x cx).size, (bytesRow x cx).size + 1))).drew) := HB1.out.trans (b2.mono HB1.out.size)
    have hxl : x.data.toList.length = x.size := by rw [Array.length_toList]; rfl
    have lg := R1.out.lt
    clear b2 R1 HB1
    have CF := rfeed_any g [] f.data.toList t.data.toList [] [] x.data.toList [] (.slice none 0 0) (.slice (some ⟨w1.heap.size, 0, none⟩) x.size cx) _ R2.out (GS.start _ _) TX.out (fun a l c e => by injection e with e _ _; injection e with e; subst e; show w1.heap.size ≠ g; omega) (by omega) (by simp) (isH_of H1.out) (isH_of H2.out).len (by simp)
    generalize (w1.alloc (.cells (bytesRow x cx) 5 ((bytesRow x cx).size, (bytesRow x cx).size + 1))).drew = w2 at *
    clear hcx lg
    go_wp2_with fail
    with_reducible refine CF.mono ?_
    rintro e w3 ⟨ans, kept, Ps, pv', rfl, R3, G3, K3, p3⟩
    have RX : Hid (RM w3 g x.data.toList.length kept f.data.toList t.data.toList Ps false pv') := R3
    have GX : Hid (GS f.data.toList t.data.toList x.data.toList ans kept Ps) := G3
    have B3 : Hid (Below w.heap.size w w3) := ⟨K3.os.trans B2.out.os, K3.tape.trans B2.out.tape, K3.output.trans B2.out.output, Nat.le_trans B2.out.size K3.size, fun k hk => (K3.block k (Nat.lt_of_lt_of_le hk B2.out.size) (by omega) (by simp [Value.ownBlock])).trans (B2.out.block k hk)⟩
    clear CF CV R2 TX B2 R3 G3 K3 p3
    have CL := rclose_any g _ _ _ _ _ _ w3 RX.out
    go_wp2_with fail
    with_reducible refine CL.mono ?_
    rintro e w4 ⟨rfl, R4, G4⟩
    have RY : Hid _ := R4
    have B4 : Hid (Below w.heap.size w w4) := B3.out.grown G4 B3.out.size (fun k hk => by have := Option.some.inj hk; omega)
    clear CL RX B3 R4 G4
    have CP := rplaces_any g _ _ _ _ _ _ _ w4 RY.out (by rw [← GX.out.all.2]; have := pl_len f.data.toList 0 x.data.toList; omega)
    have hsum : ans.length + kept.length = x.data.toList.length := by
      have h1 := rw_len (f := f.data.toList) (isH_of H2.out).len x.data.toList
      rw [GX.out.all.1, List.length_append] at h1
      exact h1
    have hz1 := ba_size ans
    have hz2 := ba_size kept
    have hno : ¬ 9223372036854775807 < (ba ans).size + (ba kept).size := by omega
    have hcat : ba ans ++ ba kept = ba (ans ++ kept) := by
      apply ByteArray.ext
      simp [ba]
    clear hz1 hz2 hsum
    go_wp2_with fail
    with_reducible refine CP.mono ?_
    rintro e w5 ⟨v', rfl, o5, b5⟩
    clear CP hno
    go_wp2
    go_ret3
    have hz := B4.out.size
    refine ⟨B4.out.trans (b5.mono hz), .inr (.inr ⟨H1.out, H2.out, v', ?_, ?_⟩)⟩
    · rw [GX.out.all.2]
      exact ⟨o5.1, o5.2.imp id fun ⟨b, cap, cur, e1, e2, e3⟩ => ⟨b, cap, cur, e1, Nat.le_trans hz e2, e3⟩⟩
    · rw [GX.out.all.1]
      rfl

end Sc
end Go.Proofs.YtojefckhefanhabDoor
/- scan.Scanner: a set of texts in memory (own text of the verifier). -/
namespace Go.Proofs.YtojefckhefanhabDoor
open Go.RowKit Go.Maps Go.WideMaps
namespace Sc

theorem undM : Tryd.prog.underlying 51 = some (.map 9 58) := by kernel_rfl
theorem lawS : Keyed Tryd.prog 9 := string_keyed Tryd.underlying9
theorem zeroU (w : World) : (zeroValue 58).run Tryd.prog w = .ok (.agg #[]) w := by kernel_rfl
/-- What stands at a text in a set: nothing to tell. -/
def rS : Value → Option (DataW Unit × List MemPlace)
  | .agg a => if a.size = 0 then some (.lit (.bool true), []) else none
  | _ => none
theorem rS_one {v : Value} {d : DataW Unit} {ps : List MemPlace} (h : rS v = some (d, ps)) : v = .agg #[] := by
  unfold rS at h
  split at h
  · rename_i a
    by_cases e : a.size = 0
    · rw [Array.eq_empty_of_size_eq_zero e]
    · rw [if_neg e] at h; cases h
  · cases h
/-- Block m is a set of at most N texts, those in S. -/
def SetM (W : World) (m N : Nat) (S : List (List UInt8)) : Prop := ∃ n D, n ≤ N ∧ W.ownsMap Tryd.prog 9 rS m n D ∧ ∀ h : List UInt8, Maps.has D (.string h) = true ↔ h ∈ S
theorem SetM.lt {W : World} {m N : Nat} {S : List (List UInt8)} (h : SetM W m N S) : m < W.heap.size := by obtain ⟨n, D, _, h, _⟩ := h; exact h.lt
theorem SetM.same {W W' : World} {m N : Nat} {S : List (List UInt8)} (h : SetM W m N S) (e : W'.heap[m]? = W.heap[m]?) : SetM W' m N S := by
  obtain ⟨n, D, hn, ⟨es, cl, h1, h2⟩, hs⟩ := h
  exact ⟨n, D, hn, ⟨es, cl, e.trans h1, h2⟩, hs⟩
theorem SetM.isMap {W : World} {m N : Nat} {S : List (List UInt8)} (h : SetM W m N S) : ∃ es cl, W.heap[m]? = some (.map es cl) := by
  obtain ⟨n, D, hn, ⟨es, cl, h1, h2⟩, hs⟩ := h
  exact ⟨es, cl, h1⟩
theorem SetM.made (w : World) : SetM (w.alloc (.map #[] 0)) w.heap.size 0 [] :=
  ⟨0, _, Nat.le_refl _, World.ownsMap_made w Tryd.prog 9 rS, fun h => by simp [has_eq]⟩
theorem SetM.look {W : World} {m N : Nat} {S : List (List UInt8)} (h : SetM W m N S) (s : ByteArray) (hs : s.size ≤ maxLen) : ∃ b, (Instr.lookup 51 (.map (some m)) (.string s) true).run Tryd.prog W = .ok (.tuple #[.agg #[], .bool b]) W ∧ (b = true ↔ s.data.toList ∈ S) := by
  obtain ⟨n, D, hn, ho, hm⟩ := h
  obtain ⟨v, ps, hr, hv⟩ := ho.look_ok lawS undM (zeroU W) (zd := .lit (.bool true)) (zp := []) rfl (keyOf_string_mk Tryd.underlying9 hs)
  obtain rfl := rS_one hv
  exact ⟨_, hr, hm _⟩
theorem SetM.del {W : World} {m N : Nat} {S : List (List UInt8)} (h : SetM W m N S) (s : ByteArray) (hs : s.size ≤ maxLen) (ty : TypeId) : ∃ W' S', (Builtin.delete_ #[51, 9] ty #[.map (some m), .string s]).run Tryd.prog W = .ok (.tuple #[]) W' ∧ SetM W' m N S' ∧ (∀ g, g ∈ S' ↔ g ∈ S ∧ g ≠ s.data.toList) ∧ W.mapTurned W' m := by
  obtain ⟨n, D, hn, ho, hm⟩ := h
  obtain ⟨W', hr, ho', ht⟩ := ho.drop lawS undM (keyOf_string_mk Tryd.underlying9 hs) ty
  refine ⟨W', S.filter (fun g => g ≠ s.data.toList), hr, ⟨n, _, hn, ho', fun g => ?_⟩, fun g => by simp, ht⟩
  by_cases e : g = s.data.toList
  · subst e
    rw [has_del_same]
    simp
  · rw [has_del_other (fun q => e (by injection q)), hm g]
    simp [e]
theorem SetM.put {W : World} {m N : Nat} {S : List (List UInt8)} (h : SetM W m N S) (hN : N < maxLen) (s : ByteArray) (hs : s.size ≤ maxLen) : ∃ W', (Instr.mapUpdate 51 (.map (some m)) (.string s) (.agg #[])).run Tryd.prog W = .ok () W' ∧ SetM W' m (N + 1) (s.data.toList :: S) ∧ W.mapTurned W' m := by
  obtain ⟨n, D, hn, ho, hm⟩ := h
  have hk := keyOf_string_mk Tryd.underlying9 hs
  obtain ⟨W', hr, ho', ht⟩ := ho.store (val := .agg #[]) lawS undM (by omega) hk (d := .lit (.bool true)) (ps := []) rfl
  refine ⟨W', hr, ⟨n + 1, _, by omega, ho', fun g => ?_⟩, ht⟩
  by_cases e : g = s.data.toList
  · subst e
    rw [has_put_same ho.isMap (lawS.key hk)]
    simp
  · rw [has_put_other (fun q => e (by injection q)), hm g]
    simp [e]

end Sc
end Go.Proofs.YtojefckhefanhabDoor
/- scan.Scanner: what it is in memory; note, walked (own text of the verifier). -/
namespace Go.Proofs.YtojefckhefanhabDoor
open Go.RowKit Go.Maps Go.WideMaps
namespace Sc

def tv_ (F : List (List UInt8)) : List Value := F.map fun h => Value.string (ba h)
/-- Block g is a scanner: its window, its set of sought texts at block m, the texts that it found. -/
structure SM (W : World) (g n : Nat) (kept : List UInt8) (m N : Nat) (S F : List (List UInt8)) (fv : Value) : Prop where
  win : Win W g n kept
  cm : W.cell? ⟨g, 33, none⟩ = some (.map (some m))
  cf : W.cell? ⟨g, 34, none⟩ = some fv
  ff : W.frozen? ⟨g, 34, none⟩ = false
  st : SetM W m N S
  fr : W.ownsRow 0 9 1 fv F.length (tv_ F)
  fg : fv.ownBlock ≠ some g
theorem row_same' {w w' : World} {B : Nat} {t : TypeId} {v : Value} {n : Nat} {xs : List Value} (h : w.ownsRow B t 1 v n xs) (e : ∀ k, v.ownBlock = some k → w'.heap[k]? = w.heap[k]?) : w'.ownsRow B t 1 v n xs := by
  obtain ⟨h1, h2 | ⟨g, cap, cur, hv, hb, hg, r⟩⟩ := h
  · exact ⟨h1, .inl h2⟩
  · exact ⟨h1, .inr ⟨g, cap, cur, hv, hb, (e g (by rw [hv]; rfl)).trans hg, r⟩⟩
theorem row_cells {w : World} {B : Nat} {t : TypeId} {v : Value} {n : Nat} {xs : List Value} (h : w.ownsRow B t 1 v n xs) (k : Nat) (hk : v.ownBlock = some k) : ∃ cur, w.heap[k]? = some (.cells cur t (0, 0)) := by
  obtain ⟨h1, h2 | ⟨g, cap, cur, hv, hb, hg, r⟩⟩ := h
  · rw [h2.1] at hk; cases hk
  · rw [hv] at hk
    obtain rfl := Option.some.inj hk
    exact ⟨cur, hg⟩
theorem SM.lt {W : World} {g n : Nat} {kept : List UInt8} {m N : Nat} {S F : List (List UInt8)} {fv : Value} (h : SM W g n kept m N S F fv) : g < W.heap.size := h.win.lt
theorem SM.apart {W : World} {g n : Nat} {kept : List UInt8} {m N : Nat} {S F : List (List UInt8)} {fv : Value} (h : SM W g n kept m N S F fv) : m ≠ g ∧ fv.ownBlock ≠ some m := by
  obtain ⟨es, cl, he⟩ := h.st.isMap
  refine ⟨fun e => ?_, fun e => ?_⟩
  · subst e
    have := h.cm
    simp [World.cell?, he] at this
  · obtain ⟨cur, hc⟩ := row_cells h.fr m e
    rw [hc] at he; cases he
theorem SM.same {W W' : World} {g n : Nat} {kept : List UInt8} {m N : Nat} {S F : List (List UInt8)} {fv : Value} (h : SM W g n kept m N S F fv) (e : W'.heap[g]? = W.heap[g]?) (em : W'.heap[m]? = W.heap[m]?) (ef : ∀ k, fv.ownBlock = some k → W'.heap[k]? = W.heap[k]?) : SM W' g n kept m N S F fv := by
  have c : ∀ i, W'.cell? ⟨g, i, none⟩ = W.cell? ⟨g, i, none⟩ := fun i => World.cell?_of_block (w := W) (w' := W') (a := ⟨g, i, none⟩) e
  have fz : ∀ i, W'.frozen? ⟨g, i, none⟩ = W.frozen? ⟨g, i, none⟩ := fun i => World.frozen?_of_block (w := W) (w' := W') (a := ⟨g, i, none⟩) e
  exact ⟨h.win.same e, (c _).trans h.cm, (c _).trans h.cf, (fz _).trans h.ff, h.st.same em, row_same' h.fr ef, h.fg⟩
theorem SM.below {W W' : World} {g n : Nat} {kept : List UInt8} {m N : Nat} {S F : List (List UInt8)} {fv : Value} (h : SM W g n kept m N S F fv) (b : Below W.heap.size W W') : SM W' g n kept m N S F fv :=
  h.same (b.block _ h.lt) (b.block _ h.st.lt) (fun k hk => by
    obtain ⟨cur, hc⟩ := row_cells h.fr k hk
    exact b.block k (Array.getElem?_eq_some_iff.1 hc).1)

structure KS (g m : Nat) (pb : Option Nat) (a b : World) : Prop where
  os : b.os = a.os
  tape : b.tape = a.tape
  output : b.output = a.output
  size : a.heap.size ≤ b.heap.size
  block : ∀ k, k < a.heap.size → k ≠ g → k ≠ m → some k ≠ pb → b.heap[k]? = a.heap[k]?
theorem KS.refl (g m : Nat) (pb : Option Nat) (a : World) : KS g m pb a a := ⟨rfl, rfl, rfl, Nat.le_refl _, fun _ _ _ _ _ => rfl⟩
theorem KS.grown {g m : Nat} {pb r : Option Nat} {a b c : World} (h : KS g m pb a b) (k : b.grownBy c r) (hr : ∀ j, r = some j → j = g ∨ j = m ∨ some j = pb ∨ a.heap.size ≤ j) : KS g m pb a c :=
  ⟨k.os.trans h.os, k.tape.trans h.tape, k.output.trans h.output, Nat.le_trans h.size k.size, fun i h1 h2 h3 h4 => (k.block i (Nat.lt_of_lt_of_le h1 h.size) (fun e => by rcases hr i e.symm with q | q | q | q; exact h2 q; exact h3 q; exact h4 q; omega)).trans (h.block i h1 h2 h3 h4)⟩
theorem KS.below {g m B : Nat} {pb : Option Nat} {a b c : World} (h : KS g m pb a b) (k : Below B b c) (hB : a.heap.size ≤ B) : KS g m pb a c :=
  ⟨k.os.trans h.os, k.tape.trans h.tape, k.output.trans h.output, Nat.le_trans h.size k.size, fun i h1 h2 h3 h4 => (k.block i (by omega)).trans (h.block i h1 h2 h3 h4)⟩

theorem SM.found {W W1 W2 : World} {g n : Nat} {kept l : List UInt8} {m N : Nat} {S F : List (List UInt8)} {fv fv' : Value} (h : SM W g n kept m N S F fv) (b : Below W.heap.size W W1) (G : W1.grownBy W2 fv.ownBlock) (own : W2.ownsRow 0 9 1 fv' (F ++ [l]).length (tv_ (F ++ [l]))) (hb : fv'.ownBlock = fv.ownBlock ∨ fv'.ownBlock = some W1.heap.size) :
    SM (W2.setCell ⟨g, 34, none⟩ fv') g n kept m N S (F ++ [l]) fv' ∧ W2.cell? ⟨g, 34, none⟩ = some fv ∧ W2.frozen? ⟨g, 34, none⟩ = false := by
  have h1 := h.below b
  have lg := h1.lt
  have lm := h1.st.lt
  have ap := h1.apart
  have eg : W2.heap[g]? = W1.heap[g]? := G.block g lg (fun e => h1.fg e.symm)
  have em : W2.heap[m]? = W1.heap[m]? := G.block m lm (fun e => ap.2 e.symm)
  have e3 : ∀ k, k ≠ g → (W2.setCell ⟨g, 34, none⟩ fv').heap[k]? = W2.heap[k]? := fun k hk => Below.heap_setCell W2 ⟨g, 34, none⟩ fv' k hk
  have c : ∀ i, W2.cell? ⟨g, i, none⟩ = W1.cell? ⟨g, i, none⟩ := fun i => World.cell?_of_block (w := W1) (w' := W2) (a := ⟨g, i, none⟩) eg
  have c34 : W2.cell? ⟨g, 34, none⟩ = some fv := (c 34).trans h1.cf
  have f34 : W2.frozen? ⟨g, 34, none⟩ = false := (World.frozen?_of_block (w := W1) (w' := W2) (a := ⟨g, 34, none⟩) eg).trans h1.ff
  have co : ∀ i, i ≠ 34 → (W2.setCell ⟨g, 34, none⟩ fv').cell? ⟨g, i, none⟩ = W1.cell? ⟨g, i, none⟩ := fun i hi => (World.cell?_setCell_other _ _ _ _ (by intro q; injection q with _ q; exact hi q.symm)).trans (c i)
  have fo : ∀ i, (W2.setCell ⟨g, 34, none⟩ fv').frozen? ⟨g, i, none⟩ = W1.frozen? ⟨g, i, none⟩ := fun i => by rw [World.frozen?_setCell]; exact World.frozen?_of_block (w := W1) (w' := W2) (a := ⟨g, i, none⟩) eg
  have hw := h1.win
  have hsh := hw.sh
  have pg' : fv'.ownBlock ≠ some g := fun q => by
    rcases hb with r | r
    · rw [r] at q; exact h1.fg q
    · rw [r] at q; have := Option.some.inj q; omega
  exact ⟨⟨⟨(co 0 (by omega)).trans hw.c0, (fo 0).trans hw.f0, (co 1 (by omega)).trans hw.c1, (fo 1).trans hw.f1, fun i b hb => (co _ (by have := (List.getElem?_eq_some_iff.1 hb).1; omega)).trans (hw.kp i b hb), fun i hi => by rw [co _ (by omega)]; exact hw.rm i hi, fun i hi => (fo _).trans (hw.fr i hi), hsh⟩, (co 33 (by omega)).trans h1.cm, World.cell?_setCell_same _ _ _ c34, by rw [World.frozen?_setCell]; exact f34, h1.st.same ((e3 m ap.1).trans em), row_same' own (fun k hk => e3 k (fun q => pg' (by rw [← q]; exact hk))), pg'⟩, c34, f34⟩
theorem und22 : Tryd.prog.underlying 36 = some (.slice 9) := by kernel_rfl
theorem info9 : (Tryd.prog.info? 9).map (fun i => (i.zero, i.size, i.bytes)) = some (some (.string ⟨#[]⟩), 1, 16) := by kernel_rfl
/-- append(found, hash). -/
theorem app_found (W : World) (xp : Option Addr) (np cp : Nat) (F : List (List UInt8)) (l : List UInt8) (hr : W.ownsRow 0 9 1 (.slice xp np cp) F.length (tv_ F)) (hl : F.length ≤ 268435456) :
    ∃ xq nq cq W2, (Builtin.append_ #[36, 36] 36 #[.slice xp np cp, .slice (some ⟨W.heap.size, 0, none⟩) 1 1]).run Tryd.prog (W.alloc (.cells #[.string (ba l)] 9)) = .ok (.slice xq nq cq) W2 ∧ W2.ownsRow 0 9 1 (.slice xq nq cq) (F ++ [l]).length (tv_ (F ++ [l])) ∧ (W.alloc (.cells #[.string (ba l)] 9)).grownBy W2 (Value.slice xp np cp).ownBlock ∧ ((Value.slice xq nq cq).ownBlock = (Value.slice xp np cp).ownBlock ∨ (Value.slice xq nq cq).ownBlock = some (W.alloc (.cells #[.string (ba l)] 9)).heap.size) := by
  obtain ⟨i0, hi, hz0, hz1, hz2⟩ := info_parts info9
  obtain ⟨v', w2, h1, h2, h3, _, h5⟩ := run_append_own_at (P := Tryd.prog) (W.alloc (.cells #[.string (ba l)] 9)) 0 36 36 9 i0 (.string ⟨#[]⟩) 1 16 und22 hi hz0 hz1 hz2 rfl (by decide) (.slice xp np cp) F.length (tv_ F) (hr.alloc _) ⟨W.heap.size, 0, none⟩ 1 1 [.string (ba l)] rfl (fun j u hj =>
      match j, hj with
      | 0, hj => by simp at hj; subst hj; exact (World.cell?_alloc_new W _ _ 0).trans rfl) (by intro u hu; simp at hu; subst hu; rfl) (by unfold maxLen; omega) (by omega) (Nat.zero_le _)
  obtain ⟨xq, cq, rfl⟩ := slice_of_row h2
  refine ⟨xq, _, cq, w2, h1, ?_, h3, h5⟩
  rw [List.length_append, show tv_ (F ++ [l]) = tv_ F ++ [.string (ba l)] by unfold tv_; simp]
  exact h2

set_option maxRecDepth 100000 in
set_option maxHeartbeats 8000000 in
theorem note_any (g n : Nat) (kept : List UInt8) (m N : Nat) (S F : List (List UInt8)) (fv : Value) (x : Option Addr) (c : Nat) (l : List UInt8) (hl : l.length = 32) (w : World) (hS : SM w g n kept m N S F fv) (hF : F.length ≤ 268435456) (hc : ∀ W, Below w.heap.size w W → (convert 38 9 (.slice x 32 c)).run Tryd.prog W = .ok (.string (ba l)) W) :
    Calls Tryd.prog 23 #[.pointer (some ⟨g, 0, none⟩), .slice x 32 c] w fun e w' => e = .returned (.tuple #[]) ∧ ((l ∉ S ∧ Below w.heap.size w w') ∨ (l ∈ S ∧ ∃ S' fv', (∀ h, h ∈ S' ↔ h ∈ S ∧ h ≠ l) ∧ SM w' g n kept m N S' (F ++ [l]) fv' ∧ KS g m fv.ownBlock w w' ∧ (fv'.ownBlock = fv.ownBlock ∨ ∀ k, fv'.ownBlock = some k → w.heap.size ≤ k))) := by
  have HS : Hid (SM w g n kept m N S F fv) := hS
  have HC : Hid (∀ W, Below w.heap.size w W → (convert 38 9 (.slice x 32 c)).run Tryd.prog W = .ok (.string (ba l)) W) := hc
  have hsz : (ba l).size ≤ maxLen := by rw [ba_size]; unfold maxLen; omega
  have HL : Hid (∃ b : Bool, (b = true ↔ l ∈ S) ∧ ∀ W, SetM W m N S → (Instr.lookup 51 (.map (some m)) (.string (ba l)) true).run Tryd.prog W = .ok (.tuple #[.agg #[], .bool b]) W) := by
    obtain ⟨b, hb, hm⟩ := hS.st.look (ba l) hsz
    refine ⟨b, hm, fun W hW => ?_⟩
    obtain ⟨b', hb', hm'⟩ := hW.look (ba l) hsz
    have : b' = b := by
      have h1 : b' = true ↔ b = true := hm'.trans hm.symm
      cases b <;> cases b' <;> simp_all
    rw [this] at hb'
    exact hb'
  obtain ⟨b, hb, hlk⟩ := HL.out
  have HK : Hid (∀ W, SetM W m N S → (Instr.lookup 51 (.map (some m)) (.string (ba l)) true).run Tryd.prog W = .ok (.tuple #[.agg #[], .bool b]) W) := hlk
  have HB : Hid (b = true ↔ l ∈ S) := hb
  clear hS hc HL hlk hb
  go_enter Tryd.func23, Tryd.ntmps23
  go_upto_region 0 with fail
  have S1 : Hid _ := HS.out.below (Below.refl _ _).drew
  refine wp_region_held_drew (S := fun V => V.cell? ⟨g, 33, none⟩ = some (.map (some m)) ∧ (convert 38 9 (.slice x 32 c)).run Tryd.prog V = .ok (.string (ba l)) V ∧ (Instr.lookup 51 (.map (some m)) (.string (ba l)) true).run Tryd.prog V = .ok (.tuple #[.agg #[], .bool b]) V) (by kernel_rfl) ⟨S1.out.cm, HC.out _ (Below.refl _ _).drew, HK.out _ S1.out.st⟩ (fun hH => ?_)
  -- @R0
  refine wpAnyH_take (i := 0) (oi := { dst := some 8, op := Op.move (Operand.tmp 0), type := 33, pos := "scan.go:42", after := #[], guard := none }) (v := .pointer (some ⟨g, 0, none⟩)) rfl (by kernel_rfl) (by kernel_rfl) (by kernel_rfl) (fun _ _ _ h => h) (Or.inl ⟨by rfl, by intro w _; go_simp⟩) hH ?_
  simp only [Act.put, List.setIfInBounds_toArray, List.set_cons_zero, List.set_cons_succ]
  refine wpAnyH_take (i := 1) (oi := { dst := some 9, op := Op.nilCheck (Operand.tmp 8), type := 0, pos := "scan.go:42", after := #[{ on := 0, ground := Ground.data }], guard := none }) (v := .pointer (some ⟨g, 0, none⟩)) rfl (by kernel_rfl) (by kernel_rfl) (by kernel_rfl) (fun _ _ _ h => h) (Or.inl ⟨by rfl, by intro w _; go_simp⟩) hH ?_
  simp only [Act.put, List.setIfInBounds_toArray, List.set_cons_zero, List.set_cons_succ]
  refine wpAnyH_take (i := 2) (oi := { dst := some 10, op := Op.fieldAddr 56 (Operand.tmp 9) 1, type := 0, pos := "scan.go:42", after := #[{ on := 1, ground := Ground.data }], guard := none }) (v := .pointer (some ⟨g, 33, none⟩)) rfl (by kernel_rfl) (by kernel_rfl) (by kernel_rfl) (fun _ _ _ h => h) (Or.inl ⟨by rfl, by intro w _; go_simp⟩) hH ?_
  simp only [Act.put, List.setIfInBounds_toArray, List.set_cons_zero, List.set_cons_succ]
  refine wpAnyH_take (i := 3) (oi := { dst := some 11, op := Op.load 51 (Operand.tmp 10), type := 51, pos := "scan.go:42", after := #[{ on := 2, ground := Ground.data }], guard := none }) (v := .map (some m)) rfl (by kernel_rfl) (by kernel_rfl) (by kernel_rfl) (fun _ _ _ h => h) (Or.inl ⟨by rfl, by intro w' s'; have q0 := s'.1; go_simp⟩) hH ?_
  simp only [Act.put, List.setIfInBounds_toArray, List.set_cons_zero, List.set_cons_succ]
  refine wpAnyH_take (i := 4) (oi := { dst := some 12, op := Op.move (Operand.tmp 1), type := 38, pos := "scan.go:42", after := #[], guard := none }) (v := .slice x 32 c) rfl (by kernel_rfl) (by kernel_rfl) (by kernel_rfl) (fun _ _ _ h => h) (Or.inl ⟨by rfl, by intro w _; go_simp⟩) hH ?_
  simp only [Act.put, List.setIfInBounds_toArray, List.set_cons_zero, List.set_cons_succ]
  refine wpAnyH_take (i := 5) (oi := { dst := some 13, op := Op.convert 38 9 (Operand.tmp 12), type := 9, pos := "scan.go:42", after := #[{ on := 4, ground := Ground.data }], guard := none }) (v := .string (ba l)) rfl (by kernel_rfl) (by kernel_rfl) (by kernel_rfl) (fun _ _ _ h => h) (Or.inl ⟨by rfl, by intro w' s'; have q0 := s'.2.1; go_simp⟩) hH ?_
  simp only [Act.put, List.setIfInBounds_toArray, List.set_cons_zero, List.set_cons_succ]
  refine wpAnyH_take (i := 6) (oi := { dst := some 14, op := Op.lookup 51 (Operand.tmp 11) (Operand.tmp 13) true, type := 88, pos := "scan.go:42", after := #[{ on := 3, ground := Ground.data }, { on := 5, ground := Ground.data }], guard := none }) (v := .tuple #[.agg #[], .bool b]) rfl (by kernel_rfl) (by kernel_rfl) (by kernel_rfl) (fun _ _ _ h => h) (Or.inl ⟨by rfl, by intro w' s'; have q0 := s'.2.2; go_simp⟩) hH ?_
  simp only [Act.put, List.setIfInBounds_toArray, List.set_cons_zero, List.set_cons_succ]
  refine wpAnyH_take (i := 7) (oi := { dst := some 7, op := Op.move (Operand.tmp 14), type := 88, pos := "scan.go:42", after := #[{ on := 6, ground := Ground.data }], guard := none }) (v := .tuple #[.agg #[], .bool b]) rfl (by kernel_rfl) (by kernel_rfl) (by kernel_rfl) (fun _ _ _ h => h) (Or.inl ⟨by rfl, by intro w _; go_simp⟩) hH ?_
  simp only [Act.put, List.setIfInBounds_toArray, List.set_cons_zero, List.set_cons_succ]
  refine wpAnyH_take (i := 8) (oi := { dst := some 15, op := Op.extract (Operand.tmp 7) 0, type := 58, pos := "scan.go:42", after := #[{ on := 7, ground := Ground.data }], guard := none }) (v := .agg #[]) rfl (by kernel_rfl) (by kernel_rfl) (by kernel_rfl) (fun _ _ _ h => h) (Or.inl ⟨by rfl, by intro w _; go_simp⟩) hH ?_
  simp only [Act.put, List.setIfInBounds_toArray, List.set_cons_zero, List.set_cons_succ]
  refine wpAnyH_take (i := 9) (oi := { dst := some 16, op := Op.extract (Operand.tmp 7) 1, type := 4, pos := "scan.go:42", after := #[{ on := 7, ground := Ground.data }, { on := 11, ground := Ground.gcOnly Departure.lateStores }], guard := none }) (v := .bool b) rfl (by kernel_rfl) (by kernel_rfl) (by kernel_rfl) (fun _ _ _ h => h) (Or.inl ⟨by rfl, by intro w _; go_simp⟩) hH ?_
  simp only [Act.put, List.setIfInBounds_toArray, List.set_cons_zero, List.set_cons_succ]
  have bA : Below w.heap.size w (w.drew.alloc (.cells #[] 58)) := (Below.refl _ _).drew.alloc (Nat.le_refl _) _
  have SA : Hid _ := HS.out.below bA
  have hHA : (w.drew.alloc (.cells #[] 58)).cell? ⟨g, 33, none⟩ = some (.map (some m)) ∧ (convert 38 9 (.slice x 32 c)).run Tryd.prog (w.drew.alloc (.cells #[] 58)) = .ok (.string (ba l)) (w.drew.alloc (.cells #[] 58)) ∧ (Instr.lookup 51 (.map (some m)) (.string (ba l)) true).run Tryd.prog (w.drew.alloc (.cells #[] 58)) = .ok (.tuple #[.agg #[], .bool b]) (w.drew.alloc (.cells #[] 58)) := ⟨SA.out.cm, HC.out _ bA, HK.out _ SA.out.st⟩
  refine wpAnyH_ready (rs := [10]) (by kernel_rfl) (by decide) (AllReadyH.cons rfl (fun K hK => ?_) AllReadyH.nil)
  rw [if_pos (by rfl)]
  go_simp
  try simp only [World.alloc_drew]
  refine hK.out _ _ hHA (fun _ => ?_)
  clear hK K
  try simp only [Act.put, List.setIfInBounds_toArray, List.set_cons_zero, List.set_cons_succ]
  refine wpAnyH_ready (rs := [11]) (by kernel_rfl) (by decide) (AllReadyH.cons rfl (fun K hK => ?_) AllReadyH.nil)
  rw [if_pos (by rfl)]
  go_simp
  refine hK.out _ _ hHA (fun _ => ?_)
  clear hK K
  try simp only [Act.put, List.setIfInBounds_toArray, List.set_cons_zero, List.set_cons_succ]
  refine wpAnyH_ready (rs := [12]) (by kernel_rfl) (by decide) (AllReadyH.cons rfl (fun K hK => ?_) AllReadyH.nil)
  rw [if_pos (by rfl)]
  go_simp
  refine hK.out _ _ hHA (fun _ => ?_)
  clear hK K
  refine wpAnyH_done (by kernel_rfl) ?_ _
  clear hHA hH S1
  -- @E0
  have bD : Below w.heap.size w (w.alloc (.cells #[] 58)).drew := bA
  have SD : Hid (SM (w.alloc (.cells #[] 58)).drew g n kept m N S F fv) := SA.out
  clear bA SA
  have HCD : Hid (Below w.heap.size w (w.alloc (.cells #[] 58)).drew) := bD
  have cvD := HC.out _ bD
  clear bD
  generalize (w.alloc (.cells #[] 58)).drew = w1 at *
  cases b with
  | false =>
    have hno : l ∉ S := fun h => by have := HB.out.2 h; cases this
    go_wp2
    exact bodyPost_ret (v := .tuple #[]) (by simp [results, Tryd.results23]) rfl ⟨rfl, .inl ⟨hno, HCD.out⟩⟩
  | true =>
    have hyes : Hid (l ∈ S) := HB.out.1 rfl
    have c33 := SD.out.cm
    have c34 := SD.out.cf
    obtain ⟨w2, S', hdel, st2, hS', ht⟩ := SD.out.st.del (ba l) hsz 0
    have G2 := ht.grown
    have eg : w2.heap[g]? = w1.heap[g]? := G2.block g SD.out.lt (fun e => SD.out.apart.1 (Option.some.inj e).symm)
    have S2 : Hid (SM w2 g n kept m N S' F fv) := by
      have h := SD.out
      have c : ∀ i, w2.cell? ⟨g, i, none⟩ = w1.cell? ⟨g, i, none⟩ := fun i => World.cell?_of_block (w := w1) (w' := w2) (a := ⟨g, i, none⟩) eg
      exact ⟨h.win.same eg, (c _).trans h.cm, (c _).trans h.cf, (World.frozen?_of_block (w := w1) (w' := w2) (a := ⟨g, 34, none⟩) eg).trans h.ff, st2, row_same' h.fr (fun k hk => by
        obtain ⟨cur, hc⟩ := row_cells h.fr k hk
        exact G2.block k (Array.getElem?_eq_some_iff.1 hc).1 (fun e => h.apart.2 (by rw [hk, Option.some.inj e]))), h.fg⟩
    have K2 : Hid (KS g m fv.ownBlock w w2) := ((KS.refl g m fv.ownBlock w).below HCD.out (Nat.le_refl _)).grown G2 (fun j hj => .inr (.inl (Option.some.inj hj).symm))
    have HS' : Hid (∀ h, h ∈ S' ↔ h ∈ S ∧ h ≠ l) := hS'
    clear st2 hS' ht G2 eg
    have d34 := S2.out.cf
    have SD2 : Hid _ := S2.out
    have KD2 : Hid _ := K2.out
    clear d34 S2 K2
    obtain ⟨xp, cp, hfv⟩ := slice_of_row SD2.out.fr
    have d34 : w2.cell? ⟨g, 34, none⟩ = some (.slice xp F.length cp) := by rw [← hfv]; exact SD2.out.cf
    have bW : Below w2.heap.size w2 (w2.alloc (.cells #[.string (ba l)] 9)) := (Below.refl _ _).alloc (Nat.le_refl _) _
    have d34a : (w2.alloc (.cells #[.string (ba l)] 9)).cell? ⟨g, 34, none⟩ = some (.slice xp F.length cp) := (bW.cell (p := ⟨g, 34, none⟩) SD2.out.lt).trans d34
    obtain ⟨xq, nq, cq, w3, hap, own3, G3, ho3⟩ := app_found w2 xp F.length cp F l (by rw [← hfv]; exact SD2.out.fr) hF
    obtain ⟨S4, y34, z34⟩ := SD2.out.found (fv' := .slice xq nq cq) bW (by rw [hfv]; exact G3) own3 (by rw [hfv]; exact ho3)
    rw [hfv] at y34
    have HFV : Hid (fv = .slice xp F.length cp) := hfv
    have K3 : Hid (KS g m fv.ownBlock w (w3.setCell ⟨g, 34, none⟩ (.slice xq nq cq))) := ((KD2.out.below bW (by exact KD2.out.size)).grown G3 (fun j hj => .inr (.inr (.inl (by rw [hfv]; exact hj.symm))))).grown (gb_setC w3 g 34 _) (fun j hj => .inl (Option.some.inj hj).symm)
    have S5 : Hid _ := S4
    have hO : Hid ((Value.slice xq nq cq).ownBlock = fv.ownBlock ∨ ∀ k, (Value.slice xq nq cq).ownBlock = some k → w.heap.size ≤ k) := by
      rcases ho3 with q | q
      · left; rw [q, hfv]
      · right
        intro k hk
        rw [q] at hk
        have := Option.some.inj hk
        have h2 := KD2.out.size
        have h3 := bW.size
        omega
    clear S4 G3 ho3 own3 bW KD2 hfv
    have HAP : Hid _ := hap
    clear hap
    go_wp2_with (at_builtin; refine wpList_plain rfl fun _ hK => operWp_app 36 36 (.tmp 30) (.tmp 32) rfl _ _ _ _ (by rfl) (by rfl) HAP.out (hK _ _ ?_))
    go_end0
    exact ⟨rfl, .inr ⟨hyes.out, S', HS'.out, _, S5.out, K3.out, hO.out⟩⟩

end Sc
end Go.Proofs.YtojefckhefanhabDoor
