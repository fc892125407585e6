/- info.readRefs at no references; info.takeLine at the first four lines; walked. -/
import Derived.Test.YtjhbfkckkinfjaaDoorInL
namespace Go.Proofs.YtjhbfkckkinfjaaDoor
open Go.RowKit Go.Shelf

theorem inf_cell_set {w : World} {g i : Nat} {x : Value} (j : Nat) (h : j ≠ i) : (w.setCell ⟨g, i, none⟩ x).cell? ⟨g, j, none⟩ = w.cell? ⟨g, j, none⟩ :=
  World.cell?_setCell_other _ _ _ _ (fun c => h (by injection c with _ c2 _; exact c2.symm))
theorem Inf.setPath {w : World} {g : Nat} {P : ByteArray} {D : Nat → Int} {z : Int} {vr : Value} {F : ByteArray} {vs : Value} (h : Inf w g P D z vr F vs) (q : ByteArray) : Inf (w.setCell ⟨g, 0, none⟩ (.string q)) g q D z vr F vs :=
  ⟨World.cell?_setCell_same _ _ _ h.path, fun j hj => (inf_cell_set _ (by omega)).trans (h.dig j hj), (inf_cell_set _ (by omega)).trans h.size, (inf_cell_set _ (by omega)).trans h.refs, (inf_cell_set _ (by omega)).trans h.from_, (inf_cell_set _ (by omega)).trans h.signs, fun j hj => by rw [World.frozen?_setCell]; exact h.free j hj⟩
theorem Inf.setSize {w : World} {g : Nat} {P : ByteArray} {D : Nat → Int} {z : Int} {vr : Value} {F : ByteArray} {vs : Value} (h : Inf w g P D z vr F vs) (q : Int) : Inf (w.setCell ⟨g, 33, none⟩ (.int .i64 q)) g P D q vr F vs :=
  ⟨(inf_cell_set _ (by omega)).trans h.path, fun j hj => (inf_cell_set _ (by omega)).trans (h.dig j hj), World.cell?_setCell_same _ _ _ h.size, (inf_cell_set _ (by omega)).trans h.refs, (inf_cell_set _ (by omega)).trans h.from_, (inf_cell_set _ (by omega)).trans h.signs, fun j hj => by rw [World.frozen?_setCell]; exact h.free j hj⟩
theorem Inf.setRefs {w : World} {g : Nat} {P : ByteArray} {D : Nat → Int} {z : Int} {vr : Value} {F : ByteArray} {vs : Value} (h : Inf w g P D z vr F vs) (q : Value) : Inf (w.setCell ⟨g, 34, none⟩ q) g P D z q F vs :=
  ⟨(inf_cell_set _ (by omega)).trans h.path, fun j hj => (inf_cell_set _ (by omega)).trans (h.dig j hj), (inf_cell_set _ (by omega)).trans h.size, World.cell?_setCell_same _ _ _ h.refs, (inf_cell_set _ (by omega)).trans h.from_, (inf_cell_set _ (by omega)).trans h.signs, fun j hj => by rw [World.frozen?_setCell]; exact h.free j hj⟩
theorem Inf.setFrom {w : World} {g : Nat} {P : ByteArray} {D : Nat → Int} {z : Int} {vr : Value} {F : ByteArray} {vs : Value} (h : Inf w g P D z vr F vs) (q : ByteArray) : Inf (w.setCell ⟨g, 35, none⟩ (.string q)) g P D z vr q vs :=
  ⟨(inf_cell_set _ (by omega)).trans h.path, fun j hj => (inf_cell_set _ (by omega)).trans (h.dig j hj), (inf_cell_set _ (by omega)).trans h.size, (inf_cell_set _ (by omega)).trans h.refs, World.cell?_setCell_same _ _ _ h.from_, (inf_cell_set _ (by omega)).trans h.signs, fun j hj => by rw [World.frozen?_setCell]; exact h.free j hj⟩
theorem Inf.setSigns {w : World} {g : Nat} {P : ByteArray} {D : Nat → Int} {z : Int} {vr : Value} {F : ByteArray} {vs : Value} (h : Inf w g P D z vr F vs) (q : Value) : Inf (w.setCell ⟨g, 36, none⟩ q) g P D z vr F q :=
  ⟨(inf_cell_set _ (by omega)).trans h.path, fun j hj => (inf_cell_set _ (by omega)).trans (h.dig j hj), (inf_cell_set _ (by omega)).trans h.size, (inf_cell_set _ (by omega)).trans h.refs, (inf_cell_set _ (by omega)).trans h.from_, World.cell?_setCell_same _ _ _ h.signs, fun j hj => by rw [World.frozen?_setCell]; exact h.free j hj⟩
theorem Inf.there {w : World} {g : Nat} {P : ByteArray} {D : Nat → Int} {z : Int} {vr : Value} {F : ByteArray} {vs : Value} (h : Inf w g P D z vr F vs) : w.there g 1 32 := fun j hj => ⟨by rw [h.dig j hj]; rfl, h.free (1 + j) (by omega)⟩
theorem Inf.setDig {w : World} {g : Nat} {P : ByteArray} {D : Nat → Int} {z : Int} {vr : Value} {F : ByteArray} {vs : Value} (h : Inf w g P D z vr F vs) (E : Nat → Int) : Inf (w.setCells g 1 (cs .u8 32 E).toList) g P E z vr F vs := by
  have hl : (cs .u8 32 E).toList.length = 32 := by rw [Array.length_toList, cs_size]
  have o : ∀ j, (j < 1 ∨ 33 ≤ j) → (w.setCells g 1 (cs .u8 32 E).toList).cell? ⟨g, j, none⟩ = w.cell? ⟨g, j, none⟩ := fun j hj => World.cell?_setCells_out g _ 1 w _ (fun _ _ => by rw [hl]; rcases hj with q | q; exact Or.inl q; exact Or.inr (by show 1 + 32 ≤ j; omega))
  refine ⟨(o _ (by omega)).trans h.path, fun j hj => ?_, (o _ (by omega)).trans h.size, (o _ (by omega)).trans h.refs, (o _ (by omega)).trans h.from_, (o _ (by omega)).trans h.signs, fun j hj => by rw [World.frozen?_setCells]; exact h.free j hj⟩
  have := World.cell?_setCells_in g (cs .u8 32 E).toList 1 w (fun i hi => by rw [hl] at hi; rw [h.dig i hi]; rfl) j (by rw [hl]; exact hj)
  rw [this]
  simp [cs]

set_option maxRecDepth 100000 in
set_option maxHeartbeats 1000000 in
theorem tl0_any (g : Nat) (l : ByteArray) (w : World) {P : ByteArray} {D : Nat → Int} {z : Int} {vr : Value} {F : ByteArray} {vs : Value} (h : Inf w g P D z vr F vs) :
    Calls Tryd.prog 22 #[.pointer (some ⟨g, 0, none⟩), .int .i64 0, .string l] w fun e w' => e = .returned (.int .i64 (rpC l hdP)) ∧ Inf w' g (rpS l hdP) D z vr F vs ∧ Below g w w' := by
  have C0 := rdP_any l hdP w
  generalize rpC l hdP = c at C0 ⊢
  generalize rpS l hdP = s at C0 ⊢
  go_enter Tryd.func22, Tryd.ntmps22
  rw [show (⟨#[80, 97, 116, 104, 58, 32]⟩ : ByteArray) = hdP from rfl]
  go_wp2_with fail
  refine C0.mono ?_
  rintro e w1 ⟨rfl, b1⟩
  have I1 := h.below b1 h.lt
  have c0 := I1.path
  have f0 := I1.free 0 (by omega)
  have I2 : Hid (Inf (w1.setCell ⟨g, 0, none⟩ (.string s)) g s D z vr F vs) := I1.setPath s
  have B2 : Hid (Below g w (w1.setCell ⟨g, 0, none⟩ (.string s))) := (b1.mono (Nat.le_of_lt h.lt)).setCell (Nat.le_refl _) _
  clear b1 C0 I1
  go_wp2
  try rw [Exit.noGoto_ret]
  go_ret
  exact ⟨rfl, I2.out, B2.out⟩

set_option maxRecDepth 100000 in
set_option maxHeartbeats 1000000 in
theorem tl1_any (g : Nat) (l : ByteArray) (w : World) (hl : l.size ≤ 281474976710656) {P : ByteArray} {D : Nat → Int} {z : Int} {vr : Value} {F : ByteArray} {vs : Value} (h : Inf w g P D z vr F vs) :
    Calls Tryd.prog 22 #[.pointer (some ⟨g, 0, none⟩), .int .i64 1, .string l] w fun e w' => e = .returned (.int .i64 (rhC l)) ∧ Inf w' g P (rhD l) z vr F vs ∧ Below g w w' := by
  have C0 := rdH_any l w hl
  generalize rhC l = c at C0 ⊢
  generalize rhD l = E at C0 ⊢
  go_enter Tryd.func22, Tryd.ntmps22
  go_wp2_with fail
  refine C0.mono ?_
  rintro e w1 ⟨rfl, b1⟩
  have I1 := h.below b1 h.lt
  have I2 : Hid (Inf (w1.setCells g 1 (cs .u8 32 E).toList) g P E z vr F vs) := I1.setDig E
  have B2 : Hid (Below g w (w1.setCells g 1 (cs .u8 32 E).toList)) := setCells_below g (Nat.le_refl _) _ _ _ _ (b1.mono (Nat.le_of_lt h.lt))
  have HT : Hid (w1.there g 1 32) := I1.there
  have c0 := I1.path
  clear b1 C0 I1
  go_wp2_with (refine wpList_store_mid (by rfl) 23 (.tmp 33) (.tmp 30) (by rfl) g 1 (cs .u8 32 E) (by rfl) (by rfl) (by rw [cs_size]; exact HT.out) (by rw [cs_size]; exact szD32) (cs_all _ _ _) ?_; refine Hid.out ?_)
  unfold Hid
  generalize w1.setCells g 1 (cs .u8 32 E).toList = w2 at I2 B2 ⊢
  go_wp2
  try rw [Exit.noGoto_ret]
  go_ret
  exact ⟨rfl, I2.out, B2.out⟩

set_option maxRecDepth 100000 in
set_option maxHeartbeats 1000000 in
theorem tl2_any (g : Nat) (l : ByteArray) (w : World) (hl : l.size ≤ 281474976710656) {P : ByteArray} {D : Nat → Int} {z : Int} {vr : Value} {F : ByteArray} {vs : Value} (h : Inf w g P D z vr F vs) :
    Calls Tryd.prog 22 #[.pointer (some ⟨g, 0, none⟩), .int .i64 2, .string l] w fun e w' => e = .returned (.int .i64 (rzC l)) ∧ Inf w' g P D (rzV l) vr F vs ∧ Below g w w' := by
  have C0 := rdZ_any l w hl
  generalize rzC l = c at C0 ⊢
  generalize rzV l = q at C0 ⊢
  go_enter Tryd.func22, Tryd.ntmps22
  go_wp2_with fail
  refine C0.mono ?_
  rintro e w1 ⟨rfl, rfl⟩
  have c0 := h.size
  have f0 := h.free 33 (by omega)
  have I2 : Hid (Inf (w1.setCell ⟨g, 33, none⟩ (.int .i64 q)) g P D q vr F vs) := h.setSize q
  have B2 : Hid (Below g w1 (w1.setCell ⟨g, 33, none⟩ (.int .i64 q))) := (Below.refl g w1).setCell (p := ⟨g, 33, none⟩) (Nat.le_refl _) _
  clear C0
  go_wp2
  try rw [Exit.noGoto_ret]
  go_ret
  exact ⟨rfl, I2.out, B2.out⟩

set_option maxRecDepth 100000 in
set_option maxHeartbeats 1000000 in
theorem rdR_empty (w : World) :
    Calls Tryd.prog 37 #[.string hdR] w fun e w' => e = .returned (.tuple #[.slice none 0 0, .int .i64 0]) ∧ w' = w := by
  have C0 := cutQ_any hdR hdR w
  rw [show cpQ hdR hdR = ⟨#[]⟩ from by decide +kernel, show hpQ hdR hdR = true from by decide +kernel] at C0
  go_enter Tryd.func37, Tryd.ntmps37
  rw [show (⟨#[82, 101, 102, 115, 58]⟩ : ByteArray) = hdR from rfl]
  go_wp2_with fail
  refine C0.mono ?_
  rintro e w1 ⟨rfl, rfl⟩
  go_wp2
  go_ret2
  exact ⟨rfl, rfl⟩

set_option maxRecDepth 100000 in
set_option maxHeartbeats 1000000 in
theorem tl3_empty (g : Nat) (w : World) {P : ByteArray} {D : Nat → Int} {z : Int} {vr : Value} {F : ByteArray} {vs : Value} (h : Inf w g P D z vr F vs) :
    Calls Tryd.prog 22 #[.pointer (some ⟨g, 0, none⟩), .int .i64 3, .string hdR] w fun e w' => e = .returned (.int .i64 0) ∧ Inf w' g P D z (.slice none 0 0) F vs ∧ Below g w w' := by
  have C0 := rdR_empty w
  have c0 := h.refs
  have f0 := h.free 34 (by omega)
  have I2 : Hid (Inf (w.setCell ⟨g, 34, none⟩ (.slice none 0 0)) g P D z (.slice none 0 0) F vs) := h.setRefs (.slice none 0 0)
  have B2 : Hid (Below g w (w.setCell ⟨g, 34, none⟩ (.slice none 0 0))) := (Below.refl g w).setCell (p := ⟨g, 34, none⟩) (Nat.le_refl _) _
  go_enter Tryd.func22, Tryd.ntmps22
  go_wp2_with fail
  refine C0.mono ?_
  rintro e w1 ⟨rfl, rfl⟩
  clear C0
  go_wp2
  try rw [Exit.noGoto_ret]
  go_ret
  exact ⟨rfl, I2.out, B2.out⟩

end Go.Proofs.YtjhbfkckkinfjaaDoor
