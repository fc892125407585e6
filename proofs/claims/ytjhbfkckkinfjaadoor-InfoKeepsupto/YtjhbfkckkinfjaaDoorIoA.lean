/- info.readRefs, all; takeLine at the later lines; walked. -/
import Derived.Test.YtjhbfkckkinfjaaDoorInZ
namespace Go.Proofs.YtjhbfkckkinfjaaDoor
open Go.RowKit Go.Shelf

/-- The references of a line. -/
def rrL (l : ByteArray) : List ByteArray := if (cpQ l hdR).size = 0 then [] else (Sq.pcs (rrT l) 1024 0).map (fun x => dirR ++ x)
/-- v is a slice of these texts in a block from B on, or nil. -/
def OwnR (w : World) (B : Nat) (v : Value) (R : List ByteArray) : Prop := (v = .slice none 0 0 ∧ R = []) ∨ ∃ b c, v = .slice (some ⟨b, 0, none⟩) R.length c ∧ R.length ≤ c ∧ B ≤ b ∧ 0 < R.length ∧ VRow w b R.length (fun j => .string (Sq.nth R j)) ∧ Blk w b 9 c
theorem OwnR.same {w w' : World} {B : Nat} {v : Value} {R : List ByteArray} (h : OwnR w B v R) (e : ∀ g, v.ownBlock = some g → w'.heap[g]? = w.heap[g]?) : OwnR w' B v R := by
  rcases h with h | ⟨b, c, hv, h1, h2, h3, h4, h5⟩
  · exact Or.inl h
  · exact Or.inr ⟨b, c, hv, h1, h2, h3, h4.same (e b (by rw [hv]; rfl)), h5.same (e b (by rw [hv]; rfl))⟩
theorem OwnR.ge {w : World} {B : Nat} {v : Value} {R : List ByteArray} (h : OwnR w B v R) {g : Nat} (e : v.ownBlock = some g) : B ≤ g ∧ g < w.heap.size := by
  rcases h with ⟨h, _⟩ | ⟨b, c, hv, h1, h2, h3, h4, h5⟩
  · rw [h] at e; cases e
  · rw [hv] at e
    cases e
    exact ⟨h2, h4.lt h3⟩
theorem OwnR.mono {w : World} {B B' : Nat} {v : Value} {R : List ByteArray} (h : OwnR w B v R) (e : B' ≤ B) : OwnR w B' v R := by
  rcases h with h | ⟨b, c, hv, h1, h2, h3, h4, h5⟩
  · exact Or.inl h
  · exact Or.inr ⟨b, c, hv, h1, Nat.le_trans e h2, h3, h4, h5⟩
theorem OwnR.shape {w : World} {B : Nat} {v : Value} {R : List ByteArray} (h : OwnR w B v R) : ∃ x c, v = .slice x R.length c ∧ R.length ≤ c ∧ SIs w x R.length (Sq.nth R) := by
  rcases h with ⟨h, rfl⟩ | ⟨b, c, hv, h1, h2, h3, h4, h5⟩
  · exact ⟨none, 0, h, Nat.le_refl _, fun i hi => absurd hi (by simp)⟩
  · exact ⟨_, c, hv, h1, fun j hj => ⟨_, rfl, by rw [Addr.add_lit, Nat.zero_add]; exact h4.cell j hj⟩⟩
theorem OwnR.slice {w : World} {B : Nat} {v : Value} {R : List ByteArray} {c : Int} (h1 : c ≠ 0 → v = .slice none 0 0) (h2 : c = 0 → OwnR w B v R) : ∃ x n m, v = .slice x n m := by
  by_cases h : c = 0
  · obtain ⟨x, m, hv, _⟩ := (h2 h).shape
    exact ⟨x, _, m, hv⟩
  · exact ⟨_, _, _, h1 h⟩
theorem OwnS.slice {w : World} {B : Nat} {v : Value} {R : List ByteArray} {c : Int} (h1 : c ≠ 0 → v = .slice none 0 0) (h2 : c = 0 → OwnS w B v R) : ∃ x n m, v = .slice x n m := by
  by_cases h : c = 0
  · obtain ⟨x, m, hv, _⟩ := (h2 h).shape
    exact ⟨x, _, m, hv⟩
  · exact ⟨_, _, _, h1 h⟩
theorem nth_map (L : List ByteArray) (j : Nat) (h : j < L.length) : Sq.nth (L.map (fun x => dirR ++ x)) j = dirR ++ Sq.nth L j := by
  unfold Sq.nth
  simp [List.getD, h]
theorem empty_size (r : ByteArray) : r.toList.isEmpty = true ↔ r.size = 0 := empty_iff r

set_option maxRecDepth 100000 in
set_option maxHeartbeats 2000000 in
theorem rdR_any (l : ByteArray) (w : World) (hl : l.size ≤ 140737488351232) :
    Calls Tryd.prog 37 #[.string l] w fun e w' => (∃ v, e = .returned (.tuple #[v, .int .i64 (rrC l)]) ∧ (rrC l ≠ 0 → v = .slice none 0 0) ∧ (rrC l = 0 → OwnR w' w.heap.size v (rrL l))) ∧ Below w.heap.size w w' := by
  have C0 := fun W => cutQ_any l hdR W
  cases hp : hpQ l hdR
  · have hC : Hid (rrC l = 150) := by unfold Hid rrC; simp [hp]
    rw [hC.out]
    rw [hp] at C0
    have C1 := fun W => cutQ_any (cpQ l hdR) blk1 W
    generalize cpQ (cpQ l hdR) blk1 = r1 at C1
    generalize hpQ (cpQ l hdR) blk1 = q1 at C1
    generalize cpQ l hdR = r at C0 C1
    go_enter Tryd.func37, Tryd.ntmps37
    rw [show (⟨#[82, 101, 102, 115, 58]⟩ : ByteArray) = hdR from rfl, show (⟨#[32]⟩ : ByteArray) = blk1 from rfl]
    go_wp2_with fail
    refine (C0 _).mono ?_
    rintro e w1 ⟨rfl, rfl⟩
    go_wp2_with fail
    refine (C1 _).mono ?_
    rintro e w2 ⟨rfl, rfl⟩
    go_wp2
    go_ret2
    exact ⟨⟨_, rfl, fun _ => rfl, fun h => absurd h (by decide)⟩, Below.refl _ _⟩
  · by_cases hz : (cpQ l hdR).size = 0
    · have hC : Hid (rrC l = 0) := by unfold Hid rrC; simp [hp, hz]
      have hR : Hid (rrL l = []) := by unfold Hid rrL; rw [if_pos hz]
      rw [hC.out, hR.out]
      have he : (cpQ l hdR).toList.isEmpty = true := (empty_iff _).2 hz
      rw [hp] at C0
      generalize cpQ l hdR = r at C0 he
      clear hz
      go_enter Tryd.func37, Tryd.ntmps37
      rw [show (⟨#[82, 101, 102, 115, 58]⟩ : ByteArray) = hdR from rfl]
      go_wp2_with fail
      refine (C0 _).mono ?_
      rintro e w1 ⟨rfl, rfl⟩
      go_wp2
      go_ret2
      exact ⟨⟨_, rfl, fun h => absurd rfl h, fun _ => Or.inl ⟨rfl, rfl⟩⟩, Below.refl _ _⟩
    · have he : (cpQ l hdR).toList.isEmpty = false := by
        cases h : (cpQ l hdR).toList.isEmpty
        · rfl
        · exact absurd ((empty_iff _).1 h) hz
      cases hq : hpQ (cpQ l hdR) blk1
      · have hC : Hid (rrC l = 150) := by unfold Hid rrC; simp [hp, hz, hq]
        rw [hC.out]
        rw [hp] at C0
        have C1 := fun W => cutQ_any (cpQ l hdR) blk1 W
        rw [hq] at C1
        generalize cpQ (cpQ l hdR) blk1 = r1 at C1
        generalize cpQ l hdR = r at C0 C1 he
        clear hz
        go_enter Tryd.func37, Tryd.ntmps37
        rw [show (⟨#[82, 101, 102, 115, 58]⟩ : ByteArray) = hdR from rfl, show (⟨#[32]⟩ : ByteArray) = blk1 from rfl]
        go_wp2_with fail
        refine (C0 _).mono ?_
        rintro e w1 ⟨rfl, rfl⟩
        go_wp2_with fail
        refine (C1 _).mono ?_
        rintro e w2 ⟨rfl, rfl⟩
        go_wp2
        go_ret2
        exact ⟨⟨_, rfl, fun _ => rfl, fun h => absurd h (by decide)⟩, Below.refl _ _⟩
      · have hC : rrC l = crf (rrF l) (rrN l) := by unfold rrC; simp [hp, hz, hq]
        have hlt : (rrT l).size ≤ l.size := by
          unfold rrT
          rw [cpQ_yes hq, cpQ_yes hp, ByteArray.size_extract, ByteArray.size_extract]
          omega
        refine (rdR_more l w (by omega) hp he hq).mono ?_
        rintro e w' ⟨⟨v, rfl, h1, h2⟩, b⟩
        rw [hC]
        refine ⟨⟨v, rfl, h1, fun h => ?_⟩, b⟩
        obtain ⟨c, hv, hc, V, BV⟩ := h2 h
        have hRL : rrL l = (Sq.pcs (rrT l) 1024 0).map (fun x => dirR ++ x) := by unfold rrL; rw [if_neg hz]
        have hlen : (rrL l).length = rrN l := by rw [hRL, List.length_map]; rfl
        refine Or.inr ⟨w.heap.size, c, by rw [hlen]; exact hv, by rw [hlen]; exact hc, Nat.le_refl _, by rw [hlen]; exact Sq.pcs_pos _ _ _, ?_, BV⟩
        rw [hlen]
        refine V.congr (fun j hj => ?_)
        rw [hRL, nth_map _ _ hj]
        rfl

end Go.Proofs.YtjhbfkckkinfjaaDoor
