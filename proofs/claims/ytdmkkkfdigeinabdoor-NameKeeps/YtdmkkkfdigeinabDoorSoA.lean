/- name.Sorted, walked; the order of two texts in three words. -/
import Derived.Test.YtdmkkkfdigeinabDoorCmA
namespace Go.Proofs.YtdmkkkfdigeinabDoor
open Go.RowKit

theorem less_of (a b : List UInt8) : (Lib.compareBytes a b = -1 ∧ Op.bytesLess a b = true ∧ (a == b) = false) ∨ (Lib.compareBytes a b = 0 ∧ Op.bytesLess a b = false ∧ (a == b) = true) ∨ (Lib.compareBytes a b = 1 ∧ Op.bytesLess a b = false ∧ (a == b) = false) := by
  induction a generalizing b with
  | nil => cases b with
    | nil => right; left; exact ⟨rfl, rfl, rfl⟩
    | cons y b => left; exact ⟨rfl, rfl, rfl⟩
  | cons x a ih => cases b with
    | nil => right; right; exact ⟨rfl, rfl, rfl⟩
    | cons y b =>
      unfold Lib.compareBytes Op.bytesLess
      by_cases h1 : x < y
      · left
        rw [if_pos h1]
        refine ⟨rfl, by simp [h1], ?_⟩
        rw [beq_eq_false_iff_ne]; intro e; injection e with e _; subst e; exact absurd h1 (by simp)
      · by_cases h2 : y < x
        · right; right
          rw [if_neg h1, if_pos h2]
          have hne : ¬ x = y := fun e => by subst e; exact absurd h2 (by simp)
          refine ⟨rfl, by simp [h1, hne], ?_⟩
          rw [beq_eq_false_iff_ne]; intro e; injection e with e _; exact hne e
        · have hxy : x = y := by
            apply UInt8.toNat_inj.1
            rw [UInt8.lt_iff_toNat_lt] at h1 h2; omega
          subst hxy
          rw [if_neg h1, if_neg h1]
          rcases ih b with ⟨i1, i2, i3⟩ | ⟨i1, i2, i3⟩ | ⟨i1, i2, i3⟩
          · left; exact ⟨i1, by simp [i2], by simpa using i3⟩
          · right; left; exact ⟨i1, by simp [h1, i2], by simpa using i3⟩
          · right; right; exact ⟨i1, by simp [h1, i2], by simpa using i3⟩

theorem cmp_cases (x y : ByteArray) : (cmpB x y = -1 ∧ Op.bytesLess x.toList y.toList = true ∧ (x.toList == y.toList) = false) ∨ (cmpB x y = 0 ∧ Op.bytesLess x.toList y.toList = false ∧ (x.toList == y.toList) = true) ∨ (cmpB x y = 1 ∧ Op.bytesLess x.toList y.toList = false ∧ (x.toList == y.toList) = false) := by
  unfold cmpB; rw [Lib.toList_data, Lib.toList_data]; exact less_of _ _

/-- The cells of a row of texts. -/
def SIs (w : World) (x : Option Addr) (n : Nat) (f : Nat → ByteArray) : Prop := ∀ i, i < n → ∃ a, x = some a ∧ w.cell? (a.add i) = some (.string (f i))

theorem add_succ (a : Addr) (k : Nat) : a.add (k + 1) = ⟨a.block, a.off + (k + 1), none⟩ := by unfold Addr.add; rw [if_neg (by omega)]

/-- The first place whose text doesn't stand above the one ahead of it, or -1. -/
def Brk (f : Nat → ByteArray) (n : Nat) (r : Int) : Prop :=
  (r = -1 ∧ ∀ i, i + 1 < n → cmpB (f i) (f (i + 1)) < 0) ∨ (∃ i : Nat, r = ((i + 1 : Nat) : Int) ∧ i + 1 < n ∧ 0 ≤ cmpB (f i) (f (i + 1)) ∧ ∀ j, j < i → cmpB (f j) (f (j + 1)) < 0)

theorem Brk.of {f : Nat → ByteArray} {n : Nat} {r : Int} (h : Brk f n r) {k : Nat} (hk : k + 1 < n) (hc : 0 ≤ cmpB (f k) (f (k + 1))) (hl : ∀ j, j < k → cmpB (f j) (f (j + 1)) < 0) : r = ((k + 1 : Nat) : Int) := by
  rcases h with ⟨_, h⟩ | ⟨i, h1, h2, h3, h4⟩
  · have := h k hk; omega
  · by_cases e : i = k
    · rw [h1, e]
    · by_cases l : i < k
      · have := hl i l; omega
      · have := h4 k (by omega); omega
theorem Brk.none {f : Nat → ByteArray} {n : Nat} {r : Int} (h : Brk f n r) (hl : ∀ j, j + 1 < n → cmpB (f j) (f (j + 1)) < 0) : r = -1 := by
  rcases h with ⟨h, _⟩ | ⟨i, h1, h2, h3, h4⟩
  · exact h
  · have := hl i h2; omega

theorem compare_quiet (a b : ByteArray) (c : Int) (h : cmpB a b = c) (w : World) :
    Calls Tryd.prog 20 #[.string a, .string b] w fun e w' => e = .returned (.int .i64 c) ∧ w' = w := h ▸ compare_any a b w

set_option maxHeartbeats 1000000 in
theorem sorted_any (x : Option Addr) (n c : Nat) (f : Nat → ByteArray) (w : World) (hn : n ≤ 140737488351232) (h : SIs w x n f) :
    Calls Tryd.prog 13 #[.slice x n c] w fun e w' => (∃ r : Int, e = .returned (.int .i64 r) ∧ Brk f n r) ∧ ∃ q, w' = w.drewN q := by
  have HS : Hid (SIs w x n f) := h
  clear h
  go_enter Tryd.func13, Tryd.ntmps13
  go_wp2
  go_loopw [3] (fun i wr => ∃ k : Nat, (k + 1 ≤ n ∨ k = 0) ∧ i = .int .i64 ((k + 1 : Nat) : Int) ∧ Hid (∀ j, j < k → cmpB (f j) (f (j + 1)) < 0) ∧ Hid (∃ q, wr = w.drewN q)) (fun i _ => n - (intOf i).toNat)
  case atStart => exact ⟨0, Or.inr rfl, rfl, fun j hj => absurd hj (by omega), 0, rfl⟩
  case round =>
    obtain ⟨k, hk, rfl, hl, hq⟩ := hrel
    by_cases hlt : k + 1 < n
    · obtain ⟨a, rfl, c0⟩ := HS.out k (by omega)
      obtain ⟨a', ha', c1⟩ := HS.out (k + 1) hlt
      obtain rfl := Option.some.inj ha'
      obtain ⟨q, hwr⟩ := hq.out
      have d0 : wr.cell? (a.add k) = some (.string (f k)) := by rw [hwr]; exact c0
      have d1 : wr.cell? ⟨a.block, a.off + (k + 1), none⟩ = some (.string (f (k + 1))) := by rw [add_succ] at c1; rw [hwr]; exact c1
      clear c0 c1 hwr ha'
      have hk0 : k < n := by omega
      have hk1 : (k : Int) + 1 < (n : Int) := by omega
      have hk2 : (0 : Int) ≤ (k : Int) + 1 := by omega
      have hk3 : ((k : Int) + 1).toNat = k + 1 := by omega
      have hk4 : ¬ ((k : Int) + 1 < 0) := by omega
      have hkw : IntKind.i64.wrap ((k : Nat) : Int) = (k : Int) := by rw [IntKind.wrap_i64]; omega
      rcases cmp_cases (f k) (f (k + 1)) with ⟨e0, _, _⟩ | ⟨e0, _, _⟩ | ⟨e0, _, _⟩
      · have CM := compare_quiet _ _ _ e0
        have E0 : Hid (cmpB (f k) (f (k + 1)) = -1) := e0
        clear e0
        go_wp2
        go_quiet ((go_at_call 20; exact Calls.quiet_of_same (CM _)))
        go_wp2
        go_roundw
        case rel => exact ⟨k + 1, by omega, by go_num, fun j hj => by
          by_cases e : j = k
          · rw [e, E0.out]; omega
          · exact hl.out j (by omega), by obtain ⟨q, hw⟩ := hq.out; exact ⟨q + nq, by rw [hw, World.drewN_drewN]⟩⟩
        case measure => simp [intOf]; omega
      · have CM := compare_quiet _ _ _ e0
        have E0 : Hid (cmpB (f k) (f (k + 1)) = 0) := e0
        clear e0
        go_wp2
        go_quiet ((go_at_call 20; exact Calls.quiet_of_same (CM _)))
        go_wp2
        go_ret
        exact ⟨⟨_, rfl, Or.inr ⟨k, by go_num, hlt, by rw [E0.out]; omega, hl.out⟩⟩, by obtain ⟨q, hw⟩ := hq.out; exact ⟨q + nq, by rw [hw, World.drewN_drewN]⟩⟩
      · have CM := compare_quiet _ _ _ e0
        have E0 : Hid (cmpB (f k) (f (k + 1)) = 1) := e0
        clear e0
        go_wp2
        go_quiet ((go_at_call 20; exact Calls.quiet_of_same (CM _)))
        go_wp2
        go_ret
        exact ⟨⟨_, rfl, Or.inr ⟨k, by go_num, hlt, by rw [E0.out]; omega, hl.out⟩⟩, by obtain ⟨q, hw⟩ := hq.out; exact ⟨q + nq, by rw [hw, World.drewN_drewN]⟩⟩
    · go_wp2
      go_ret
      exact ⟨⟨_, rfl, Or.inl ⟨rfl, fun i hi => hl.out i (by omega)⟩⟩, hq.out⟩

end Go.Proofs.YtdmkkkfdigeinabDoor
