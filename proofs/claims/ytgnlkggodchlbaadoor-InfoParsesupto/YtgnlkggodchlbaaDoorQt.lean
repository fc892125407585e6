/- Gathered: ItA. -/
import Derived.Test.YtgnlkggodchlbaaDoorQj
/- The document's behind, number; walked. -/
namespace Go.Proofs.YtgnlkggodchlbaaDoor
open Go.RowKit Go.Shelf

/-- What stands behind a key. -/
def bhS (l k : ByteArray) : ByteArray := if hpQ l k then cpQ l k else ⟨#[]⟩
theorem bhS_yes {l k : ByteArray} (h : hpQ l k = true) : bhS l k = cpQ l k := by unfold bhS; rw [h]; rfl
theorem bhS_no {l k : ByteArray} (h : hpQ l k = false) : bhS l k = ⟨#[]⟩ := by unfold bhS; rw [h]; rfl

set_option maxRecDepth 100000 in
set_option maxHeartbeats 1000000 in
theorem rbeh_any (l k : ByteArray) (w : World) :
    Calls Tryd.prog 55 #[.string l, .string k] w fun e w' => e = .returned (.tuple #[.string (bhS l k), .bool (hpQ l k)]) ∧ w' = w := by
  cases g : hpQ l k
  · rw [bhS_no g]
    unfold hpQ at g
    by_cases h : k.size ≤ l.size
    · rw [decide_eq_true h, Bool.true_and] at g
      have h1 : ¬ (l.size : Int) < (k.size : Int) := by omega
      have h2 : ((l.extract 0 k.size).toList != k.toList) = true := by rw [bne, g]; rfl
      have h3 : ¬ (l.extract 0 k.size).toList = k.toList := by rw [beq_eq_false_iff_ne] at g; exact g
      go_enter Tryd.func55, Tryd.ntmps55
      go_wp2
      go_ret2
      exact ⟨rfl, rfl⟩
    · have h1 : (l.size : Int) < (k.size : Int) := by omega
      clear g
      go_enter Tryd.func55, Tryd.ntmps55
      go_wp2
      go_ret2
      exact ⟨rfl, rfl⟩
  · rw [bhS_yes g, cpQ_yes g]
    unfold hpQ at g
    rw [Bool.and_eq_true] at g
    obtain ⟨g1, g2⟩ := g
    have h := of_decide_eq_true g1
    have h1 : ¬ (l.size : Int) < (k.size : Int) := by omega
    have h2 : ((l.extract 0 k.size).toList != k.toList) = false := by rw [bne, g2]; rfl
    have h3 : (l.extract 0 k.size).toList = k.toList := by rw [beq_iff_eq] at g2; exact g2
    clear g1
    go_enter Tryd.func55, Tryd.ntmps55
    go_wp2
    go_ret2
    exact ⟨rfl, rfl⟩

/-- The number as the document gathers it. -/
def nc (t : ByteArray) : Nat → Int
  | 0 => 0
  | k + 1 => if nc t k ≤ 1048576 then 10 * nc t k + (bt t k - 48) else nc t k
theorem nc_nv (t : ByteArray) : ∀ k, (∀ j, j < k → 48 ≤ bt t j ∧ bt t j ≤ 57) → 0 ≤ nv t k ∧ 0 ≤ nc t k ∧ nc t k ≤ 10485769 ∧ (nv t k ≤ 1048576 → nc t k = nv t k) ∧ (1048576 < nv t k → 1048576 < nc t k)
  | 0, _ => ⟨Int.le_refl _, Int.le_refl _, by show (0 : Int) ≤ _; decide, fun _ => rfl, fun h => by have : (1048576 : Int) < 0 := h; omega⟩
  | k + 1, h => by
    obtain ⟨a, b, c, d, e⟩ := nc_nv t k (fun j hj => h j (by omega))
    have hk := h k (by omega)
    rw [nv, nc]
    by_cases hv : nv t k ≤ 1048576
    · have hn := d hv
      rw [if_pos (by omega), hn]
      refine ⟨by omega, by omega, by omega, fun _ => rfl, fun h => h⟩
    · have hn := e (by omega)
      rw [if_neg (by omega)]
      refine ⟨by omega, by omega, by omega, fun h => by omega, fun _ => hn⟩
def nmC (t : ByteArray) : Int := if nmOk t then (if nv t t.size ≤ 1048576 then 0 else 152) else 150
def nmV (t : ByteArray) : Int := if nmC t = 0 then nv t t.size else 0
theorem nmC_no {t : ByteArray} (g : ¬ nmOk t) : nmC t = 150 := if_neg g
theorem nmC_yes {t : ByteArray} (g : nmOk t) (h : nv t t.size ≤ 1048576) : nmC t = 0 := by unfold nmC; rw [if_pos g, if_pos h]
theorem nmC_big {t : ByteArray} (g : nmOk t) (h : ¬ nv t t.size ≤ 1048576) : nmC t = 152 := by unfold nmC; rw [if_pos g, if_neg h]
theorem nmV_n {t : ByteArray} (g : nmC t ≠ 0) : nmV t = 0 := if_neg g
theorem nmV_z {t : ByteArray} (g : nmC t = 0) : nmV t = nv t t.size := if_pos g

set_option maxRecDepth 100000 in
set_option maxHeartbeats 2000000 in
theorem rnum_any (t : ByteArray) (w : World) (ht : t.size ≤ 281474976710656) :
    Calls Tryd.prog 56 #[.string t] w fun e w' => e = .returned (.tuple #[.int .i64 (nmV t), .int .i64 (nmC t)]) ∧ w' = w := by
  have hgb := get_bt t
  go_enter Tryd.func56, Tryd.ntmps56
  go_wp2
  go_loopw [4, 5] (fun n i wr => ∃ k : Nat, k ≤ t.size ∧ n = .int .i64 (nc t k) ∧ i = .int .i64 k ∧ wr = w ∧ Hid (∀ j, j < k → 48 ≤ bt t j ∧ bt t j ≤ 57)) (fun _ i _ => t.size - (intOf i).toNat)
  case atStart => exact ⟨0, Nat.zero_le _, rfl, rfl, rfl, fun j hj => absurd hj (by omega)⟩
  case round =>
    obtain ⟨k, hk, rfl, rfl, rfl, hd⟩ := hrel
    have hnc := nc_nv t k hd.out
    obtain ⟨ha, hb, hc, hde⟩ := hnc
    have HDE : Hid ((nv t k ≤ 1048576 → nc t k = nv t k) ∧ (1048576 < nv t k → 1048576 < nc t k)) := hde
    clear hde
    by_cases hlt : k < t.size
    · have hs := hgb k hlt
      have hbd := bt_bd t k
      by_cases b1 : bt t k < 48
      · have hno : Hid (¬ nmOk t) := fun h => by have := (h.2.2 k hlt).1; omega
        clear hd HDE
        go_wp2
        go_ret2
        have e1 := nmC_no hno.out
        exact ⟨by rw [nmV_n (by rw [e1]; decide), e1]; rfl, rfl⟩
      · by_cases b2 : 57 < bt t k
        · have hno : Hid (¬ nmOk t) := fun h => by have := (h.2.2 k hlt).2; omega
          clear hd HDE
          go_wp2
          go_ret2
          have e1 := nmC_no hno.out
          exact ⟨by rw [nmV_n (by rw [e1]; decide), e1]; rfl, rfl⟩
        · have hd' : Hid (∀ j, j < k + 1 → 48 ≤ bt t j ∧ bt t j ≤ 57) := fun j hj => by
            by_cases h : j = k
            · subst h; omega
            · exact hd.out j (by omega)
          have b1' : 48 ≤ bt t k := by omega
          have b2' : bt t k ≤ 57 := by omega
          clear hd HDE
          by_cases hn : nc t k ≤ 1048576
          · have e2 : Hid (nc t (k + 1) = 10 * nc t k + (bt t k - 48)) := by unfold Hid; rw [nc, if_pos hn]
            generalize nc t k = N at hb hc hn e2 ⊢
            go_wp2
            go_roundw
            case rel => exact ⟨k + 1, by omega, by rw [e2.out]; go_num, by go_num, trivial, hd'⟩
            case measure => simp [intOf]; omega
          · have e2 : Hid (nc t (k + 1) = nc t k) := by unfold Hid; rw [nc, if_neg hn]
            generalize nc t k = N at hb hc hn e2 ⊢
            go_wp2
            go_roundw
            case rel => exact ⟨k + 1, by omega, by rw [e2.out], by go_num, trivial, hd'⟩
            case measure => simp [intOf]; omega
    · obtain rfl : k = t.size := by omega
      by_cases hz : t.size = 0
      · have hno : Hid (¬ nmOk t) := fun h => h.1 hz
        clear hd HDE
        generalize nc t t.size = N at hb hc ⊢
        go_wp2
        go_ret2
        have e1 := nmC_no hno.out
        exact ⟨by rw [nmV_n (by rw [e1]; decide), e1]; rfl, rfl⟩
      · have hz' : (((t.size : Nat) : Int) == 0) = false := by rw [beq_eq_false_iff_ne]; omega
        have h00 : 0 < t.size := by omega
        have hs0 := hgb 0 h00
        by_cases hl : bt t 0 = 48 ∧ 1 < t.size
        · have hno : Hid (¬ nmOk t) := fun h => h.2.1 hl
          obtain ⟨l1, l2⟩ := hl
          have q1 : (bt t 0 == 48) = true := by rw [l1]; rfl
          have q2 : (1 : Int) < (t.size : Int) := by omega
          clear hd HDE
          generalize nc t t.size = N at hb hc ⊢
          go_wp2
          go_ret2
          have e1 := nmC_no hno.out
          exact ⟨by rw [nmV_n (by rw [e1]; decide), e1]; rfl, rfl⟩
        · have hok : Hid (nmOk t) := ⟨hz, hl, fun j hj => hd.out j hj⟩
          have hcode : (1 < t.size ∧ (bt t 0 == 48) = false) ∨ ¬ 1 < t.size := by
            by_cases h1 : 1 < t.size
            · exact Or.inl ⟨h1, by rw [beq_eq_false_iff_ne]; exact fun h => hl ⟨h, h1⟩⟩
            · exact Or.inr h1
          clear hl
          by_cases hv : nv t t.size ≤ 1048576
          · have e0 : Hid (nmC t = 0) := nmC_yes hok.out hv
            have en : Hid (nmV t = nc t t.size) := by unfold Hid; rw [nmV_z e0.out, HDE.out.1 hv]
            have hN : nc t t.size ≤ 1048576 := by rw [HDE.out.1 hv]; exact hv
            clear hd HDE hv ha
            generalize nc t t.size = N at hb hc en hN ⊢
            have hN' : ¬ 1048576 < N := by omega
            rcases hcode with ⟨q2, q1⟩ | q2
            all_goals
              go_wp2
              go_ret2
              exact ⟨by rw [en.out, e0.out]; rfl, rfl⟩
          · have e0 : Hid (nmC t = 152) := nmC_big hok.out hv
            have en : Hid (nmV t = 0) := nmV_n (by rw [e0.out]; decide)
            have hN : 1048576 < nc t t.size := HDE.out.2 (by omega)
            clear hd HDE hv ha
            generalize nc t t.size = N at hb hc hN ⊢
            rcases hcode with ⟨q2, q1⟩ | q2
            all_goals
              go_wp2
              go_ret2
              exact ⟨by rw [en.out, e0.out]; rfl, rfl⟩

end Go.Proofs.YtgnlkggodchlbaaDoor
