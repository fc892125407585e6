/- The document's CheckRefs and the law SpathChecks, walked. -/
import Derived.Test.YtgnlkggodchlbaaDoorPtR
namespace Go.Proofs.YtgnlkggodchlbaaDoor
open Go.RowKit

set_option maxHeartbeats 400000 in
theorem good_any (p : ByteArray) (w : World) :
    Calls Tryd.prog 69 #[.string p] w fun e w' => e = .returned (.bool (prC p == 0)) ∧ w' = w := by
  go_enter Tryd.func69, Tryd.ntmps69
  go_wp2_with fail
  refine (rparse_any _ _).mono ?_
  rintro e w1 ⟨rfl, rfl⟩
  go_wp2
  go_ret
  exact ⟨rfl, rfl⟩

theorem less_nil (s : ByteArray) (h : 46 ≤ s.size) : Op.bytesLess [] s.toList = true := by
  rw [Lib.toList_data]
  cases e : s.data.toList with
  | nil => rw [Lib.size_eq, e] at h; simp at h
  | cons _ _ => rfl

/-- The text ahead of place k. -/
def ahead (f : Nat → ByteArray) (k : Nat) : ByteArray := if k = 0 then ⟨#[]⟩ else f (k - 1)
theorem less_ahead (f : Nat → ByteArray) (k : Nat) (h : prC (f k) = 0) : (0 < k → Op.bytesLess (f (k - 1)).toList (f k).toList = true) ↔ Op.bytesLess (ahead f k).toList (f k).toList = true := by
  unfold ahead
  by_cases h0 : k = 0
  · subst h0
    rw [if_pos rfl]
    have := less_nil (f 0) (prC_size h)
    have e : (ByteArray.toList ⟨#[]⟩) = [] := by decide +kernel
    rw [e]
    exact ⟨fun _ => this, fun _ h => absurd h (by omega)⟩
  · rw [if_neg h0]
    exact ⟨fun h => h (by omega), fun h _ => h⟩

set_option maxHeartbeats 2000000 in
theorem rckR_any (x : Option Addr) (n c : Nat) (f : Nat → ByteArray) (w : World) (hS : SIs w x n f) :
    Calls Tryd.prog 48 #[.slice x n c] w fun e w' => e = .returned (.int .i64 (crf f n)) ∧ w' = w := by
  by_cases hm : 1024 < n
  · have hh : Hid (crf f n = 171) := crf_many hm
    go_enter Tryd.func48, Tryd.ntmps48
    go_wp2
    go_ret
    exact ⟨by rw [hh.out]; rfl, rfl⟩
  · have HM : Hid (¬ 1024 < n) := hm
    have HS : Hid (SIs w x n f) := hS
    clear hS
    go_enter Tryd.func48, Tryd.ntmps48
    go_wp2
    have hn : n ≤ 1024 := by omega
    clear hm
    go_loop [3, 4] (fun l i => ∃ k : Nat, k ≤ n ∧ i = .int .i64 k ∧ l = .string (ahead f k) ∧ Hid (refsOk f k)) (fun _ i => n - (intOf i).toNat)
    case atStart => exact ⟨0, Nat.zero_le _, rfl, rfl, fun i hi => absurd hi (by omega)⟩
    case round =>
      obtain ⟨k, hk, rfl, rfl, hok⟩ := hrel
      by_cases hlt : k < n
      · obtain ⟨a, rfl, c0⟩ := HS.out k hlt
        have HA : Hid (ahead f (k + 1) = f k) := by unfold Hid ahead; rw [if_neg (by omega), Nat.add_sub_cancel]
        by_cases h1 : prC (f k) = 0
        · have G1 : (prC (f k) == 0) = true := by simp [h1]
          have H1 : Hid (prC (f k) = 0) := h1
          have HL : Hid (_ ↔ _) := less_ahead f k h1
          clear h1
          generalize ahead f k = L at HL
          cases h2 : Op.bytesLess L.toList (f k).toList
          · have hh : Hid (crf f n = 133) := crf_no HM.out (fun h => by
              have := HL.out.1 (h k hlt).2
              rw [h2] at this; exact Bool.noConfusion this)
            have LE : (Op.bytesLess (f k).toList L.toList || (f k).toList == L.toList) = true := by rw [le_not, h2]; rfl
            clear h2
            go_wp2_with fail
            refine (good_any _ _).mono ?_
            rintro e w1 ⟨rfl, rfl⟩
            rw [G1]
            go_wp2
            go_ret
            exact ⟨by rw [hh.out]; rfl, rfl⟩
          · have LE : (Op.bytesLess (f k).toList L.toList || (f k).toList == L.toList) = false := by rw [le_not, h2]; rfl
            have hr : Hid (refsOk f (k + 1)) := refsOk_succ hok.out H1.out (HL.out.2 h2)
            clear h2
            go_wp2_with fail
            refine (good_any _ _).mono ?_
            rintro e w1 ⟨rfl, rfl⟩
            rw [G1]
            go_wp2
            go_round
            case rel => exact ⟨k + 1, by omega, by go_num, by rw [HA.out], hr⟩
            case measure => simp [intOf]; omega
        · have hh : Hid (crf f n = 133) := crf_no HM.out (refsOk_bad1 hlt h1)
          have G1 : (prC (f k) == 0) = false := by rw [beq_eq_false_iff_ne]; exact h1
          clear h1
          go_wp2_with fail
          refine (good_any _ _).mono ?_
          rintro e w1 ⟨rfl, rfl⟩
          rw [G1]
          go_wp2
          go_ret
          exact ⟨by rw [hh.out]; rfl, rfl⟩
      · have hh : Hid (crf f n = 0) := by
          obtain rfl : k = n := by omega
          exact crf_yes HM.out hok.out
        go_wp2
        go_ret
        exact ⟨by rw [hh.out]; rfl, rfl⟩

end Go.Proofs.YtgnlkggodchlbaaDoor
