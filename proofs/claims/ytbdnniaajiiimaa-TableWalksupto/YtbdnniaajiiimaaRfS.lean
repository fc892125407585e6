/- The document's table (a list of pairs): Find, Rank; walked. -/
import Derived.Test.YtbdnniaajiiimaaTlS
namespace Go.Proofs.Ytbdnniaajiiimaa
namespace TS
open Go.RowKit

/-- The cells at x hold the first n pairs (f k, g k). -/
def PIs (w : World) (x : Option Addr) (n : Nat) (f : Nat → ByteArray) (g : Nat → Int) : Prop := ∀ k, k < n → ∃ b o, x = some ⟨b, o, none⟩ ∧ w.cell? ⟨b, o + k * 2, none⟩ = some (.string (f k)) ∧ w.cell? ⟨b, o + k * 2 + 1, none⟩ = some (.int .i64 (g k))

def rnkF (f : Nat → ByteArray) (k : ByteArray) : Nat → Nat
  | 0 => 0
  | n + 1 => rnkF f k n + (if Op.bytesLess (f n).toList k.toList then 1 else 0)
theorem rnkF_le (f : Nat → ByteArray) (k : ByteArray) : ∀ n, rnkF f k n ≤ n
  | 0 => Nat.le_refl _
  | n + 1 => by have := rnkF_le f k n; unfold rnkF; split <;> omega

set_option maxHeartbeats 1000000 in
theorem refRank_any (x : Option Addr) (n c : Nat) (f : Nat → ByteArray) (g : Nat → Int) (k : ByteArray) (w : World) (hS : PIs w x n f g) (hn : n ≤ 1152921504606846976) :
    Calls Try.prog 16 #[.slice x n c, .string k] w fun e w' => e = .returned (.int .i64 (rnkF f k n : Int)) ∧ w' = w := by
  have HS : Hid (PIs w x n f g) := hS
  clear hS
  go_enter Try.func16, Try.ntmps16
  go_wp2
  go_loop [5, 6] (fun nx xi => ∃ j : Nat, j ≤ n ∧ xi = .int .i64 (j : Int) ∧ nx = .int .i64 (rnkF f k j : Int)) (fun _ x => n - (intOf x).toNat)
  case atStart => exact ⟨0, Nat.zero_le _, rfl, rfl⟩
  case round =>
    obtain ⟨j, hj, rfl, hr⟩ := hrel
    have hle := rnkF_le f k j
    have hs : Hid (rnkF f k (j + 1) = rnkF f k j + (if Op.bytesLess (f j).toList k.toList then 1 else 0)) := rfl
    generalize hR : rnkF f k j = R at hr hle hs
    have hR' : Hid (rnkF f k j = R) := hR
    clear hR
    subst hr
    by_cases hlt : j < n
    · obtain ⟨b, o, rfl, c0, c1⟩ := HS.out j hlt
      cases hb : Op.bytesLess (f j).toList k.toList with
      | true =>
        rw [hb] at hs
        go_wp2
        go_round
        case rel => exact ⟨j + 1, by omega, by go_num, by rw [hs.out]; go_num⟩
        case measure => simp [intOf]; omega
      | false =>
        rw [hb] at hs
        go_wp2
        go_round
        case rel => exact ⟨j + 1, by omega, by go_num, by rw [hs.out]; go_num⟩
        case measure => simp [intOf]; omega
    · have : j = n := by omega
      subst this
      go_wp2
      go_ret
      exact ⟨by rw [hR'.out]; rfl, rfl⟩

/-- The place of the key below n, or -1. -/
def fndF (f : Nat → ByteArray) (k : ByteArray) (n : Nat) : Int := ((List.range n).find? (fun i => decide (f i = k))).elim (-1) (fun i => (i : Int))
theorem fndF_at {f : Nat → ByteArray} {k : ByteArray} {n j : Nat} (hj : j < n) (he : f j = k) (hb : ∀ i, i < j → f i ≠ k) : fndF f k n = j := by
  have : (List.range n).find? (fun i => decide (f i = k)) = some j := by
    rw [List.find?_range_eq_some]
    refine ⟨by simp [he], by simp [hj], fun i hi => ?_⟩
    simp [hb i hi]
  unfold fndF; rw [this]; rfl
theorem fndF_none {f : Nat → ByteArray} {k : ByteArray} {n : Nat} (hb : ∀ i, i < n → f i ≠ k) : fndF f k n = -1 := by
  have : (List.range n).find? (fun i => decide (f i = k)) = none := by
    rw [List.find?_eq_none]
    intro i hi
    simp [hb i (by simpa using hi)]
  unfold fndF; rw [this]; rfl

set_option maxHeartbeats 1000000 in
theorem refFind_any (x : Option Addr) (n c : Nat) (f : Nat → ByteArray) (g : Nat → Int) (k : ByteArray) (w : World) (hS : PIs w x n f g) (hn : n ≤ 1152921504606846976) :
    Calls Try.prog 9 #[.slice x n c, .string k] w fun e w' => e = .returned (.int .i64 (fndF f k n)) ∧ w' = w := by
  have HS : Hid (PIs w x n f g) := hS
  clear hS
  go_enter Try.func9, Try.ntmps9
  go_wp2
  go_loop [5] (fun xi => ∃ j : Nat, j ≤ n ∧ xi = .int .i64 (j : Int) ∧ Hid (∀ i, i < j → f i ≠ k)) (fun x => n - (intOf x).toNat)
  case atStart => exact ⟨0, Nat.zero_le _, rfl, fun i hi => absurd hi (by omega)⟩
  case round =>
    obtain ⟨j, hj, rfl, hb⟩ := hrel
    by_cases hlt : j < n
    · obtain ⟨b, o, rfl, c0, c1⟩ := HS.out j hlt
      by_cases he : f j = k
      · have ha : Hid (fndF f k n = j) := fndF_at hlt he hb.out
        have e1 : ((f j).toList == k.toList) = true := by rw [he]; exact beq_self_eq_true _
        clear he
        go_wp2
        go_ret
        exact ⟨by rw [ha.out]; rfl, rfl⟩
      · have hb' : Hid (∀ i, i < j + 1 → f i ≠ k) := fun i hi => by
          by_cases e : i = j
          · rw [e]; exact he
          · exact hb.out i (by omega)
        have e1 : ((f j).toList == k.toList) = false := by rw [beq_eq_false_iff_ne]; exact fun h => he (of_toList _ _ h)
        clear he
        go_wp2
        go_round
        case rel => exact ⟨j + 1, by omega, by go_num, hb'⟩
        case measure => simp [intOf]; omega
    · have : j = n := by omega
      subst this
      have ha : Hid (fndF f k j = -1) := fndF_none hb.out
      go_wp2
      go_ret
      exact ⟨by rw [ha.out]; rfl, rfl⟩
end TS
end Go.Proofs.Ytbdnniaajiiimaa
