/- wire.Int and the document's Int: eight bytes, the lowest first. -/
import Derived.Test.YtnggbemnblcnaaaDoorRows
import Derived.Test.YtnggbemnblcnaaaDoorMem
namespace Go.Proofs.YtnggbemnblcnaaaDoor
open Go.RowKit

/-- Byte j of n. -/
def w8 (n : Int) (j : Nat) : Int := n / 2 ^ (8 * j) % 256
/-- The first k of n's bytes, noughts behind. -/
def w8k (n : Int) (k j : Nat) : Int := if j < k then w8 n j else 0

theorem w8k_step (n : Int) (k j : Nat) : (if j = k then w8 n k else w8k n k j) = w8k n (k + 1) j := by
  unfold w8k
  by_cases e : j = k
  · subst e; rw [if_pos rfl, if_pos (by omega)]
  · rw [if_neg e]
    by_cases e1 : j < k
    · rw [if_pos e1, if_pos (by omega)]
    · rw [if_neg e1, if_neg (by omega)]

theorem w8_next (n : Int) (k : Nat) : w8 n k = n / 2 ^ (8 * k) % 256 := rfl

theorem div_next (n : Int) (k : Nat) : n / 2 ^ (8 * k) / 256 = n / 2 ^ (8 * (k + 1)) := by
  rw [Int.ediv_ediv_of_nonneg (Int.le_of_lt (Int.pow_pos (by decide)))]
  congr 1
  rw [show 8 * (k + 1) = 8 * k + 8 by omega, Int.pow_add]
  rfl

theorem Tryd.info5 : (Tryd.prog.info? 5).map (fun i => (i.zero, i.size, i.bytes)) = some (some (.int .u8 0), 1, 1) := by kernel_rfl

/-- The noughts behind n bytes. -/
def padN (n : Nat) : Nat := (8 - n % 8) % 8

set_option maxHeartbeats 400000 in
theorem padding_any (n : Nat) (w : World) (h1 : n ≤ 9223372036854775807) :
    Calls Tryd.prog 66 #[.int .i64 n] w fun e w' => e = .returned (.int .i64 (padN n)) ∧ w' = w := by
  have t1 : Hid ((8 - (n : Int) % 8) % 8 = (padN n : Int)) := by unfold Hid padN; omega
  go_enter Tryd.func66, Tryd.ntmps66
  go_wp2
  rw [t1.out]
  go_ret
  exact ⟨rfl, rfl⟩

/-- What a text of n bytes takes. -/
def fr (n : Int) : Int := if n < 0 ∨ 1099511627776 < n then 0 else 8 + n + padN n.toNat

theorem fr_out (n : Int) (h : n < 0 ∨ 1099511627776 < n) : fr n = 0 := if_pos h
theorem fr_in (n : Nat) (h : n ≤ 1099511627776) : fr n = 8 + n + padN n := by unfold fr; rw [if_neg (by omega)]; rfl

set_option maxHeartbeats 400000 in
theorem framed_any (n : Int) (w : World) (h0 : -9223372036854775808 ≤ n) (h1 : n ≤ 9223372036854775807) :
    Calls Tryd.prog 44 #[.int .i64 n] w fun e w' => e = .returned (.int .i64 (fr n)) ∧ w' = w := by
  by_cases hn : n < 0
  · have F : Hid (fr n = 0) := fr_out n (.inl hn)
    go_enter Tryd.func44, Tryd.ntmps44
    go_wp2
    go_ret
    exact ⟨by rw [F.out]; rfl, rfl⟩
  · obtain ⟨k, rfl⟩ : ∃ k : Nat, n = k := ⟨n.toNat, by omega⟩
    by_cases hb : 1099511627776 < (k : Int)
    · have F : Hid (fr k = 0) := fr_out k (.inr hb)
      go_enter Tryd.func44, Tryd.ntmps44
      go_wp2
      go_ret
      exact ⟨by rw [F.out]; rfl, rfl⟩
    · have F : Hid (fr k = 8 + k + padN k) := fr_in k (by omega)
      have p8 : padN k < 8 := by unfold padN; omega
      go_enter Tryd.func44, Tryd.ntmps44
      go_wp2_with fail
      refine (padding_any k _ (by omega)).mono ?_
      rintro e w1 ⟨rfl, rfl⟩
      go_wp2
      go_ret
      exact ⟨by rw [F.out]; rfl, rfl⟩

set_option maxHeartbeats 400000 in
theorem rframed_any (n : Int) (w : World) (h0 : -9223372036854775808 ≤ n) (h1 : n ≤ 9223372036854775807) :
    Calls Tryd.prog 70 #[.int .i64 n] w fun e w' => e = .returned (.int .i64 (fr n)) ∧ w' = w := by
  by_cases hn : n < 0
  · have F : Hid (fr n = 0) := fr_out n (.inl hn)
    go_enter Tryd.func70, Tryd.ntmps70
    go_wp2
    go_ret
    exact ⟨by rw [F.out]; rfl, rfl⟩
  · obtain ⟨k, rfl⟩ : ∃ k : Nat, n = k := ⟨n.toNat, by omega⟩
    by_cases hb : 1099511627776 < (k : Int)
    · have F : Hid (fr k = 0) := fr_out k (.inr hb)
      go_enter Tryd.func70, Tryd.ntmps70
      go_wp2
      go_ret
      exact ⟨by rw [F.out]; rfl, rfl⟩
    · have F : Hid (fr k = 8 + k + padN k) := fr_in k (by omega)
      have p8 : padN k < 8 := by unfold padN; omega
      have HP : Hid (padN k = (8 - k % 8) % 8) := rfl
      generalize padN k = p at *
      go_enter Tryd.func70, Tryd.ntmps70
      go_wp2
      go_loop [0] (fun x => ∃ m : Nat, k ≤ m ∧ m ≤ k + p ∧ x = .int .i64 m) (fun x => k + p - (intOf x).toNat)
      case atStart => exact ⟨k, by omega, by omega, rfl⟩
      case round =>
        obtain ⟨m, hm1, hm2, rfl⟩ := hrel
        by_cases hlt : m < k + p
        · have ht : ((m : Int) % 8 != 0) = true := by have := HP.out; simp; omega
          go_wp2
          go_round
          case rel => exact ⟨m + 1, by omega, by omega, by go_num⟩
          case measure => simp [intOf]; omega
        · obtain rfl : m = k + p := by omega
          have ht : (((k + p : Nat) : Int) % 8 != 0) = false := by have := HP.out; simp; omega
          go_wp2
          go_ret
          exact ⟨by rw [F.out]; congr 2; simp; omega, rfl⟩

end Go.Proofs.YtnggbemnblcnaaaDoor
