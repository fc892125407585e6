/- wire.Int and the document's Int: eight bytes, the lowest first. -/
import Derived.Test.YtljcbibcdajhiaaRows
import Derived.Test.YtljcbibcdajhiaaMem
namespace Go.Proofs.Ytljcbibcdajhiaa
open Go.RowKit

/-- Byte j of n. -/
def w8 (n : Int) (j : Nat) : Int := n / 2 ^ (8 * j) % 256
/-- The first k of n's bytes, noughts behind. -/
def w8k (n : Int) (k j : Nat) : Int := if j < k then w8 n j else 0

theorem w8k_step (n : Int) (k j : Nat) : (if j = k then w8 n k else w8k n k j) = w8k n (k + 1) j := by
  unfold w8k
  by_cases e : j = k
  · subst e; rw [if_pos rfl, if_pos (by omega)]
  · rw [if_neg e]
    by_cases e1 : j < k
    · rw [if_pos e1, if_pos (by omega)]
    · rw [if_neg e1, if_neg (by omega)]

set_option maxHeartbeats 400000 in
theorem int_any (n : Int) (w : World) (_ : 0 ≤ n) (_ : n ≤ 18446744073709551615) :
    Calls Try.prog 19 #[.int .u64 n] w fun e w' => e = .returned (.string (strFn 8 (w8 n))) ∧ Below w.heap.size w w' := by
  go_enter Try.func19, Try.ntmps19
  go_wp2
  go_loopw [5] (fun i wr => ∃ k : Nat, k ≤ 8 ∧ i = .int .i64 k ∧ Row .u8 wr w.heap.size 8 (w8k n k) ∧ Below w.heap.size w wr) (fun i _ => 8 - (intOf i).toNat)
  case atStart =>
    refine ⟨0, by omega, rfl, ⟨fun j hj => ?_, fun j hj => World.frozen?_alloc_new w _ _ _⟩, (Below.refl _ _).alloc (Nat.le_refl _) _⟩
    rw [World.cell?_alloc_new]
    unfold w8k
    rw [if_neg (by omega)]
    match j, hj with
    | 0, _ | 1, _ | 2, _ | 3, _ | 4, _ | 5, _ | 6, _ | 7, _ => rfl
  case round =>
    obtain ⟨k, hk, rfl, R, B⟩ := hrel
    by_cases hlt : k < 8
    · have c1 := R.cell k (by omega)
      have f1 := R.free k (by omega)
      go_wp2
      go_roundw
      case rel =>
        refine ⟨k + 1, by omega, by go_num, (R.set k _ (by omega)).congr (fun j hj => ?_), B.setCell (Nat.le_refl _) _⟩
        exact w8k_step n k j
      case measure => simp [intOf]; omega
    · have c1 := run_string_row (P := Try.prog) (src := 37) (dst := 9) (c := 8) Try.underlying37 Try.underlying5 Try.underlying9 R
      obtain rfl : k = 8 := by omega
      go_wp2
      go_ret
      exact ⟨congrArg (fun s => Ending.returned (.string s)) (strFn_congr (fun j hj => show w8k n 8 j = w8 n j by unfold w8k; rw [if_pos hj])), B⟩

theorem w8_next (n : Int) (k : Nat) : w8 n k = n / 2 ^ (8 * k) % 256 := rfl

theorem div_next (n : Int) (k : Nat) : n / 2 ^ (8 * k) / 256 = n / 2 ^ (8 * (k + 1)) := by
  rw [Int.ediv_ediv_of_nonneg (Int.le_of_lt (Int.pow_pos (by decide)))]
  congr 1
  rw [show 8 * (k + 1) = 8 * k + 8 by omega, Int.pow_add]
  rfl

theorem Try.info5 : (Try.prog.info? 5).map (fun i => (i.zero, i.size, i.bytes)) = some (some (.int .u8 0), 1, 1) := by kernel_rfl

/-- The noughts behind n bytes. -/
def padN (n : Nat) : Nat := (8 - n % 8) % 8

set_option maxHeartbeats 400000 in
theorem padding_any (n : Nat) (w : World) (h1 : n ≤ 9223372036854775807) :
    Calls Try.prog 52 #[.int .i64 n] w fun e w' => e = .returned (.int .i64 (padN n)) ∧ w' = w := by
  have t1 : Hid ((8 - (n : Int) % 8) % 8 = (padN n : Int)) := by unfold Hid padN; omega
  go_enter Try.func52, Try.ntmps52
  go_wp2
  rw [t1.out]
  go_ret
  exact ⟨rfl, rfl⟩

/-- What a text of n bytes takes. -/
def fr (n : Int) : Int := if n < 0 ∨ 1099511627776 < n then 0 else 8 + n + padN n.toNat

theorem fr_out (n : Int) (h : n < 0 ∨ 1099511627776 < n) : fr n = 0 := if_pos h
theorem fr_in (n : Nat) (h : n ≤ 1099511627776) : fr n = 8 + n + padN n := by unfold fr; rw [if_neg (by omega)]; rfl

set_option maxHeartbeats 400000 in
theorem framed_any (n : Int) (w : World) (h0 : -9223372036854775808 ≤ n) (h1 : n ≤ 9223372036854775807) :
    Calls Try.prog 46 #[.int .i64 n] w fun e w' => e = .returned (.int .i64 (fr n)) ∧ w' = w := by
  by_cases hn : n < 0
  · have F : Hid (fr n = 0) := fr_out n (.inl hn)
    go_enter Try.func46, Try.ntmps46
    go_wp2
    go_ret
    exact ⟨by rw [F.out]; rfl, rfl⟩
  · obtain ⟨k, rfl⟩ : ∃ k : Nat, n = k := ⟨n.toNat, by omega⟩
    by_cases hb : 1099511627776 < (k : Int)
    · have F : Hid (fr k = 0) := fr_out k (.inr hb)
      go_enter Try.func46, Try.ntmps46
      go_wp2
      go_ret
      exact ⟨by rw [F.out]; rfl, rfl⟩
    · have F : Hid (fr k = 8 + k + padN k) := fr_in k (by omega)
      have p8 : padN k < 8 := by unfold padN; omega
      go_enter Try.func46, Try.ntmps46
      go_wp2_with fail
      refine (padding_any k _ (by omega)).mono ?_
      rintro e w1 ⟨rfl, rfl⟩
      go_wp2
      go_ret
      exact ⟨by rw [F.out]; rfl, rfl⟩

end Go.Proofs.Ytljcbibcdajhiaa
