/- The document's Num. -/
import Derived.Test.YthjpmiidbgaiaaaWrM
import Derived.Test.YthjpmiidbgaiaaaUpQ
import Derived.Test.YthjpmiidbgaiaaaRows
namespace Go.Proofs.Ythjpmiidbgaiaaa
open Go.RowKit

theorem le_leN (l : List UInt8) : le l = leN l := by
  induction l with
  | nil => rfl
  | cons b l ih => rw [le, leN, ih]
theorem le_drop (l : List UInt8) (k : Nat) (h : k < l.length) : le (l.drop k) = (l.getD k 0).toNat + 256 * le (l.drop (k + 1)) := by
  rw [List.drop_eq_getElem_cons h, List.getD_eq_getElem?_getD, List.getElem?_eq_getElem h]
  rfl
theorem le_drop_lt (l : List UInt8) (h8 : l.length = 8) (k : Nat) (hk : k < 8) : 256 * le (l.drop (k + 1)) + (l.getD k 0).toNat < 18446744073709551616 := by
  have h1 := le_lt (l.drop k)
  rw [le_drop l k (by omega), List.length_drop, h8] at h1
  have h2 : 256 ^ (8 - k) ≤ 256 ^ 8 := Nat.pow_le_pow_right (by decide) (by omega)
  have h3 : (256 : Nat) ^ 8 = 18446744073709551616 := by decide
  omega

set_option maxHeartbeats 1000000 in
theorem num_any (tl : List UInt8) (at_ : Nat) (w : World) (hl : tl.length ≤ 1073741824) (ha : at_ + 8 ≤ tl.length) :
    Calls Try.prog 32 #[.string (ba tl), .int .i64 (at_ : Int)] w fun e w' => e = .returned (.int .u64 (le ((tl.drop at_).take 8) : Int)) ∧ w' = w := by
  have hsz := ba_size tl
  have hg : ∀ (n : Nat) (h : n < (ba tl).size), (((ba tl)[n]'h).toNat : Int) = bt (ba tl) n := get_bt (ba tl)
  obtain ⟨l8, h8⟩ : ∃ l8, (tl.drop at_).take 8 = l8 := ⟨_, rfl⟩
  have hl8 : l8.length = 8 := by rw [← h8, List.length_take, List.length_drop]; omega
  have HB : Hid (∀ (k : Nat) (h : k < 8), bt (ba tl) (at_ + k) = ((l8.getD k 0).toNat : Int)) := fun k h => by
    have hk8 : k < l8.length := by omega
    subst h8
    rw [bt_ba _ _ (by omega), List.getD_eq_getElem?_getD, List.getElem?_eq_getElem hk8, List.getElem_take, List.getElem_drop]
    rfl
  rw [h8]
  clear h8
  have HL : Hid (l8.length = 8) := hl8
  have hE : Hid (le (l8.drop 8) = 0) := by unfold Hid; rw [List.drop_of_length_le (by omega)]; rfl
  clear hl8
  go_enter Try.func32, Try.ntmps32
  go_wp2
  go_loop [5, 6] (fun n i => ∃ k : Nat, k ≤ 8 ∧ i = .int .i64 ((k : Int) - 1) ∧ n = .int .u64 (le (l8.drop k) : Int)) (fun _ i => (intOf i + 1).toNat)
  case atStart => exact ⟨8, Nat.le_refl _, rfl, by rw [hE.out]; rfl⟩
  case round =>
    obtain ⟨k, hk, rfl, rfl⟩ := hrel
    by_cases h0 : k = 0
    · subst h0
      go_wp2
      go_ret
      exact ⟨rfl, rfl⟩
    · obtain ⟨j, rfl⟩ : ∃ j, k = j + 1 := ⟨k - 1, by omega⟩
      have hb := HB.out j (by omega)
      have hlt := le_drop_lt l8 HL.out j (by omega)
      have hd : Hid (le (l8.drop j) = (l8.getD j 0).toNat + 256 * le (l8.drop (j + 1))) := le_drop l8 j (by have := HL.out; omega)
      generalize hB : (l8.getD j 0).toNat = B at hb hlt hd
      generalize le (l8.drop (j + 1)) = q at hlt hd ⊢
      clear hB
      go_wp2
      go_round
      case rel => exact ⟨j, by omega, rfl, by rw [hd.out]; exact congrArg (Value.int .u64) (by omega)⟩
      case measure => simp [intOf]

end Go.Proofs.Ythjpmiidbgaiaaa
