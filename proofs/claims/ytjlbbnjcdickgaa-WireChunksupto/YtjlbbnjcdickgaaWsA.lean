/- The document's Planned and Num. -/
import Derived.Test.YtjlbbnjcdickgaaWrV
import Derived.Test.YtjlbbnjcdickgaaWrN
namespace Go.Proofs.Ytjlbbnjcdickgaa
open Go.RowKit

/-- The place of the first letter that is none, or -1. -/
def plnd (l : List UInt8) : Int := if badAt l < l.length then badAt l else -1

set_option maxHeartbeats 1000000 in
theorem planned_any (l : List UInt8) (w : World) (hl : l.length ≤ 1073741824) :
    Calls Try.prog 31 #[.string (ba l)] w fun e w' => e = .returned (.int .i64 (plnd l)) ∧ w' = w := by
  have hsz := ba_size l
  have hg : ∀ (n : Nat) (h : n < (ba l).size), (((ba l)[n]'h).toNat : Int) = bt (ba l) n := get_bt (ba l)
  have HB : Hid (∀ (k : Nat) (h : k < l.length), bt (ba l) k = ((l[k]'h).toNat : Int)) := fun k h => bt_ba l k h
  go_enter Try.func31, Try.ntmps31
  go_wp2
  go_loop [3] (fun i => ∃ k : Nat, k ≤ l.length ∧ i = .int .i64 k ∧ Hid (∀ j (h : j < l.length), j < k → okL l[j] = true)) (fun i => l.length - (intOf i).toNat)
  case atStart => exact ⟨0, Nat.zero_le _, rfl, fun j _ h => absurd h (by omega)⟩
  case round =>
    obtain ⟨k, hk, rfl, hok⟩ := hrel
    by_cases hlt : k < l.length
    · have hb := HB.out k hlt
      by_cases ho : okL (l[k]'hlt) = true
      · have ho' : Hid (okL (l[k]'hlt) = true) := ho
        rcases (okL_int _).1 ho with h5 | h6
        · rw [h5] at hb
          clear h5 ho
          go_wp2
          go_round
          case rel => exact ⟨k + 1, by omega, by go_num, fun j hj hjk => if e : j = k then by subst e; exact ho'.out else hok.out j hj (by omega)⟩
          case measure => simp [intOf]; omega
        · rw [h6] at hb
          clear h6 ho
          go_wp2
          go_round
          case rel => exact ⟨k + 1, by omega, by go_num, fun j hj hjk => if e : j = k then by subst e; exact ho'.out else hok.out j hj (by omega)⟩
          case measure => simp [intOf]; omega
      · have hbad : Hid (plnd l = (k : Int)) := by
          have h1 := badAt_eq l k hk hok.out (fun h => by simpa using ho)
          unfold Hid plnd
          rw [h1, if_pos hlt]
        have n1 : (bt (ba l) k == 105) = false := by
          rw [hb]; simp; intro h; exact ho ((okL_int _).2 (.inl (by omega)))
        have n2 : (bt (ba l) k == 116) = false := by
          rw [hb]; simp; intro h; exact ho ((okL_int _).2 (.inr (by omega)))
        have n3 : bt (ba l) k ≠ 105 := by simpa using n1
        have n4 : bt (ba l) k ≠ 116 := by simpa using n2
        have n5 : (bt (ba l) k != 105) = true := by simpa using n3
        have n6 : (bt (ba l) k != 116) = true := by simpa using n4
        clear hb ho
        go_wp2
        go_ret
        exact ⟨by rw [hbad.out]; rfl, rfl⟩
    · obtain rfl : k = l.length := by omega
      have hbad : Hid (plnd l = -1) := by
        have h1 := badAt_eq l l.length hk hok.out (fun h => absurd h (by omega))
        unfold Hid plnd
        rw [h1, if_neg (Nat.lt_irrefl _)]
      go_wp2
      go_ret
      exact ⟨by rw [hbad.out]; rfl, rfl⟩

theorem le_drop (l : List UInt8) (k : Nat) (h : k < l.length) : le (l.drop k) = (l.getD k 0).toNat + 256 * le (l.drop (k + 1)) := by
  rw [List.drop_eq_getElem_cons h, List.getD_eq_getElem?_getD, List.getElem?_eq_getElem h]
  rfl
theorem le_drop_lt (l : List UInt8) (h8 : l.length = 8) (k : Nat) (hk : k < 8) : 256 * le (l.drop (k + 1)) + (l.getD k 0).toNat < 18446744073709551616 := by
  have h1 := le_lt (l.drop k)
  rw [le_drop l k (by omega), List.length_drop, h8] at h1
  have h2 : 256 ^ (8 - k) ≤ 256 ^ 8 := Nat.pow_le_pow_right (by decide) (by omega)
  have h3 : (256 : Nat) ^ 8 = 18446744073709551616 := by decide
  omega

set_option maxHeartbeats 1000000 in
theorem num_any (tl : List UInt8) (at_ : Nat) (w : World) (hl : tl.length ≤ 1073741824) (ha : at_ + 8 ≤ tl.length) :
    Calls Try.prog 32 #[.string (ba tl), .int .i64 (at_ : Int)] w fun e w' => e = .returned (.int .u64 (le ((tl.drop at_).take 8) : Int)) ∧ w' = w := by
  have hsz := ba_size tl
  have hg : ∀ (n : Nat) (h : n < (ba tl).size), (((ba tl)[n]'h).toNat : Int) = bt (ba tl) n := get_bt (ba tl)
  obtain ⟨l8, h8⟩ : ∃ l8, (tl.drop at_).take 8 = l8 := ⟨_, rfl⟩
  have hl8 : l8.length = 8 := by rw [← h8, List.length_take, List.length_drop]; omega
  have HB : Hid (∀ (k : Nat) (h : k < 8), bt (ba tl) (at_ + k) = ((l8.getD k 0).toNat : Int)) := fun k h => by
    have hk8 : k < l8.length := by omega
    subst h8
    rw [bt_ba _ _ (by omega), List.getD_eq_getElem?_getD, List.getElem?_eq_getElem hk8, List.getElem_take, List.getElem_drop]
    rfl
  rw [h8]
  clear h8
  have HL : Hid (l8.length = 8) := hl8
  have hE : Hid (le (l8.drop 8) = 0) := by unfold Hid; rw [List.drop_of_length_le (by omega)]; rfl
  clear hl8
  go_enter Try.func32, Try.ntmps32
  go_wp2
  go_loop [5, 6] (fun n i => ∃ k : Nat, k ≤ 8 ∧ i = .int .i64 ((k : Int) - 1) ∧ n = .int .u64 (le (l8.drop k) : Int)) (fun _ i => (intOf i + 1).toNat)
  case atStart => exact ⟨8, Nat.le_refl _, rfl, by rw [hE.out]; rfl⟩
  case round =>
    obtain ⟨k, hk, rfl, rfl⟩ := hrel
    by_cases h0 : k = 0
    · subst h0
      go_wp2
      go_ret
      exact ⟨rfl, rfl⟩
    · obtain ⟨j, rfl⟩ : ∃ j, k = j + 1 := ⟨k - 1, by omega⟩
      have hb := HB.out j (by omega)
      have hlt := le_drop_lt l8 HL.out j (by omega)
      have hd : Hid (le (l8.drop j) = (l8.getD j 0).toNat + 256 * le (l8.drop (j + 1))) := le_drop l8 j (by have := HL.out; omega)
      generalize hB : (l8.getD j 0).toNat = B at hb hlt hd
      generalize le (l8.drop (j + 1)) = q at hlt hd ⊢
      clear hB
      go_wp2
      go_round
      case rel => exact ⟨j, by omega, rfl, by rw [hd.out]; exact congrArg (Value.int .u64) (by omega)⟩
      case measure => simp [intOf]

end Go.Proofs.Ytjlbbnjcdickgaa
