/- The law ShaFills walked: it returns true for every n. -/
import Derived.Test.YtholbaefmncphaaPadC
namespace Go.Proofs.Ytholbaefmncphaa
open Go.RowKit

theorem padFn_byte (n : Int) (z k j : Nat) : 0 ≤ padFn n z k j ∧ padFn n z k j < 256 := by
  unfold padFn
  split
  · omega
  · split
    · exact ⟨Int.emod_nonneg _ (by omega), Int.emod_lt_of_pos _ (by omega)⟩
    · omega

theorem strFn_byte (n : Nat) (f : Nat → Int) (hf : ∀ j, 0 ≤ f j ∧ f j < 256) (j : Nat) (h : j < (strFn n f).size) : (((strFn n f)[j]'h).toNat : Int) = f j := by
  rw [strFn_get]
  have := hf j
  simp only [UInt8.toNat_ofNat']
  omega

/-- What has been gathered before byte k: 8 n's bytes so far. -/
def fillFn (n : Int) (z k : Nat) : Int := (8 * n) % 18446744073709551616 / 2 ^ (8 * (z + 9 - k))

theorem fillFn_step (n : Int) (z k : Nat) (h1 : z + 1 ≤ k) (h2 : k < z + 9) : fillFn n z (k + 1) = fillFn n z k * 256 + padFn n z 8 k := by
  unfold fillFn padFn
  rw [if_neg (by omega), if_pos (by omega), show z + 9 - k = (z + 8 - k) + 1 from by omega, show z + 9 - (k + 1) = z + 8 - k from by omega]
  rw [Nat.mul_add, Int.pow_add, ← Int.ediv_ediv_of_nonneg (Int.le_of_lt (Int.pow_pos (by omega)))]
  generalize 8 * n % 18446744073709551616 / 2 ^ (8 * (z + 8 - k)) = q
  omega

theorem fillFn_low (n : Int) (z : Nat) : fillFn n z (z + 1) = 0 := by
  unfold fillFn
  rw [show z + 9 - (z + 1) = 8 from by omega]
  omega

theorem fillFn_end (n : Int) (z : Nat) : fillFn n z (z + 9) = (8 * n) % 18446744073709551616 := by
  unfold fillFn
  rw [show z + 9 - (z + 9) = 0 from by omega]
  simp

theorem fillFn_small (n : Int) (z k : Nat) (h1 : z + 1 ≤ k) (h2 : k < z + 9) : 0 ≤ fillFn n z k ∧ fillFn n z k < 72057594037927936 := by
  unfold fillFn
  refine ⟨Int.ediv_nonneg (by omega) (Int.le_of_lt (Int.pow_pos (by omega))), ?_⟩
  obtain ⟨m, hm⟩ : ∃ m, z + 9 - k = m + 1 := ⟨z + 8 - k, by omega⟩
  rw [hm, Nat.mul_add, Nat.add_comm, Int.pow_add, ← Int.ediv_ediv_of_nonneg (by omega)]
  have : 8 * n % 18446744073709551616 / 2 ^ (8 * 1) < 72057594037927936 := by omega
  have h0 : 0 ≤ 8 * n % 18446744073709551616 / 2 ^ (8 * 1) := by omega
  exact Int.lt_of_le_of_lt (Int.ediv_le_self _ h0) this

theorem or_u64 (x y : Int) (h0 : 0 ≤ x) (h1 : x < 72057594037927936) (h2 : 0 ≤ y) (h3 : y < 256) : bits .or .u64 (x * 256) y = x * 256 + y := by
  rw [u64_or _ _ (by omega) (by omega) h2 (by omega), nat_join 8 _ _ (by omega) (by omega)]
  omega

theorem pad0 : padStr 0 = strFn 64 (padFn 0 55 8) := by decide +kernel

set_option maxHeartbeats 400000 in
theorem fills_neg (n : Int) (w : World) (h0 : n < 0) :
    Calls Try.prog 4 #[.int .i64 n] w fun e w' => e = .returned (.bool true) ∧ Below w.heap.size w w' := by
  go_enter Try.func4, Try.ntmps4
  go_wp2_with fail
  refine (pad_all 0 _ (by omega)).mono ?_
  rintro e w1 ⟨rfl, b1⟩
  rw [pad0]
  have hs := strFn_size 64 (padFn 0 55 8)
  go_wp2_with fail
  refine (pad_neg n _ h0).mono ?_
  rintro e w2 ⟨rfl, b2⟩
  go_wp2
  go_ret
  exact ⟨rfl, b1.trans (b2.mono b1.size)⟩

set_option maxHeartbeats 800000 in
theorem fills_pos (n : Int) (z : Nat) (w : World) (h0 : 0 ≤ n) (h1 : n ≤ 9223372036854775807) (hz : (z : Int) = (119 - n % 64) % 64) :
    Calls Try.prog 4 #[.int .i64 n] w fun e w' => e = .returned (.bool true) ∧ Below w.heap.size w w' := by
  have hz' : z < 64 := by omega
  have HZ : Hid ((z : Int) = (119 - n % 64) % 64) := hz
  go_enter Try.func4, Try.ntmps4
  go_wp2_with fail
  refine (pad_all 0 _ (by omega)).mono ?_
  rintro e w1 ⟨rfl, b1⟩
  rw [pad0]
  have hs := strFn_size 64 (padFn 0 55 8)
  clear hz
  go_wp2_with fail
  refine (pad_any n z _ h0 h1 HZ.out).mono ?_
  rintro e w2 ⟨rfl, b2⟩
  clear hs
  have hs := strFn_size (z + 9) (padFn n z 8)
  have hb := strFn_byte (z + 9) (padFn n z 8) (padFn_byte n z 8)
  have B : Below w.heap.size w w2 := b1.trans (b2.mono b1.size)
  clear b1 b2
  generalize strFn (z + 9) (padFn n z 8) = s at hs hb ⊢
  have t1 : ((n % 64 + ((z : Int) + 9)) % 64 != 0) = false := by have := HZ.out; simp; omega
  have t1' : ((n + ((z : Int) + 9)) % 64 != 0) = false := by have := HZ.out; simp; omega
  have hb0 : ((s[0]'(by omega)).toNat : Int) = 128 := by rw [hb 0 (by omega)]; rfl
  have HB : Hid (∀ (j : Nat) (h : j < s.size), ((s[j]'h).toNat : Int) = padFn n z 8 j) := hb
  clear hb
  go_wp2
  clear t1 t1' hb0
  go_loop [4, 5] (fun b i => ∃ k : Nat, 1 ≤ k ∧ k ≤ z + 9 ∧ i = .int .i64 k ∧ b = .int .u64 (if k ≤ z then 0 else fillFn n z k)) (fun _ i => z + 9 - (intOf i).toNat)
  case atStart =>
    refine ⟨1, by omega, by omega, rfl, ?_⟩
    by_cases h : 1 ≤ z
    · rw [if_pos h]
    · obtain rfl : z = 0 := by omega
      rw [if_neg h, fillFn_low]
  case round =>
    obtain ⟨k, hk1, hk2, rfl, rfl⟩ := hrel
    by_cases hlt : k < z + 9
    · have hpk := HB.out k (by omega)
      by_cases hlow : k ≤ z
      · rw [if_pos hlow]
        have hp0 : ((s[k]'(by omega)).toNat : Int) = 0 := by
          rw [hpk]; unfold padFn; rw [if_neg (by omega), if_neg (by omega)]
        clear hpk
        go_wp2
        go_round
        case rel =>
          refine ⟨k + 1, by omega, by omega, by go_num, ?_⟩
          by_cases h : k + 1 ≤ z
          · rw [if_pos h]; rfl
          · rw [if_neg h, show k = z from by omega, fillFn_low]; rfl
        case measure => simp [intOf]; omega
      · rw [if_neg hlow]
        have hf := fillFn_small n z k (by omega) hlt
        have hst : Hid (fillFn n z (k + 1) = fillFn n z k * 256 + padFn n z 8 k) := fillFn_step n z k (by omega) hlt
        have hbd := padFn_byte n z 8 k
        go_wp2
        go_round
        case rel =>
          refine ⟨k + 1, by omega, by omega, by go_num, ?_⟩
          rw [if_neg (by omega), hst.out, or_u64 _ _ hf.1 hf.2 hbd.1 hbd.2]
        case measure => simp [intOf]; omega
    · rw [if_neg (by omega)]
      have he : Hid (fillFn n z k = (8 * n) % 18446744073709551616) := by
        unfold Hid; rw [show k = z + 9 from by omega, fillFn_end]
      go_wp2
      go_ret
      refine ⟨?_, B⟩
      rw [he.out]
      rw [IntKind.wrap_u64, Int.mul_comm n 8, BEq.rfl]
      rfl

theorem fills_walk (n : Int) (w : World) (_h0 : -9223372036854775808 ≤ n) (h1 : n ≤ 9223372036854775807) :
    Calls Try.prog 4 #[.int .i64 n] w fun e w' => e = .returned (.bool true) ∧ Below w.heap.size w w' := by
  by_cases h : n < 0
  · exact fills_neg n w h
  · exact fills_pos n ((119 - n % 64) % 64).toNat w (by omega) h1 (by omega)
#print axioms fills_walk
end Go.Proofs.Ytholbaefmncphaa
