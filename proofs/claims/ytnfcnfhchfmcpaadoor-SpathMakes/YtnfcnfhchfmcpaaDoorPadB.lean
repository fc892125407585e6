/- The document's padding: what the reference's Pad answers for every n from 0 on: the same string. -/
import Derived.Test.YtnfcnfhchfmcpaaDoorPadA
namespace Go.Proofs.YtnfcnfhchfmcpaaDoor
open Go.RowKit
theorem padFn_low (n : Int) (z j : Nat) (h : j < z + 1) : padFn n z 0 j = padFn n z 8 j := by
  unfold padFn
  by_cases e : j = 0
  · rw [if_pos e, if_pos e]
  · rw [if_neg e, if_neg e, if_neg (by omega), if_neg (by omega)]
set_option maxHeartbeats 400000 in
theorem rpad_any (n : Int) (z : Nat) (w : World) (h0 : 0 ≤ n) (h1 : n ≤ 9223372036854775807) (hz : (z : Int) = (119 - n % 64) % 64) :
    Calls Tryd.prog 36 #[.int .i64 n] w fun e w' => e = .returned (.string (strFn (z + 9) (padFn n z 8))) ∧ Below w.heap.size w w' := by
  have hz' : z < 64 := by omega
  have HZ : Hid ((z : Int) = (119 - n % 64) % 64) := hz
  clear hz
  go_enter Tryd.func36, Tryd.ntmps36
  go_wp2
  go_loop [3] (fun p => ∃ m : Nat, m ≤ z ∧ p = .string (strFn (m + 1) (padFn n z 0))) (fun p => match p with | .string s => z + 1 - s.size | _ => 0)
  case atStart => exact ⟨0, by omega, rfl⟩
  case round =>
    obtain ⟨m, hm, rfl⟩ := hrel
    have hs := strFn_size (m + 1) (padFn n z 0)
    by_cases hlt : m = z
    · subst hlt
      have ht : ((n % 64 + (m + 1)) % 64 != 56) = false := by have := HZ.out; simp; omega
      go_wp2
      have B1 : Hid (IntKind.u64.wrap (n * 8) = (8 * n) % 18446744073709551616) := by unfold Hid; rw [IntKind.wrap_u64, Int.mul_comm]
      rw [show strFn (m + 1) (padFn n m 0) = strFn (m + 1 + 0) (padFn n m 8) from strFn_congr (fun j hj => padFn_low n m j hj)]
      clear hs
      go_loopw [3, 5] (fun p i wr => ∃ k : Nat, k ≤ 8 ∧ i = .int .i64 (7 - (k : Int)) ∧ p = .string (strFn (m + 1 + k) (padFn n m 8)) ∧ Below w.heap.size w wr) (fun _ i _ => (intOf i + 1).toNat)
      case atStart => exact ⟨0, by omega, rfl, rfl, Below.refl _ _⟩
      case round =>
        obtain ⟨k, hk, rfl, rfl, B⟩ := hrel
        by_cases hlt : k < 8
        · have hs := strFn_size (m + 1 + k) (padFn n m 8)
          have hq : 0 ≤ 7 - (k : Int) := by omega
          have bsz := B.size
          have kc := fun x => run_string_one (P := Tryd.prog) wr 39 9 5 1 x Tryd.underlying39 Tryd.underlying5 Tryd.underlying9
          go_wp2
          go_roundw
          case rel =>
            refine ⟨k + 1, by omega, by go_num, ?_, B.alloc bsz _⟩
            rw [B1.out]
            have q0 : 0 ≤ 8 * n % 18446744073709551616 / 2 ^ (8 * (7 - k)) := Int.ediv_nonneg (by omega) (Int.le_of_lt (Int.pow_pos (by omega)))
            have q1 : 8 * n % 18446744073709551616 / 2 ^ (8 * (7 - k)) < 18446744073709551616 := Int.lt_of_le_of_lt (Int.ediv_le_self _ (by omega)) (by omega)
            rw [and255_u64 _ q0 q1, strFn_snoc (m + 1 + k) (padFn n m 8) _ (by
              unfold padFn
              rw [if_neg (by omega), if_pos (by omega), show m + 8 - (m + 1 + k) = 7 - k from by omega, Int.emod_emod])]
            rfl
          case measure => simp [intOf]; omega
        · obtain rfl : k = 8 := by omega
          have hq : ¬ (0 ≤ 7 - ((8 : Nat) : Int)) := by omega
          go_wp2
          go_ret
          exact ⟨rfl, B⟩
    · have ht : ((n % 64 + (m + 1)) % 64 != 56) = true := by have := HZ.out; simp; omega
      go_wp2
      go_round
      case rel =>
        refine ⟨m + 1, by omega, ?_⟩
        rw [strFn_snoc (m + 1) (padFn n z 0) 0 (by unfold padFn; rw [if_neg (by omega), if_neg (by omega)]; rfl)]
      case measure =>
        have e1 : ({ data := #[0] } : ByteArray).size = 1 := rfl
        simp only [ByteArray.size_append, hs, e1]; omega
end Go.Proofs.YtnfcnfhchfmcpaaDoor
