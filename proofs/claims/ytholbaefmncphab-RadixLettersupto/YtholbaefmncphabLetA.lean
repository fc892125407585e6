/- What the document's own Value and bits answer. -/
import Derived.Test.YtholbaefmncphabB32B
import Derived.Test.YtholbaefmncphabAp
namespace Go.Proofs.Ytholbaefmncphab
open Go.RowKit
theorem Try.hinfo3 : (Try.prog.info? 3).map (fun i => (i.zero, i.size, i.bytes)) = some (some (.int .i64 0), 1, 8) := by kernel_rfl

theorem vl_first : ∀ c : Nat, c < 256 → ∀ d : Nat, d < 32 → (bt lts d = c ↔ vl c = d) := by decide +kernel

set_option maxHeartbeats 400000 in
theorem rvalue_any (c : Int) (w : World) (h0 : 0 ≤ c) (h1 : c < 256) :
    Calls Try.prog 14 #[.int .u8 c] w fun e w' => e = .returned (.int .i64 (vl c)) ∧ w' = w := by
  have hf : Hid (∀ d : Nat, d < 32 → (bt lts d = c ↔ vl c = d)) := by
    intro d hd
    obtain ⟨n, rfl⟩ : ∃ n : Nat, c = n := ⟨c.toNat, by omega⟩
    exact vl_first n (by omega) d hd
  have hsp : Hid ((0 ≤ vl c ∧ vl c < 32 ∧ lt32 (vl c) = c) ∨ vl c = -1) := vl_spec c ⟨h0, h1⟩
  have hg := get_bt lts
  have hsz : lts.size = 32 := rfl
  go_enter Try.func14, Try.ntmps14
  go_wp2
  go_loop [3] (fun i => ∃ k : Nat, k ≤ 32 ∧ i = .int .i64 k ∧ (∀ j : Nat, j < k → vl c ≠ j)) (fun i => 32 - (intOf i).toNat)
  case atStart => exact ⟨0, Nat.zero_le _, rfl, fun j hj => absurd hj (by omega)⟩
  case round =>
    obtain ⟨k, hk, rfl, hno⟩ := hrel
    have HNO : Hid (∀ j : Nat, j < k → vl c ≠ j) := hno
    clear hno
    by_cases hlt : k < 32
    · rw [show (⟨#[48, 49, 50, 51, 52, 53, 54, 55, 56, 57, 97, 98, 99, 100, 102, 103, 104, 105, 106, 107, 108, 109, 110, 112, 113, 114, 115, 118, 119, 120, 121, 122]⟩ : ByteArray) = lts from rfl]
      by_cases he : vl c = k
      · have t1 : (bt lts k == c) = true := by rw [beq_iff_eq]; exact (hf.out k hlt).2 he
        have HE : Hid (vl c = k) := he
        clear he
        go_wp2
        go_ret
        rw [HE.out]
        exact ⟨rfl, rfl⟩
      · have t1 : (bt lts k == c) = false := by rw [beq_eq_false_iff_ne]; exact fun h => he ((hf.out k hlt).1 h)
        have HE : Hid (vl c ≠ k) := he
        clear he
        go_wp2
        go_round
        case rel =>
          refine ⟨k + 1, by omega, by go_num, fun j hj => ?_⟩
          by_cases e : j = k
          · rw [e]; exact HE.out
          · exact HNO.out j (by omega)
        case measure => simp [intOf]; omega
    · have hm : Hid (vl c = -1) := by
        rcases hsp.out with h | h
        · exact absurd (show vl c = ((vl c).toNat : Int) from by omega) (HNO.out (vl c).toNat (by omega))
        · exact h
      go_wp2
      go_ret
      rw [hm.out]
      exact ⟨rfl, rfl⟩

/-- Bit j of a text, the lowest of the first byte first. -/
def bitF (s : ByteArray) (j : Nat) : Int := bt s (j / 8) / 2 ^ (j % 8) % 2

theorem bitF_at (s : ByteArray) (i k : Nat) (hk : k < 8) (y : Int) (hy : y = bt s i / 2 ^ k) : y % 2 = bitF s (8 * i + k) := by
  unfold bitF
  rw [show (8 * i + k) / 8 = i from by omega, show (8 * i + k) % 8 = k from by omega, hy]

theorem half_at (a : Int) (k : Nat) (y : Int) (hy : y = a / 2 ^ k) : y / 2 = a / 2 ^ (k + 1) := by
  rw [hy, Int.pow_succ, Int.ediv_ediv_of_nonneg (Int.pow_nonneg (by omega))]

#print axioms rvalue_any
end Go.Proofs.Ytholbaefmncphab
