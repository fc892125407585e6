/- The law ShaPads walked: it returns true for every n. -/
import Derived.Test.YtholbaefmncphaaPadB
namespace Go.Proofs.Ytholbaefmncphaa
open Go.RowKit
set_option maxHeartbeats 400000 in
theorem pad_neg (n : Int) (w : World) (h0 : n < 0) : Calls Try.prog 5 #[.int .i64 n] w fun e w' => e = .returned (.string ⟨#[]⟩) ∧ Below w.heap.size w w' := by
  go_enter Try.func5, Try.ntmps5
  go_wp2
  go_ret
  exact ⟨rfl, Below.refl _ _⟩
set_option maxHeartbeats 400000 in
theorem rpad_neg (n : Int) (w : World) (h0 : n < 0) : Calls Try.prog 6 #[.int .i64 n] w fun e w' => e = .returned (.string ⟨#[]⟩) ∧ Below w.heap.size w w' := by
  go_enter Try.func6, Try.ntmps6
  go_wp2
  go_ret
  exact ⟨rfl, Below.refl _ _⟩
/-- The padding as a function of n. -/
def padStr (n : Int) : ByteArray := if n < 0 then ⟨#[]⟩ else strFn (((119 - n % 64) % 64).toNat + 9) (padFn n ((119 - n % 64) % 64).toNat 8)
theorem pad_all (n : Int) (w : World) (h1 : n ≤ 9223372036854775807) : Calls Try.prog 5 #[.int .i64 n] w fun e w' => e = .returned (.string (padStr n)) ∧ Below w.heap.size w w' := by
  unfold padStr
  by_cases h : n < 0
  · rw [if_pos h]; exact pad_neg n w h
  · rw [if_neg h]; exact pad_any n _ w (by omega) h1 (by omega)
theorem rpad_all (n : Int) (w : World) (h1 : n ≤ 9223372036854775807) : Calls Try.prog 6 #[.int .i64 n] w fun e w' => e = .returned (.string (padStr n)) ∧ Below w.heap.size w w' := by
  unfold padStr
  by_cases h : n < 0
  · rw [if_pos h]; exact rpad_neg n w h
  · rw [if_neg h]; exact rpad_any n _ w (by omega) h1 (by omega)
theorem pad55 : padStr 55 = ⟨#[128, 0, 0, 0, 0, 0, 0, 1, 184]⟩ := by decide +kernel
set_option maxHeartbeats 400000 in
theorem pads_walk (n : Int) (w : World) (_h0 : -9223372036854775808 ≤ n) (h1 : n ≤ 9223372036854775807) :
    Calls Try.prog 3 #[.int .i64 n] w fun e w' => e = .returned (.bool true) ∧ Below w.heap.size w w' := by
  go_enter Try.func3, Try.ntmps3
  go_wp2_with fail
  refine (pad_all 55 _ (by omega)).mono ?_
  rintro e w1 ⟨rfl, b1⟩
  rw [pad55]
  go_wp2_with fail
  refine (pad_all n _ h1).mono ?_
  rintro e w2 ⟨rfl, b2⟩
  go_wp2_with fail
  refine (rpad_all n _ h1).mono ?_
  rintro e w3 ⟨rfl, b3⟩
  go_wp2
  go_ret
  refine ⟨by simp, ?_⟩
  exact (b1.trans (b2.mono b1.size)).trans (b3.mono (Nat.le_trans b1.size b2.size))
#print axioms pads_walk
end Go.Proofs.Ytholbaefmncphaa
