/- The law WireWrites walked: it returns true. -/
import Derived.Test.YtjlbbnjcdickgaaWwB
namespace Go.Proofs.Ytjlbbnjcdickgaa
open Go.RowKit

set_option maxHeartbeats 1000000 in
theorem writes_walk (n : Int) (s : ByteArray) (k : Int) (w : World) (hn0 : 0 ≤ n) (hn1 : n ≤ 18446744073709551615) (hs : s.size ≤ 1048576) (hk0 : -9223372036854775808 ≤ k) (hk1 : k ≤ 9223372036854775807) :
    Calls Try.prog 3 #[.int .u64 n, .string s, .int .i64 k] w fun e w' => e = .returned (.bool true) ∧ Below w.heap.size w w' := by
  have f9 : Hid (fr 9 = 24) := by unfold Hid; decide
  have fs : Hid (fr s.size = ((txt s).size : Int)) := by
    unfold Hid txt
    rw [strFn_size, fr_in s.size (by omega)]; omega
  have ts : (txt s).size ≤ 9223372036854775807 := by
    unfold txt; rw [strFn_size]; have := padN_lt s.size; omega
  go_enter Try.func3, Try.ntmps3
  go_wp2_with fail
  refine (framed_any 9 _ (by omega) (by omega)).mono ?_
  rintro e w1 ⟨rfl, rfl⟩
  rw [f9.out]
  go_wp2_with fail
  refine (int_any n _ hn0 hn1).mono ?_
  rintro e w2 ⟨rfl, b2⟩
  go_wp2_with fail
  refine (rint_any n _ hn0 hn1).mono ?_
  rintro e w3 ⟨rfl, b3⟩
  generalize strFn 8 (w8 n) = S1
  go_wp2_with fail
  refine (text_any s _ (by omega)).mono ?_
  rintro e w4 ⟨rfl, b4⟩
  go_wp2_with fail
  refine (rtext_any s _ hs).mono ?_
  rintro e w5 ⟨rfl, b5⟩
  go_wp2_with fail
  refine (framed_any k _ hk0 hk1).mono ?_
  rintro e w6 ⟨rfl, rfl⟩
  go_wp2_with fail
  refine (rframed_any k _ hk0 hk1).mono ?_
  rintro e w7 ⟨rfl, rfl⟩
  generalize fr k = K1
  go_wp2_with fail
  refine (framed_any s.size _ (by omega) (by omega)).mono ?_
  rintro e w8 ⟨rfl, rfl⟩
  rw [fs.out]
  go_wp2_with fail
  refine (text_any s _ (by omega)).mono ?_
  rintro e w9 ⟨rfl, b9⟩
  go_wp2_with fail
  go_ret
  refine ⟨rfl, ?_⟩
  have c3 := b2.trans (b3.mono b2.size)
  have c4 := c3.trans (b4.mono c3.size)
  have c5 := c4.trans (b5.mono c4.size)
  exact c5.trans (b9.mono c5.size)

end Go.Proofs.Ytjlbbnjcdickgaa
