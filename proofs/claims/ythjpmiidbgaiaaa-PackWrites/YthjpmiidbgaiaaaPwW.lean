/- The law PackWrites. -/
import Derived.Test.YthjpmiidbgaiaaaPwF
namespace Go.Proofs.Ythjpmiidbgaiaaa
open Go.RowKit

set_option maxHeartbeats 4000000 in
set_option maxRecDepth 10000 in
theorem writes_walk (s : ByteArray) (w : World) (hs : s.size ≤ 9223372036854775807) : Calls Try.prog 3 #[.string s] w fun e w' => e = .returned (.bool true) ∧ Below w.heap.size w w' := by
  by_cases hb : 1048576 < s.size
  · go_enter Try.func3, Try.ntmps3
    go_wp2_with fail
    refine (awake_any _).mono ?_
    rintro e w1 ⟨rfl, B1⟩
    go_wp2_with fail
    refine (pk_big s w1 hb hs).mono ?_
    rintro e w2 ⟨rfl, rfl⟩
    go_wp2_with fail
    refine (rpk_big s w2 hb hs).mono ?_
    rintro e w3 ⟨rfl, rfl⟩
    go_wp2
    go_ret
    exact ⟨rfl, B1⟩
  · obtain ⟨l, rfl⟩ : ∃ l, s = ba l := ⟨s.data.toList, (ba_list s).symm⟩
    rw [ba_size] at hb hs
    have PC := fun w => pack_any l w (by omega)
    have RC := fun w => rpack_any l w (by omega)
    generalize pk l = P at PC RC
    go_enter Try.func3, Try.ntmps3
    go_wp2_with fail
    refine (awake_any _).mono ?_
    rintro e w1 ⟨rfl, B1⟩
    go_wp2_with fail
    refine (PC _).mono ?_
    rintro e w2 ⟨rfl, B2⟩
    go_wp2_with fail
    refine (RC _).mono ?_
    rintro e w3 ⟨rfl, B3⟩
    have HB : Hid (Below w.heap.size w w3) := bel_trans (bel_trans B1 B2) B3
    clear PC RC B1 B2 B3
    go_wp2
    go_ret
    exact ⟨rfl, HB.out⟩

end Go.Proofs.Ythjpmiidbgaiaaa
