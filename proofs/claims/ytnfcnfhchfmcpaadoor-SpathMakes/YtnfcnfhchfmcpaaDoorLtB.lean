/- What the document's own bits answers. -/
import Derived.Test.YtnfcnfhchfmcpaaDoorLtA
namespace Go.Proofs.YtnfcnfhchfmcpaaDoor
open Go.RowKit
set_option maxHeartbeats 1000000 in
theorem bits_any (s : ByteArray) (w : World) (hs : s.size ≤ 1048576) :
    Calls Tryd.prog 40 #[.string s] w fun e w' => ∃ v, e = .returned v ∧ Own .i64 3 w' w.heap.size v (8 * s.size) (bitF s) ∧ (s.size = 0 → v = .slice none 0 0) ∧ Below w.heap.size w w' := by
  obtain ⟨i0, hi, hz0, hz1, hz2⟩ := info_parts Tryd.hinfo3
  have hb := get_bt s
  go_enter Tryd.func40, Tryd.ntmps40
  go_wp2
  go_loopw [3, 4] (fun v i wr => ∃ k : Nat, k ≤ s.size ∧ i = .int .i64 k ∧ Own .i64 3 wr w.heap.size v (8 * k) (bitF s) ∧ (k = 0 → v = .slice none 0 0) ∧ Below w.heap.size w wr) (fun _ i _ => s.size - (intOf i).toNat)
  case atStart => exact ⟨0, Nat.zero_le _, rfl, Own.nil _ _ _ _ _, fun _ => rfl, Below.refl _ _⟩
  case round =>
    obtain ⟨k, hk, rfl, O, hnil, B⟩ := hrel
    by_cases hlt : k < s.size
    · have hbd := bt_bd s k
      clear hnil
      go_wp2
      go_loopw [3, 5, 6] (fun v x j wi => ∃ (d : Nat) (y : Int), d ≤ 8 ∧ j = .int .i64 d ∧ x = .int .i64 y ∧ 0 ≤ y ∧ y < 256 ∧ y = bt s k / 2 ^ d ∧ Own .i64 3 wi w.heap.size v (8 * k + d) (bitF s) ∧ Below w.heap.size w wi) (fun _ _ j _ => 8 - (intOf j).toNat)
      case atStart => exact ⟨0, bt s k, by omega, rfl, rfl, hbd.1, hbd.2, by simp, O, B⟩
      case round =>
        obtain ⟨d, y, hd, rfl, rfl, hy0, hy1, hy, O, B⟩ := hrel
        have HY : Hid (y = bt s k / 2 ^ d) := hy
        clear hy hbd
        by_cases hdl : d < 8
        · have hbit : Hid (y % 2 = bitF s (8 * k + d)) := bitF_at s k d hdl y HY.out
          have hhalf : Hid (y / 2 = bt s k / 2 ^ (d + 1)) := half_at _ d y HY.out
          have hsz := B.size
          go_wp2_with (at_builtin; refine wpList_append_one _ rfl _ _ 66 rfl w.heap.size 3 i0 .i64 8 Tryd.underlying66 hi hz0 hz1 hz2 (by decide) _ (8 * k + d) (bitF s) rfl (O.alloc _) _ 1 (y % 2) rfl ?c1 hbit.out (by omega) (by simp; omega) ?_)
          case c1 => simp
          intro v' w1 O' b' _
          have B' : Below w.heap.size w w1 := (B.alloc hsz _).trans b'
          clear O B b'
          go_wp2
          go_roundw
          case rel => exact ⟨d + 1, y / 2, by omega, by go_num, by go_num, by omega, by omega, hhalf.out, O', B'⟩
          case measure => simp [intOf]; omega
        · obtain rfl : d = 8 := by omega
          go_wp2
          go_roundw
          case rel => exact ⟨k + 1, by omega, by go_num, by rw [show 8 * (k + 1) = 8 * k + 8 from by omega]; exact O, fun h => absurd h (by omega), B⟩
          case measure => simp [intOf]; omega
    · obtain rfl : k = s.size := by omega
      go_wp2
      go_ret
      exact ⟨_, rfl, O, hnil, B⟩
#print axioms bits_any
end Go.Proofs.YtnfcnfhchfmcpaaDoor
