/- nar.behind, walked; at every next (own text of the verifier). -/
import Derived.Test.YtljcbibcdajhiaaNa1
namespace Go.Proofs.Ytljcbibcdajhiaa
open Go.RowKit

set_option maxHeartbeats 2000000 in
set_option maxRecDepth 10000 in
theorem behind12 (s : ByteArray) (w : World) : Calls Try.prog 66 #[.int .i64 12, .string s] w fun e w' => e = .returned (.tuple #[.int .i64 (bhP 12 s).1, .bool (bhP 12 s).2]) ∧ w' = w := by
  by_cases h0 : s = wOpen
  · have HB : Hid (bhP 12 s = (13, true)) := by subst h0; unfold Hid; decide +kernel
    have p : s.toList = [40] := by subst h0; rw [Lib.toList_data]; rfl
    clear h0
    go_enter Try.func66, Try.ntmps66
    go_wp2
    go_ret2
    exact ⟨by rw [HB.out]; rfl, rfl⟩
  have n0 : ¬ s.toList = [40] := fun h => h0 (ByteArray.ext (Array.toList_inj.1 (by rw [← Lib.toList_data, h]; rfl)))
  have HB : Hid (bhP 12 s = (0, false)) := by simp [Hid, bhP, h0]
  clear h0
  go_enter Try.func66, Try.ntmps66
  go_wp2
  go_ret2
  exact ⟨by rw [HB.out]; rfl, rfl⟩
set_option maxHeartbeats 2000000 in
set_option maxRecDepth 10000 in
theorem behind13 (s : ByteArray) (w : World) : Calls Try.prog 66 #[.int .i64 13, .string s] w fun e w' => e = .returned (.tuple #[.int .i64 (bhP 13 s).1, .bool (bhP 13 s).2]) ∧ w' = w := by
  by_cases h0 : s = wName
  · have HB : Hid (bhP 13 s = (14, true)) := by subst h0; unfold Hid; decide +kernel
    have p : s.toList = [110, 97, 109, 101] := by subst h0; rw [Lib.toList_data]; rfl
    clear h0
    go_enter Try.func66, Try.ntmps66
    go_wp2
    go_ret2
    exact ⟨by rw [HB.out]; rfl, rfl⟩
  have n0 : ¬ s.toList = [110, 97, 109, 101] := fun h => h0 (ByteArray.ext (Array.toList_inj.1 (by rw [← Lib.toList_data, h]; rfl)))
  have HB : Hid (bhP 13 s = (0, false)) := by simp [Hid, bhP, h0]
  clear h0
  go_enter Try.func66, Try.ntmps66
  go_wp2
  go_ret2
  exact ⟨by rw [HB.out]; rfl, rfl⟩
set_option maxHeartbeats 2000000 in
set_option maxRecDepth 10000 in
theorem behind14 (s : ByteArray) (w : World) : Calls Try.prog 66 #[.int .i64 14, .string s] w fun e w' => e = .returned (.tuple #[.int .i64 (bhP 14 s).1, .bool (bhP 14 s).2]) ∧ w' = w := by
  have HB : Hid (bhP 14 s = (0, false)) := by simp [Hid, bhP]
  go_enter Try.func66, Try.ntmps66
  go_wp2
  go_ret2
  exact ⟨by rw [HB.out]; rfl, rfl⟩
set_option maxHeartbeats 2000000 in
set_option maxRecDepth 10000 in
theorem behind15 (s : ByteArray) (w : World) : Calls Try.prog 66 #[.int .i64 15, .string s] w fun e w' => e = .returned (.tuple #[.int .i64 (bhP 15 s).1, .bool (bhP 15 s).2]) ∧ w' = w := by
  by_cases h0 : s = wNode
  · have HB : Hid (bhP 15 s = (1, true)) := by subst h0; unfold Hid; decide +kernel
    have p : s.toList = [110, 111, 100, 101] := by subst h0; rw [Lib.toList_data]; rfl
    clear h0
    go_enter Try.func66, Try.ntmps66
    go_wp2
    go_ret2
    exact ⟨by rw [HB.out]; rfl, rfl⟩
  have n0 : ¬ s.toList = [110, 111, 100, 101] := fun h => h0 (ByteArray.ext (Array.toList_inj.1 (by rw [← Lib.toList_data, h]; rfl)))
  have HB : Hid (bhP 15 s = (0, false)) := by simp [Hid, bhP, h0]
  clear h0
  go_enter Try.func66, Try.ntmps66
  go_wp2
  go_ret2
  exact ⟨by rw [HB.out]; rfl, rfl⟩
set_option maxHeartbeats 2000000 in
set_option maxRecDepth 10000 in
theorem behind16 (s : ByteArray) (w : World) : Calls Try.prog 66 #[.int .i64 16, .string s] w fun e w' => e = .returned (.tuple #[.int .i64 (bhP 16 s).1, .bool (bhP 16 s).2]) ∧ w' = w := by
  by_cases h0 : s = wClose
  · have HB : Hid (bhP 16 s = (11, true)) := by subst h0; unfold Hid; decide +kernel
    have p : s.toList = [41] := by subst h0; rw [Lib.toList_data]; rfl
    clear h0
    go_enter Try.func66, Try.ntmps66
    go_wp2
    go_ret2
    exact ⟨by rw [HB.out]; rfl, rfl⟩
  have n0 : ¬ s.toList = [41] := fun h => h0 (ByteArray.ext (Array.toList_inj.1 (by rw [← Lib.toList_data, h]; rfl)))
  have HB : Hid (bhP 16 s = (0, false)) := by simp [Hid, bhP, h0]
  clear h0
  go_enter Try.func66, Try.ntmps66
  go_wp2
  go_ret2
  exact ⟨by rw [HB.out]; rfl, rfl⟩
set_option maxHeartbeats 2000000 in
set_option maxRecDepth 10000 in
theorem behind17 (s : ByteArray) (w : World) : Calls Try.prog 66 #[.int .i64 17, .string s] w fun e w' => e = .returned (.tuple #[.int .i64 (bhP 17 s).1, .bool (bhP 17 s).2]) ∧ w' = w := by
  have HB : Hid (bhP 17 s = (0, false)) := by simp [Hid, bhP]
  go_enter Try.func66, Try.ntmps66
  go_wp2
  go_ret2
  exact ⟨by rw [HB.out]; rfl, rfl⟩
end Go.Proofs.Ytljcbibcdajhiaa
