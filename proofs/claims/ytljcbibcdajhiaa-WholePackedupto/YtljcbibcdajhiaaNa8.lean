/- nar.behind, walked (own text of the verifier). -/
import Derived.Test.YtljcbibcdajhiaaNa1
namespace Go.Proofs.Ytljcbibcdajhiaa
open Go.RowKit

set_option maxHeartbeats 2000000 in
set_option maxRecDepth 10000 in
theorem behind6 (s : ByteArray) (w : World) : Calls Try.prog 66 #[.int .i64 6, .string s] w fun e w' => e = .returned (.tuple #[.int .i64 (bhP 6 s).1, .bool (bhP 6 s).2]) ∧ w' = w := by
  by_cases h0 : s = wContents
  · have HB : Hid (bhP 6 s = (7, true)) := by subst h0; unfold Hid; decide +kernel
    have p : s.toList = [99, 111, 110, 116, 101, 110, 116, 115] := by subst h0; rw [Lib.toList_data]; rfl
    clear h0
    go_enter Try.func66, Try.ntmps66
    go_wp2
    go_ret2
    exact ⟨by rw [HB.out]; rfl, rfl⟩
  have n0 : ¬ s.toList = [99, 111, 110, 116, 101, 110, 116, 115] := fun h => h0 (ByteArray.ext (Array.toList_inj.1 (by rw [← Lib.toList_data, h]; rfl)))
  have HB : Hid (bhP 6 s = (0, false)) := by simp [Hid, bhP, h0]
  clear h0
  go_enter Try.func66, Try.ntmps66
  go_wp2
  go_ret2
  exact ⟨by rw [HB.out]; rfl, rfl⟩
set_option maxHeartbeats 2000000 in
set_option maxRecDepth 10000 in
theorem behind7 (s : ByteArray) (w : World) : Calls Try.prog 66 #[.int .i64 7, .string s] w fun e w' => e = .returned (.tuple #[.int .i64 (bhP 7 s).1, .bool (bhP 7 s).2]) ∧ w' = w := by
  have HB : Hid (bhP 7 s = (0, false)) := by simp [Hid, bhP]
  go_enter Try.func66, Try.ntmps66
  go_wp2
  go_ret2
  exact ⟨by rw [HB.out]; rfl, rfl⟩
set_option maxHeartbeats 2000000 in
set_option maxRecDepth 10000 in
theorem behind8 (s : ByteArray) (w : World) : Calls Try.prog 66 #[.int .i64 8, .string s] w fun e w' => e = .returned (.tuple #[.int .i64 (bhP 8 s).1, .bool (bhP 8 s).2]) ∧ w' = w := by
  by_cases h0 : s = wTarget
  · have HB : Hid (bhP 8 s = (9, true)) := by subst h0; unfold Hid; decide +kernel
    have p : s.toList = [116, 97, 114, 103, 101, 116] := by subst h0; rw [Lib.toList_data]; rfl
    clear h0
    go_enter Try.func66, Try.ntmps66
    go_wp2
    go_ret2
    exact ⟨by rw [HB.out]; rfl, rfl⟩
  have n0 : ¬ s.toList = [116, 97, 114, 103, 101, 116] := fun h => h0 (ByteArray.ext (Array.toList_inj.1 (by rw [← Lib.toList_data, h]; rfl)))
  have HB : Hid (bhP 8 s = (0, false)) := by simp [Hid, bhP, h0]
  clear h0
  go_enter Try.func66, Try.ntmps66
  go_wp2
  go_ret2
  exact ⟨by rw [HB.out]; rfl, rfl⟩
set_option maxHeartbeats 2000000 in
set_option maxRecDepth 10000 in
theorem behind9 (s : ByteArray) (w : World) : Calls Try.prog 66 #[.int .i64 9, .string s] w fun e w' => e = .returned (.tuple #[.int .i64 (bhP 9 s).1, .bool (bhP 9 s).2]) ∧ w' = w := by
  have HB : Hid (bhP 9 s = (0, false)) := by simp [Hid, bhP]
  go_enter Try.func66, Try.ntmps66
  go_wp2
  go_ret2
  exact ⟨by rw [HB.out]; rfl, rfl⟩
set_option maxHeartbeats 2000000 in
set_option maxRecDepth 10000 in
theorem behind10 (s : ByteArray) (w : World) : Calls Try.prog 66 #[.int .i64 10, .string s] w fun e w' => e = .returned (.tuple #[.int .i64 (bhP 10 s).1, .bool (bhP 10 s).2]) ∧ w' = w := by
  by_cases h0 : s = wClose
  · have HB : Hid (bhP 10 s = (16, true)) := by subst h0; unfold Hid; decide +kernel
    have p : s.toList = [41] := by subst h0; rw [Lib.toList_data]; rfl
    clear h0
    go_enter Try.func66, Try.ntmps66
    go_wp2
    go_ret2
    exact ⟨by rw [HB.out]; rfl, rfl⟩
  have n0 : ¬ s.toList = [41] := fun h => h0 (ByteArray.ext (Array.toList_inj.1 (by rw [← Lib.toList_data, h]; rfl)))
  have HB : Hid (bhP 10 s = (0, false)) := by simp [Hid, bhP, h0]
  clear h0
  go_enter Try.func66, Try.ntmps66
  go_wp2
  go_ret2
  exact ⟨by rw [HB.out]; rfl, rfl⟩
set_option maxHeartbeats 2000000 in
set_option maxRecDepth 10000 in
theorem behind11 (s : ByteArray) (w : World) : Calls Try.prog 66 #[.int .i64 11, .string s] w fun e w' => e = .returned (.tuple #[.int .i64 (bhP 11 s).1, .bool (bhP 11 s).2]) ∧ w' = w := by
  by_cases h0 : s = wClose
  · have HB : Hid (bhP 11 s = (16, true)) := by subst h0; unfold Hid; decide +kernel
    have p : s.toList = [41] := by subst h0; rw [Lib.toList_data]; rfl
    clear h0
    go_enter Try.func66, Try.ntmps66
    go_wp2
    go_ret2
    exact ⟨by rw [HB.out]; rfl, rfl⟩
  have n0 : ¬ s.toList = [41] := fun h => h0 (ByteArray.ext (Array.toList_inj.1 (by rw [← Lib.toList_data, h]; rfl)))
  by_cases h1 : s = wEntry
  · have HB : Hid (bhP 11 s = (12, true)) := by subst h1; unfold Hid; decide +kernel
    have p : s.toList = [101, 110, 116, 114, 121] := by subst h1; rw [Lib.toList_data]; rfl
    clear h1
    go_enter Try.func66, Try.ntmps66
    go_wp2
    go_ret2
    exact ⟨by rw [HB.out]; rfl, rfl⟩
  have n1 : ¬ s.toList = [101, 110, 116, 114, 121] := fun h => h1 (ByteArray.ext (Array.toList_inj.1 (by rw [← Lib.toList_data, h]; rfl)))
  have HB : Hid (bhP 11 s = (0, false)) := by simp [Hid, bhP, h0, h1]
  clear h0 h1
  go_enter Try.func66, Try.ntmps66
  go_wp2
  go_ret2
  exact ⟨by rw [HB.out]; rfl, rfl⟩
end Go.Proofs.Ytljcbibcdajhiaa
