/- NaGa, joined (own text of the verifier). -/
import Derived.Test.YtljcbibcdajhiaaNa1
namespace Go.Proofs.Ytljcbibcdajhiaa
open Go.RowKit

set_option maxHeartbeats 2000000 in
set_option maxRecDepth 10000 in
theorem behind0 (s : ByteArray) (w : World) : Calls Try.prog 66 #[.int .i64 0, .string s] w fun e w' => e = .returned (.tuple #[.int .i64 (bhP 0 s).1, .bool (bhP 0 s).2]) ∧ w' = w := by
  by_cases h0 : s = wMagic
  · have HB : Hid (bhP 0 s = (1, true)) := by subst h0; unfold Hid; decide +kernel
    have p : s.toList = [100, 101, 112, 111, 116, 45, 97, 114, 99, 104, 105, 118, 101, 45, 49] := by subst h0; rw [Lib.toList_data]; rfl
    clear h0
    go_enter Try.func66, Try.ntmps66
    go_wp2
    go_ret2
    exact ⟨by rw [HB.out]; rfl, rfl⟩
  have n0 : ¬ s.toList = [100, 101, 112, 111, 116, 45, 97, 114, 99, 104, 105, 118, 101, 45, 49] := fun h => h0 (ByteArray.ext (Array.toList_inj.1 (by rw [← Lib.toList_data, h]; rfl)))
  have HB : Hid (bhP 0 s = (0, false)) := by simp [Hid, bhP, h0]
  clear h0
  go_enter Try.func66, Try.ntmps66
  go_wp2
  go_ret2
  exact ⟨by rw [HB.out]; rfl, rfl⟩
set_option maxHeartbeats 2000000 in
set_option maxRecDepth 10000 in
theorem behind1 (s : ByteArray) (w : World) : Calls Try.prog 66 #[.int .i64 1, .string s] w fun e w' => e = .returned (.tuple #[.int .i64 (bhP 1 s).1, .bool (bhP 1 s).2]) ∧ w' = w := by
  by_cases h0 : s = wOpen
  · have HB : Hid (bhP 1 s = (2, true)) := by subst h0; unfold Hid; decide +kernel
    have p : s.toList = [40] := by subst h0; rw [Lib.toList_data]; rfl
    clear h0
    go_enter Try.func66, Try.ntmps66
    go_wp2
    go_ret2
    exact ⟨by rw [HB.out]; rfl, rfl⟩
  have n0 : ¬ s.toList = [40] := fun h => h0 (ByteArray.ext (Array.toList_inj.1 (by rw [← Lib.toList_data, h]; rfl)))
  have HB : Hid (bhP 1 s = (0, false)) := by simp [Hid, bhP, h0]
  clear h0
  go_enter Try.func66, Try.ntmps66
  go_wp2
  go_ret2
  exact ⟨by rw [HB.out]; rfl, rfl⟩
set_option maxHeartbeats 2000000 in
set_option maxRecDepth 10000 in
theorem behind2 (s : ByteArray) (w : World) : Calls Try.prog 66 #[.int .i64 2, .string s] w fun e w' => e = .returned (.tuple #[.int .i64 (bhP 2 s).1, .bool (bhP 2 s).2]) ∧ w' = w := by
  by_cases h0 : s = wType
  · have HB : Hid (bhP 2 s = (3, true)) := by subst h0; unfold Hid; decide +kernel
    have p : s.toList = [116, 121, 112, 101] := by subst h0; rw [Lib.toList_data]; rfl
    clear h0
    go_enter Try.func66, Try.ntmps66
    go_wp2
    go_ret2
    exact ⟨by rw [HB.out]; rfl, rfl⟩
  have n0 : ¬ s.toList = [116, 121, 112, 101] := fun h => h0 (ByteArray.ext (Array.toList_inj.1 (by rw [← Lib.toList_data, h]; rfl)))
  have HB : Hid (bhP 2 s = (0, false)) := by simp [Hid, bhP, h0]
  clear h0
  go_enter Try.func66, Try.ntmps66
  go_wp2
  go_ret2
  exact ⟨by rw [HB.out]; rfl, rfl⟩
set_option maxHeartbeats 2000000 in
set_option maxRecDepth 10000 in
theorem behind3 (s : ByteArray) (w : World) : Calls Try.prog 66 #[.int .i64 3, .string s] w fun e w' => e = .returned (.tuple #[.int .i64 (bhP 3 s).1, .bool (bhP 3 s).2]) ∧ w' = w := by
  by_cases h0 : s = wRegular
  · have HB : Hid (bhP 3 s = (4, true)) := by subst h0; unfold Hid; decide +kernel
    have p : s.toList = [114, 101, 103, 117, 108, 97, 114] := by subst h0; rw [Lib.toList_data]; rfl
    clear h0
    go_enter Try.func66, Try.ntmps66
    go_wp2
    go_ret2
    exact ⟨by rw [HB.out]; rfl, rfl⟩
  have n0 : ¬ s.toList = [114, 101, 103, 117, 108, 97, 114] := fun h => h0 (ByteArray.ext (Array.toList_inj.1 (by rw [← Lib.toList_data, h]; rfl)))
  by_cases h1 : s = wSymlink
  · have HB : Hid (bhP 3 s = (8, true)) := by subst h1; unfold Hid; decide +kernel
    have p : s.toList = [115, 121, 109, 108, 105, 110, 107] := by subst h1; rw [Lib.toList_data]; rfl
    clear h1
    go_enter Try.func66, Try.ntmps66
    go_wp2
    go_ret2
    exact ⟨by rw [HB.out]; rfl, rfl⟩
  have n1 : ¬ s.toList = [115, 121, 109, 108, 105, 110, 107] := fun h => h1 (ByteArray.ext (Array.toList_inj.1 (by rw [← Lib.toList_data, h]; rfl)))
  by_cases h2 : s = wDirectory
  · have HB : Hid (bhP 3 s = (11, true)) := by subst h2; unfold Hid; decide +kernel
    have p : s.toList = [100, 105, 114, 101, 99, 116, 111, 114, 121] := by subst h2; rw [Lib.toList_data]; rfl
    clear h2
    go_enter Try.func66, Try.ntmps66
    go_wp2
    go_ret2
    exact ⟨by rw [HB.out]; rfl, rfl⟩
  have n2 : ¬ s.toList = [100, 105, 114, 101, 99, 116, 111, 114, 121] := fun h => h2 (ByteArray.ext (Array.toList_inj.1 (by rw [← Lib.toList_data, h]; rfl)))
  have HB : Hid (bhP 3 s = (0, false)) := by simp [Hid, bhP, h0, h1, h2]
  clear h0 h1 h2
  go_enter Try.func66, Try.ntmps66
  go_wp2
  go_ret2
  exact ⟨by rw [HB.out]; rfl, rfl⟩
set_option maxHeartbeats 2000000 in
set_option maxRecDepth 10000 in
theorem behind4 (s : ByteArray) (w : World) : Calls Try.prog 66 #[.int .i64 4, .string s] w fun e w' => e = .returned (.tuple #[.int .i64 (bhP 4 s).1, .bool (bhP 4 s).2]) ∧ w' = w := by
  by_cases h0 : s = wExec
  · have HB : Hid (bhP 4 s = (5, true)) := by subst h0; unfold Hid; decide +kernel
    have p : s.toList = [101, 120, 101, 99, 117, 116, 97, 98, 108, 101] := by subst h0; rw [Lib.toList_data]; rfl
    clear h0
    go_enter Try.func66, Try.ntmps66
    go_wp2
    go_ret2
    exact ⟨by rw [HB.out]; rfl, rfl⟩
  have n0 : ¬ s.toList = [101, 120, 101, 99, 117, 116, 97, 98, 108, 101] := fun h => h0 (ByteArray.ext (Array.toList_inj.1 (by rw [← Lib.toList_data, h]; rfl)))
  by_cases h1 : s = wContents
  · have HB : Hid (bhP 4 s = (7, true)) := by subst h1; unfold Hid; decide +kernel
    have p : s.toList = [99, 111, 110, 116, 101, 110, 116, 115] := by subst h1; rw [Lib.toList_data]; rfl
    clear h1
    go_enter Try.func66, Try.ntmps66
    go_wp2
    go_ret2
    exact ⟨by rw [HB.out]; rfl, rfl⟩
  have n1 : ¬ s.toList = [99, 111, 110, 116, 101, 110, 116, 115] := fun h => h1 (ByteArray.ext (Array.toList_inj.1 (by rw [← Lib.toList_data, h]; rfl)))
  have HB : Hid (bhP 4 s = (0, false)) := by simp [Hid, bhP, h0, h1]
  clear h0 h1
  go_enter Try.func66, Try.ntmps66
  go_wp2
  go_ret2
  exact ⟨by rw [HB.out]; rfl, rfl⟩
set_option maxHeartbeats 2000000 in
set_option maxRecDepth 10000 in
theorem behind5 (s : ByteArray) (w : World) : Calls Try.prog 66 #[.int .i64 5, .string s] w fun e w' => e = .returned (.tuple #[.int .i64 (bhP 5 s).1, .bool (bhP 5 s).2]) ∧ w' = w := by
  by_cases h0 : s = wNone
  · have HB : Hid (bhP 5 s = (6, true)) := by subst h0; unfold Hid; decide +kernel
    have p : s.toList = [] := by subst h0; rw [Lib.toList_data]; rfl
    clear h0
    go_enter Try.func66, Try.ntmps66
    go_wp2
    go_ret2
    exact ⟨by rw [HB.out]; rfl, rfl⟩
  have n0 : ¬ s.toList = [] := fun h => h0 (ByteArray.ext (Array.toList_inj.1 (by rw [← Lib.toList_data, h]; rfl)))
  have HB : Hid (bhP 5 s = (0, false)) := by simp [Hid, bhP, h0]
  clear h0
  go_enter Try.func66, Try.ntmps66
  go_wp2
  go_ret2
  exact ⟨by rw [HB.out]; rfl, rfl⟩
end Go.Proofs.Ytljcbibcdajhiaa
