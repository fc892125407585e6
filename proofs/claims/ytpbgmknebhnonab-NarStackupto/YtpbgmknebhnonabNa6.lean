/- NaGb NaGc NaQ, joined (own text of the verifier). -/
import Derived.Test.YtpbgmknebhnonabNa1
import Derived.Test.YtpbgmknebhnonabNa5
namespace Go.Proofs.Ytpbgmknebhnonab
open Go.RowKit

set_option maxHeartbeats 2000000 in
set_option maxRecDepth 10000 in
theorem behind6 (s : ByteArray) (w : World) : Calls Try.prog 59 #[.int .i64 6, .string s] w fun e w' => e = .returned (.tuple #[.int .i64 (bhP 6 s).1, .bool (bhP 6 s).2]) ∧ w' = w := by
  by_cases h0 : s = wContents
  · have HB : Hid (bhP 6 s = (7, true)) := by subst h0; unfold Hid; decide +kernel
    have p : s.toList = [99, 111, 110, 116, 101, 110, 116, 115] := by subst h0; rw [Lib.toList_data]; rfl
    clear h0
    go_enter Try.func59, Try.ntmps59
    go_wp2
    go_ret2
    exact ⟨by rw [HB.out]; rfl, rfl⟩
  have n0 : ¬ s.toList = [99, 111, 110, 116, 101, 110, 116, 115] := fun h => h0 (ByteArray.ext (Array.toList_inj.1 (by rw [← Lib.toList_data, h]; rfl)))
  have HB : Hid (bhP 6 s = (0, false)) := by simp [Hid, bhP, h0]
  clear h0
  go_enter Try.func59, Try.ntmps59
  go_wp2
  go_ret2
  exact ⟨by rw [HB.out]; rfl, rfl⟩
set_option maxHeartbeats 2000000 in
set_option maxRecDepth 10000 in
theorem behind7 (s : ByteArray) (w : World) : Calls Try.prog 59 #[.int .i64 7, .string s] w fun e w' => e = .returned (.tuple #[.int .i64 (bhP 7 s).1, .bool (bhP 7 s).2]) ∧ w' = w := by
  have HB : Hid (bhP 7 s = (0, false)) := by simp [Hid, bhP]
  go_enter Try.func59, Try.ntmps59
  go_wp2
  go_ret2
  exact ⟨by rw [HB.out]; rfl, rfl⟩
set_option maxHeartbeats 2000000 in
set_option maxRecDepth 10000 in
theorem behind8 (s : ByteArray) (w : World) : Calls Try.prog 59 #[.int .i64 8, .string s] w fun e w' => e = .returned (.tuple #[.int .i64 (bhP 8 s).1, .bool (bhP 8 s).2]) ∧ w' = w := by
  by_cases h0 : s = wTarget
  · have HB : Hid (bhP 8 s = (9, true)) := by subst h0; unfold Hid; decide +kernel
    have p : s.toList = [116, 97, 114, 103, 101, 116] := by subst h0; rw [Lib.toList_data]; rfl
    clear h0
    go_enter Try.func59, Try.ntmps59
    go_wp2
    go_ret2
    exact ⟨by rw [HB.out]; rfl, rfl⟩
  have n0 : ¬ s.toList = [116, 97, 114, 103, 101, 116] := fun h => h0 (ByteArray.ext (Array.toList_inj.1 (by rw [← Lib.toList_data, h]; rfl)))
  have HB : Hid (bhP 8 s = (0, false)) := by simp [Hid, bhP, h0]
  clear h0
  go_enter Try.func59, Try.ntmps59
  go_wp2
  go_ret2
  exact ⟨by rw [HB.out]; rfl, rfl⟩
set_option maxHeartbeats 2000000 in
set_option maxRecDepth 10000 in
theorem behind9 (s : ByteArray) (w : World) : Calls Try.prog 59 #[.int .i64 9, .string s] w fun e w' => e = .returned (.tuple #[.int .i64 (bhP 9 s).1, .bool (bhP 9 s).2]) ∧ w' = w := by
  have HB : Hid (bhP 9 s = (0, false)) := by simp [Hid, bhP]
  go_enter Try.func59, Try.ntmps59
  go_wp2
  go_ret2
  exact ⟨by rw [HB.out]; rfl, rfl⟩
set_option maxHeartbeats 2000000 in
set_option maxRecDepth 10000 in
theorem behind10 (s : ByteArray) (w : World) : Calls Try.prog 59 #[.int .i64 10, .string s] w fun e w' => e = .returned (.tuple #[.int .i64 (bhP 10 s).1, .bool (bhP 10 s).2]) ∧ w' = w := by
  by_cases h0 : s = wClose
  · have HB : Hid (bhP 10 s = (16, true)) := by subst h0; unfold Hid; decide +kernel
    have p : s.toList = [41] := by subst h0; rw [Lib.toList_data]; rfl
    clear h0
    go_enter Try.func59, Try.ntmps59
    go_wp2
    go_ret2
    exact ⟨by rw [HB.out]; rfl, rfl⟩
  have n0 : ¬ s.toList = [41] := fun h => h0 (ByteArray.ext (Array.toList_inj.1 (by rw [← Lib.toList_data, h]; rfl)))
  have HB : Hid (bhP 10 s = (0, false)) := by simp [Hid, bhP, h0]
  clear h0
  go_enter Try.func59, Try.ntmps59
  go_wp2
  go_ret2
  exact ⟨by rw [HB.out]; rfl, rfl⟩
set_option maxHeartbeats 2000000 in
set_option maxRecDepth 10000 in
theorem behind11 (s : ByteArray) (w : World) : Calls Try.prog 59 #[.int .i64 11, .string s] w fun e w' => e = .returned (.tuple #[.int .i64 (bhP 11 s).1, .bool (bhP 11 s).2]) ∧ w' = w := by
  by_cases h0 : s = wClose
  · have HB : Hid (bhP 11 s = (16, true)) := by subst h0; unfold Hid; decide +kernel
    have p : s.toList = [41] := by subst h0; rw [Lib.toList_data]; rfl
    clear h0
    go_enter Try.func59, Try.ntmps59
    go_wp2
    go_ret2
    exact ⟨by rw [HB.out]; rfl, rfl⟩
  have n0 : ¬ s.toList = [41] := fun h => h0 (ByteArray.ext (Array.toList_inj.1 (by rw [← Lib.toList_data, h]; rfl)))
  by_cases h1 : s = wEntry
  · have HB : Hid (bhP 11 s = (12, true)) := by subst h1; unfold Hid; decide +kernel
    have p : s.toList = [101, 110, 116, 114, 121] := by subst h1; rw [Lib.toList_data]; rfl
    clear h1
    go_enter Try.func59, Try.ntmps59
    go_wp2
    go_ret2
    exact ⟨by rw [HB.out]; rfl, rfl⟩
  have n1 : ¬ s.toList = [101, 110, 116, 114, 121] := fun h => h1 (ByteArray.ext (Array.toList_inj.1 (by rw [← Lib.toList_data, h]; rfl)))
  have HB : Hid (bhP 11 s = (0, false)) := by simp [Hid, bhP, h0, h1]
  clear h0 h1
  go_enter Try.func59, Try.ntmps59
  go_wp2
  go_ret2
  exact ⟨by rw [HB.out]; rfl, rfl⟩
end Go.Proofs.Ytpbgmknebhnonab

namespace Go.Proofs.Ytpbgmknebhnonab
open Go.RowKit

set_option maxHeartbeats 2000000 in
set_option maxRecDepth 10000 in
theorem behind12 (s : ByteArray) (w : World) : Calls Try.prog 59 #[.int .i64 12, .string s] w fun e w' => e = .returned (.tuple #[.int .i64 (bhP 12 s).1, .bool (bhP 12 s).2]) ∧ w' = w := by
  by_cases h0 : s = wOpen
  · have HB : Hid (bhP 12 s = (13, true)) := by subst h0; unfold Hid; decide +kernel
    have p : s.toList = [40] := by subst h0; rw [Lib.toList_data]; rfl
    clear h0
    go_enter Try.func59, Try.ntmps59
    go_wp2
    go_ret2
    exact ⟨by rw [HB.out]; rfl, rfl⟩
  have n0 : ¬ s.toList = [40] := fun h => h0 (ByteArray.ext (Array.toList_inj.1 (by rw [← Lib.toList_data, h]; rfl)))
  have HB : Hid (bhP 12 s = (0, false)) := by simp [Hid, bhP, h0]
  clear h0
  go_enter Try.func59, Try.ntmps59
  go_wp2
  go_ret2
  exact ⟨by rw [HB.out]; rfl, rfl⟩
set_option maxHeartbeats 2000000 in
set_option maxRecDepth 10000 in
theorem behind13 (s : ByteArray) (w : World) : Calls Try.prog 59 #[.int .i64 13, .string s] w fun e w' => e = .returned (.tuple #[.int .i64 (bhP 13 s).1, .bool (bhP 13 s).2]) ∧ w' = w := by
  by_cases h0 : s = wName
  · have HB : Hid (bhP 13 s = (14, true)) := by subst h0; unfold Hid; decide +kernel
    have p : s.toList = [110, 97, 109, 101] := by subst h0; rw [Lib.toList_data]; rfl
    clear h0
    go_enter Try.func59, Try.ntmps59
    go_wp2
    go_ret2
    exact ⟨by rw [HB.out]; rfl, rfl⟩
  have n0 : ¬ s.toList = [110, 97, 109, 101] := fun h => h0 (ByteArray.ext (Array.toList_inj.1 (by rw [← Lib.toList_data, h]; rfl)))
  have HB : Hid (bhP 13 s = (0, false)) := by simp [Hid, bhP, h0]
  clear h0
  go_enter Try.func59, Try.ntmps59
  go_wp2
  go_ret2
  exact ⟨by rw [HB.out]; rfl, rfl⟩
set_option maxHeartbeats 2000000 in
set_option maxRecDepth 10000 in
theorem behind14 (s : ByteArray) (w : World) : Calls Try.prog 59 #[.int .i64 14, .string s] w fun e w' => e = .returned (.tuple #[.int .i64 (bhP 14 s).1, .bool (bhP 14 s).2]) ∧ w' = w := by
  have HB : Hid (bhP 14 s = (0, false)) := by simp [Hid, bhP]
  go_enter Try.func59, Try.ntmps59
  go_wp2
  go_ret2
  exact ⟨by rw [HB.out]; rfl, rfl⟩
set_option maxHeartbeats 2000000 in
set_option maxRecDepth 10000 in
theorem behind15 (s : ByteArray) (w : World) : Calls Try.prog 59 #[.int .i64 15, .string s] w fun e w' => e = .returned (.tuple #[.int .i64 (bhP 15 s).1, .bool (bhP 15 s).2]) ∧ w' = w := by
  by_cases h0 : s = wNode
  · have HB : Hid (bhP 15 s = (1, true)) := by subst h0; unfold Hid; decide +kernel
    have p : s.toList = [110, 111, 100, 101] := by subst h0; rw [Lib.toList_data]; rfl
    clear h0
    go_enter Try.func59, Try.ntmps59
    go_wp2
    go_ret2
    exact ⟨by rw [HB.out]; rfl, rfl⟩
  have n0 : ¬ s.toList = [110, 111, 100, 101] := fun h => h0 (ByteArray.ext (Array.toList_inj.1 (by rw [← Lib.toList_data, h]; rfl)))
  have HB : Hid (bhP 15 s = (0, false)) := by simp [Hid, bhP, h0]
  clear h0
  go_enter Try.func59, Try.ntmps59
  go_wp2
  go_ret2
  exact ⟨by rw [HB.out]; rfl, rfl⟩
set_option maxHeartbeats 2000000 in
set_option maxRecDepth 10000 in
theorem behind16 (s : ByteArray) (w : World) : Calls Try.prog 59 #[.int .i64 16, .string s] w fun e w' => e = .returned (.tuple #[.int .i64 (bhP 16 s).1, .bool (bhP 16 s).2]) ∧ w' = w := by
  by_cases h0 : s = wClose
  · have HB : Hid (bhP 16 s = (11, true)) := by subst h0; unfold Hid; decide +kernel
    have p : s.toList = [41] := by subst h0; rw [Lib.toList_data]; rfl
    clear h0
    go_enter Try.func59, Try.ntmps59
    go_wp2
    go_ret2
    exact ⟨by rw [HB.out]; rfl, rfl⟩
  have n0 : ¬ s.toList = [41] := fun h => h0 (ByteArray.ext (Array.toList_inj.1 (by rw [← Lib.toList_data, h]; rfl)))
  have HB : Hid (bhP 16 s = (0, false)) := by simp [Hid, bhP, h0]
  clear h0
  go_enter Try.func59, Try.ntmps59
  go_wp2
  go_ret2
  exact ⟨by rw [HB.out]; rfl, rfl⟩
set_option maxHeartbeats 2000000 in
set_option maxRecDepth 10000 in
theorem behind17 (s : ByteArray) (w : World) : Calls Try.prog 59 #[.int .i64 17, .string s] w fun e w' => e = .returned (.tuple #[.int .i64 (bhP 17 s).1, .bool (bhP 17 s).2]) ∧ w' = w := by
  have HB : Hid (bhP 17 s = (0, false)) := by simp [Hid, bhP]
  go_enter Try.func59, Try.ntmps59
  go_wp2
  go_ret2
  exact ⟨by rw [HB.out]; rfl, rfl⟩
end Go.Proofs.Ytpbgmknebhnonab

namespace Go.Proofs.Ytpbgmknebhnonab
open Go.RowKit

theorem behind_any (a : Int) (h0 : 0 ≤ a) (h1 : a ≤ 17) (s : ByteArray) (w : World) : Calls Try.prog 59 #[.int .i64 a, .string s] w fun e w' => e = .returned (.tuple #[.int .i64 (bhP a s).1, .bool (bhP a s).2]) ∧ w' = w := by
  have h : a = 0 ∨ a = 1 ∨ a = 2 ∨ a = 3 ∨ a = 4 ∨ a = 5 ∨ a = 6 ∨ a = 7 ∨ a = 8 ∨ a = 9 ∨ a = 10 ∨ a = 11 ∨ a = 12 ∨ a = 13 ∨ a = 14 ∨ a = 15 ∨ a = 16 ∨ a = 17 := by omega
  rcases h with rfl | rfl | rfl | rfl | rfl | rfl | rfl | rfl | rfl | rfl | rfl | rfl | rfl | rfl | rfl | rfl | rfl | rfl
  · exact behind0 s w
  · exact behind1 s w
  · exact behind2 s w
  · exact behind3 s w
  · exact behind4 s w
  · exact behind5 s w
  · exact behind6 s w
  · exact behind7 s w
  · exact behind8 s w
  · exact behind9 s w
  · exact behind10 s w
  · exact behind11 s w
  · exact behind12 s w
  · exact behind13 s w
  · exact behind14 s w
  · exact behind15 s w
  · exact behind16 s w
  · exact behind17 s w
end Go.Proofs.Ytpbgmknebhnonab
