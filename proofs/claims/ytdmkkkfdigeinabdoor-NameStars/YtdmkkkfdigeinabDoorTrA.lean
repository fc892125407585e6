/- strings.Trim of stars, walked; its two callees by the library's contracts. -/
import Derived.Test.YtdmkkkfdigeinabDoorRows
import Derived.Test.YtdmkkkfdigeinabDoorMem
import Derived.Test.YtdmkkkfdigeinabDoorMt
import Derived.Below
import Derived.Lib.Strings
import Derived.RegionTactic
import Derived.Deep.RegionWith
import Derived.Shelf.Strings.Trim
namespace Go.Proofs.YtdmkkkfdigeinabDoor
open Go.RowKit Go.Shelf

def renTr : Ren := ⟨fun | 231 => 24 | 232 => 25 | n => n, fun n => n, fun n => n⟩
theorem lays231 : Lays.n231 Tryd.prog renTr :=
  { mixed := by kernel_rfl
    f231 := Tryd.func24.trans (congrArg some (by kernel_rfl))
    t3 := Tryd.underlying3, a3 := Tryd.isAgg3, z3 := Tryd.sizeOf3, v3 := Tryd.zeroValue3
    t4 := Tryd.underlying4, a4 := Tryd.isAgg4, z4 := Tryd.sizeOf4, v4 := Tryd.zeroValue4
    t5 := Tryd.underlying5, a5 := Tryd.isAgg5, z5 := Tryd.sizeOf5, v5 := Tryd.zeroValue5
    t9 := Tryd.underlying9, a9 := Tryd.isAgg9, z9 := Tryd.sizeOf9, v9 := Tryd.zeroValue9 }
theorem lays232 : Lays.n232 Tryd.prog renTr :=
  { mixed := by kernel_rfl
    f232 := Tryd.func25.trans (congrArg some (by kernel_rfl))
    t3 := Tryd.underlying3, a3 := Tryd.isAgg3, z3 := Tryd.sizeOf3, v3 := Tryd.zeroValue3
    t4 := Tryd.underlying4, a4 := Tryd.isAgg4, z4 := Tryd.sizeOf4, v4 := Tryd.zeroValue4
    t5 := Tryd.underlying5, a5 := Tryd.isAgg5, z5 := Tryd.sizeOf5, v5 := Tryd.zeroValue5
    t9 := Tryd.underlying9, a9 := Tryd.isAgg9, z9 := Tryd.sizeOf9, v9 := Tryd.zeroValue9 }

theorem trimL_any (s : ByteArray) (w : World) :
    Calls Tryd.prog 24 #[.string s, .int .u8 42] w fun e w' => e = .returned (.string ⟨(Lib.trimLeftB s.data.toList 42).toArray⟩) ∧ w' = w :=
  Any.strings_trimLeftByte lays231 s 42 w
theorem trimR_any (s : ByteArray) (w : World) (hs : s.size ≤ 9223372036854775807) :
    Calls Tryd.prog 25 #[.string s, .int .u8 42] w fun e w' => e = .returned (.string ⟨(Lib.trimRightB s.data.toList 42).toArray⟩) ∧ w' = w :=
  Any.strings_trimRightByte lays232 s 42 w hs

theorem dropWhile_nil (l : List UInt8) : l.dropWhile (· == 42) = [] ↔ l.all (· == 42) = true := by
  induction l with
  | nil => simp
  | cons a l ih =>
    rw [List.dropWhile_cons, List.all_cons]
    cases h : (a == 42)
    · simp
    · simpa using ih
theorem trimB_nil (l : List UInt8) : (Lib.trimB l 42).isEmpty = l.all (· == 42) := by
  rw [Bool.eq_iff_iff, List.isEmpty_iff]
  unfold Lib.trimB Lib.trimLeftB Lib.trimRightB
  rw [dropWhile_nil]
  constructor
  · intro h
    by_cases e : l.reverse.dropWhile (· == 42) = []
    · rw [dropWhile_nil] at e; simpa using e
    · have hx := List.head_dropWhile_not (· == 42) e
      rw [List.all_reverse, List.all_eq_true] at h
      have := h _ (List.head_mem e)
      rw [this] at hx; cases hx
  · intro h
    have : l.reverse.dropWhile (· == 42) = [] := (dropWhile_nil _).2 (by simpa using h)
    rw [this]; rfl

set_option maxHeartbeats 1000000 in
set_option maxRecDepth 100000 in
theorem trim_any (s : ByteArray) (w : World) (hs : s.size ≤ 9223372036854775807) :
    Calls Tryd.prog 18 #[.string s, .string ⟨#[42]⟩] w fun e w' => (∃ t : ByteArray, e = .returned (.string t) ∧ t.toList.isEmpty = s.data.toList.all (· == 42)) ∧ ∃ n, w' = w.drewN n := by
  cases h0 : s.toList.isEmpty
  · have HR := fun w => trimR_any s w hs
    have HL := fun w => trimL_any ⟨(Lib.trimRightB s.data.toList 42).toArray⟩ w
    have hx : Hid ((⟨(Lib.trimLeftB (ByteArray.mk (Lib.trimRightB s.data.toList 42).toArray).data.toList 42).toArray⟩ : ByteArray).toList.isEmpty = s.data.toList.all (· == 42)) := by
      unfold Hid
      rw [Lib.toList_data]
      exact trimB_nil s.data.toList
    generalize (ByteArray.mk (Lib.trimRightB s.data.toList 42).toArray) = t1 at HR HL hx
    generalize (ByteArray.mk (Lib.trimLeftB t1.data.toList 42).toArray) = t2 at HL hx
    generalize s.data.toList.all (· == 42) = R at hx ⊢
    go_enter Tryd.func18, Tryd.ntmps18
    go_wp2
    go_region_with (first
      | (go_at_call 25; refine (HR _).mono ?_; rintro e w' ⟨rfl, rfl⟩)
      | (go_at_call 24; refine (HL _).mono ?_; rintro e w' ⟨rfl, rfl⟩))
    all_goals clear HR HL
    all_goals go_wp2
    all_goals go_ret
    all_goals exact ⟨⟨_, rfl, hx.out⟩, 1, rfl⟩
  · have hx : Hid (s.toList.isEmpty = s.data.toList.all (· == 42)) := by
      unfold Hid
      rw [h0]
      rw [Lib.toList_data, List.isEmpty_iff] at h0
      rw [h0]; rfl
    go_enter Tryd.func18, Tryd.ntmps18
    go_wp2
    go_ret
    exact ⟨⟨s, rfl, hx.out⟩, 0, rfl⟩

end Go.Proofs.YtdmkkkfdigeinabDoor
