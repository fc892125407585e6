/- strings.HasPrefix, name.Under and the document's Under, walked. -/
import Derived.Test.YtdmkkkfdigeinabDoorRows
import Derived.WalkKit
import Derived.Below
import Derived.Lib.Strings
namespace Go.Proofs.YtdmkkkfdigeinabDoor
open Go.RowKit

set_option maxHeartbeats 400000 in
theorem hp_any (s p : ByteArray) (w : World) :
    Calls Tryd.prog 17 #[.string s, .string p] w fun e w' => e = .returned (.bool (Lib.hasPrefix s.data.toList p.data.toList)) ∧ w' = w := by
  by_cases h : p.size ≤ s.size
  · have hh : Hid (Lib.hasPrefix s.data.toList p.data.toList = ((s.extract 0 p.size).toList == p.toList)) := by
      unfold Hid
      rw [← Lib.hasPrefix_of_take, Lib.extract_toList, Lib.toList_data, ← Lib.size_eq, ← Lib.size_eq]
      simp [h]
    go_enter Tryd.func17, Tryd.ntmps17
    go_wp2
    go_ret
    exact ⟨by rw [hh.out]; rfl, rfl⟩
  · have hh : Hid (Lib.hasPrefix s.data.toList p.data.toList = false) := by
      unfold Hid
      rw [← Lib.hasPrefix_of_take, ← Lib.size_eq, ← Lib.size_eq]
      simp [h]
    go_enter Tryd.func17, Tryd.ntmps17
    go_wp2
    go_ret
    exact ⟨by rw [hh.out]; rfl, rfl⟩

/-- Is path top, or does it lie below it? -/
def un (p t : ByteArray) : Bool := t.toList.isEmpty || p.toList == t.toList || Lib.hasPrefix p.data.toList (t ++ ⟨#[47]⟩).data.toList

set_option maxHeartbeats 400000 in
theorem under_any (p t : ByteArray) (w : World) (ht : t.size ≤ 140737488351232) :
    Calls Tryd.prog 10 #[.string p, .string t] w fun e w' => e = .returned (.bool (un p t)) ∧ w' = w := by
  by_cases h1 : t.toList = []
  · have hh : Hid (un p t = true) := by unfold Hid un; rw [h1]; rfl
    go_enter Tryd.func10, Tryd.ntmps10
    go_wp2
    go_ret
    exact ⟨by rw [hh.out]; rfl, rfl⟩
  · by_cases h2 : p.toList = t.toList
    · have hh : Hid (un p t = true) := by unfold Hid un; rw [h2]; simp
      have H1 : t.toList.isEmpty = false := by simpa using h1
      have H2 : (p.toList == t.toList) = true := by simpa using h2
      clear h1 h2
      go_enter Tryd.func10, Tryd.ntmps10
      go_wp2
      go_ret
      exact ⟨by rw [hh.out]; rfl, rfl⟩
    · have H1 : t.toList.isEmpty = false := by simpa using h1
      have H2 : (p.toList == t.toList) = false := by simpa using h2
      have hh : Hid (un p t = Lib.hasPrefix p.data.toList (t ++ ⟨#[47]⟩).data.toList) := by unfold Hid un; rw [H1, H2]; rfl
      clear h1 h2
      go_enter Tryd.func10, Tryd.ntmps10
      go_wp2_with fail
      refine (hp_any _ _ _).mono ?_
      rintro e w1 ⟨rfl, rfl⟩
      rw [← hh.out]
      go_wp2
      go_ret
      exact ⟨rfl, rfl⟩

theorem un_short (p t : ByteArray) (h0 : t.size ≠ 0) (h : p.size < t.size) : un p t = false := by
  unfold un
  rw [← Lib.hasPrefix_raw]
  have e1 : t.toList.isEmpty = false := by
    rw [Lib.toList_data]; cases e : t.data.toList with
    | nil => rw [Lib.size_eq, e] at h0; simp at h0
    | cons _ _ => rfl
  have e2 : (p.toList == t.toList) = false := by
    rw [beq_eq_false_iff_ne]; intro e
    rw [Lib.toList_data, Lib.toList_data] at e
    rw [Lib.size_eq, Lib.size_eq, e] at h; omega
  have e3 : decide ((t ++ ⟨#[47]⟩).size ≤ p.size) = false := by
    rw [ByteArray.size_append]; simp; omega
  rw [e1, e2, e3]; rfl

theorem un_unlike (p t : ByteArray) (h0 : t.size ≠ 0) (h : ((p.extract 0 t.size).toList == t.toList) = false) : un p t = false := by
  rw [beq_eq_false_iff_ne, Lib.extract_toList, Lib.toList_data, List.drop_zero, Nat.sub_zero, Lib.size_eq] at h
  unfold un
  rw [Lib.toList_data, Lib.toList_data]
  have e1 : t.data.toList.isEmpty = false := by
    cases e : t.data.toList with
    | nil => rw [Lib.size_eq, e] at h0; simp at h0
    | cons _ _ => rfl
  have e2 : (p.data.toList == t.data.toList) = false := by
    rw [beq_eq_false_iff_ne]; intro e
    exact h (by rw [e]; exact List.take_length)
  have e3 : Lib.hasPrefix p.data.toList (t ++ ⟨#[47]⟩).data.toList = false := by
    rw [Bool.eq_false_iff]; intro e
    unfold Lib.hasPrefix at e
    rw [List.isPrefixOf_iff_prefix] at e
    obtain ⟨r, e⟩ := e
    have e' : (t ++ ⟨#[47]⟩).data.toList = t.data.toList ++ [47] := by simp
    rw [e'] at e
    exact h (by rw [← e, List.append_assoc, List.take_left])
  rw [e1, e2, e3]; rfl

theorem un_at (p t : ByteArray) (h0 : t.size ≠ 0) (h : ((p.extract 0 t.size).toList == t.toList) = true) (hl : t.size < p.size) : un p t = (((p[t.size]'hl).toNat : Int) == 47) := by
  rw [beq_iff_eq, Lib.extract_toList, Lib.toList_data, List.drop_zero, Nat.sub_zero, Lib.size_eq] at h
  unfold un
  rw [Lib.toList_data, Lib.toList_data]
  have e1 : t.data.toList.isEmpty = false := by
    cases e : t.data.toList with
    | nil => rw [Lib.size_eq, e] at h0; simp at h0
    | cons _ _ => rfl
  have e2 : (p.data.toList == t.data.toList) = false := by
    rw [beq_eq_false_iff_ne]; intro e
    rw [Lib.size_eq, Lib.size_eq, e] at hl; omega
  have hl' : t.data.toList.length < p.data.toList.length := by rw [← Lib.size_eq, ← Lib.size_eq]; exact hl
  have e3 : Lib.hasPrefix p.data.toList (t ++ ⟨#[47]⟩).data.toList = (p.data.toList[t.data.toList.length]'hl' == 47) := by
    have e' : (t ++ ⟨#[47]⟩).data.toList = t.data.toList ++ [47] := by simp
    rw [e', Bool.eq_iff_iff]
    unfold Lib.hasPrefix
    rw [List.isPrefixOf_iff_prefix, beq_iff_eq]
    constructor
    · rintro ⟨r, e⟩
      have : p.data.toList[t.data.toList.length]? = some 47 := by rw [← e]; simp
      rw [List.getElem?_eq_getElem hl'] at this
      exact Option.some.inj this
    · intro e
      refine ⟨p.data.toList.drop (t.data.toList.length + 1), ?_⟩
      conv => rhs; rw [← List.take_append_drop (t.data.toList.length) p.data.toList, List.drop_eq_getElem_cons hl', e, h]
      simp
  rw [e1, e2, e3, Bool.false_or, Bool.false_or, Bool.eq_iff_iff, beq_iff_eq, beq_iff_eq]
  have e4 : p.data.toList[t.data.toList.length]'hl' = p[t.size]'hl := by
    show _ = p.data[t.size]
    rw [Array.getElem_toList]; congr 1
  rw [e4]
  constructor
  · intro e; rw [e]; rfl
  · intro e
    have : (p[t.size]'hl).toNat = 47 := by omega
    exact UInt8.toNat_inj.1 this

theorem un_same (p t : ByteArray) (h : ((p.extract 0 t.size).toList == t.toList) = true) (hl : p.size = t.size) : un p t = true := by
  rw [beq_iff_eq, Lib.extract_toList, Lib.toList_data, List.drop_zero, Nat.sub_zero] at h
  unfold un
  have e : p.data.toList = t.data.toList := by rw [← h, ← hl, Lib.size_eq, List.take_length]
  rw [Lib.toList_data, Lib.toList_data, e]
  simp

theorem un_empty (p t : ByteArray) (h : t.size = 0) : un p t = true := by
  unfold un
  have : t.toList = [] := by
    rw [Lib.toList_data]; rw [Lib.size_eq] at h; exact List.eq_nil_of_length_eq_zero h
  rw [this]; rfl

theorem un_ex1 : un ⟨#[97, 47, 98]⟩ ⟨#[97]⟩ = true := by decide +kernel
theorem un_ex2 : un ⟨#[97, 98]⟩ ⟨#[97]⟩ = false := by decide +kernel

end Go.Proofs.YtdmkkkfdigeinabDoor
