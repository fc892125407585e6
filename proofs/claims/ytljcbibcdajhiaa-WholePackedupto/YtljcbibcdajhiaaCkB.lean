/- The document's Check, walked. -/
import Derived.Test.YtljcbibcdajhiaaCkA
namespace Go.Proofs.Ytljcbibcdajhiaa
open Go.RowKit

/-- How many of the first bytes are dots. -/
def dots (s : ByteArray) : Nat → Nat
  | 0 => 0
  | k + 1 => dots s k + (if bt s k = 46 then 1 else 0)
theorem dots_le (s : ByteArray) (k : Nat) : dots s k ≤ k := by
  induction k with
  | zero => exact Nat.le_refl _
  | succ k ih => unfold dots; split <;> omega
theorem dots_all (s : ByteArray) (k : Nat) (h : dots s k = k) : ∀ j, j < k → bt s j = 46 := by
  induction k with
  | zero => intro j hj; omega
  | succ k ih =>
    unfold dots at h
    have := dots_le s k
    split at h
    · rename_i e
      intro j hj
      by_cases hjk : j = k
      · rw [hjk]; exact e
      · exact ih (by omega) j (by omega)
    · omega
theorem toList_dot : ByteArray.toList ⟨#[46]⟩ = [46] := by decide +kernel
theorem toList_dots : ByteArray.toList ⟨#[46, 46]⟩ = [46, 46] := by decide +kernel
theorem dots_ex1 : dots ⟨#[46]⟩ 1 = 1 := by decide +kernel
theorem dots_ex2 : dots ⟨#[46, 46]⟩ 2 = 2 := by decide +kernel
theorem bt_ex1 : bt ⟨#[46]⟩ 0 = 46 := by decide +kernel
theorem bt_ex2 : bt ⟨#[46, 46]⟩ 0 = 46 ∧ bt ⟨#[46, 46]⟩ 1 = 46 := by decide +kernel
theorem of_toList (s t : ByteArray) (h : s.toList = t.toList) : s = t := by
  rw [Lib.toList_data, Lib.toList_data] at h
  rw [← Lib.mk_data s, ← Lib.mk_data t, h]
theorem dots_is (s : ByteArray) (h0 : s.size ≠ 0) : (s.toList == [46] || s.toList == [46, 46]) = decide (dots s s.size = s.size ∧ dots s s.size ≤ 2) := by
  rw [Bool.eq_iff_iff, Bool.or_eq_true, beq_iff_eq, beq_iff_eq, decide_eq_true_iff]
  constructor
  · rintro (h | h)
    · rw [← toList_dot] at h
      obtain rfl := of_toList _ _ h
      exact ⟨dots_ex1, by show dots ⟨#[46]⟩ 1 ≤ 2; rw [dots_ex1]; decide⟩
    · rw [← toList_dots] at h
      obtain rfl := of_toList _ _ h
      exact ⟨dots_ex2, by show dots ⟨#[46, 46]⟩ 2 ≤ 2; rw [dots_ex2]; decide⟩
  · rintro ⟨h1, h2⟩
    have ha := dots_all s s.size h1
    rw [h1] at h2
    by_cases h : s.size = 1
    · left
      rw [← toList_dot]
      congr 1
      apply bytes_ext
      · exact h
      · intro k hk
        obtain rfl : k = 0 := by omega
        rw [ha 0 (by omega), bt_ex1]
    · right
      have h : s.size = 2 := by omega
      rw [← toList_dots]
      congr 1
      apply bytes_ext
      · exact h
      · intro k hk
        rw [ha k hk]
        have : k = 0 ∨ k = 1 := by omega
        rcases this with rfl | rfl
        · exact bt_ex2.1.symm
        · exact bt_ex2.2.symm

theorem data_nil (s : ByteArray) (h : s.size = 0) : s.data.toList = [] := List.eq_nil_of_length_eq_zero (by rw [← Lib.size_eq]; exact h)
theorem empty_size (s : ByteArray) (h : s.toList.isEmpty = false) : s.size ≠ 0 := by
  intro e
  rw [Lib.toList_data, data_nil s e] at h
  cases h
theorem size_empty (s : ByteArray) (h : s.size ≠ 0) : s.toList.isEmpty = false := by
  rw [Lib.toList_data]
  cases e : s.data.toList with
  | nil => rw [Lib.size_eq, e] at h; simp at h
  | cons _ _ => rfl

end Go.Proofs.Ytljcbibcdajhiaa
