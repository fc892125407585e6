/- An entry's bytes, an archive's beginning; a node's own fields by the document. -/
import Derived.Test.YtljcbibcdajhiaaTcB
namespace Go.Proofs.Ytljcbibcdajhiaa
open Go.RowKit

theorem frw6 (t : ByteArray) : frS [⟨#[101, 110, 116, 114, 121]⟩, ⟨#[40]⟩, ⟨#[110, 97, 109, 101]⟩, t, ⟨#[110, 111, 100, 101]⟩, ⟨#[41]⟩] = ebP t := by
  unfold ebP frS frS frS frS frS frS frS
  rw [fr_2.2.2.2.2.1, fr_1.1, fr_1.2.1, fr_1.2.2.2.1, fr_1.2.2.2.2]
  omega
theorem frw7 : frS [⟨#[100, 101, 112, 111, 116, 45, 97, 114, 99, 104, 105, 118, 101, 45, 49]⟩] = 24 := by decide +kernel
theorem frw8 (t : ByteArray) : frS [⟨#[40]⟩, ⟨#[116, 121, 112, 101]⟩, ⟨#[114, 101, 103, 117, 108, 97, 114]⟩, ⟨#[99, 111, 110, 116, 101, 110, 116, 115]⟩, t, ⟨#[41]⟩] = 80 + fr t.size := by
  unfold frS frS frS frS frS frS frS
  rw [fr_1.1, fr_1.2.1, fr_1.2.2.1, fr_2.1, fr_2.2.1]
  omega
theorem frw9 (t : ByteArray) : frS [⟨#[40]⟩, ⟨#[116, 121, 112, 101]⟩, ⟨#[115, 121, 109, 108, 105, 110, 107]⟩, ⟨#[116, 97, 114, 103, 101, 116]⟩, t, ⟨#[41]⟩] = 80 + fr t.size := by
  unfold frS frS frS frS frS frS frS
  rw [fr_1.1, fr_1.2.1, fr_1.2.2.1, fr_2.2.2.1, fr_2.2.2.2.1]
  omega
theorem frwA : frS [⟨#[40]⟩, ⟨#[116, 121, 112, 101]⟩, ⟨#[100, 105, 114, 101, 99, 116, 111, 114, 121]⟩, ⟨#[41]⟩] = 72 := by decide +kernel

set_option maxHeartbeats 400000 in
theorem entryBytes_any (t : ByteArray) (w : World) (ht : t.size ≤ 140737488351232) :
    Calls Try.prog 59 #[.string t] w fun r w' => r = .returned (.int .i64 (ebP t)) ∧ Below w.heap.size w w' := by
  go_enter Try.func59, Try.ntmps59
  go_wp2_with fail
  refine (tframed_lit #[.string ⟨#[101, 110, 116, 114, 121]⟩, .string ⟨#[40]⟩, .string ⟨#[110, 97, 109, 101]⟩, .string t, .string ⟨#[110, 111, 100, 101]⟩, .string ⟨#[41]⟩] 9 [⟨#[101, 110, 116, 114, 121]⟩, ⟨#[40]⟩, ⟨#[110, 97, 109, 101]⟩, t, ⟨#[110, 111, 100, 101]⟩, ⟨#[41]⟩] 6 w rfl rfl (Nat.le_of_ble_eq_true rfl) (sz_ok t ht _ (by intro s hs; simp only [List.mem_cons, List.not_mem_nil, or_false] at hs; rcases hs with rfl | rfl | rfl | rfl | rfl | rfl <;> first | exact .inl rfl | exact .inr (by decide)))).mono ?_
  rintro r wX ⟨rfl, rfl⟩
  rw [frw6]
  go_wp2
  go_ret
  exact ⟨rfl, (Below.refl _ _).alloc (Nat.le_refl _) _⟩

/-- The archive's first word. -/
theorem first_lit (w : World) : Calls Try.prog 33 #[.slice (some ⟨w.heap.size, 0, none⟩) 1 1] (w.alloc (.cells #[.string ⟨#[100, 101, 112, 111, 116, 45, 97, 114, 99, 104, 105, 118, 101, 45, 49]⟩] 9)) fun e w' => e = .returned (.int .i64 24) ∧ w' = w.alloc (.cells #[.string ⟨#[100, 101, 112, 111, 116, 45, 97, 114, 99, 104, 105, 118, 101, 45, 49]⟩] 9) := by
  have h := tframed_lit #[.string ⟨#[100, 101, 112, 111, 116, 45, 97, 114, 99, 104, 105, 118, 101, 45, 49]⟩] 9 [⟨#[100, 101, 112, 111, 116, 45, 97, 114, 99, 104, 105, 118, 101, 45, 49]⟩] 1 w rfl rfl (Nat.le_of_ble_eq_true rfl) (by intro s hs; simp only [List.mem_cons, List.not_mem_nil, or_false] at hs; subst hs; decide)
  rw [frw7] at h
  exact h

/-- No nought among the first i bytes of a text that has some. -/
def tgU (t : ByteArray) (i : Nat) : Bool := decide (0 < t.size ∧ ∀ j, j < i → bt t j ≠ 0)
theorem tgU_yes (t : ByteArray) (i : Nat) (h : bt t i = 0) : tgU t (i + 1) = false := decide_eq_false (fun c => c.2 i (by omega) h)
theorem tgU_no (t : ByteArray) (i : Nat) (h : bt t i ≠ 0) : tgU t (i + 1) = tgU t i := by
  unfold tgU
  congr 1
  apply propext
  refine ⟨fun c => ⟨c.1, fun j hj => c.2 j (by omega)⟩, fun c => ⟨c.1, fun j hj => ?_⟩⟩
  by_cases e : j = i
  · rw [e]; exact h
  · exact c.2 j (by omega)
theorem tgU_all (t : ByteArray) : tgU t t.size = decide (tgt t = 0) := by
  unfold tgU tgt
  have h := hasB_iff t 0
  by_cases h0 : t.size = 0
  · rw [if_pos (.inl h0)]
    simp [h0]
  · by_cases hb : hasB t 0 = true
    · rw [if_pos (.inr hb)]
      obtain ⟨j, hj, hj2⟩ := h.1 hb
      have : ¬ (0 < t.size ∧ ∀ j, j < t.size → bt t j ≠ 0) := fun c => c.2 j hj (by simpa using hj2)
      simp [this]
    · rw [if_neg (by simp [h0, hb])]
      have : 0 < t.size ∧ ∀ j, j < t.size → bt t j ≠ 0 := ⟨by omega, fun j hj c => hb (h.2 ⟨j, hj, by simpa using c⟩)⟩
      rw [decide_eq_true this]
      rfl

/-- The bytes that Own tells. -/
def ownB (k : Int) (e : Bool) (t : ByteArray) (n : Nat) : Int := if cfP k e t n = 0 then nbP k e t else 0

theorem own_bad {k : Int} {e : Bool} {t : ByteArray} {n : Nat} {v : Int} (h : cfP k e t n = v) (hv : v ≠ 0) : Ending.returned (.tuple #[.int .i64 v, .int .i64 0]) = .returned (.tuple #[.int .i64 (cfP k e t n), .int .i64 (ownB k e t n)]) := by
  unfold ownB
  rw [h, if_neg hv]

theorem own_good {k : Int} {e : Bool} {t : ByteArray} {n : Nat} {v : Int} (h : cfP k e t n = 0) (hv : nbP k e t = v) : Ending.returned (.tuple #[.int .i64 0, .int .i64 v]) = .returned (.tuple #[.int .i64 (cfP k e t n), .int .i64 (ownB k e t n)]) := by
  unfold ownB
  rw [h, if_pos rfl, hv]

end Go.Proofs.Ytljcbibcdajhiaa
