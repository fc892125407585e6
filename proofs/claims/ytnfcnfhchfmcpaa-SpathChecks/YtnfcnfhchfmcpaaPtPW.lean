/- awake and the law SpathParses, walked. -/
import Derived.Test.YtnfcnfhchfmcpaaPtF
namespace Go.Proofs.Ytnfcnfhchfmcpaa
open Go.RowKit

def exA : ByteArray := ⟨#[47, 100, 101, 112, 111, 116, 47, 115, 116, 111, 114, 101, 47, 48, 49, 50, 51, 52, 53, 54, 55, 56, 57, 97, 98, 99, 100, 102, 103, 104, 105, 106, 107, 108, 109, 110, 112, 113, 114, 115, 118, 119, 120, 121, 122, 45, 97, 46, 98]⟩
def exB : ByteArray := ⟨#[47, 100, 101, 112, 111, 116, 47, 115, 116, 111, 114, 101, 47, 48, 49, 50, 51, 52, 53, 54, 55, 56, 57, 97, 98, 99, 100, 102, 103, 104, 105, 106, 107, 108, 109, 110, 112, 113, 114, 115, 118, 119, 120, 121, 122, 45]⟩
theorem exA_C : prC exA = 0 := by decide +kernel
theorem exA_H : prH exA = lts := by decide +kernel
theorem exA_L : prL exA = ⟨#[97, 46, 98]⟩ := by decide +kernel
theorem exB_C : prC exB = 130 := by decide +kernel
theorem exB_H : prH exB = ⟨#[]⟩ := by decide +kernel
theorem exB_L : prL exB = ⟨#[]⟩ := by decide +kernel

set_option maxHeartbeats 400000 in
theorem awake_any (w : World) :
    Calls Try.prog 6 #[] w fun e w' => e = .returned (.bool true) ∧ Below w.heap.size w w' := by
  have h1 := parse_any exA w
  rw [exA_C, exA_H, exA_L] at h1
  have h2 := fun w => parse_any exB w
  have l1 : (lts.toList == [48, 49, 50, 51, 52, 53, 54, 55, 56, 57, 97, 98, 99, 100, 102, 103, 104, 105, 106, 107, 108, 109, 110, 112, 113, 114, 115, 118, 119, 120, 121, 122]) = true := by decide +kernel
  rw [exB_C, exB_H, exB_L] at h2
  go_enter Try.func6, Try.ntmps6
  go_wp2_with fail
  refine h1.mono ?_
  rintro e w1 ⟨rfl, b1⟩
  go_wp2_with fail
  refine (h2 _).mono ?_
  rintro e w2 ⟨rfl, b2⟩
  go_wp2
  go_ret
  exact ⟨rfl, b1.trans (b2.mono b1.size)⟩

theorem prC_vals (p : ByteArray) : 0 ≤ prC p ∧ prC p ≤ 132 := by
  unfold prC
  split
  · split
    · rcases lab_cases (pLab p) with ⟨_, h⟩ | ⟨_, h⟩ <;> rw [h] <;> decide
    · decide
  · decide

set_option maxHeartbeats 1000000 in
theorem parses_walk (p b : ByteArray) (w : World) (_hp : p.size ≤ 140737488351232) (hb : b.size ≤ 140737488351232) :
    Calls Try.prog 3 #[.string p, .string b] w fun e w' => e = .returned (.bool true) ∧ Below w.heap.size w w' := by
  have t0 : ∀ x : ByteArray, (x.toList == x.toList) = true := fun x => by simp
  have t1 : ∀ x : Int, (x == x) = true := fun x => by simp
  have t2 : (ByteArray.toList ⟨#[]⟩) = [] := by decide +kernel
  have t3 : ((dirS ++ b).toList == (⟨#[47, 100, 101, 112, 111, 116, 47, 115, 116, 111, 114, 101, 47]⟩ ++ b : ByteArray).toList) = true := t0 (dirS ++ b)
  go_enter Try.func3, Try.ntmps3
  go_wp2_with fail
  refine (awake_any _).mono ?_
  rintro e w1 ⟨rfl, b1⟩
  go_wp2_with fail
  refine (parse_any _ _).mono ?_
  rintro e w2 ⟨rfl, b2⟩
  have B2 : Hid (Below w.heap.size w w2) := b1.trans (b2.mono b1.size)
  clear b1 b2
  go_wp2_with fail
  refine (rparse_any _ _).mono ?_
  rintro e w3 ⟨rfl, rfl⟩
  go_wp2_with fail
  refine (base_any _ _).mono ?_
  rintro e w4 ⟨rfl, b4⟩
  have B4 : Hid (Below w.heap.size w w4) := B2.out.trans (b4.mono B2.out.size)
  clear b4 B2
  by_cases h : prC p = 0
  · rw [iffy_yes h]
    have h13 : 13 ≤ p.size := by have := prC_size h; omega
    have H1 : (prC p == 0) = true := by simp [h]
    have H2 : (prC p != 0) = false := by simp [h]
    clear h
    go_wp2_with fail
    refine (full_any _ _ hb).mono ?_
    rintro e w5 ⟨rfl, b5⟩
    have B5 : Hid (Below w.heap.size w w5) := B4.out.trans (b5.mono B4.out.size)
    clear b5 B4
    go_wp2_with fail
    refine (rparse_any (dirS ++ b) _).mono ?_
    rintro e w6 ⟨rfl, rfl⟩
    by_cases k : prC (dirS ++ b) = 0
    · rw [iffy_yes k]
      have K1 : (prC (dirS ++ b) == 0) = true := by simp [k]
      have K2 : (prC (dirS ++ b) != 0) = false := by simp [k]
      clear k
      go_wp2
      go_ret
      exact ⟨rfl, B5.out⟩
    · rw [iffy_no k]
      have K1 : (prC (dirS ++ b) == 0) = false := by simp [k]
      have K2 : (prC (dirS ++ b) != 0) = true := by simp [k]
      clear k
      go_wp2
      go_ret
      exact ⟨rfl, B5.out⟩
  · rw [iffy_no h]
    have H1 : (prC p == 0) = false := by simp [h]
    have H2 : (prC p != 0) = true := by simp [h]
    clear h
    go_wp2_with fail
    refine (full_any _ _ hb).mono ?_
    rintro e w5 ⟨rfl, b5⟩
    have B5 : Hid (Below w.heap.size w w5) := B4.out.trans (b5.mono B4.out.size)
    clear b5 B4
    go_wp2_with fail
    refine (rparse_any (dirS ++ b) _).mono ?_
    rintro e w6 ⟨rfl, rfl⟩
    by_cases k : prC (dirS ++ b) = 0
    · rw [iffy_yes k]
      have K1 : (prC (dirS ++ b) == 0) = true := by simp [k]
      have K2 : (prC (dirS ++ b) != 0) = false := by simp [k]
      clear k
      go_wp2
      go_ret
      exact ⟨rfl, B5.out⟩
    · rw [iffy_no k]
      have K1 : (prC (dirS ++ b) == 0) = false := by simp [k]
      have K2 : (prC (dirS ++ b) != 0) = true := by simp [k]
      clear k
      go_wp2
      go_ret
      exact ⟨rfl, B5.out⟩

end Go.Proofs.Ytnfcnfhchfmcpaa
