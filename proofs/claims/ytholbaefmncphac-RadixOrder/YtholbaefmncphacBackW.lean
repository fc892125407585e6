/- The laws RadixBack and RadixOne walked: they return true for every text. -/
import Derived.Test.YtholbaefmncphacBack
namespace Go.Proofs.Ytholbaefmncphac
open Go.RowKit
theorem hex_ex : hexStr ⟨#[240]⟩ = ⟨#[102, 48]⟩ := by decide +kernel
theorem b32_ex : b32Str ⟨#[255]⟩ = ⟨#[55, 122]⟩ := by decide +kernel
theorem lf_le (n : Nat) (h : n ≤ 140737488351232) : lf n ≤ 281474976710656 := by unfold lf; omega

set_option maxHeartbeats 400000 in
theorem back_walk (b : ByteArray) (w : World) (hb : b.size ≤ 140737488351232) :
    Calls Try.prog 4 #[.string b] w fun e w' => e = .returned (.bool true) ∧ Below w.heap.size w w' := by
  go_enter Try.func4, Try.ntmps4
  go_wp2_with fail
  refine (hex_any ⟨#[240]⟩ _ (by decide)).mono ?_
  rintro e w1 ⟨rfl, b1⟩
  rw [hex_ex]
  go_wp2_with fail
  refine (b32_any ⟨#[255]⟩ _ (by decide)).mono ?_
  rintro e w2 ⟨rfl, b2⟩
  rw [b32_ex]
  have B2 : Below w.heap.size w w2 := b1.trans (b2.mono b1.size)
  clear b1 b2
  go_wp2_with fail
  refine (hex_any b _ hb).mono ?_
  rintro e w3 ⟨rfl, b3⟩
  have B3 : Below w.heap.size w w3 := B2.trans (b3.mono B2.size)
  clear B2 b3
  go_wp2_with fail
  refine (fromHex_any _ _ (by rw [hexStr_size]; omega)).mono ?_
  rintro e w4 ⟨rfl, b4⟩
  rw [(hex_back b).1, (hex_back b).2]
  have B4 : Below w.heap.size w w4 := B3.trans (b4.mono B3.size)
  clear B3 b4
  go_wp2_with fail
  refine (b32_any b _ hb).mono ?_
  rintro e w5 ⟨rfl, b5⟩
  have B5 : Below w.heap.size w w5 := B4.trans (b5.mono B4.size)
  clear B4 b5
  go_wp2_with fail
  refine (fb32_any _ _ (by rw [b32Str_size]; exact lf_le _ hb)).mono ?_
  rintro e w6 ⟨rfl, b6⟩
  rw [(b32_back b).1, (b32_back b).2]
  have B6 : Below w.heap.size w w6 := B5.trans (b6.mono B5.size)
  clear B5 b6
  go_wp2
  go_ret
  exact ⟨by simp, B6⟩

theorem fhStr_size (s : ByteArray) : (fhStr s).size ≤ s.size := by
  unfold fhStr; split
  · rw [strFn_size]; omega
  · exact Nat.zero_le _
theorem fbStr_size (s : ByteArray) : (fbStr s).size ≤ s.size := by
  unfold fbStr; split
  · rw [strFn_size]; omega
  · exact Nat.zero_le _

set_option maxHeartbeats 1000000 in
theorem one_walk (s : ByteArray) (w : World) (hs : s.size ≤ 140737488351232) :
    Calls Try.prog 5 #[.string s] w fun e w' => e = .returned (.bool true) ∧ Below w.heap.size w w' := by
  go_enter Try.func5, Try.ntmps5
  go_wp2_with fail
  refine (hex_any ⟨#[240]⟩ _ (by decide)).mono ?_
  rintro e w1 ⟨rfl, b1⟩
  rw [hex_ex]
  go_wp2_with fail
  refine (b32_any ⟨#[255]⟩ _ (by decide)).mono ?_
  rintro e w2 ⟨rfl, b2⟩
  rw [b32_ex]
  have B2 : Below w.heap.size w w2 := b1.trans (b2.mono b1.size)
  clear b1 b2
  go_wp2_with fail
  refine (fromHex_any s _ (by omega)).mono ?_
  rintro e w3 ⟨rfl, b3⟩
  have B3 : Below w.heap.size w w3 := B2.trans (b3.mono B2.size)
  clear B2 b3
  go_wp2_with fail
  refine (fb32_any s _ (by omega)).mono ?_
  rintro e w4 ⟨rfl, b4⟩
  have B4 : Below w.heap.size w w4 := B3.trans (b4.mono B3.size)
  clear B3 b4
  by_cases h1 : fhErr s = 0
  · have t1 : (fhErr s == 0) = true := by simp [h1]
    have e1 : Hid (hexStr (fhStr s) = s) := hex_one s h1
    clear h1
    go_wp2_with fail
    refine (hex_any _ _ (by have := fhStr_size s; omega)).mono ?_
    rintro e w5 ⟨rfl, b5⟩
    rw [e1.out]
    have B5 : Below w.heap.size w w5 := B4.trans (b5.mono B4.size)
    clear B4 b5
    by_cases h2 : fbErr s = 0
    · have t2 : (fbErr s == 0) = true := by simp [h2]
      have e2 : Hid (b32Str (fbStr s) = s) := b32_one s h2
      clear h2
      go_wp2_with fail
      refine (b32_any _ _ (by have := fbStr_size s; omega)).mono ?_
      rintro e w6 ⟨rfl, b6⟩
      rw [e2.out]
      have B6 : Below w.heap.size w w6 := B5.trans (b6.mono B5.size)
      clear B5 b6
      go_wp2
      go_ret
      exact ⟨rfl, B6⟩
    · have t2 : (fbErr s == 0) = false := by simp [h2]
      rw [fb_empty s h2]
      clear h2
      go_wp2
      go_ret
      exact ⟨rfl, B5⟩
  · have t1 : (fhErr s == 0) = false := by simp [h1]
    rw [fh_empty s h1]
    clear h1
    by_cases h2 : fbErr s = 0
    · have t2 : (fbErr s == 0) = true := by simp [h2]
      have e2 : Hid (b32Str (fbStr s) = s) := b32_one s h2
      clear h2
      go_wp2_with fail
      refine (b32_any _ _ (by have := fbStr_size s; omega)).mono ?_
      rintro e w6 ⟨rfl, b6⟩
      rw [e2.out]
      have B6 : Below w.heap.size w w6 := B4.trans (b6.mono B4.size)
      clear B4 b6
      go_wp2
      go_ret
      exact ⟨rfl, B6⟩
    · have t2 : (fbErr s == 0) = false := by simp [h2]
      rw [fb_empty s h2]
      clear h2
      go_wp2
      go_ret
      exact ⟨rfl, B4⟩
#print axioms back_walk
#print axioms one_walk
end Go.Proofs.Ytholbaefmncphac
