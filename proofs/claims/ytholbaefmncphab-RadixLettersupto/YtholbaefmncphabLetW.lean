/- The law RadixLetters walked: it returns true for every two texts of at most 1048576 bytes and every byte. -/
import Derived.Test.YtholbaefmncphabLetG
namespace Go.Proofs.Ytholbaefmncphab
open Go.RowKit
theorem rfb32_any (s : ByteArray) (w : World) (hs : s.size ≤ 1048576) :
    Calls Try.prog 11 #[.string s] w fun e w' => e = .returned (.tuple #[.string (fbStr s), .int .i64 (fbErr s)]) ∧ Below w.heap.size w w' := by
  by_cases h : s.size = 0
  · have e : fbErr s = 0 := by unfold fbErr; rw [h, if_pos (by decide), if_pos (show fbOk s 0 = true from rfl), if_pos (by show 0 / _ % 256 = 0; rw [Nat.zero_div])]
    have e2 : fbStr s = ⟨#[]⟩ := by unfold fbStr; rw [e, if_pos rfl, h]; rfl
    rw [e, e2]
    exact rfb32_zero s w h
  · exact rfb32_go s w hs (by omega)
theorem b32_ex : b32Str ⟨#[255]⟩ = ⟨#[55, 122]⟩ := by decide +kernel
set_option maxHeartbeats 1000000 in
theorem letters_walk (b s : ByteArray) (c : Int) (w : World) (hb : b.size ≤ 1048576) (hs : s.size ≤ 1048576) (h0 : 0 ≤ c) (h1 : c < 256) :
    Calls Try.prog 4 #[.string b, .string s, .int .u8 c] w fun e w' => e = .returned (.bool true) ∧ Below w.heap.size w w' := by
  go_enter Try.func4, Try.ntmps4
  go_wp2_with fail
  refine (b32_any ⟨#[255]⟩ _ (by decide)).mono ?_
  rintro e w1 ⟨rfl, b1⟩
  rw [b32_ex]
  go_wp2_with fail
  refine (fb32_any s _ (by omega)).mono ?_
  rintro e w2 ⟨rfl, b2⟩
  go_wp2_with fail
  refine (rfb32_any s _ hs).mono ?_
  rintro e w3 ⟨rfl, b3⟩
  go_wp2_with fail
  refine (b32_any b _ (by omega)).mono ?_
  rintro e w4 ⟨rfl, b4⟩
  go_wp2_with fail
  refine (rb32_any b _ hb).mono ?_
  rintro e w5 ⟨rfl, b5⟩
  have B : Below w.heap.size w w5 := ((((b1.trans (b2.mono b1.size)).trans (b3.mono (Nat.le_trans b1.size b2.size))).trans (b4.mono (Nat.le_trans b1.size (Nat.le_trans b2.size b3.size)))).trans (b5.mono (Nat.le_trans b1.size (Nat.le_trans b2.size (Nat.le_trans b3.size b4.size)))))
  clear b1 b2 b3 b4 b5
  go_wp2_with fail
  refine (value_any c _).mono ?_
  rintro e w6 ⟨rfl, rfl⟩
  rw [show Lib.indexByte lts.data.toList c.toNat.toUInt8 = vl c from rfl]
  go_wp2_with fail
  refine (rvalue_any c _ h0 h1).mono ?_
  rintro e w7 ⟨rfl, rfl⟩
  go_wp2
  go_ret
  exact ⟨by simp, B⟩
#print axioms letters_walk
end Go.Proofs.Ytholbaefmncphab
