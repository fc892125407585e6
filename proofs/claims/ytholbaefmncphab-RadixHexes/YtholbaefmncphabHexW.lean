/- The law RadixHexes walked: it returns true for every two texts. -/
import Derived.Test.YtholbaefmncphabHexR
namespace Go.Proofs.Ytholbaefmncphab
open Go.RowKit
theorem rfromHex_any (s : ByteArray) (w : World) (hs : s.size ≤ 281474976710656) :
    Calls Try.prog 7 #[.string s] w fun e w' => e = .returned (.tuple #[.string (fhStr s), .int .i64 (fhErr s)]) ∧ Below w.heap.size w w' := by
  by_cases h : s.size % 2 = 0
  · exact rfromHex_even s w hs (s.size / 2) (by omega)
  · have e1 : fhStr s = ⟨#[]⟩ := by unfold fhStr; rw [if_neg (by omega)]
    have e2 : fhErr s = 21 := by unfold fhErr; rw [if_neg h]
    rw [e1, e2]
    exact rfromHex_odd s w hs (by omega)
theorem hex_ex : hexStr ⟨#[240]⟩ = ⟨#[102, 48]⟩ := by decide +kernel
set_option maxHeartbeats 400000 in
theorem hexes_walk (b s : ByteArray) (w : World) (hb : b.size ≤ 140737488351232) (hs : s.size ≤ 140737488351232) :
    Calls Try.prog 3 #[.string b, .string s] w fun e w' => e = .returned (.bool true) ∧ Below w.heap.size w w' := by
  go_enter Try.func3, Try.ntmps3
  go_wp2_with fail
  refine (hex_any ⟨#[240]⟩ _ (by decide)).mono ?_
  rintro e w1 ⟨rfl, b1⟩
  rw [hex_ex]
  go_wp2_with fail
  refine (fromHex_any s _ (by omega)).mono ?_
  rintro e w2 ⟨rfl, b2⟩
  go_wp2_with fail
  refine (rfromHex_any s _ (by omega)).mono ?_
  rintro e w3 ⟨rfl, b3⟩
  go_wp2_with fail
  refine (hex_any b _ hb).mono ?_
  rintro e w4 ⟨rfl, b4⟩
  go_wp2_with fail
  refine (rhex_any b _ hb).mono ?_
  rintro e w5 ⟨rfl, b5⟩
  have B : Below w.heap.size w w5 := ((((b1.trans (b2.mono b1.size)).trans (b3.mono (Nat.le_trans b1.size b2.size))).trans (b4.mono (Nat.le_trans b1.size (Nat.le_trans b2.size b3.size)))).trans (b5.mono (Nat.le_trans b1.size (Nat.le_trans b2.size (Nat.le_trans b3.size b4.size)))))
  clear b1 b2 b3 b4 b5
  go_wp2
  go_ret
  exact ⟨by simp, B⟩
#print axioms hexes_walk
end Go.Proofs.Ytholbaefmncphab
