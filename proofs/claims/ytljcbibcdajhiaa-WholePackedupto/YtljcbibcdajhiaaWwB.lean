/- wire.Text and the document's Text: the length, the text, noughts. -/
import Derived.Test.YtljcbibcdajhiaaWwA
import Derived.Test.YtljcbibcdajhiaaBuf
namespace Go.Proofs.Ytljcbibcdajhiaa
open Go.RowKit

/-- Byte j of a framed text. -/
def txF (s : ByteArray) (j : Nat) : Int := if j < 8 then w8 s.size j else if j < 8 + s.size then bt s (j - 8) else 0
/-- The framed text. -/
def txt (s : ByteArray) : ByteArray := strFn (8 + s.size + padN s.size) (txF s)

theorem w8_bd (n : Int) (j : Nat) : 0 ≤ w8 n j ∧ w8 n j < 256 := by unfold w8; omega
theorem txF_bd (s : ByteArray) (j : Nat) : 0 ≤ txF s j ∧ txF s j < 256 := by
  unfold txF
  split
  · exact w8_bd _ _
  · split
    · exact bt_bd _ _
    · omega

theorem bt_append (a b : ByteArray) (k : Nat) : bt (a ++ b) k = if k < a.size then bt a k else bt b (k - a.size) := by
  have hs : (a ++ b).size = a.size + b.size := ByteArray.size_append
  unfold bt
  by_cases h : k < a.size
  · rw [if_pos h, dif_pos h, dif_pos (by omega), ByteArray.getElem_append_left h]
  · rw [if_neg h]
    by_cases h2 : k < a.size + b.size
    · rw [dif_pos (by omega), dif_pos (by omega), ByteArray.getElem_append_right (by omega)]
    · rw [dif_neg (by omega), dif_neg (by omega)]

/-- The noughts of the program. -/
def n7 : ByteArray := { data := #[0, 0, 0, 0, 0, 0, 0] }
theorem bt_n7 (k p : Nat) : bt (n7.extract 0 p) k = 0 := by
  unfold bt
  split
  · rename_i h
    rw [ByteArray.size_extract] at h
    have hk : 0 + k < 7 := by have : n7.size = 7 := rfl; omega
    rw [ByteArray.getElem_extract]
    have : ∀ j, (hj : j < n7.size) → n7[j]'hj = 0 := by
      intro j hj
      have hj' : j < 7 := hj
      match j, hj' with
      | 0, _ | 1, _ | 2, _ | 3, _ | 4, _ | 5, _ | 6, _ => rfl
    rw [this]; rfl
  · rfl

theorem padN_lt (n : Nat) : padN n < 8 := by unfold padN; omega

theorem txt_eq (s : ByteArray) : strFn 8 (w8 s.size) ++ s ++ n7.extract 0 (padN s.size) = txt s := by
  have hp := padN_lt s.size
  have hs : (n7.extract 0 (padN s.size)).size = padN s.size := by
    rw [ByteArray.size_extract]; have : n7.size = 7 := rfl; omega
  apply bytes_ext
  · rw [ByteArray.size_append, ByteArray.size_append, strFn_size, hs]; unfold txt; rw [strFn_size]
  · intro k hk
    rw [ByteArray.size_append, ByteArray.size_append, strFn_size, hs] at hk
    unfold txt
    rw [bt_strFn _ _ _ hk (txF_bd s k).1 (txF_bd s k).2, bt_append, bt_append, ByteArray.size_append, strFn_size, bt_n7]
    unfold txF
    by_cases h1 : k < 8
    · rw [if_pos (by omega), if_pos h1, if_pos h1, bt_strFn _ _ _ h1 (w8_bd _ _).1 (w8_bd _ _).2]
    · rw [if_neg h1, if_neg h1]

set_option maxHeartbeats 400000 in
theorem text_any (s : ByteArray) (w : World) (hs : s.size ≤ 140737488351232) :
    Calls Try.prog 35 #[.string s] w fun e w' => e = .returned (.string (txt s)) ∧ Below w.heap.size w w' := by
  have E : Hid (strFn 8 (w8 s.size) ++ s ++ n7.extract 0 (padN s.size) = txt s) := txt_eq s
  have p8 := padN_lt s.size
  have z8 := strFn_size 8 (w8 s.size)
  go_enter Try.func35, Try.ntmps35
  go_wp2_with fail
  refine (int_any s.size _ (by omega) (by omega)).mono ?_
  rintro e w1 ⟨rfl, b1⟩
  go_wp2_with fail
  refine (padding_any s.size _ (by omega)).mono ?_
  rintro e w2 ⟨rfl, rfl⟩
  go_wp2
  rw [show ({ data := #[0, 0, 0, 0, 0, 0, 0] } : ByteArray) = n7 from rfl, E.out]
  go_ret
  exact ⟨rfl, b1⟩

end Go.Proofs.Ytljcbibcdajhiaa
