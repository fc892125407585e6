/- The words with which a digest begins; the words behind a message's blocks; the digest's bytes. -/
import Derived.Test.YtnfcnfhchfmcpabDoorShaU
import Derived.Test.YtnfcnfhchfmcpabDoorPadC
namespace Go.Proofs.YtnfcnfhchfmcpabDoor
open Go.RowKit
def stl : List Int := [1779033703, 3144134277, 1013904242, 2773480762, 1359893119, 2600822924, 528734635, 1541459225]
def stw (i : Nat) : Int := stl.getD i 0
theorem stw_w (j : Nat) : W32 (stw j) := by
  by_cases h : j < 8
  · rcases (show j = 0 ∨ j = 1 ∨ j = 2 ∨ j = 3 ∨ j = 4 ∨ j = 5 ∨ j = 6 ∨ j = 7 from by omega) with rfl | rfl | rfl | rfl | rfl | rfl | rfl | rfl
    all_goals exact ⟨by decide, by decide⟩
  · have : stw j = 0 := by
      unfold stw stl
      rw [List.getD_eq_getElem?_getD, List.getElem?_eq_none (by simp; omega)]
      rfl
    rw [this]
    exact ⟨by decide, by decide⟩
/-- The words behind t blocks of the bytes m. -/
def hw (m : Nat → Int) : Nat → Nat → Int
  | 0 => stw
  | t + 1 => blk kk (hw m t) (fun j => m (64 * t + j))
theorem hw_w (m : Nat → Int) (t j : Nat) : W32 (hw m t j) := by
  cases t with
  | zero => exact stw_w j
  | succ t => exact blk_w _ _ _ _
/-- Byte i of the digest that eight words are. -/
def dg (h : Nat → Int) (i : Nat) : Int := h (i / 4) / 2 ^ (8 * (3 - i % 4)) % 256
/-- The first n of f, noughts behind. -/
def upF (f : Nat → Int) (n x : Nat) : Int := if x < n then f x else 0
theorem upF_set (f : Nat → Int) (n x : Nat) : (if x = n then f n else upF f n x) = upF f (n + 1) x := by
  unfold upF
  by_cases e : x = n
  · rw [if_pos e, if_pos (by omega), e]
  · rw [if_neg e]
    by_cases h : x < n
    · rw [if_pos h, if_pos (by omega)]
    · rw [if_neg h, if_neg (by omega)]
theorem upF_all (f : Nat → Int) (n x : Nat) (h : x < n) : upF f n x = f x := by unfold upF; rw [if_pos h]
theorem upF_zero (f : Nat → Int) (x : Nat) : upF f 0 x = 0 := by unfold upF; rw [if_neg (by omega)]

set_option maxRecDepth 100000 in
set_option maxHeartbeats 4000000 in
theorem startWords_any (w : World) : Calls Tryd.prog 22 #[] w fun e w' => e = .returned (.agg (cs .u32 8 stw)) ∧ Below w.heap.size w w' := by
  go_enter Tryd.func22, Tryd.ntmps22
  go_wp2_with (refine wpList_store_any (f := stw) (by rfl) 48 (.tmp 0) (.tmp 1) (by rfl) w.heap.size (by rfl) (by rfl) (Row.rep (n := 8) (z := 0) rfl) Tryd.sz48 (by rfl) ?_; intro W2 RS2 U2)
  exact bodyPost_ret (results_arr Tryd.results22 _ _ rfl RS2 Tryd.underlying48 Tryd.sz48) rfl ⟨rfl, U2.below ((Below.refl _ _).alloc (Nat.le_refl _) _) (Nat.le_refl _) (by rw [World.size_alloc]; omega)⟩

/-- The message with its padding. -/
def msg (s : ByteArray) : ByteArray := s ++ padStr s.size
theorem padStr_size (n : Nat) : (padStr n).size = ((119 - (n : Int) % 64) % 64).toNat + 9 := by
  unfold padStr
  rw [if_neg (by omega), strFn_size]
/-- How many blocks the message has. -/
def nb (s : ByteArray) : Nat := (s.size + 72) / 64
theorem msg_size (s : ByteArray) : (msg s).size = 64 * nb s := by
  unfold msg nb
  rw [ByteArray.size_append, padStr_size]
  omega
#print axioms startWords_any
#print axioms msg_size
end Go.Proofs.YtnfcnfhchfmcpabDoor
