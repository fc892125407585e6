/- The law RadixFolds walked: it returns true for every text and every n. -/
import Derived.Test.YtholbaefmncphacFoldA
namespace Go.Proofs.Ytholbaefmncphac
open Go.RowKit
/-- Fold's two answers: the text and the error's number. -/
def foldStr (s : ByteArray) (n : Int) : ByteArray := if n < 1 ∨ 64 < n then ⟨#[]⟩ else strFn n.toNat (foldFn s n.toNat s.size)
def foldErr (n : Int) : Int := if n < 1 ∨ 64 < n then 1 else 0
theorem fold_all (s : ByteArray) (n : Int) (w : World) (hs : s.size ≤ 140737488351232) :
    Calls Try.prog 8 #[.string s, .int .i64 n] w fun e w' => e = .returned (.tuple #[.string (foldStr s n), .int .i64 (foldErr n)]) ∧ Below w.heap.size w w' := by
  unfold foldStr foldErr
  by_cases h : n < 1 ∨ 64 < n
  · rw [if_pos h, if_pos h]; exact fold_no s n w h
  · rw [if_neg h, if_neg h]
    obtain ⟨m, rfl⟩ : ∃ m : Nat, n = m := ⟨n.toNat, by omega⟩
    rw [Int.toNat_natCast]
    exact fold_any s m w hs (by omega) (by omega)
theorem rfold_all (s : ByteArray) (n : Int) (w : World) (hs : s.size ≤ 140737488351232) :
    Calls Try.prog 9 #[.string s, .int .i64 n] w fun e w' => e = .returned (.tuple #[.string (foldStr s n), .int .i64 (foldErr n)]) ∧ Below w.heap.size w w' := by
  unfold foldStr foldErr
  by_cases h : n < 1 ∨ 64 < n
  · rw [if_pos h, if_pos h]; exact rfold_no s n w h
  · rw [if_neg h, if_neg h]
    obtain ⟨m, rfl⟩ : ∃ m : Nat, n = m := ⟨n.toNat, by omega⟩
    rw [Int.toNat_natCast]
    exact rfold_any s m w hs (by omega) (by omega)
theorem fold_ex : foldStr ⟨#[1, 2, 4]⟩ 2 = ⟨#[5, 2]⟩ ∧ foldErr 2 = 0 := by decide +kernel
set_option maxHeartbeats 400000 in
theorem folds_walk (s : ByteArray) (n : Int) (w : World) (hs : s.size ≤ 140737488351232) (_h0 : -9223372036854775808 ≤ n) (_h1 : n ≤ 9223372036854775807) :
    Calls Try.prog 3 #[.string s, .int .i64 n] w fun e w' => e = .returned (.bool true) ∧ Below w.heap.size w w' := by
  go_enter Try.func3, Try.ntmps3
  go_wp2_with fail
  refine (fold_all ⟨#[1, 2, 4]⟩ 2 _ (by decide)).mono ?_
  rintro e w1 ⟨rfl, b1⟩
  rw [fold_ex.1, fold_ex.2]
  go_wp2_with fail
  refine (fold_all s n _ hs).mono ?_
  rintro e w2 ⟨rfl, b2⟩
  go_wp2_with fail
  refine (rfold_all s n _ hs).mono ?_
  rintro e w3 ⟨rfl, b3⟩
  go_wp2
  go_ret
  exact ⟨by simp, (b1.trans (b2.mono b1.size)).trans (b3.mono (Nat.le_trans b1.size b2.size))⟩
#print axioms folds_walk
end Go.Proofs.Ytholbaefmncphac
