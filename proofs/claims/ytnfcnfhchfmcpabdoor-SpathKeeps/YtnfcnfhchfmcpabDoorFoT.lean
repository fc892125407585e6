/- What radix.Fold answers: the fold of a text into n bytes, told byte by byte. -/
import Derived.Test.YtnfcnfhchfmcpabDoorProg
import Derived.Test.YtnfcnfhchfmcpabDoorMem

namespace Go.Proofs.YtnfcnfhchfmcpabDoor
open Go.RowKit
/-- Byte j of the fold of the first k bytes. -/
def foldFn (s : ByteArray) (n : Nat) : Nat → Nat → Int
  | 0, _ => 0
  | k + 1, j => if j = k % n then bits .xor .u8 (foldFn s n k j) (bt s k) else foldFn s n k j
theorem foldFn_step {m : Nat} (s : ByteArray) (n k : Nat) (j : Nat) (_ : j < m) : (if j = k % n then bits .xor .u8 (foldFn s n k (k % n)) (bt s k) else foldFn s n k j) = foldFn s n (k + 1) j := by
  rw [foldFn]
  by_cases e : j = k % n
  · rw [if_pos e, if_pos e, e]
  · rw [if_neg e, if_neg e]

set_option maxHeartbeats 400000 in
theorem fold_any (s : ByteArray) (n : Nat) (w : World) (hs : s.size ≤ 140737488351232) (h0 : 1 ≤ n) (h1 : n ≤ 64) :
    Calls Tryd.prog 17 #[.string s, .int .i64 n] w fun e w' => e = .returned (.tuple #[.string (strFn n (foldFn s n s.size)), .int .i64 0]) ∧ Below w.heap.size w w' := by
  go_enter Tryd.func17, Tryd.ntmps17
  go_wp2
  go_loopw [16] (fun i wr => ∃ k : Nat, k ≤ s.size ∧ i = .int .i64 k ∧ Row .u8 wr w.heap.size 64 (foldFn s n k) ∧ Below w.heap.size w wr) (fun i _ => s.size - (intOf i).toNat)
  case atStart =>
    refine ⟨0, Nat.zero_le _, rfl, Row.rep rfl, (Below.refl _ _).alloc (Nat.le_refl _) _⟩
  case round =>
    obtain ⟨k, hk, rfl, R, B⟩ := hrel
    by_cases hlt : k < s.size
    · have hm : k % n < n := Nat.mod_lt _ h0
      have c1 := R.cell (k % n) (by omega)
      have f1 := R.free (k % n) (by omega)
      have hb := get_bt s
      go_wp2
      go_region
      all_goals go_wp2
      all_goals
        go_roundw
        case rel => exact ⟨k + 1, by omega, by go_num, ((R.set (k % n) _ (by omega)).congr (foldFn_step s n k)).drew, (B.setCell (Nat.le_refl _) _).drew⟩
        case measure => simp [intOf]; omega
    · have c1 := run_string_row (P := Tryd.prog) (src := 42) (dst := 9) (c := 64) Tryd.underlying42 Tryd.underlying5 Tryd.underlying9 (R.take h1)
      obtain rfl : k = s.size := by omega
      go_wp2
      go_ret2
      exact ⟨rfl, B⟩

set_option maxHeartbeats 400000 in
theorem fold_no (s : ByteArray) (n : Int) (w : World) (h : n < 1 ∨ 64 < n) :
    Calls Tryd.prog 17 #[.string s, .int .i64 n] w fun e w' => e = .returned (.tuple #[.string ⟨#[]⟩, .int .i64 1]) ∧ Below w.heap.size w w' := by
  by_cases h' : n < 1
  · go_enter Tryd.func17, Tryd.ntmps17
    go_wp2
    go_ret2
    exact ⟨rfl, Below.refl _ _⟩
  · have h2 : 64 < n := by omega
    clear h
    go_enter Tryd.func17, Tryd.ntmps17
    go_wp2
    go_ret2
    exact ⟨rfl, Below.refl _ _⟩


theorem Tryd.info5 : (Tryd.prog.info? 5).map (fun i => (i.zero, i.size, i.bytes)) = some (some (.int .u8 0), 1, 1) := by kernel_rfl

end Go.Proofs.YtnfcnfhchfmcpabDoor
