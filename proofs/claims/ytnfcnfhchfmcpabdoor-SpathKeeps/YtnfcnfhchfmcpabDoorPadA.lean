/- The program's padding: what sha.Pad answers for every n from 0 on. -/
import Derived.Test.YtnfcnfhchfmcpabDoorProg
import Derived.Test.YtnfcnfhchfmcpabDoorMem
namespace Go.Proofs.YtnfcnfhchfmcpabDoor
open Go.RowKit
theorem Tryd.info5 : (Tryd.prog.info? 5).map (fun i => (i.zero, i.size, i.bytes)) = some (some (.int .u8 0), 1, 1) := by kernel_rfl
/-- Byte j of the padding behind n bytes, z noughts in it, its last k bytes written. -/
def padFn (n : Int) (z k j : Nat) : Int := if j = 0 then 128 else if z + 9 - k ≤ j then (8 * n) % 18446744073709551616 / 2 ^ (8 * (z + 8 - j)) % 256 else 0
theorem padFn_step (n : Int) (z k j : Nat) (hk : k < 8) : (if j = z + 8 - k then 8 * n % 18446744073709551616 / 2 ^ (8 * k) % 256 else padFn n z k j) = padFn n z (k + 1) j := by
  unfold padFn
  by_cases e : j = z + 8 - k
  · subst e
    rw [if_pos rfl, if_neg (by omega), if_pos (by omega)]
    rw [show z + 8 - (z + 8 - k) = k from by omega]
  · rw [if_neg e]
    by_cases e0 : j = 0
    · rw [if_pos e0, if_pos e0]
    · rw [if_neg e0, if_neg e0]
      by_cases e1 : z + 9 - k ≤ j
      · rw [if_pos e1, if_pos (by omega)]
      · rw [if_neg e1, if_neg (by omega)]
set_option maxHeartbeats 400000 in
theorem pad_any (n : Int) (z : Nat) (w : World) (h0 : 0 ≤ n) (h1 : n ≤ 9223372036854775807) (hz : (z : Int) = (119 - n % 64) % 64) :
    Calls Tryd.prog 24 #[.int .i64 n] w fun e w' => e = .returned (.string (strFn (z + 9) (padFn n z 8))) ∧ Below w.heap.size w w' := by
  obtain ⟨i0, hi, hz0, hz1, hz2⟩ := info_parts Tryd.info5
  have hz' : z < 64 := by omega
  have HZ : Hid ((z : Int) = (119 - n % 64) % 64) := hz
  have e1 : (1 + (119 - n) % 64 + 8 : Int) = ((z + 9 : Nat) : Int) := by omega
  have E1 : Hid ((1 + (119 - n) % 64 + 8 : Int) = ((z + 9 : Nat) : Int)) := e1
  clear e1 hz
  go_enter Tryd.func24, Tryd.ntmps24
  go_wp2_with fail
  rw [E1.out]
  rw [run_make (P := Tryd.prog) w 42 5 i0 (.int .u8 0) Tryd.underlying42 hi hz0 .i64 .i64 _ _ (by omega) (by omega) (by rw [hz2]; omega) (by omega)]
  have R0 : Row .u8 (w.alloc (.cells (madeCells (Value.int .u8 0).cells ((((z + 9 : Nat) : Int)).toNat * i0.size)) 5)) w.heap.size (z + 9) (fun _ => 0) := Row.made (by rw [hz1]; omega)
  have B0 : Below w.heap.size w (w.alloc (.cells (madeCells (Value.int .u8 0).cells ((((z + 9 : Nat) : Int)).toNat * i0.size)) 5)) := (Below.refl _ _).alloc (Nat.le_refl _) _
  have S0 : w.heap.size < (w.alloc (.cells (madeCells (Value.int .u8 0).cells ((((z + 9 : Nat) : Int)).toNat * i0.size)) 5)).heap.size := by simp
  generalize w.alloc (.cells (madeCells (Value.int .u8 0).cells ((((z + 9 : Nat) : Int)).toNat * i0.size)) 5) = W1 at R0 B0 S0 ⊢
  rw [Int.toNat_natCast]
  have c0 := R0.cell 0 (by omega)
  have f0 := R0.free 0 (by omega)
  clear hi hz0 hz1 hz2
  go_wp2
  have B1 : Hid (IntKind.u64.wrap (8 * n) = (8 * n) % 18446744073709551616) := by unfold Hid; rw [IntKind.wrap_u64]
  go_loopw [22] (fun i wr => ∃ k : Nat, k ≤ 8 ∧ i = .int .i64 k ∧ Row .u8 wr w.heap.size (z + 9) (padFn n z k) ∧ Below w.heap.size w wr) (fun i _ => 8 - (intOf i).toNat)
  case atStart =>
    refine ⟨0, by omega, rfl, (R0.set 0 128 (by omega)).congr (fun j hj => ?_), B0.setCell (Nat.le_refl _) _⟩
    unfold padFn
    by_cases e : j = 0
    · simp [e]
    · simp [e]; omega
  case round =>
    obtain ⟨k, hk, rfl, R, B⟩ := hrel
    by_cases hlt : k < 8
    · have c1 := R.cell (z + 8 - k) (by omega)
      have f1 := R.free (z + 8 - k) (by omega)
      go_wp2
      go_roundw
      case rel =>
        refine ⟨k + 1, by omega, by go_num, (R.set (z + 8 - k) _ (by omega)).congr (fun j hj => ?_), B.setCell (Nat.le_refl _) _⟩
        rw [B1.out]
        exact padFn_step n z k j hlt
      case measure => simp [intOf]; omega
    · have c1 := run_string_row (P := Tryd.prog) (src := 42) (dst := 9) (c := z + 9) Tryd.underlying42 Tryd.underlying5 Tryd.underlying9 R
      obtain rfl : k = 8 := by omega
      go_wp2
      go_ret
      exact ⟨rfl, B⟩
#print axioms pad_any
end Go.Proofs.YtnfcnfhchfmcpabDoor
