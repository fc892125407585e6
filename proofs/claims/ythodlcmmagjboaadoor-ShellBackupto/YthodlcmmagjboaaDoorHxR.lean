/- What the document's own Hex and FromHex answer: as the program's. -/
import Derived.Test.YthodlcmmagjboaaDoorHexA
import Derived.Deep.QuietTactic
import Derived.BigQuiet
namespace Go.Proofs.YthodlcmmagjboaaDoor
open Go.RowKit
set_option maxHeartbeats 400000 in
theorem digit_any (v : Int) (w : World) (h0 : 0 ≤ v) (h1 : v < 16) :
    Calls Tryd.prog 23 #[.int .u8 v] w fun e w' => e = .returned (.int .u8 (dig v)) ∧ w' = w := by
  by_cases h : v < 10
  · have e : Hid (dig v = 48 + v) := by unfold Hid dig; rw [if_pos h]
    go_enter Tryd.func23, Tryd.ntmps23
    go_wp2
    go_ret
    rw [e.out]
    exact ⟨rfl, rfl⟩
  · have e : Hid (dig v = 97 + v - 10) := by unfold Hid dig; rw [if_neg h]; omega
    go_enter Tryd.func23, Tryd.ntmps23
    go_wp2
    go_ret
    rw [e.out]
    exact ⟨rfl, rfl⟩

set_option maxHeartbeats 400000 in
theorem rhex_any (s : ByteArray) (w : World) (hs : s.size ≤ 140737488351232) :
    Calls Tryd.prog 17 #[.string s] w fun e w' => e = .returned (.string (hexStr s)) ∧ Below w.heap.size w w' := by
  obtain ⟨i0, hi, hz0, hz1, hz2⟩ := info_parts Tryd.hinfo5
  go_enter Tryd.func17, Tryd.ntmps17
  go_wp2_with fail
  rw [show (2 * (s.size : Int)) = ((2 * s.size : Nat) : Int) from by omega]
  rw [run_make (P := Tryd.prog) w 33 5 i0 (.int .u8 0) Tryd.underlying33 hi hz0 .i64 .i64 _ _ (by omega) (by omega) (by rw [hz2]; omega) (by omega)]
  have R0 : Row .u8 (w.alloc (.cells (madeCells (Value.int .u8 0).cells (((2 * s.size : Nat) : Int).toNat * i0.size)) 5)) w.heap.size (2 * s.size) (fun _ => 0) := Row.made (by rw [hz1]; omega)
  have B0 : Below w.heap.size w (w.alloc (.cells (madeCells (Value.int .u8 0).cells (((2 * s.size : Nat) : Int).toNat * i0.size)) 5)) := (Below.refl _ _).alloc (Nat.le_refl _) _
  generalize w.alloc (.cells (madeCells (Value.int .u8 0).cells (((2 * s.size : Nat) : Int).toNat * i0.size)) 5) = W1 at R0 B0 ⊢
  rw [Int.toNat_natCast]
  clear hi hz0 hz1 hz2
  go_wp2
  go_loopw [4] (fun i wr => ∃ k : Nat, k ≤ s.size ∧ i = .int .i64 k ∧ Row .u8 wr w.heap.size (2 * s.size) (fun j => if j < 2 * k then hexFn s j else 0) ∧ Below w.heap.size w wr) (fun i _ => s.size - (intOf i).toNat)
  case atStart => exact ⟨0, Nat.zero_le _, rfl, R0.congr (fun j _ => by simp), B0⟩
  case round =>
    obtain ⟨k, hk, rfl, R, B⟩ := hrel
    by_cases hlt : k < s.size
    · have c1 := R.cell (2 * k) (by omega)
      have f1 := R.free (2 * k) (by omega)
      have c2 := R.cell (2 * k + 1) (by omega)
      have f2 := R.free (2 * k + 1) (by omega)
      have hb := get_bt s
      have hbd := bt_bd s k
      have e1 : Hid (dig (bt s k / 16) = hexFn s (2 * k)) := by
        unfold Hid hexFn; rw [if_pos (by omega), show 2 * k / 2 = k from by omega]
      have e2 : Hid (dig (bt s k % 16) = hexFn s (2 * k + 1)) := by
        unfold Hid hexFn; rw [if_neg (by omega), show (2 * k + 1) / 2 = k from by omega]
      go_wp2_with fail
      refine (digit_any _ _ (by omega) (by omega)).mono ?_
      rintro e w1 ⟨rfl, rfl⟩
      rw [e1.out]
      go_wp2_with fail
      refine (digit_any _ _ (by omega) (by omega)).mono ?_
      rintro e w2 ⟨rfl, rfl⟩
      rw [e2.out]
      go_wp2
      go_roundw
      case rel =>
        refine ⟨k + 1, by omega, by go_num, ((R.set (2 * k) _ (by omega)).set (2 * k + 1) _ (by omega)).congr (fun j hj => ?_), (B.setCell (Nat.le_refl _) _).setCell (Nat.le_refl _) _⟩
        by_cases a1 : j = 2 * k + 1
        · subst a1; rw [if_pos rfl, if_pos (by omega)]
        · rw [if_neg a1]
          by_cases a2 : j = 2 * k
          · subst a2; rw [if_pos rfl, if_pos (by omega)]
          · rw [if_neg a2]
            by_cases h : j < 2 * k
            · rw [if_pos h, if_pos (by omega)]
            · rw [if_neg h, if_neg (by omega)]
      case measure => simp [intOf]; omega
    · have c1 := run_string_row (P := Tryd.prog) (src := 33) (dst := 9) (c := 2 * s.size) Tryd.underlying33 Tryd.underlying5 Tryd.underlying9 R
      obtain rfl : k = s.size := by omega
      rw [show strFn (2 * s.size) (fun j => if j < 2 * s.size then hexFn s j else 0) = hexStr s from strFn_congr (fun j hj => by rw [if_pos hj])] at c1
      go_wp2
      go_ret
      exact ⟨rfl, B⟩

end Go.Proofs.YthodlcmmagjboaaDoor
