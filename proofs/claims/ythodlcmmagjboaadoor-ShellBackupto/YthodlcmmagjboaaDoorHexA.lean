/- What radix.Hex answers: two digits a byte. -/
import Derived.Test.YthodlcmmagjboaaDoorProg
import Derived.Test.YthodlcmmagjboaaDoorMem
namespace Go.Proofs.YthodlcmmagjboaaDoor
open Go.RowKit
theorem Tryd.hinfo5 : (Tryd.prog.info? 5).map (fun i => (i.zero, i.size, i.bytes)) = some (some (.int .u8 0), 1, 1) := by kernel_rfl
/-- The sixteen digits. -/
def dgx : ByteArray := ⟨#[48, 49, 50, 51, 52, 53, 54, 55, 56, 57, 97, 98, 99, 100, 101, 102]⟩
def dig (v : Int) : Int := if v < 10 then 48 + v else 87 + v
theorem bt_dgx : ∀ n, n < 16 → bt dgx n = dig n := by decide +kernel
theorem dgx_get (n : Nat) (h : n < dgx.size) : ((dgx[n]'h).toNat : Int) = dig n := by
  rw [get_bt dgx n h]; exact bt_dgx n h
/-- Letter j of the hexadecimal text of s. -/
def hexFn (s : ByteArray) (j : Nat) : Int := dig (if j % 2 = 0 then bt s (j / 2) / 16 else bt s (j / 2) % 16)
def hexStr (s : ByteArray) : ByteArray := strFn (2 * s.size) (hexFn s)
theorem dig_bd (v : Int) (h0 : 0 ≤ v) (h1 : v < 16) : 0 ≤ dig v ∧ dig v < 256 := by unfold dig; split <;> omega
theorem hexFn_bd (s : ByteArray) (j : Nat) : 0 ≤ hexFn s j ∧ hexFn s j < 256 := by
  unfold hexFn
  have := bt_bd s (j / 2)
  split
  · exact dig_bd _ (by omega) (by omega)
  · exact dig_bd _ (by omega) (by omega)

set_option maxHeartbeats 400000 in
theorem hex_any (s : ByteArray) (w : World) (hs : s.size ≤ 140737488351232) :
    Calls Tryd.prog 11 #[.string s] w fun e w' => e = .returned (.string (hexStr s)) ∧ Below w.heap.size w w' := by
  obtain ⟨i0, hi, hz0, hz1, hz2⟩ := info_parts Tryd.hinfo5
  go_enter Tryd.func11, Tryd.ntmps11
  go_wp2_with fail
  rw [show (2 * (s.size : Int)) = ((2 * s.size : Nat) : Int) from by omega]
  rw [run_make (P := Tryd.prog) w 33 5 i0 (.int .u8 0) Tryd.underlying33 hi hz0 .i64 .i64 _ _ (by omega) (by omega) (by rw [hz2]; omega) (by omega)]
  have R0 : Row .u8 (w.alloc (.cells (madeCells (Value.int .u8 0).cells (((2 * s.size : Nat) : Int).toNat * i0.size)) 5)) w.heap.size (2 * s.size) (fun _ => 0) := Row.made (by rw [hz1]; omega)
  have B0 : Below w.heap.size w (w.alloc (.cells (madeCells (Value.int .u8 0).cells (((2 * s.size : Nat) : Int).toNat * i0.size)) 5)) := (Below.refl _ _).alloc (Nat.le_refl _) _
  generalize w.alloc (.cells (madeCells (Value.int .u8 0).cells (((2 * s.size : Nat) : Int).toNat * i0.size)) 5) = W1 at R0 B0 ⊢
  rw [Int.toNat_natCast]
  clear hi hz0 hz1 hz2
  go_wp2
  go_loopw [11] (fun i wr => ∃ k : Nat, k ≤ s.size ∧ i = .int .i64 k ∧ Row .u8 wr w.heap.size (2 * s.size) (fun j => if j < 2 * k then hexFn s j else 0) ∧ Below w.heap.size w wr) (fun i _ => s.size - (intOf i).toNat)
  case atStart => exact ⟨0, Nat.zero_le _, rfl, R0.congr (fun j _ => by simp), B0⟩
  case round =>
    obtain ⟨k, hk, rfl, R, B⟩ := hrel
    by_cases hlt : k < s.size
    · have c1 := R.cell (2 * k) (by omega)
      have f1 := R.free (2 * k) (by omega)
      have c2 := R.cell (2 * k + 1) (by omega)
      have f2 := R.free (2 * k + 1) (by omega)
      have hb := get_bt s
      have hd := get_bt ⟨#[48, 49, 50, 51, 52, 53, 54, 55, 56, 57, 97, 98, 99, 100, 101, 102]⟩
      have hbd := bt_bd s k
      go_wp2
      go_roundw
      case rel =>
        have e1 : bt ⟨#[48, 49, 50, 51, 52, 53, 54, 55, 56, 57, 97, 98, 99, 100, 101, 102]⟩ (bt s k / 16).toNat = hexFn s (2 * k) := by
          have h := bt_dgx (bt s k / 16).toNat (by omega)
          rw [show ((bt s k / 16).toNat : Int) = bt s k / 16 from by omega] at h
          unfold hexFn
          rw [if_pos (by omega), show 2 * k / 2 = k from by omega]
          exact h
        have e2 : bt ⟨#[48, 49, 50, 51, 52, 53, 54, 55, 56, 57, 97, 98, 99, 100, 101, 102]⟩ (bt s k % 16).toNat = hexFn s (2 * k + 1) := by
          have h := bt_dgx (bt s k % 16).toNat (by omega)
          rw [show ((bt s k % 16).toNat : Int) = bt s k % 16 from by omega] at h
          unfold hexFn
          rw [if_neg (by omega), show (2 * k + 1) / 2 = k from by omega]
          exact h
        rw [e1, e2]
        refine ⟨k + 1, by omega, by go_num, ((R.set (2 * k) _ (by omega)).set (2 * k + 1) _ (by omega)).congr (fun j hj => ?_), (B.setCell (Nat.le_refl _) _).setCell (Nat.le_refl _) _⟩
        by_cases a1 : j = 2 * k + 1
        · subst a1; rw [if_pos rfl, if_pos (by omega)]
        · rw [if_neg a1]
          by_cases a2 : j = 2 * k
          · subst a2; rw [if_pos rfl, if_pos (by omega)]
          · rw [if_neg a2]
            by_cases h : j < 2 * k
            · rw [if_pos h, if_pos (by omega)]
            · rw [if_neg h, if_neg (by omega)]
      case measure => simp [intOf]; omega
    · have c1 := run_string_row (P := Tryd.prog) (src := 33) (dst := 9) (c := 2 * s.size) Tryd.underlying33 Tryd.underlying5 Tryd.underlying9 R
      obtain rfl : k = s.size := by omega
      rw [show strFn (2 * s.size) (fun j => if j < 2 * s.size then hexFn s j else 0) = hexStr s from strFn_congr (fun j hj => by rw [if_pos hj])] at c1
      go_wp2
      go_ret
      exact ⟨rfl, B⟩
#print axioms hex_any
end Go.Proofs.YthodlcmmagjboaaDoor
