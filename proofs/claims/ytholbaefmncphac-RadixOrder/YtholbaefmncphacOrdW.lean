/- The law RadixOrder walked: it returns true for every two texts. -/
import Derived.Test.YtholbaefmncphacOrd
namespace Go.Proofs.Ytholbaefmncphac
open Go.RowKit
set_option maxHeartbeats 400000 in
theorem turned_any (a : ByteArray) (w : World) (ha : a.size ≤ 140737488351232) :
    Calls Try.prog 14 #[.string a] w fun e w' => e = .returned (.string (turnStr a)) ∧ Below w.heap.size w w' := by
  obtain ⟨i0, hi, hz0, hz1, hz2⟩ := info_parts Try.hinfo5
  go_enter Try.func14, Try.ntmps14
  go_wp2_with fail
  rw [run_make (P := Try.prog) w 35 5 i0 (.int .u8 0) Try.underlying35 hi hz0 .i64 .i64 _ _ (by omega) (by omega) (by rw [hz2]; omega) (by omega)]
  have R0 : Row .u8 (w.alloc (.cells (madeCells (Value.int .u8 0).cells ((a.size : Int).toNat * i0.size)) 5)) w.heap.size a.size (fun _ => 0) := Row.made (by rw [hz1]; omega)
  have B0 : Below w.heap.size w (w.alloc (.cells (madeCells (Value.int .u8 0).cells ((a.size : Int).toNat * i0.size)) 5)) := (Below.refl _ _).alloc (Nat.le_refl _) _
  generalize w.alloc (.cells (madeCells (Value.int .u8 0).cells ((a.size : Int).toNat * i0.size)) 5) = W1 at R0 B0 ⊢
  rw [Int.toNat_natCast]
  clear hi hz0 hz1 hz2
  go_wp2
  go_loopw [10] (fun i wr => ∃ k : Nat, k ≤ a.size ∧ i = .int .i64 k ∧ Row .u8 wr w.heap.size a.size (fun j => if j < k then bt a (a.size - 1 - j) else 0) ∧ Below w.heap.size w wr) (fun i _ => a.size - (intOf i).toNat)
  case atStart => exact ⟨0, Nat.zero_le _, rfl, R0.congr (fun j _ => by simp), B0⟩
  case round =>
    obtain ⟨k, hk, rfl, R, B⟩ := hrel
    by_cases hlt : k < a.size
    · have c1 := R.cell k (by omega)
      have f1 := R.free k (by omega)
      have hb := get_bt a
      go_wp2
      go_roundw
      case rel =>
        refine ⟨k + 1, by omega, by go_num, (R.set k _ (by omega)).congr (fun j _ => ?_), B.setCell (Nat.le_refl _) _⟩
        by_cases e : j = k
        · subst e; rw [if_pos rfl, if_pos (by omega)]
        · rw [if_neg e]
          by_cases h : j < k
          · rw [if_pos h, if_pos (by omega)]
          · rw [if_neg h, if_neg (by omega)]
      case measure => simp [intOf]; omega
    · have c1 := run_string_row (P := Try.prog) (src := 35) (dst := 9) (c := a.size) Try.underlying35 Try.underlying5 Try.underlying9 R
      obtain rfl : k = a.size := by omega
      rw [show strFn a.size (fun j => if j < a.size then bt a (a.size - 1 - j) else 0) = turnStr a from strFn_congr (fun j hj => by rw [if_pos hj])] at c1
      go_wp2
      go_ret
      exact ⟨rfl, B⟩

set_option maxHeartbeats 1000000 in
theorem order_walk (a b : ByteArray) (w : World) (ha : a.size ≤ 140737488351232) (hb : b.size ≤ 140737488351232) :
    Calls Try.prog 6 #[.string a, .string b] w fun e w' => e = .returned (.bool true) ∧ Below w.heap.size w w' := by
  have ho : Hid (ls (hexStr a) (hexStr b) = ls a b) := hex_order a b
  have ht : Hid (a.size = b.size → ls (turnStr a) (turnStr b) = ls (b32Str a) (b32Str b)) := turn_order a b
  go_enter Try.func6, Try.ntmps6
  go_wp2_with fail
  refine (hex_any ⟨#[240]⟩ _ (by decide)).mono ?_
  rintro e w1 ⟨rfl, b1⟩
  rw [hex_ex]
  go_wp2_with fail
  refine (b32_any ⟨#[255]⟩ _ (by decide)).mono ?_
  rintro e w2 ⟨rfl, b2⟩
  rw [b32_ex]
  have B2 : Below w.heap.size w w2 := b1.trans (b2.mono b1.size)
  clear b1 b2
  go_wp2_with fail
  refine (hex_any a _ ha).mono ?_
  rintro e w3 ⟨rfl, b3⟩
  have B3 : Below w.heap.size w w3 := B2.trans (b3.mono B2.size)
  clear B2 b3
  go_wp2_with fail
  refine (hex_any b _ hb).mono ?_
  rintro e w4 ⟨rfl, b4⟩
  have B4 : Below w.heap.size w w4 := B3.trans (b4.mono B3.size)
  clear B3 b4
  have ho' : Op.bytesLess (hexStr a).toList (hexStr b).toList = Op.bytesLess a.toList b.toList := ho.out
  have e1 : (Op.bytesLess a.toList b.toList != Op.bytesLess a.toList b.toList) = false := by simp
  by_cases hs : a.size = b.size
  · have t1 : ((a.size : Int) != (b.size : Int)) = false := by rw [bne_eq_false_iff_eq]; omega
    have hto : Hid (Op.bytesLess (turnStr a).toList (turnStr b).toList = Op.bytesLess (b32Str a).toList (b32Str b).toList) := ht.out hs
    clear hs
    go_wp2_with fail
    refine (turned_any a _ ha).mono ?_
    rintro e w5 ⟨rfl, b5⟩
    have B5 : Below w.heap.size w w5 := B4.trans (b5.mono B4.size)
    clear B4 b5
    go_wp2_with fail
    refine (turned_any b _ hb).mono ?_
    rintro e w6 ⟨rfl, b6⟩
    have B6 : Below w.heap.size w w6 := B5.trans (b6.mono B5.size)
    clear B5 b6
    go_wp2_with fail
    refine (b32_any a _ ha).mono ?_
    rintro e w7 ⟨rfl, b7⟩
    have B7 : Below w.heap.size w w7 := B6.trans (b7.mono B6.size)
    clear B6 b7
    go_wp2_with fail
    refine (b32_any b _ hb).mono ?_
    rintro e w8 ⟨rfl, b8⟩
    have B8 : Below w.heap.size w w8 := B7.trans (b8.mono B7.size)
    clear B7 b8
    go_wp2
    go_ret
    refine ⟨?_, B8⟩
    rw [hto.out, BEq.rfl]
    rfl
  · have t1 : ((a.size : Int) != (b.size : Int)) = true := by rw [bne_iff_ne]; omega
    clear hs
    go_wp2
    go_ret
    exact ⟨rfl, B4⟩
#print axioms order_walk
end Go.Proofs.Ytholbaefmncphac
