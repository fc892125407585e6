/- What strings.IndexByte and radix.FromHex answer. -/
import Derived.Test.YthodlcmmagjboaaDoorHexA
import Derived.Test.YthodlcmmagjboaaDoorReB
import Derived.Lib.Bytealg
namespace Go.Proofs.YthodlcmmagjboaaDoor
open Go.RowKit
/-- The value of a hexadecimal digit, or -1. -/
def hv (c : Int) : Int := Lib.indexByte dgx.data.toList c.toNat.toUInt8
theorem hv_nat : ∀ c : Nat, c < 256 → (0 ≤ hv c ∧ hv c < 16 ∧ dig (hv c) = c) ∨ (hv c = -1 ∧ ∀ d : Nat, d < 16 → dig d ≠ c) := by decide +kernel
theorem hv_spec (c : Int) (h : 0 ≤ c ∧ c < 256) : (0 ≤ hv c ∧ hv c < 16 ∧ dig (hv c) = c) ∨ (hv c = -1 ∧ ∀ d : Nat, d < 16 → dig d ≠ c) := by
  obtain ⟨n, rfl⟩ : ∃ n : Nat, c = n := ⟨c.toNat, by omega⟩
  exact hv_nat n (by omega)
theorem hv_dig : ∀ d : Nat, d < 16 → hv (dig d) = d := by decide +kernel

theorem ib_hex (c : Int) (w : World) :
    Calls Tryd.prog 29 #[.string ⟨#[48, 49, 50, 51, 52, 53, 54, 55, 56, 57, 97, 98, 99, 100, 101, 102]⟩, .int .u8 c] w fun e w' => e = .returned (.int .i64 (hv c)) ∧ w' = w := ib_any dgx c w

/-- Are the first k letters digits? -/
def fhOk (s : ByteArray) (k : Nat) : Bool := (List.range k).all (fun j => decide (0 ≤ hv (bt s j)))
theorem fhOk_iff (s : ByteArray) (k : Nat) : fhOk s k = true ↔ ∀ j, j < k → 0 ≤ hv (bt s j) := by
  unfold fhOk; rw [List.all_eq_true]; simp
theorem fhOk_no (s : ByteArray) (k j : Nat) (hj : j < k) (h : hv (bt s j) < 0) : fhOk s k = false := by
  rw [Bool.eq_false_iff]; intro e; have := (fhOk_iff s k).1 e j hj; omega
def fhFn (s : ByteArray) (i : Nat) : Int := 16 * hv (bt s (2 * i)) + hv (bt s (2 * i + 1))
def fhStr (s : ByteArray) : ByteArray := if s.size % 2 = 0 ∧ fhOk s s.size = true then strFn (s.size / 2) (fhFn s) else ⟨#[]⟩
def fhErr (s : ByteArray) : Int := if s.size % 2 = 0 then (if fhOk s s.size = true then 0 else 20) else 21

theorem or_i64 (x y : Int) (h0 : 0 ≤ x) (h1 : x < 16) (h2 : 0 ≤ y) (h3 : y < 16) : bits .or .i64 (x * 16) y = x * 16 + y := by
  have : ∀ a : Nat, a < 16 → ∀ b : Nat, b < 16 → bits .or .i64 ((a : Int) * 16) (b : Int) = (a : Int) * 16 + (b : Int) := by decide +kernel
  obtain ⟨a, rfl⟩ : ∃ m : Nat, x = m := ⟨x.toNat, by omega⟩
  obtain ⟨b, rfl⟩ : ∃ m : Nat, y = m := ⟨y.toNat, by omega⟩
  exact this a (by omega) b (by omega)

set_option maxHeartbeats 400000 in
theorem fromHex_odd (s : ByteArray) (w : World) (hs : s.size ≤ 281474976710656) (ho : s.size % 2 = 1) :
    Calls Tryd.prog 21 #[.string s] w fun e w' => e = .returned (.tuple #[.string ⟨#[]⟩, .int .i64 21]) ∧ Below w.heap.size w w' := by
  have t : ((s.size : Int) % 2 != 0) = true := by simp; omega
  go_enter Tryd.func21, Tryd.ntmps21
  go_wp2
  go_ret2
  exact ⟨rfl, Below.refl _ _⟩

set_option maxHeartbeats 400000 in
theorem fromHex_even (s : ByteArray) (w : World) (hs : s.size ≤ 281474976710656) (m : Nat) (ho : s.size = 2 * m) :
    Calls Tryd.prog 21 #[.string s] w fun e w' => e = .returned (.tuple #[.string (fhStr s), .int .i64 (fhErr s)]) ∧ Below w.heap.size w w' := by
  obtain ⟨i0, hi, hz0, hz1, hz2⟩ := info_parts Tryd.hinfo5
  have t : ((s.size : Int) % 2 != 0) = false := by simp; omega
  have hbad : Hid (fhOk s s.size = false → fhStr s = ⟨#[]⟩ ∧ fhErr s = 20) := fun h => by
    unfold fhStr fhErr; rw [h, if_neg (by simp), if_pos (by omega), if_neg (by simp)]; exact ⟨rfl, rfl⟩
  have hgood : Hid (fhOk s s.size = true → fhStr s = strFn m (fhFn s) ∧ fhErr s = 0) := fun h => by
    unfold fhStr fhErr; rw [h, if_pos ⟨by omega, rfl⟩, if_pos (by omega), if_pos rfl, show s.size / 2 = m from by omega]; exact ⟨rfl, rfl⟩
  have hle : s.size ≤ 2 * m := by omega
  have hge : 2 * m ≤ s.size := by omega
  have e0 : Hid ((s.size : Int) / 2 = (m : Int)) := by unfold Hid; omega
  clear ho
  go_enter Tryd.func21, Tryd.ntmps21
  go_wp2_with fail
  rw [e0.out]
  rw [run_make (P := Tryd.prog) w 33 5 i0 (.int .u8 0) Tryd.underlying33 hi hz0 .i64 .i64 _ _ (by omega) (by omega) (by rw [hz2]; omega) (by omega)]
  have R0 : Row .u8 (w.alloc (.cells (madeCells (Value.int .u8 0).cells ((m : Int).toNat * i0.size)) 5)) w.heap.size m (fun _ => 0) := Row.made (by rw [hz1]; omega)
  have B0 : Below w.heap.size w (w.alloc (.cells (madeCells (Value.int .u8 0).cells ((m : Int).toNat * i0.size)) 5)) := (Below.refl _ _).alloc (Nat.le_refl _) _
  generalize w.alloc (.cells (madeCells (Value.int .u8 0).cells ((m : Int).toNat * i0.size)) 5) = W1 at R0 B0 ⊢
  rw [Int.toNat_natCast]
  clear hi hz0 hz1 hz2 t
  go_wp2
  go_loopw [18] (fun i wr => ∃ k : Nat, k ≤ m ∧ i = .int .i64 k ∧ (∀ j, j < 2 * k → 0 ≤ hv (bt s j)) ∧ Row .u8 wr w.heap.size m (fun j => if j < k then fhFn s j else 0) ∧ Below w.heap.size w wr) (fun i _ => m - (intOf i).toNat)
  case atStart => exact ⟨0, Nat.zero_le _, rfl, fun j hj => absurd hj (by omega), R0.congr (fun j _ => by simp), B0⟩
  case round =>
    obtain ⟨k, hk, rfl, hok, R, B⟩ := hrel
    have HOK : Hid (∀ j, j < 2 * k → 0 ≤ hv (bt s j)) := hok
    clear hok
    by_cases hlt : k < m
    · have hb := get_bt s
      have hk0 : 2 * k < s.size := by omega
      have hk1 : 2 * k + 1 < s.size := by omega
      go_wp2_with fail
      refine (ib_hex _ _).mono ?_
      rintro e w1 ⟨rfl, rfl⟩
      have hx := hv_spec _ (bt_bd s (2 * k))
      have hy := hv_spec _ (bt_bd s (2 * k + 1))
      have hx1 : hv (bt s (2 * k)) < 16 := by omega
      have hx0 : -1 ≤ hv (bt s (2 * k)) := by omega
      have hy1 : hv (bt s (2 * k + 1)) < 16 := by omega
      have hy0 : -1 ≤ hv (bt s (2 * k + 1)) := by omega
      clear hx hy
      go_wp2_with fail
      refine (ib_hex _ _).mono ?_
      rintro e w1 ⟨rfl, rfl⟩
      have hf : Hid (16 * hv (bt s (2 * k)) + hv (bt s (2 * k + 1)) = fhFn s k) := rfl
      have hxd : Hid (hv (bt s (2 * k)) < 0 → fhOk s s.size = false) := fhOk_no s s.size (2 * k) hk0
      have hyd : Hid (hv (bt s (2 * k + 1)) < 0 → fhOk s s.size = false) := fhOk_no s s.size (2 * k + 1) hk1
      have hnx : Hid (0 ≤ hv (bt s (2 * k)) → 0 ≤ hv (bt s (2 * k + 1)) → ∀ j, j < 2 * (k + 1) → 0 ≤ hv (bt s j)) := fun g1 g2 j hj => by
        by_cases e1 : j = 2 * k
        · rw [e1]; exact g1
        · by_cases e2 : j = 2 * k + 1
          · rw [e2]; exact g2
          · exact HOK.out j (by omega)
      generalize hv (bt s (2 * k)) = x at hx0 hx1 hf hxd hnx ⊢
      generalize hv (bt s (2 * k + 1)) = y at hy0 hy1 hf hyd hnx ⊢
      clear hb
      have c1 := R.cell k (by omega)
      have f1 := R.free k (by omega)
      by_cases g1 : x < 0
      · go_wp2
        go_ret2
        rw [(hbad.out (hxd.out g1)).1, (hbad.out (hxd.out g1)).2]
        exact ⟨rfl, B⟩
      · by_cases g2 : y < 0
        · go_wp2
          go_ret2
          rw [(hbad.out (hyd.out g2)).1, (hbad.out (hyd.out g2)).2]
          exact ⟨rfl, B⟩
        · go_wp2
          go_roundw
          case rel =>
            refine ⟨k + 1, by omega, by go_num, hnx.out (by omega) (by omega), (R.set k _ (by omega)).congr (fun j hj => ?_), B.setCell (Nat.le_refl _) _⟩
            by_cases e : j = k
            · subst e
              rw [if_pos rfl, if_pos (by omega), or_i64 x y (by omega) hx1 (by omega) hy1, ← hf.out]
              omega
            · rw [if_neg e]
              by_cases h : j < k
              · rw [if_pos h, if_pos (by omega)]
              · rw [if_neg h, if_neg (by omega)]
          case measure => simp [intOf]; omega
    · have c1 := run_string_row (P := Tryd.prog) (src := 33) (dst := 9) (c := m) Tryd.underlying33 Tryd.underlying5 Tryd.underlying9 R
      rw [show strFn m (fun j => if j < k then fhFn s j else 0) = strFn m (fhFn s) from strFn_congr (fun j hj => by rw [if_pos (by omega)])] at c1
      have hall : Hid (fhOk s s.size = true) := (fhOk_iff s s.size).2 (fun j hj => HOK.out j (by omega))
      go_wp2
      go_ret2
      rw [(hgood.out hall.out).1, (hgood.out hall.out).2]
      exact ⟨rfl, B⟩
theorem fromHex_any (s : ByteArray) (w : World) (hs : s.size ≤ 281474976710656) :
    Calls Tryd.prog 21 #[.string s] w fun e w' => e = .returned (.tuple #[.string (fhStr s), .int .i64 (fhErr s)]) ∧ Below w.heap.size w w' := by
  by_cases h : s.size % 2 = 0
  · exact fromHex_even s w hs (s.size / 2) (by omega)
  · have e1 : fhStr s = ⟨#[]⟩ := by unfold fhStr; rw [if_neg (by omega)]
    have e2 : fhErr s = 21 := by unfold fhErr; rw [if_neg h]
    rw [e1, e2]
    exact fromHex_odd s w hs (by omega)
#print axioms fromHex_any
end Go.Proofs.YthodlcmmagjboaaDoor
