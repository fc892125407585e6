/- The document's FromHex, walked. -/
import Derived.Test.YthodlcmmagjboaaDoorHexC
import Derived.Test.YthodlcmmagjboaaDoorHxR
namespace Go.Proofs.YthodlcmmagjboaaDoor
open Go.RowKit

set_option maxHeartbeats 400000 in
theorem rfromHex_odd (s : ByteArray) (w : World) (hs : s.size ≤ 281474976710656) (ho : s.size % 2 = 1) :
    Calls Tryd.prog 22 #[.string s] w fun e w' => e = .returned (.tuple #[.string ⟨#[]⟩, .int .i64 21]) ∧ Below w.heap.size w w' := by
  have t : ((s.size : Int) % 2 == 1) = true := by simp; omega
  go_enter Tryd.func22, Tryd.ntmps22
  go_wp2
  go_ret2
  exact ⟨rfl, Below.refl _ _⟩

/-- The digit's value as far as the search among the first d has come; 16 for none. -/
def vOf (x : Int) (d : Nat) : Int := if 0 ≤ x ∧ x < d then x else 16
/-- Byte j while k letters have been read. -/
def rhFn (s : ByteArray) (k j : Nat) : Int := if 2 * j + 1 < k then fhFn s j else if 2 * j + 1 = k then hv (bt s (2 * j)) else 0

theorem rhFn_step (s : ByteArray) (k j : Nat) : (if j = k / 2 then (rhFn s k (k / 2) * 16 + hv (bt s k)) else rhFn s k j) = rhFn s (k + 1) j := by
  unfold rhFn fhFn
  by_cases e : j = k / 2
  · subst e
    rw [if_pos rfl]
    by_cases p : k % 2 = 0
    · rw [if_neg (by omega), if_neg (by omega), if_neg (by omega), if_pos (by omega), show 2 * (k / 2) = k from by omega]; omega
    · rw [if_neg (by omega), if_pos (by omega), if_pos (by omega), show 2 * (k / 2) + 1 = k from by omega]; omega
  · rw [if_neg e]
    by_cases q : 2 * j + 1 < k
    · rw [if_pos q, if_pos (by omega)]
    · rw [if_neg q, if_neg (by omega), if_neg (by omega), if_neg (by omega)]

set_option maxHeartbeats 1000000 in
theorem rfromHex_even (s : ByteArray) (w : World) (hs : s.size ≤ 281474976710656) (m : Nat) (ho : s.size = 2 * m) :
    Calls Tryd.prog 22 #[.string s] w fun e w' => e = .returned (.tuple #[.string (fhStr s), .int .i64 (fhErr s)]) ∧ Below w.heap.size w w' := by
  obtain ⟨i0, hi, hz0, hz1, hz2⟩ := info_parts Tryd.hinfo5
  have t : ((s.size : Int) % 2 == 1) = false := by simp; omega
  have hbad : Hid (fhOk s s.size = false → fhStr s = ⟨#[]⟩ ∧ fhErr s = 20) := fun h => by
    unfold fhStr fhErr; rw [h, if_neg (by simp), if_pos (by omega), if_neg (by simp)]; exact ⟨rfl, rfl⟩
  have hgood : Hid (fhOk s s.size = true → fhStr s = strFn m (fhFn s) ∧ fhErr s = 0) := fun h => by
    unfold fhStr fhErr; rw [h, if_pos ⟨by omega, rfl⟩, if_pos (by omega), if_pos rfl, show s.size / 2 = m from by omega]; exact ⟨rfl, rfl⟩
  have hle : s.size ≤ 2 * m := by omega
  have hge : 2 * m ≤ s.size := by omega
  have e0 : Hid ((s.size : Int) / 2 = (m : Int)) := by unfold Hid; omega
  clear ho
  go_enter Tryd.func22, Tryd.ntmps22
  go_wp2_with fail
  rw [e0.out]
  rw [run_make (P := Tryd.prog) w 33 5 i0 (.int .u8 0) Tryd.underlying33 hi hz0 .i64 .i64 _ _ (by omega) (by omega) (by rw [hz2]; omega) (by omega)]
  have R0 : Row .u8 (w.alloc (.cells (madeCells (Value.int .u8 0).cells ((m : Int).toNat * i0.size)) 5)) w.heap.size m (fun _ => 0) := Row.made (by rw [hz1]; omega)
  have B0 : Below w.heap.size w (w.alloc (.cells (madeCells (Value.int .u8 0).cells ((m : Int).toNat * i0.size)) 5)) := (Below.refl _ _).alloc (Nat.le_refl _) _
  generalize w.alloc (.cells (madeCells (Value.int .u8 0).cells ((m : Int).toNat * i0.size)) 5) = W1 at R0 B0 ⊢
  rw [Int.toNat_natCast]
  clear hi hz0 hz1 hz2 t
  go_wp2
  go_loopw [5] (fun i wr => ∃ k : Nat, k ≤ s.size ∧ i = .int .i64 k ∧ (∀ j, j < k → 0 ≤ hv (bt s j)) ∧ Row .u8 wr w.heap.size m (rhFn s k) ∧ Below w.heap.size w wr) (fun i _ => s.size - (intOf i).toNat)
  case atStart => exact ⟨0, Nat.zero_le _, rfl, fun j hj => absurd hj (by omega), R0.congr (fun j _ => by unfold rhFn; rw [if_neg (by omega), if_neg (by omega)]), B0⟩
  case round =>
    obtain ⟨k, hk, rfl, hok, R, B⟩ := hrel
    have HOK : Hid (∀ j, j < k → 0 ≤ hv (bt s j)) := hok
    clear hok
    by_cases hlt : k < s.size
    · have hb := get_bt s
      have hbd := bt_bd s k
      have hsp : Hid ((0 ≤ hv (bt s k) ∧ hv (bt s k) < 16 ∧ dig (hv (bt s k)) = bt s k) ∨ (hv (bt s k) = -1 ∧ ∀ d : Nat, d < 16 → dig d ≠ bt s k)) := hv_spec _ hbd
      go_wp2
      go_loopw [6, 7] (fun v i wi => ∃ d : Nat, d ≤ 16 ∧ i = .int .i64 d ∧ v = .int .i64 (vOf (hv (bt s k)) d) ∧ Row .u8 wi w.heap.size m (rhFn s k) ∧ Below w.heap.size w wi) (fun _ i _ => 16 - (intOf i).toNat)
      case atStart => exact ⟨0, by omega, rfl, by unfold vOf; rw [if_neg (by omega)], R, B⟩
      case round =>
        obtain ⟨d, hd, rfl, rfl, R, B⟩ := hrel
        by_cases hdl : d < 16
        · by_cases he : hv (bt s k) = d
          · have heq : (dig (d : Int) == bt s k) = true := by
              rcases hsp.out with h | h
              · rw [← he, h.2.2]; simp
              · omega
            have hv1 : Hid (vOf (hv (bt s k)) (d + 1) = d) := by unfold Hid vOf; rw [he, if_pos (by omega)]
            clear he
            go_wp2
            go_quiet ((go_at_call 23; exact Calls.quiet_of_same (digit_any _ _ (by omega) (by omega))))
            go_wp2
            go_roundw
            case rel => exact ⟨d + 1, by omega, by go_num, by rw [hv1.out], R.drewN _, bel_drewN B _⟩
            case measure => simp [intOf]; omega
          · have heq : (dig (d : Int) == bt s k) = false := by
              rw [beq_eq_false_iff_ne]
              intro hc
              rcases hsp.out with h | h
              · apply he; rw [← hc, hv_dig d hdl]
              · exact h.2 d hdl hc
            have hv1 : Hid (vOf (hv (bt s k)) (d + 1) = vOf (hv (bt s k)) d) := by
              unfold Hid vOf
              by_cases q : 0 ≤ hv (bt s k) ∧ hv (bt s k) < d
              · rw [if_pos q, if_pos (by omega)]
              · rw [if_neg q, if_neg (by omega)]
            clear he
            go_wp2
            go_quiet ((go_at_call 23; exact Calls.quiet_of_same (digit_any _ _ (by omega) (by omega))))
            go_wp2
            go_roundw
            case rel => exact ⟨d + 1, by omega, by go_num, by rw [hv1.out], R.drewN _, bel_drewN B _⟩
            case measure => simp [intOf]; omega
        · obtain rfl : d = 16 := by omega
          have hx := hv_spec _ hbd
          have hx1 : hv (bt s k) < 16 := by omega
          have hx0 : -1 ≤ hv (bt s k) := by omega
          clear hx
          have hnx : Hid (0 ≤ hv (bt s k) → ∀ j, j < k + 1 → 0 ≤ hv (bt s j)) := fun g j hj => by
            by_cases e : j = k
            · rw [e]; exact g
            · exact HOK.out j (by omega)
          have hxd : Hid (hv (bt s k) < 0 → fhOk s s.size = false) := fhOk_no s s.size k hlt
          have hst : Hid (∀ j, (if j = k / 2 then (rhFn s k (k / 2) * 16 + hv (bt s k)) else rhFn s k j) = rhFn s (k + 1) j) := rhFn_step s k
          have hbd2 : 0 ≤ rhFn s k (k / 2) ∧ rhFn s k (k / 2) < 16 := by
            unfold rhFn
            rw [if_neg (by omega)]
            split
            · have h1 := HOK.out (2 * (k / 2)) (by omega)
              have h2 := hv_spec _ (bt_bd s (2 * (k / 2)))
              omega
            · omega
          have c1 := R.cell (k / 2) (by omega)
          have f1 := R.free (k / 2) (by omega)
          by_cases g : hv (bt s k) < 0
          · have ev : vOf (hv (bt s k)) 16 = 16 := by unfold vOf; rw [if_neg (by omega)]
            rw [ev]
            clear ev
            go_wp2
            go_ret2
            rw [(hbad.out (hxd.out g)).1, (hbad.out (hxd.out g)).2]
            exact ⟨rfl, B⟩
          · have ev : vOf (hv (bt s k)) 16 = hv (bt s k) := by unfold vOf; rw [if_pos (by omega)]
            rw [ev]
            clear ev
            have g0 : 0 ≤ hv (bt s k) := by omega
            have ne : (hv (bt s k) == 16) = false := by simp; omega
            go_wp2
            go_roundw
            case rel =>
              refine ⟨k + 1, by omega, by go_num, hnx.out g0, (R.set (k / 2) _ (by omega)).congr (fun j hj => ?_), B.setCell (Nat.le_refl _) _⟩
              exact hst.out j
            case measure => simp [intOf]; omega
    · have c1 := run_string_row (P := Tryd.prog) (src := 33) (dst := 9) (c := m) Tryd.underlying33 Tryd.underlying5 Tryd.underlying9 R
      rw [show strFn m (rhFn s k) = strFn m (fhFn s) from strFn_congr (fun j hj => by unfold rhFn; rw [if_pos (by omega)])] at c1
      have hall : Hid (fhOk s s.size = true) := (fhOk_iff s s.size).2 (fun j hj => HOK.out j (by omega))
      go_wp2
      go_ret2
      rw [(hgood.out hall.out).1, (hgood.out hall.out).2]
      exact ⟨rfl, B⟩
theorem rfromHex_any (s : ByteArray) (w : World) (hs : s.size ≤ 281474976710656) :
    Calls Tryd.prog 22 #[.string s] w fun e w' => e = .returned (.tuple #[.string (fhStr s), .int .i64 (fhErr s)]) ∧ Below w.heap.size w w' := by
  by_cases h : s.size % 2 = 0
  · exact rfromHex_even s w hs (s.size / 2) (by omega)
  · have e1 : fhStr s = ⟨#[]⟩ := by unfold fhStr; rw [if_neg (by omega)]
    have e2 : fhErr s = 21 := by unfold fhErr; rw [if_neg h]
    rw [e1, e2]
    exact rfromHex_odd s w hs (by omega)

end Go.Proofs.YthodlcmmagjboaaDoor
