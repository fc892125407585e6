/- spath.CheckLabel and the document's, walked. -/
import Derived.Test.YtjhbfkckkinfjaaDoorPtV
namespace Go.Proofs.YtjhbfkckkinfjaaDoor
open Go.RowKit

theorem dec_width (s : ByteArray) (pos : Nat) (h : pos < s.size) : 1 ≤ (Utf8.decode s pos).2 := by
  by_cases ha : (s[pos]'h).toNat < 128
  · rw [decode_ascii s pos h ha]
    exact Nat.le_refl _
  · exact (decode_high s pos h (by omega)).2

theorem labC_high (b : Int) (h : 128 ≤ b) (h2 : b < 256) : labC b = false := by
  have h : ∀ n : Nat, n < 128 → labC ((n + 128 : Nat) : Int) = false := by decide +kernel
  have := h (b.toNat - 128) (by omega)
  rw [show ((b.toNat - 128 + 128 : Nat) : Int) = b from by omega] at this
  exact this

theorem empty_iff (s : ByteArray) : s.toList.isEmpty = true ↔ s.size = 0 := by
  rw [Lib.toList_data, List.isEmpty_iff, Lib.size_eq, List.length_eq_zero_iff]

set_option maxHeartbeats 1000000 in
theorem ckL_any (s : ByteArray) (w : World) :
    Calls Tryd.prog 31 #[.string s] w fun e w' => e = .returned (.int .i64 (lab s)) ∧ Below w.heap.size w w' := by
  cases h1 : s.toList.isEmpty
  · have h0 : s.size ≠ 0 := fun e => by rw [(empty_iff s).2 e] at h1; exact Bool.noConfusion h1
    have hp0 : 0 < s.size := by omega
    have hb := get_bt s
    by_cases h2 : 211 < s.size
    · have hh : Hid (lab s = 130) := lab_no (fun h => by have := h.2.1; omega)
      clear h0
      go_enter Tryd.func31, Tryd.ntmps31
      go_wp2
      go_ret
      exact ⟨by rw [hh.out]; rfl, Below.refl _ _⟩
    · by_cases h3 : bt s 0 = 46
      · have hh : Hid (lab s = 130) := lab_no (fun h => h.2.2.1 h3)
        have H3 : (bt s 0 == 46) = true := by simp [h3]
        clear h0 h3
        go_enter Tryd.func31, Tryd.ntmps31
        go_wp2
        go_ret
        exact ⟨by rw [hh.out]; rfl, Below.refl _ _⟩
      · have H3 : (bt s 0 == 46) = false := by simp [h3]
        have N3 : Hid (bt s 0 ≠ 46) := h3
        have N2 : Hid (¬ 211 < s.size) := h2
        clear h0 h3
        go_enter Tryd.func31, Tryd.ntmps31
        go_wp2
        clear h2
        go_loopw [4] (fun _ wr => ∃ pos : Nat, pos ≤ s.size ∧ wr = w.iter s pos ∧ Hid (∀ j, j < pos → labC (bt s j) = true)) (fun _ w' => s.size - w'.iterPos w.heap.size)
        case atStart => exact ⟨0, Nat.zero_le _, rfl, fun j hj => absurd hj (by omega)⟩
        case round =>
          obtain ⟨pos, hle, rfl, hok⟩ := hrel
          by_cases hp : pos < s.size
          · have bd := bt_bd s pos
            by_cases ha : bt s pos < 128
            · have hlt' : (s[pos]'hp).toNat < 128 := by have := hb pos hp; omega
              have hnx : ∀ ty, (Instr.next (.pointer (some ⟨w.heap.size, 0, none⟩)) true ty).run Tryd.prog (w.iter s pos) = _ := fun ty => run_next_ascii w s pos ty hp hlt'
              rw [hb pos hp] at hnx
              cases hc : labC (bt s pos)
              · have hh : Hid (lab s = 130) := lab_no (fun h => by have := h.2.2.2 pos hp; rw [hc] at this; exact Bool.noConfusion this)
                have HC : Hid (labC (bt s pos) = false) := hc
                clear hc
                go_wp2_with fail
                refine (inL_ascii _ _ bd.1 ha).mono ?_
                rintro e w1 ⟨rfl, rfl⟩
                rw [HC.out]
                go_wp2
                go_ret
                exact ⟨by rw [hh.out]; rfl, iter_bel _ _ _⟩
              · have HC : Hid (labC (bt s pos) = true) := hc
                clear hc
                go_wp2_with fail
                refine (inL_ascii _ _ bd.1 ha).mono ?_
                rintro e w1 ⟨rfl, rfl⟩
                rw [HC.out]
                go_wp2
                go_roundw
                case rel => exact ⟨pos + 1, by omega, rfl, fun j hj => by
                  by_cases e : j = pos
                  · rw [e]; exact HC.out
                  · exact hok.out j (by omega)⟩
                case measure => simp; omega
            · have hge : 128 ≤ (s[pos]'hp).toNat := by have := hb pos hp; omega
              have hd := (decode_high s pos hp hge).1
              have hnx : ∀ ty, (Instr.next (.pointer (some ⟨w.heap.size, 0, none⟩)) true ty).run Tryd.prog (w.iter s pos) = _ := fun ty => run_next_any w s pos ty hp
              have hh : Hid (lab s = 130) := lab_no (fun h => by
                have := h.2.2.2 pos hp
                rw [labC_high _ (by omega) bd.2] at this
                exact Bool.noConfusion this)
              have B1 : Hid (Below w.heap.size w (w.iter s (pos + (Utf8.decode s pos).2))) := iter_bel _ _ _
              have hd2 : (128 : Int) ≤ ((Utf8.decode s pos).1 : Int) := by omega
              generalize ((Utf8.decode s pos).1 : Int) = R at hnx hd2
              generalize w.iter s (pos + (Utf8.decode s pos).2) = W1 at hnx B1
              go_wp2_with fail
              refine (inL_high _ _ hd2).mono ?_
              rintro e w2 ⟨rfl, B2⟩
              go_wp2
              go_ret
              exact ⟨by rw [hh.out]; rfl, B1.out.trans (B2.mono B1.out.size)⟩
          · have hnx : ∀ ty, (Instr.next (.pointer (some ⟨w.heap.size, 0, none⟩)) true ty).run Tryd.prog (w.iter s pos) = _ := fun ty => run_next_end w s pos ty hp
            have hh : Hid (lab s = 0) := lab_yes ⟨by omega, by have := N2.out; omega, N3.out, fun k hk => hok.out k (by omega)⟩
            go_wp2
            go_ret
            exact ⟨by rw [hh.out]; rfl, iter_bel _ _ _⟩
  · have hh : Hid (lab s = 130) := lab_no (fun h => by have := (empty_iff s).1 h1; have := h.1; omega)
    go_enter Tryd.func31, Tryd.ntmps31
    go_wp2
    go_ret
    exact ⟨by rw [hh.out]; rfl, Below.refl _ _⟩

end Go.Proofs.YtjhbfkckkinfjaaDoor
