/- depotref14's At and Within, walked (own text of the verifier). -/
import Derived.Test.YtojefckhefanhaaSaB
namespace Go.Proofs.Ytojefckhefanhaa
open Go.RowKit
namespace Sc

theorem ext_win (x : ByteArray) (k : Nat) : (x.extract k (k + 32)).toList = win x.data.toList k := by
  rw [ByteArray.toList_eq, ByteArray.data_extract, Array.toList_extract]
  unfold win
  simp [List.extract]
theorem size_list (x : ByteArray) : x.data.toList.length = x.size := by rw [Array.length_toList]; rfl

set_option maxHeartbeats 400000 in
theorem at_any (x h : ByteArray) (k : Nat) (w : World) (hh : h.size = 32) (hk : k ≤ x.size) (hx : x.size ≤ 1099511627776) :
    Calls Try.prog 33 #[.string x, .string h, .int .i64 (k : Int)] w fun e w' => e = .returned (.bool (decide (win x.data.toList k = h.data.toList))) ∧ ∃ q, w' = w.drewN q := by
  have e32 : (h.size : Int) = 32 := by omega
  generalize hE : decide (win x.data.toList k = h.data.toList) = E
  have HE : Hid (decide (win x.data.toList k = h.data.toList) = E) := hE
  clear hE
  by_cases hl : k + 32 ≤ x.size
  · have HW : Hid ((x.extract k (k + 32)).toList = win x.data.toList k) := ext_win x k
    have HT : Hid (h.toList = h.data.toList) := ByteArray.toList_eq _
    have he : ((x.extract k (k + 32)).toList == h.toList) = E := by
      rw [HW.out, HT.out, ← HE.out]
      by_cases e : win x.data.toList k = h.data.toList
      · simp [e]
      · rw [decide_eq_false e, beq_eq_false_iff_ne]; exact e
    go_enter Try.func33, Try.ntmps33
    go_wp2_with fail
    go_ret
    exact ⟨rfl, 0, rfl⟩
  · have HF : Hid (E = false) := by
      unfold Hid
      rw [← HE.out]
      refine decide_eq_false (fun e => hl ?_)
      have := win_full (l := x.data.toList) (p := k) (by rw [e, size_list]; exact hh)
      rw [size_list] at this
      exact this
    go_enter Try.func33, Try.ntmps33
    go_wp2
    go_ret
    exact ⟨by rw [HF.out]; rfl, 0, rfl⟩

set_option maxHeartbeats 400000 in
theorem within_any (x h : ByteArray) (w : World) (hh : h.size = 32) (hx : x.size ≤ 1099511627776) :
    Calls Try.prog 32 #[.string x, .string h] w fun e w' => (∃ b, e = .returned (.bool b) ∧ (b = true ↔ occ h.data.toList x.data.toList)) ∧ ∃ q, w' = w.drewN q := by
  have HH : Hid (h.size = 32) := hh
  have HX : Hid (x.size ≤ 1099511627776) := hx
  clear hh
  go_enter Try.func32, Try.ntmps32
  go_wp2_with fail
  go_loopw [5] (fun i wr => ∃ k : Nat, k ≤ x.size ∧ i = .int .i64 k ∧ Hid (∀ j, j < k → win x.data.toList j ≠ h.data.toList) ∧ Hid (∃ q, wr = w.drewN q)) (fun i _ => x.size - (intOf i).toNat)
  case atStart => exact ⟨0, Nat.zero_le _, rfl, fun j hj => absurd hj (by omega), 0, rfl⟩
  case round =>
    obtain ⟨k, hk, rfl, hno, hq⟩ := hrel
    by_cases hlt : k < x.size
    · have CA := at_any x h k wr HH.out hk HX.out
      by_cases hw : win x.data.toList k = h.data.toList
      · rw [decide_eq_true hw] at CA
        have HW : Hid _ := hw
        clear hw
        go_wp2_with fail
        with_reducible refine CA.mono ?_
        rintro e w1 ⟨rfl, q1, rfl⟩
        clear CA
        obtain ⟨q, hq⟩ := hq.out
        subst hq
        go_wp2
        go_ret
        exact ⟨⟨true, rfl, fun _ => ⟨k, HW.out⟩, fun _ => rfl⟩, q + q1, rfl⟩
      · rw [decide_eq_false hw] at CA
        have HW : Hid _ := hw
        clear hw
        go_wp2_with fail
        with_reducible refine CA.mono ?_
        rintro e w1 ⟨rfl, q1, rfl⟩
        clear CA
        obtain ⟨q, hq⟩ := hq.out
        subst hq
        go_wp2
        go_roundw
        case rel => exact ⟨k + 1, by omega, by go_num, fun j hj => by
            by_cases e : j = k
            · subst e; exact HW.out
            · exact hno.out j (by omega), q + q1, rfl⟩
        case measure => simp [intOf]; omega
    · obtain ⟨q, hq⟩ := hq.out
      subst hq
      go_wp2
      go_ret
      exact ⟨⟨false, rfl, fun h => (by cases h), fun ⟨p, hp⟩ => absurd hp (hno.out p (by
        have := win_full (l := x.data.toList) (p := p) (by rw [hp, size_list]; exact HH.out)
        rw [size_list] at this
        omega))⟩, q, rfl⟩
end Sc
end Go.Proofs.Ytojefckhefanhaa
