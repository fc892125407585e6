/- The document's Check, walked. -/
import Derived.Test.YthlioedahoiahaaCkA
namespace Go.Proofs.Ythlioedahoiahaa
open Go.RowKit

/-- How many of the first bytes are dots. -/
def dots (s : ByteArray) : Nat → Nat
  | 0 => 0
  | k + 1 => dots s k + (if bt s k = 46 then 1 else 0)
theorem dots_le (s : ByteArray) (k : Nat) : dots s k ≤ k := by
  induction k with
  | zero => exact Nat.le_refl _
  | succ k ih => unfold dots; split <;> omega
theorem dots_all (s : ByteArray) (k : Nat) (h : dots s k = k) : ∀ j, j < k → bt s j = 46 := by
  induction k with
  | zero => intro j hj; omega
  | succ k ih =>
    unfold dots at h
    have := dots_le s k
    split at h
    · rename_i e
      intro j hj
      by_cases hjk : j = k
      · rw [hjk]; exact e
      · exact ih (by omega) j (by omega)
    · omega
theorem toList_dot : ByteArray.toList ⟨#[46]⟩ = [46] := by decide +kernel
theorem toList_dots : ByteArray.toList ⟨#[46, 46]⟩ = [46, 46] := by decide +kernel
theorem dots_ex1 : dots ⟨#[46]⟩ 1 = 1 := by decide +kernel
theorem dots_ex2 : dots ⟨#[46, 46]⟩ 2 = 2 := by decide +kernel
theorem bt_ex1 : bt ⟨#[46]⟩ 0 = 46 := by decide +kernel
theorem bt_ex2 : bt ⟨#[46, 46]⟩ 0 = 46 ∧ bt ⟨#[46, 46]⟩ 1 = 46 := by decide +kernel
theorem of_toList (s t : ByteArray) (h : s.toList = t.toList) : s = t := by
  rw [Lib.toList_data, Lib.toList_data] at h
  rw [← Lib.mk_data s, ← Lib.mk_data t, h]
theorem dots_is (s : ByteArray) (h0 : s.size ≠ 0) : (s.toList == [46] || s.toList == [46, 46]) = decide (dots s s.size = s.size ∧ dots s s.size ≤ 2) := by
  rw [Bool.eq_iff_iff, Bool.or_eq_true, beq_iff_eq, beq_iff_eq, decide_eq_true_iff]
  constructor
  · rintro (h | h)
    · rw [← toList_dot] at h
      obtain rfl := of_toList _ _ h
      exact ⟨dots_ex1, by show dots ⟨#[46]⟩ 1 ≤ 2; rw [dots_ex1]; decide⟩
    · rw [← toList_dots] at h
      obtain rfl := of_toList _ _ h
      exact ⟨dots_ex2, by show dots ⟨#[46, 46]⟩ 2 ≤ 2; rw [dots_ex2]; decide⟩
  · rintro ⟨h1, h2⟩
    have ha := dots_all s s.size h1
    rw [h1] at h2
    by_cases h : s.size = 1
    · left
      rw [← toList_dot]
      congr 1
      apply bytes_ext
      · exact h
      · intro k hk
        obtain rfl : k = 0 := by omega
        rw [ha 0 (by omega), bt_ex1]
    · right
      have h : s.size = 2 := by omega
      rw [← toList_dots]
      congr 1
      apply bytes_ext
      · exact h
      · intro k hk
        rw [ha k hk]
        have : k = 0 ∨ k = 1 := by omega
        rcases this with rfl | rfl
        · exact bt_ex2.1.symm
        · exact bt_ex2.2.symm

theorem data_nil (s : ByteArray) (h : s.size = 0) : s.data.toList = [] := List.eq_nil_of_length_eq_zero (by rw [← Lib.size_eq]; exact h)
theorem empty_size (s : ByteArray) (h : s.toList.isEmpty = false) : s.size ≠ 0 := by
  intro e
  rw [Lib.toList_data, data_nil s e] at h
  cases h
theorem size_empty (s : ByteArray) (h : s.size ≠ 0) : s.toList.isEmpty = false := by
  rw [Lib.toList_data]
  cases e : s.data.toList with
  | nil => rw [Lib.size_eq, e] at h; simp at h
  | cons _ _ => rfl

set_option maxHeartbeats 400000 in
theorem rcheck_any (s : ByteArray) (w : World) :
    Calls Try.prog 45 #[.string s] w fun e w' => e = .returned (.int .i64 (chk s)) ∧ w' = w := by
  by_cases h1 : s.size = 0
  · have hh : Hid (chk s = 50) := by
      unfold Hid chk
      rw [Lib.toList_data, data_nil s h1]; rfl
    have H1 : ((s.size : Int) == 0) = true := by simp [h1]
    clear h1
    go_enter Try.func45, Try.ntmps45
    go_wp2
    go_ret
    exact ⟨by rw [hh.out]; rfl, rfl⟩
  · have H1 : ((s.size : Int) == 0) = false := by simp [h1]
    have he := size_empty s h1
    by_cases h2 : 255 < s.size
    · have hh : Hid (chk s = 6) := by unfold Hid chk; rw [he, if_neg (by decide), if_pos h2]
      clear h1 he
      go_enter Try.func45, Try.ntmps45
      go_wp2
      go_ret
      exact ⟨by rw [hh.out]; rfl, rfl⟩
    · have HB : Hid ((hasB s 47 || hasB s 0) = true → chk s = 51) := by
        unfold Hid chk; intro h; rw [he, if_neg (by decide), if_neg h2, if_pos h]
      have HG : Hid ((hasB s 47 || hasB s 0) = false → chk s = if dots s s.size = s.size ∧ dots s s.size ≤ 2 then 52 else 0) := by
        unfold Hid chk; intro h; rw [he, if_neg (by decide), if_neg h2, h, if_neg (by decide), dots_is s h1]
        simp only [decide_eq_true_eq]
      clear h1 he
      have hsz : s.size ≤ 255 := by omega
      clear h2
      go_enter Try.func45, Try.ntmps45
      go_wp2
      go_loop [3, 4] (fun d i => ∃ k : Nat, k ≤ s.size ∧ i = .int .i64 k ∧ d = .int .i64 (dots s k) ∧ Hid (∀ j, j < k → bt s j ≠ 47 ∧ bt s j ≠ 0)) (fun _ i => s.size - (intOf i).toNat)
      case atStart => exact ⟨0, Nat.zero_le _, rfl, rfl, fun j hj => absurd hj (by omega)⟩
      case round =>
        obtain ⟨k, hk, rfl, rfl, hok⟩ := hrel
        have hd := dots_le s k
        by_cases hlt : k < s.size
        · have hb := get_bt s
          by_cases g1 : bt s k = 47
          · have hh : Hid (chk s = 51) := HB.out (by rw [Bool.or_eq_true]; left; exact (hasB_iff s 47).2 ⟨k, hlt, g1⟩)
            have G1 : (bt s k == 47) = true := by simp [g1]
            clear g1
            go_wp2
            go_ret
            exact ⟨by rw [hh.out]; rfl, rfl⟩
          · have G1 : (bt s k == 47) = false := by simp [g1]
            by_cases g2 : bt s k = 0
            · have hh : Hid (chk s = 51) := HB.out (by rw [Bool.or_eq_true]; right; exact (hasB_iff s 0).2 ⟨k, hlt, g2⟩)
              have G2 : (bt s k == 0) = true := by simp [g2]
              clear g1 g2
              go_wp2
              go_ret
              exact ⟨by rw [hh.out]; rfl, rfl⟩
            · have G2 : (bt s k == 0) = false := by simp [g2]
              have hn : Hid (∀ j, j < k + 1 → bt s j ≠ 47 ∧ bt s j ≠ 0) := fun j hj => by
                by_cases e : j = k
                · rw [e]; exact ⟨g1, g2⟩
                · exact hok.out j (by omega)
              have hD : Hid (dots s (k + 1) = dots s k + (if bt s k = 46 then 1 else 0)) := rfl
              clear g1 g2
              by_cases g3 : bt s k = 46
              · have G3 : (bt s k == 46) = true := by simp [g3]
                have hD' : Hid (dots s (k + 1) = dots s k + 1) := by rw [if_pos g3] at hD; exact hD
                clear g3 hD
                go_wp2
                go_round
                case rel => exact ⟨k + 1, by omega, by go_num, by rw [hD'.out]; go_num, hn⟩
                case measure => simp [intOf]; omega
              · have G3 : (bt s k == 46) = false := by simp [g3]
                have hD' : Hid (dots s (k + 1) = dots s k) := by rw [if_neg g3] at hD; exact hD
                clear g3 hD
                go_wp2
                go_round
                case rel => exact ⟨k + 1, by omega, by go_num, by rw [hD'.out], hn⟩
                case measure => simp [intOf]; omega
        · obtain rfl : k = s.size := by omega
          have hnb : (hasB s 47 || hasB s 0) = false := by
            rw [Bool.or_eq_false_iff]
            refine ⟨?_, ?_⟩
            · rw [Bool.eq_false_iff]; intro h
              obtain ⟨j, hj, e⟩ := (hasB_iff s 47).1 h
              exact (hok.out j hj).1 e
            · rw [Bool.eq_false_iff]; intro h
              obtain ⟨j, hj, e⟩ := (hasB_iff s 0).1 h
              exact (hok.out j hj).2 e
          have hh := HG.out hnb
          clear hnb
          by_cases g1 : dots s s.size = s.size
          · have G1 : (((dots s s.size : Nat) : Int) == (s.size : Int)) = true := by simp [g1]
            by_cases g2 : dots s s.size ≤ 2
            · have h5 : Hid (chk s = 52) := by rw [if_pos ⟨g1, g2⟩] at hh; exact hh
              clear hh g1
              go_wp2
              go_ret
              exact ⟨by rw [h5.out]; rfl, rfl⟩
            · have h5 : Hid (chk s = 0) := by rw [if_neg (fun h => g2 h.2)] at hh; exact hh
              clear hh g1
              go_wp2
              go_ret
              exact ⟨by rw [h5.out]; rfl, rfl⟩
          · have G1 : (((dots s s.size : Nat) : Int) == (s.size : Int)) = false := by rw [beq_eq_false_iff_ne]; omega
            have h5 : Hid (chk s = 0) := by rw [if_neg (fun h => g1 h.1)] at hh; exact hh
            clear hh g1
            go_wp2
            go_ret
            exact ⟨by rw [h5.out]; rfl, rfl⟩

end Go.Proofs.Ythlioedahoiahaa
