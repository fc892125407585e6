/- The law SpathLabels, walked. -/
import Derived.Test.YtnfcnfhchfmcpaaPtB
namespace Go.Proofs.Ytnfcnfhchfmcpaa
open Go.RowKit

theorem lab_ex1 : lab ⟨#[97, 46, 98]⟩ = 0 := by decide +kernel
theorem lab_ex2 : lab ⟨#[]⟩ = 130 := by decide +kernel
theorem lab_ex3 : lab ⟨#[46, 97]⟩ = 130 := by decide +kernel
theorem lab_two (b : UInt8) : lab (⟨#[97]⟩ ++ ⟨#[b]⟩) = if labC (b.toNat : Int) = true then 0 else 130 := by
  have h : ∀ n : Nat, n < 256 → lab (⟨#[97]⟩ ++ ⟨#[UInt8.ofNat n]⟩) = if labC (n : Int) = true then 0 else 130 := by decide +kernel
  have := h b.toNat b.toNat_lt
  rw [UInt8.ofNat_toNat] at this
  exact this
theorem ext_one (s : ByteArray) (k : Nat) (h : k < s.size) : s.extract k (k + 1) = ⟨#[s[k]'h]⟩ := by
  apply bytes_ext
  · rw [ByteArray.size_extract]; show min (k + 1) s.size - k = 1; omega
  · intro j hj
    have hj0 : j = 0 := by rw [ByteArray.size_extract] at hj; omega
    subst hj0
    have h1 : 0 < (s.extract k (k + 1)).size := hj
    unfold bt
    rw [dif_pos h1, dif_pos (show 0 < (ByteArray.mk #[s[k]'h]).size from by show 0 < 1; decide), ByteArray.getElem_extract]
    rfl
theorem lab_at (s : ByteArray) (k : Nat) (h : k < s.size) : lab (⟨#[97]⟩ ++ s.extract k (k + 1)) = if labC (bt s k) = true then 0 else 130 := by
  rw [ext_one s k h, lab_two, get_bt s k h]

/-- Is it a good label, so far as the first k bytes tell? -/
def gd (s : ByteArray) (k : Nat) : Bool := decide (1 ≤ s.size) && decide (s.size ≤ 211) && (bt s 0 != 46) && (List.range k).all (fun j => labC (bt s j))
theorem gd_succ (s : ByteArray) (k : Nat) : gd s (k + 1) = (gd s k && labC (bt s k)) := by
  unfold gd
  rw [List.range_succ, List.all_append]
  simp [Bool.and_assoc]
theorem gd_lab (s : ByteArray) : gd s s.size = decide (lab s = 0) := by
  rw [Bool.eq_iff_iff, decide_eq_true_eq]
  unfold gd
  simp only [Bool.and_eq_true, decide_eq_true_eq, bne_iff_ne, List.all_eq_true, List.mem_range]
  constructor
  · rintro ⟨⟨⟨h1, h2⟩, h3⟩, h4⟩
    exact lab_yes ⟨h1, h2, h3, h4⟩
  · intro h
    rcases lab_cases s with ⟨g, _⟩ | ⟨_, g⟩
    · exact ⟨⟨⟨g.1, g.2.1⟩, g.2.2.1⟩, g.2.2.2⟩
    · rw [g] at h; omega

set_option maxHeartbeats 1000000 in
theorem labels_walk (s : ByteArray) (w : World) (hs : s.size ≤ 140737488351232) :
    Calls Try.prog 5 #[.string s] w fun e w' => e = .returned (.bool true) ∧ Below w.heap.size w w' := by
  go_enter Try.func5, Try.ntmps5
  go_wp2_with fail
  refine (ckL_any _ _).mono ?_
  rintro e w1 ⟨rfl, b1⟩
  rw [lab_ex1]
  go_wp2_with fail
  refine (ckL_any _ _).mono ?_
  rintro e w2 ⟨rfl, b2⟩
  rw [lab_ex2]
  go_wp2_with fail
  refine (ckL_any _ _).mono ?_
  rintro e w3 ⟨rfl, b3⟩
  rw [lab_ex3]
  have B3 : Hid (Below w.heap.size w w3) := (b1.trans (b2.mono b1.size)).trans (b3.mono (Nat.le_trans b1.size b2.size))
  clear b1 b2 b3
  have hb := get_bt s
  have hcat : ∀ k, k < s.size → ∀ w, Calls Try.prog 11 #[.string (⟨#[97]⟩ ++ s.extract k (k + 1))] w fun e w' => e = .returned (.int .i64 (if labC (bt s k) = true then 0 else 130)) ∧ Below w.heap.size w w' := fun k hk w => by
    rw [← lab_at s k hk]; exact ckL_any _ w
  have HC : Hid (∀ k, k < s.size → ∀ w, Calls Try.prog 11 #[.string (⟨#[97]⟩ ++ s.extract k (k + 1))] w fun e w' => e = .returned (.int .i64 (if labC (bt s k) = true then 0 else 130)) ∧ Below w.heap.size w w') := hcat
  clear hcat
  have hgl : Hid (gd s s.size = decide (lab s = 0)) := gd_lab s
  have hg0 : Hid (gd s 0 = (decide (1 ≤ s.size) && decide (s.size ≤ 211) && (bt s 0 != 46))) := by unfold Hid gd; simp
  have hp : (s.size = 0 ∧ gd s 0 = false) ∨ (0 < s.size ∧ ¬ s.size ≤ 211 ∧ gd s 0 = false) ∨ (0 < s.size ∧ s.size ≤ 211 ∧ (bt s 0 == 46) = true ∧ gd s 0 = false) ∨ (0 < s.size ∧ s.size ≤ 211 ∧ (bt s 0 == 46) = false ∧ gd s 0 = true) := by
    rw [hg0.out]
    by_cases h0 : s.size = 0
    · left; exact ⟨h0, by simp [h0]⟩
    · by_cases h1 : s.size ≤ 211
      · cases h2 : (bt s 0 == 46)
        · right; right; right; refine ⟨by omega, h1, rfl, ?_⟩
          rw [decide_eq_true h1, decide_eq_true (by omega)]; simp [bne, h2]
        · right; right; left; refine ⟨by omega, h1, rfl, ?_⟩
          rw [decide_eq_true h1, decide_eq_true (by omega)]; simp [bne, h2]
      · right; left; exact ⟨by omega, h1, by rw [decide_eq_false h1]; simp⟩
  clear hg0
  rcases hp with ⟨hp1, HG⟩ | ⟨hp1, hp2, HG⟩ | ⟨hp1, hp2, hp3, HG⟩ | ⟨hp1, hp2, hp3, HG⟩
  · have hp1' : ¬ 0 < s.size := by omega
    have G : Hid (gd s 0 = false) := HG
    clear HG hp1
    go_wp2
    clear hp1'
    go_loopw [3, 4] (fun g i wr => ∃ k : Nat, k ≤ s.size ∧ i = .int .i64 k ∧ g = .bool (gd s k) ∧ Hid (Below w.heap.size w wr)) (fun _ i _ => s.size - (intOf i).toNat)
    case atStart => exact ⟨0, Nat.zero_le _, rfl, by rw [G.out], B3⟩
    case round =>
      obtain ⟨k, hk, rfl, rfl, B⟩ := hrel
      by_cases hlt : k < s.size
      · have hk1 : k + 1 ≤ s.size := by omega
        have hx : (s.extract k (k + 1)).size = 1 := by rw [ByteArray.size_extract]; omega
        have C := HC.out k hlt wr
        have S := gd_succ s k
        cases hc : labC (bt s k)
        · rw [hc, if_neg (by decide)] at C
          rw [hc, Bool.and_false] at S
          have SS : Hid (gd s (k + 1) = false) := S
          clear hc S
          go_wp2_with fail
          refine C.mono ?_
          rintro e w4 ⟨rfl, b4⟩
          have B4 : Hid (Below w.heap.size w w4) := B.out.trans (b4.mono B.out.size)
          clear b4 C
          go_wp2
          go_roundw
          case rel => exact ⟨k + 1, hk1, by go_num, by rw [SS.out], B4⟩
          case measure => simp [intOf]; omega
        · rw [hc, if_pos rfl] at C
          rw [hc, Bool.and_true] at S
          have SS : Hid (gd s (k + 1) = gd s k) := S
          clear hc S
          go_wp2_with fail
          refine C.mono ?_
          rintro e w4 ⟨rfl, b4⟩
          have B4 : Hid (Below w.heap.size w w4) := B.out.trans (b4.mono B.out.size)
          clear b4 C
          go_wp2
          go_roundw
          case rel => exact ⟨k + 1, hk1, by go_num, by rw [SS.out], B4⟩
          case measure => simp [intOf]; omega
      · obtain rfl : k = s.size := by omega
        clear HC
        go_wp2_with fail
        refine (ckL_any _ _).mono ?_
        rintro e w4 ⟨rfl, b4⟩
        have B4 : Hid (Below w.heap.size w w4) := B.out.trans (b4.mono B.out.size)
        clear b4
        go_wp2
        go_ret
        refine ⟨?_, B4.out⟩
        rw [hgl.out]
        rcases lab_cases s with ⟨_, g⟩ | ⟨_, g⟩ <;> rw [g] <;> rfl
  · have G : Hid (gd s 0 = false) := HG
    clear HG
    go_wp2
    clear hp1 hp2
    go_loopw [3, 4] (fun g i wr => ∃ k : Nat, k ≤ s.size ∧ i = .int .i64 k ∧ g = .bool (gd s k) ∧ Hid (Below w.heap.size w wr)) (fun _ i _ => s.size - (intOf i).toNat)
    case atStart => exact ⟨0, Nat.zero_le _, rfl, by rw [G.out], B3⟩
    case round =>
      obtain ⟨k, hk, rfl, rfl, B⟩ := hrel
      by_cases hlt : k < s.size
      · have hk1 : k + 1 ≤ s.size := by omega
        have hx : (s.extract k (k + 1)).size = 1 := by rw [ByteArray.size_extract]; omega
        have C := HC.out k hlt wr
        have S := gd_succ s k
        cases hc : labC (bt s k)
        · rw [hc, if_neg (by decide)] at C
          rw [hc, Bool.and_false] at S
          have SS : Hid (gd s (k + 1) = false) := S
          clear hc S
          go_wp2_with fail
          refine C.mono ?_
          rintro e w4 ⟨rfl, b4⟩
          have B4 : Hid (Below w.heap.size w w4) := B.out.trans (b4.mono B.out.size)
          clear b4 C
          go_wp2
          go_roundw
          case rel => exact ⟨k + 1, hk1, by go_num, by rw [SS.out], B4⟩
          case measure => simp [intOf]; omega
        · rw [hc, if_pos rfl] at C
          rw [hc, Bool.and_true] at S
          have SS : Hid (gd s (k + 1) = gd s k) := S
          clear hc S
          go_wp2_with fail
          refine C.mono ?_
          rintro e w4 ⟨rfl, b4⟩
          have B4 : Hid (Below w.heap.size w w4) := B.out.trans (b4.mono B.out.size)
          clear b4 C
          go_wp2
          go_roundw
          case rel => exact ⟨k + 1, hk1, by go_num, by rw [SS.out], B4⟩
          case measure => simp [intOf]; omega
      · obtain rfl : k = s.size := by omega
        clear HC
        go_wp2_with fail
        refine (ckL_any _ _).mono ?_
        rintro e w4 ⟨rfl, b4⟩
        have B4 : Hid (Below w.heap.size w w4) := B.out.trans (b4.mono B.out.size)
        clear b4
        go_wp2
        go_ret
        refine ⟨?_, B4.out⟩
        rw [hgl.out]
        rcases lab_cases s with ⟨_, g⟩ | ⟨_, g⟩ <;> rw [g] <;> rfl
  · have hp4 : (bt s 0 != 46) = false := by simp only [bne, hp3]; rfl
    have G : Hid (gd s 0 = false) := HG
    clear HG
    go_wp2
    clear hp1 hp2 hp3 hp4
    go_loopw [3, 4] (fun g i wr => ∃ k : Nat, k ≤ s.size ∧ i = .int .i64 k ∧ g = .bool (gd s k) ∧ Hid (Below w.heap.size w wr)) (fun _ i _ => s.size - (intOf i).toNat)
    case atStart => exact ⟨0, Nat.zero_le _, rfl, by rw [G.out], B3⟩
    case round =>
      obtain ⟨k, hk, rfl, rfl, B⟩ := hrel
      by_cases hlt : k < s.size
      · have hk1 : k + 1 ≤ s.size := by omega
        have hx : (s.extract k (k + 1)).size = 1 := by rw [ByteArray.size_extract]; omega
        have C := HC.out k hlt wr
        have S := gd_succ s k
        cases hc : labC (bt s k)
        · rw [hc, if_neg (by decide)] at C
          rw [hc, Bool.and_false] at S
          have SS : Hid (gd s (k + 1) = false) := S
          clear hc S
          go_wp2_with fail
          refine C.mono ?_
          rintro e w4 ⟨rfl, b4⟩
          have B4 : Hid (Below w.heap.size w w4) := B.out.trans (b4.mono B.out.size)
          clear b4 C
          go_wp2
          go_roundw
          case rel => exact ⟨k + 1, hk1, by go_num, by rw [SS.out], B4⟩
          case measure => simp [intOf]; omega
        · rw [hc, if_pos rfl] at C
          rw [hc, Bool.and_true] at S
          have SS : Hid (gd s (k + 1) = gd s k) := S
          clear hc S
          go_wp2_with fail
          refine C.mono ?_
          rintro e w4 ⟨rfl, b4⟩
          have B4 : Hid (Below w.heap.size w w4) := B.out.trans (b4.mono B.out.size)
          clear b4 C
          go_wp2
          go_roundw
          case rel => exact ⟨k + 1, hk1, by go_num, by rw [SS.out], B4⟩
          case measure => simp [intOf]; omega
      · obtain rfl : k = s.size := by omega
        clear HC
        go_wp2_with fail
        refine (ckL_any _ _).mono ?_
        rintro e w4 ⟨rfl, b4⟩
        have B4 : Hid (Below w.heap.size w w4) := B.out.trans (b4.mono B.out.size)
        clear b4
        go_wp2
        go_ret
        refine ⟨?_, B4.out⟩
        rw [hgl.out]
        rcases lab_cases s with ⟨_, g⟩ | ⟨_, g⟩ <;> rw [g] <;> rfl
  · have hp4 : (bt s 0 != 46) = true := by simp only [bne, hp3]; rfl
    have G : Hid (gd s 0 = true) := HG
    clear HG
    go_wp2
    clear hp1 hp2 hp3 hp4
    go_loopw [3, 4] (fun g i wr => ∃ k : Nat, k ≤ s.size ∧ i = .int .i64 k ∧ g = .bool (gd s k) ∧ Hid (Below w.heap.size w wr)) (fun _ i _ => s.size - (intOf i).toNat)
    case atStart => exact ⟨0, Nat.zero_le _, rfl, by rw [G.out], B3⟩
    case round =>
      obtain ⟨k, hk, rfl, rfl, B⟩ := hrel
      by_cases hlt : k < s.size
      · have hk1 : k + 1 ≤ s.size := by omega
        have hx : (s.extract k (k + 1)).size = 1 := by rw [ByteArray.size_extract]; omega
        have C := HC.out k hlt wr
        have S := gd_succ s k
        cases hc : labC (bt s k)
        · rw [hc, if_neg (by decide)] at C
          rw [hc, Bool.and_false] at S
          have SS : Hid (gd s (k + 1) = false) := S
          clear hc S
          go_wp2_with fail
          refine C.mono ?_
          rintro e w4 ⟨rfl, b4⟩
          have B4 : Hid (Below w.heap.size w w4) := B.out.trans (b4.mono B.out.size)
          clear b4 C
          go_wp2
          go_roundw
          case rel => exact ⟨k + 1, hk1, by go_num, by rw [SS.out], B4⟩
          case measure => simp [intOf]; omega
        · rw [hc, if_pos rfl] at C
          rw [hc, Bool.and_true] at S
          have SS : Hid (gd s (k + 1) = gd s k) := S
          clear hc S
          go_wp2_with fail
          refine C.mono ?_
          rintro e w4 ⟨rfl, b4⟩
          have B4 : Hid (Below w.heap.size w w4) := B.out.trans (b4.mono B.out.size)
          clear b4 C
          go_wp2
          go_roundw
          case rel => exact ⟨k + 1, hk1, by go_num, by rw [SS.out], B4⟩
          case measure => simp [intOf]; omega
      · obtain rfl : k = s.size := by omega
        clear HC
        go_wp2_with fail
        refine (ckL_any _ _).mono ?_
        rintro e w4 ⟨rfl, b4⟩
        have B4 : Hid (Below w.heap.size w w4) := B.out.trans (b4.mono B.out.size)
        clear b4
        go_wp2
        go_ret
        refine ⟨?_, B4.out⟩
        rw [hgl.out]
        rcases lab_cases s with ⟨_, g⟩ | ⟨_, g⟩ <;> rw [g] <;> rfl

end Go.Proofs.Ytnfcnfhchfmcpaa
