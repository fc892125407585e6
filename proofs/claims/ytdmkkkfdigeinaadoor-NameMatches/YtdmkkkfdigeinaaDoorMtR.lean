/- The document's Match, walked: which beginnings fit. -/
import Derived.Test.YtdmkkkfdigeinaaDoorMtW
import Derived.Test.YtdmkkkfdigeinaaDoorVr
namespace Go.Proofs.YtdmkkkfdigeinaaDoor
open Go.RowKit

/-- Does the beginning of j bytes fit that of i signs? -/
def dp (p s : List UInt8) (i j : Nat) : Bool := mt (p.take i) (s.take j)

theorem dp_zero (p s : List UInt8) (j : Nat) (hj : j ≤ s.length) : dp p s 0 j = decide (j = 0) := by
  unfold dp
  rw [List.take_zero, mt_nil, Bool.eq_iff_iff, List.isEmpty_iff, decide_eq_true_iff]
  constructor
  · intro h
    have := congrArg List.length h
    rw [List.length_take, List.length_nil] at this
    omega
  · intro h; rw [h]; rfl
theorem dp_snoc (p s : List UInt8) (i j : Nat) (hi : i < p.length) : dp p s (i + 1) j = true ↔ ∃ k, k ≤ (s.take j).length ∧ mt (p.take i) ((s.take j).take k) = true ∧ mt [p[i]] ((s.take j).drop k) = true := by
  unfold dp
  rw [List.take_succ_eq_append_getElem hi, mt_append]
theorem dp_star (p s : List UInt8) (i j : Nat) (hi : i < p.length) (hc : p[i] = 42) (hj : j ≤ s.length) : dp p s (i + 1) j = (dp p s i j || (decide (0 < j) && dp p s (i + 1) (j - 1))) := by
  have key : ∀ j, j ≤ s.length → (dp p s (i + 1) j = true ↔ ∃ k, k ≤ j ∧ dp p s i k = true) := by
    intro j hj
    rw [dp_snoc p s i j hi, hc]
    constructor
    · rintro ⟨k, hk, h, _⟩
      rw [List.length_take] at hk
      exact ⟨k, by omega, by unfold dp; rw [List.take_take, Nat.min_eq_left (by omega)] at h; exact h⟩
    · rintro ⟨k, hk, h⟩
      exact ⟨k, by rw [List.length_take]; omega, by rw [List.take_take, Nat.min_eq_left hk]; exact h, mt_any _⟩
  rw [Bool.eq_iff_iff, key j hj, Bool.or_eq_true, Bool.and_eq_true, decide_eq_true_iff, key (j - 1) (by omega)]
  constructor
  · rintro ⟨k, hk, h⟩
    by_cases e : k = j
    · left; rw [← e]; exact h
    · right; exact ⟨by omega, k, by omega, h⟩
  · rintro (h | ⟨h0, k, hk, h⟩)
    · exact ⟨j, Nat.le_refl _, h⟩
    · exact ⟨k, by omega, h⟩
theorem dp_char (p s : List UInt8) (i j : Nat) (hi : i < p.length) (hc : p[i] ≠ 42) (hj : j < s.length) : dp p s (i + 1) (j + 1) = (dp p s i j && (p[i] == 63 || p[i] == s[j])) := by
  rw [Bool.eq_iff_iff, dp_snoc p s i (j + 1) hi, Bool.and_eq_true]
  have hl : (s.take (j + 1)).length = j + 1 := by rw [List.length_take]; omega
  constructor
  · rintro ⟨k, hk, h1, h2⟩
    rw [mt_one _ _ hc] at h2
    obtain ⟨d, hd, h2⟩ := h2
    have := congrArg List.length hd
    rw [List.length_drop, hl] at this
    obtain rfl : k = j := by simp at this; omega
    rw [List.take_take, Nat.min_eq_left (by omega)] at h1
    refine ⟨h1, ?_⟩
    have e : s[k] = d := by
      rw [List.take_succ_eq_append_getElem hj, List.drop_append_of_le_length (by rw [List.length_take]; omega), List.drop_of_length_le (by rw [List.length_take]; omega)] at hd
      simpa using hd
    rw [e]; exact h2
  · rintro ⟨h1, h2⟩
    refine ⟨j, by omega, by rw [List.take_take, Nat.min_eq_left (by omega)]; exact h1, ?_⟩
    rw [mt_one _ _ hc]
    refine ⟨s[j], ?_, h2⟩
    rw [List.take_succ_eq_append_getElem hj, List.drop_append_of_le_length (by rw [List.length_take]; omega), List.drop_of_length_le (by rw [List.length_take]; omega), List.nil_append]
theorem dp_char0 (p s : List UInt8) (i : Nat) (hi : i < p.length) (hc : p[i] ≠ 42) : dp p s (i + 1) 0 = false := by
  rw [Bool.eq_false_iff]
  intro h
  obtain ⟨k, hk, h1, h2⟩ := (dp_snoc p s i 0 hi).1 h
  rw [mt_one _ _ hc] at h2
  obtain ⟨d, hd, _⟩ := h2
  simp at hd

theorem dp_all (p s : List UInt8) : dp p s p.length s.length = mt p s := by unfold dp; rw [List.take_length, List.take_length]

/-- The same, of texts. -/
def dpB (p s : ByteArray) (i j : Nat) : Bool := dp p.data.toList s.data.toList i j
theorem dpB_zero (p s : ByteArray) (j : Nat) (hj : j ≤ s.size) : dpB p s 0 j = decide (j = 0) := dp_zero _ _ j (by rw [← Lib.size_eq]; exact hj)
theorem dpB_star (p s : ByteArray) (i j : Nat) (hi : i < p.size) (hc : bt p i = 42) (hj : j ≤ s.size) : dpB p s (i + 1) j = (dpB p s i j || (decide (0 < j) && dpB p s (i + 1) (j - 1))) := by
  obtain ⟨hi', hp⟩ := at_data p i hi
  exact dp_star _ _ i j hi' ((at_is p i hi' hp 42).2 hc) (by rw [← Lib.size_eq]; exact hj)
theorem dpB_char (p s : ByteArray) (i j : Nat) (hi : i < p.size) (hc : bt p i ≠ 42) (hj : j < s.size) : dpB p s (i + 1) (j + 1) = (dpB p s i j && decide (bt p i = 63 ∨ bt p i = bt s j)) := by
  obtain ⟨hi', hp⟩ := at_data p i hi
  obtain ⟨hj', hs⟩ := at_data s j hj
  unfold dpB
  rw [dp_char _ _ i j hi' (fun e => hc ((at_is p i hi' hp 42).1 e)) hj', hit_is p s i j hi' hp hj' hs]
theorem dpB_char0 (p s : ByteArray) (i : Nat) (hi : i < p.size) (hc : bt p i ≠ 42) : dpB p s (i + 1) 0 = false := by
  obtain ⟨hi', hp⟩ := at_data p i hi
  exact dp_char0 _ _ i hi' (fun e => hc ((at_is p i hi' hp 42).1 e))
theorem dpB_all (p s : ByteArray) : dpB p s p.size s.size = mt p.data.toList s.data.toList := by unfold dpB; rw [Lib.size_eq, Lib.size_eq]; exact dp_all _ _

theorem info_bool : (Tryd.prog.info? 4).map (fun i => (i.zero, i.size, i.bytes)) = some (some (.bool false), 1, 1) := by kernel_rfl

set_option maxHeartbeats 2000000 in
theorem rmatch_any (p s : ByteArray) (w : World) (hp : p.size ≤ 140737488351232) (hs : s.size ≤ 140737488351232) :
    Calls Tryd.prog 16 #[.string p, .string s] w fun e w' => e = .returned (.bool (mt p.data.toList s.data.toList)) ∧ Below w.heap.size w w' := by
  obtain ⟨i0, hi, hz0, hz1, hz2⟩ := info_parts info_bool
  have hN : Hid ((s.size : Int) + 1 = ((s.size + 1 : Nat) : Int)) := by unfold Hid; omega
  have hmk : ∀ w : World, (Instr.makeSlice 47 (.int .i64 ((s.size + 1 : Nat) : Int)) (.int .i64 ((s.size + 1 : Nat) : Int))).run Tryd.prog w = .ok (.slice (some ⟨w.heap.size, 0, none⟩) (s.size + 1) (s.size + 1)) (w.alloc (.cells (madeCells (Value.bool false).cells (s.size + 1)) 4)) := fun w => by
    rw [run_make (P := Tryd.prog) w 47 4 i0 (.bool false) Tryd.underlying47 hi hz0 .i64 .i64 _ _ (by omega) (by omega) (by rw [hz2]; omega) (by omega), Int.toNat_natCast, hz1, Nat.mul_one]
  have HMK : Hid (∀ w : World, (Instr.makeSlice 47 (.int .i64 ((s.size + 1 : Nat) : Int)) (.int .i64 ((s.size + 1 : Nat) : Int))).run Tryd.prog w = .ok (.slice (some ⟨w.heap.size, 0, none⟩) (s.size + 1) (s.size + 1)) (w.alloc (.cells (madeCells (Value.bool false).cells (s.size + 1)) 4))) := hmk
  have HALL : Hid (dpB p s p.size s.size = mt p.data.toList s.data.toList) := dpB_all p s
  clear hi hz0 hz1 hz2 hmk
  go_enter Tryd.func16, Tryd.ntmps16
  go_wp2_with fail
  rw [hN.out, HMK.out]
  have R0 : VRow (w.alloc (.cells (madeCells (Value.bool false).cells (s.size + 1)) 4)) w.heap.size (s.size + 1) (fun _ => .bool false) := VRow.made rfl rfl
  have B0 : Below w.heap.size w (w.alloc (.cells (madeCells (Value.bool false).cells (s.size + 1)) 4)) := (Below.refl _ _).alloc (Nat.le_refl _) _
  generalize w.alloc (.cells (madeCells (Value.bool false).cells (s.size + 1)) 4) = W1 at R0 B0 ⊢
  obtain ⟨g0, hg0⟩ : ∃ g, g = w.heap.size := ⟨_, rfl⟩
  have c0 := R0.cell 0 (by omega)
  have f0 := R0.free 0 (by omega)
  go_wp2
  have R1 : VRow (W1.setCell ⟨w.heap.size, 0, none⟩ (.bool true)) w.heap.size (s.size + 1) (fun j => .bool (dpB p s 0 j)) := (R0.set 0 _ (by omega)).congr (fun j hj => by
    rw [dpB_zero p s j (by omega)]
    by_cases e : j = 0 <;> simp [e])
  have B1 : Below w.heap.size w (W1.setCell ⟨w.heap.size, 0, none⟩ (.bool true)) := B0.setCell (Nat.le_refl _) _
  clear R0 B0 c0 f0
  generalize W1.setCell ⟨w.heap.size, 0, none⟩ (.bool true) = W2 at R1 B1 ⊢
  go_loopw [5, 6] (fun xs i wr => ∃ k g : Nat, k ≤ p.size ∧ i = .int .i64 k ∧ w.heap.size ≤ g ∧ xs = .slice (some ⟨g, 0, none⟩) (s.size + 1) (s.size + 1) ∧ VRow wr g (s.size + 1) (fun j => .bool (dpB p s k j)) ∧ Below w.heap.size w wr) (fun _ i _ => p.size - (intOf i).toNat)
  case atStart => exact ⟨0, w.heap.size, Nat.zero_le _, rfl, Nat.le_refl _, rfl, R1, B1⟩
  case round =>
    obtain ⟨k, g, hk, rfl, hg, rfl, R, B⟩ := hrel
    by_cases hlt : k < p.size
    · have hb := get_bt p
      have hgl := R.lt (by omega)
      go_wp2_with fail
      rw [hN.out, HMK.out]
      obtain ⟨wo, hwo⟩ : ∃ wo, wo = wr := ⟨_, rfl⟩
      have N0 : VRow (wr.alloc (.cells (madeCells (Value.bool false).cells (s.size + 1)) 4)) wr.heap.size (s.size + 1) (fun _ => .bool false) := VRow.made rfl rfl
      have R0 := R.alloc hgl (.cells (madeCells (Value.bool false).cells (s.size + 1)) 4)
      have B0 : Below w.heap.size w (wr.alloc (.cells (madeCells (Value.bool false).cells (s.size + 1)) 4)) := B.alloc B.size _
      have hgn : w.heap.size ≤ wr.heap.size := B.size
      have hne : g ≠ wr.heap.size := by omega
      generalize wr.alloc (.cells (madeCells (Value.bool false).cells (s.size + 1)) 4) = W3 at N0 R0 B0 ⊢
      generalize wr.heap.size = g2 at *
      clear R B hwo wo hgl R1 B1 hg0
      by_cases c1 : bt p k = 42
      · have C1 : (bt p k == 42) = true := by simp [c1]
        have HS : Hid (∀ j, j ≤ s.size → dpB p s (k + 1) j = (dpB p s k j || (decide (0 < j) && dpB p s (k + 1) (j - 1)))) := fun j hj => dpB_star p s k j hlt c1 hj
        clear c1
        go_wp2
        go_loopw [9] (fun i wi => ∃ j : Nat, j ≤ s.size + 1 ∧ i = .int .i64 j ∧ VRow wi g (s.size + 1) (fun t => .bool (dpB p s k t)) ∧ VRow wi g2 (s.size + 1) (fun t => .bool (decide (t < j) && dpB p s (k + 1) t)) ∧ Below w.heap.size w wi) (fun i _ => s.size + 1 - (intOf i).toNat)
        case atStart => exact ⟨0, Nat.zero_le _, rfl, R0, N0.congr (fun t _ => by simp), B0⟩
        case round =>
          obtain ⟨j, hj, rfl, R, N, B⟩ := hrel
          by_cases hlj : j ≤ s.size
          · have st := HS.out j hlj
            have r1 := R.cell j (by omega)
            have n1 := N.cell j (by omega)
            have n2 := N.free j (by omega)
            have hdone : Hid (∀ v : Bool, dpB p s (k + 1) j = v → VRow (wr.setCell ⟨g2, j, none⟩ (.bool v)) g (s.size + 1) (fun t => .bool (dpB p s k t)) ∧ VRow (wr.setCell ⟨g2, j, none⟩ (.bool v)) g2 (s.size + 1) (fun t => .bool (decide (t < j + 1) && dpB p s (k + 1) t)) ∧ Below w.heap.size w (wr.setCell ⟨g2, j, none⟩ (.bool v))) := by
              intro v hv
              refine ⟨R.other _ _ hne, (N.set j _ (by omega)).congr (fun t _ => ?_), B.setCell hgn _⟩
              by_cases e : t = j
              · subst e; rw [if_pos rfl, hv, decide_eq_true (by omega), Bool.true_and]
              · rw [if_neg e]
                by_cases h : t < j
                · rw [decide_eq_true h, decide_eq_true (by omega)]
                · rw [decide_eq_false h, decide_eq_false (by omega)]
            have ST : Hid (dpB p s (k + 1) j = (dpB p s k j || (decide (0 < j) && dpB p s (k + 1) (j - 1)))) := st
            clear st
            cases hA : dpB p s k j
            · have HA : Hid (dpB p s k j = false) := hA
              rw [hA] at r1
              clear hA
              by_cases hj0 : j = 0
              · subst hj0
                have HV : Hid (dpB p s (k + 1) 0 = false) := by unfold Hid; rw [ST.out, HA.out]; rfl
                clear R N
                go_wp2
                go_roundw
                case rel => exact ⟨1, by omega, by go_num, (hdone.out _ HV.out).1, (hdone.out _ HV.out).2.1, (hdone.out _ HV.out).2.2⟩
                case measure => simp [intOf] <;> omega
              · obtain ⟨j', rfl⟩ : ∃ j', j = j' + 1 := ⟨j - 1, by omega⟩
                have n3 := N.cell j' (by omega)
                rw [decide_eq_true (by omega), Bool.true_and] at n3
                have HV : Hid (dpB p s (k + 1) (j' + 1) = dpB p s (k + 1) j') := by
                  unfold Hid; rw [ST.out, HA.out, decide_eq_true (by omega), Nat.add_sub_cancel]; simp
                clear R N hj0
                cases hB : dpB p s (k + 1) j'
                all_goals
                  rw [hB] at n3
                  have HB : Hid (dpB p s (k + 1) j' = _) := hB
                  clear hB
                  go_wp2
                  go_roundw
                  case rel => exact ⟨j' + 1 + 1, by omega, by go_num, (hdone.out _ (HV.out.trans HB.out)).1, (hdone.out _ (HV.out.trans HB.out)).2.1, (hdone.out _ (HV.out.trans HB.out)).2.2⟩
                  case measure => simp [intOf]; omega
            · have HV : Hid (dpB p s (k + 1) j = true) := by unfold Hid; rw [ST.out, hA]; rfl
              rw [hA] at r1
              clear hA R N
              go_wp2
              go_roundw
              case rel => exact ⟨j + 1, by omega, by go_num, (hdone.out _ HV.out).1, (hdone.out _ HV.out).2.1, (hdone.out _ HV.out).2.2⟩
              case measure => simp [intOf]; omega
          · go_wp2
            go_roundw
            case rel => exact ⟨k + 1, g2, by omega, by go_num, hgn, rfl, N.congr (fun t ht => by rw [decide_eq_true (by omega), Bool.true_and]), B⟩
            case measure => simp [intOf]; omega
      · have C1 : (bt p k == 42) = false := by simp [c1]
        have HS : Hid (∀ j, j < s.size → dpB p s (k + 1) (j + 1) = (dpB p s k j && decide (bt p k = 63 ∨ bt p k = bt s j))) := fun j hj => dpB_char p s k j hlt c1 hj
        have HZ : Hid (dpB p s (k + 1) 0 = false) := dpB_char0 p s k hlt c1
        clear c1
        go_wp2
        go_loopw [9] (fun i wi => ∃ j : Nat, j ≤ s.size + 1 ∧ i = .int .i64 j ∧ VRow wi g (s.size + 1) (fun t => .bool (dpB p s k t)) ∧ VRow wi g2 (s.size + 1) (fun t => .bool (decide (t < j) && dpB p s (k + 1) t)) ∧ Below w.heap.size w wi) (fun i _ => s.size + 1 - (intOf i).toNat)
        case atStart => exact ⟨0, Nat.zero_le _, rfl, R0, N0.congr (fun t _ => by simp), B0⟩
        case round =>
          obtain ⟨j, hj, rfl, R, N, B⟩ := hrel
          by_cases hlj : j ≤ s.size
          · have hstay : Hid (dpB p s (k + 1) j = false → VRow wr g2 (s.size + 1) (fun t => .bool (decide (t < j + 1) && dpB p s (k + 1) t))) := by
              intro hv
              refine N.congr (fun t _ => ?_)
              by_cases e : t = j
              · subst e; rw [hv, Bool.and_false, Bool.and_false]
              · by_cases h : t < j
                · rw [decide_eq_true h, decide_eq_true (by omega)]
                · rw [decide_eq_false h, decide_eq_false (by omega)]
            by_cases hj0 : j = 0
            · subst hj0
              go_wp2
              go_roundw
              case rel => exact ⟨1, by omega, by go_num, R, hstay.out HZ.out, B⟩
              case measure => simp [intOf] <;> omega
            · obtain ⟨j', rfl⟩ : ∃ j', j = j' + 1 := ⟨j - 1, by omega⟩
              have r1 := R.cell j' (by omega)
              have n1 := N.cell (j' + 1) (by omega)
              have n2 := N.free (j' + 1) (by omega)
              have ST : Hid (dpB p s (k + 1) (j' + 1) = (dpB p s k j' && decide (bt p k = 63 ∨ bt p k = bt s j'))) := HS.out j' (by omega)
              have hdone : Hid (∀ v : Bool, dpB p s (k + 1) (j' + 1) = v → VRow (wr.setCell ⟨g2, j' + 1, none⟩ (.bool v)) g (s.size + 1) (fun t => .bool (dpB p s k t)) ∧ VRow (wr.setCell ⟨g2, j' + 1, none⟩ (.bool v)) g2 (s.size + 1) (fun t => .bool (decide (t < j' + 1 + 1) && dpB p s (k + 1) t)) ∧ Below w.heap.size w (wr.setCell ⟨g2, j' + 1, none⟩ (.bool v))) := by
                intro v hv
                refine ⟨R.other _ _ hne, (N.set (j' + 1) _ (by omega)).congr (fun t _ => ?_), B.setCell hgn _⟩
                by_cases e : t = j' + 1
                · subst e; rw [if_pos rfl, hv, decide_eq_true (by omega), Bool.true_and]
                · rw [if_neg e]
                  by_cases h : t < j' + 1
                  · rw [decide_eq_true h, decide_eq_true (by omega)]
                  · rw [decide_eq_false h, decide_eq_false (by omega)]
              clear hj0
              cases hA : dpB p s k j'
              · rw [hA] at r1
                have HV : Hid (dpB p s (k + 1) (j' + 1) = false) := by unfold Hid; rw [ST.out, hA]; rfl
                clear hA
                go_wp2
                go_roundw
                case rel => exact ⟨j' + 1 + 1, by omega, by go_num, R, hstay.out HV.out, B⟩
                case measure => simp [intOf]; omega
              · rw [hA] at r1
                have gs := get_bt s
                have HV : Hid (dpB p s (k + 1) (j' + 1) = decide (bt p k = 63 ∨ bt p k = bt s j')) := by unfold Hid; rw [ST.out, hA, Bool.true_and]
                clear hA R N
                by_cases c2 : bt p k = 63
                · have C2 : (bt p k == 63) = true := by simp [c2]
                  have HW : Hid (dpB p s (k + 1) (j' + 1) = true) := by unfold Hid; rw [HV.out, decide_eq_true (Or.inl c2)]
                  clear c2
                  go_wp2
                  go_roundw
                  case rel => exact ⟨j' + 1 + 1, by omega, by go_num, (hdone.out _ HW.out).1, (hdone.out _ HW.out).2.1, (hdone.out _ HW.out).2.2⟩
                  case measure => simp [intOf]; omega
                · have C2 : (bt p k == 63) = false := by simp [c2]
                  by_cases c3 : bt p k = bt s j'
                  · have C3 : (bt p k == bt s j') = true := by simp [c3]
                    have HW : Hid (dpB p s (k + 1) (j' + 1) = true) := by unfold Hid; rw [HV.out, decide_eq_true (Or.inr c3)]
                    clear c2 c3
                    go_wp2
                    go_roundw
                    case rel => exact ⟨j' + 1 + 1, by omega, by go_num, (hdone.out _ HW.out).1, (hdone.out _ HW.out).2.1, (hdone.out _ HW.out).2.2⟩
                    case measure => simp [intOf]; omega
                  · have C3 : (bt p k == bt s j') = false := by simp [c3]
                    have HW : Hid (dpB p s (k + 1) (j' + 1) = false) := by unfold Hid; rw [HV.out, decide_eq_false (by rintro (h | h); exact c2 h; exact c3 h)]
                    clear c2 c3
                    go_wp2
                    go_roundw
                    case rel => exact ⟨j' + 1 + 1, by omega, by go_num, (hdone.out _ HW.out).1, (hdone.out _ HW.out).2.1, (hdone.out _ HW.out).2.2⟩
                    case measure => simp [intOf]; omega
          · go_wp2
            go_roundw
            case rel => exact ⟨k + 1, g2, by omega, by go_num, hgn, rfl, N.congr (fun t ht => by rw [decide_eq_true (by omega), Bool.true_and]), B⟩
            case measure => simp [intOf]; omega
    · obtain rfl : k = p.size := by omega
      have c1 := R.cell s.size (by omega)
      go_wp2
      go_ret
      exact ⟨by rw [← HALL.out]; rfl, B⟩

end Go.Proofs.YtdmkkkfdigeinaaDoor
