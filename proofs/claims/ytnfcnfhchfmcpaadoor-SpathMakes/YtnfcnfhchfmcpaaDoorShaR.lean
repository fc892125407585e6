/- What the reference's words, constants, step and Block answer. -/
import Derived.Test.YtnfcnfhchfmcpaaDoorShaB
namespace Go.Proofs.YtnfcnfhchfmcpaaDoor
open Go.RowKit
/-- Word k while m of its bytes are in. -/
def prt (b : Nat → Int) (k : Nat) : Nat → Int
  | 0 => 0
  | m + 1 => prt b k m * 256 + b (4 * k + m)
theorem prt_w (b : Nat → Int) (hb : ∀ j, 0 ≤ b j ∧ b j < 256) (k : Nat) : 0 ≤ prt b k 3 ∧ prt b k 3 < 16777216 ∧ 0 ≤ prt b k 2 ∧ prt b k 2 < 65536 ∧ 0 ≤ prt b k 1 ∧ prt b k 1 < 256 := by
  have h0 := hb (4 * k + 0)
  have h1 := hb (4 * k + 1)
  have h2 := hb (4 * k + 2)
  simp only [prt]
  omega
theorem prt_bd (b : Nat → Int) (hb : ∀ j, 0 ≤ b j ∧ b j < 256) (k m : Nat) (h : m < 4) : 0 ≤ prt b k m ∧ prt b k m < 16777216 := by
  have := prt_w b hb k
  rcases (show m = 0 ∨ m = 1 ∨ m = 2 ∨ m = 3 from by omega) with rfl | rfl | rfl | rfl
  · exact ⟨by simp [prt], by simp [prt]⟩
  all_goals omega
theorem prt_word (b : Nat → Int) (k : Nat) : prt b k 4 = wd b k := by
  simp only [prt, wd, Nat.add_zero]
  omega

theorem sch_high (b : Nat → Int) (k j : Nat) (h : k ≤ j) : sch b k j = 0 := by
  induction k with
  | zero => rfl
  | succ k ih => rw [sch, if_neg (by omega), ih (by omega)]
theorem sch_zero (b : Nat → Int) (k j : Nat) : sch b k j = if j = k then prt b k 0 else sch b k j := by
  by_cases e : j = k
  · rw [if_pos e, e, sch_high b k k (Nat.le_refl _)]; rfl
  · rw [if_neg e]
theorem pl4r (a b c d : Int) : (d + c + b + a) % 4294967296 = pl (pl (pl a b) c) d := by unfold pl; omega
theorem rtn7 (x : Int) (w : World) (h0 : 0 ≤ x) (h1 : x < 4294967296) : Calls Tryd.prog 58 #[.int .u32 x, .int .u64 7] w fun e w' => e = .returned (.int .u32 (rot x 7)) ∧ w' = w := rturn_any x 7 w h0 h1 (by omega)
theorem rtn18 (x : Int) (w : World) (h0 : 0 ≤ x) (h1 : x < 4294967296) : Calls Tryd.prog 58 #[.int .u32 x, .int .u64 18] w fun e w' => e = .returned (.int .u32 (rot x 18)) ∧ w' = w := rturn_any x 18 w h0 h1 (by omega)
theorem rtn17 (x : Int) (w : World) (h0 : 0 ≤ x) (h1 : x < 4294967296) : Calls Tryd.prog 58 #[.int .u32 x, .int .u64 17] w fun e w' => e = .returned (.int .u32 (rot x 17)) ∧ w' = w := rturn_any x 17 w h0 h1 (by omega)
theorem rtn19 (x : Int) (w : World) (h0 : 0 ≤ x) (h1 : x < 4294967296) : Calls Tryd.prog 58 #[.int .u32 x, .int .u64 19] w fun e w' => e = .returned (.int .u32 (rot x 19)) ∧ w' = w := rturn_any x 19 w h0 h1 (by omega)

set_option maxHeartbeats 4000000 in
theorem words_any (b : Nat → Int) (w : World) (hb : ∀ j, 0 ≤ b j ∧ b j < 256) :
    Calls Tryd.prog 49 #[.agg (cs .u8 64 b)] w fun e w' => e = .returned (.agg (cs .u32 64 (sch b 64))) ∧ Below w.heap.size w w' := by
  have HB : Hid (∀ j, 0 ≤ b j ∧ b j < 256) := hb
  clear hb
  go_enter Tryd.func49, Tryd.ntmps49
  go_wp2
  go_loopw [4] (fun i wr => ∃ k : Nat, k ≤ 64 ∧ i = .int .i64 k ∧ Row .u8 wr w.heap.size 64 b ∧ Row .u32 wr (w.heap.size + 1) 64 (fun _ => 0) ∧ Row .u32 wr (w.heap.size + 1 + 1) 64 (sch b k) ∧ Below w.heap.size w wr ∧ w.heap.size + 1 + 1 < wr.heap.size) (fun i _ => 64 - (intOf i).toNat)
  case atStart =>
    obtain ⟨h1, h2, h3, h4, h5⟩ := start3 w b 56 79 79 _ _ rfl rfl
    exact ⟨0, by omega, rfl, h1, h2, h3.congr (fun j _ => rfl), h4, h5⟩
  case round =>
    obtain ⟨k, hk, rfl, RB, RZ, RS, B, hz⟩ := hrel
    by_cases hlt : k < 64
    · by_cases hlow : k < 16
      · go_wp2
        go_loopw [5] (fun i wr => ∃ m : Nat, m ≤ 4 ∧ i = .int .i64 m ∧ Row .u8 wr w.heap.size 64 b ∧ Row .u32 wr (w.heap.size + 1) 64 (fun _ => 0) ∧ Row .u32 wr (w.heap.size + 1 + 1) 64 (fun j => if j = k then prt b k m else sch b k j) ∧ Below w.heap.size w wr ∧ w.heap.size + 1 + 1 < wr.heap.size) (fun i _ => 4 - (intOf i).toNat)
        case atStart => exact ⟨0, by omega, rfl, RB, RZ, RS.congr (fun j _ => sch_zero b k j), B, hz⟩
        case round =>
          obtain ⟨m, hm, rfl, RB, RZ, RS, B, hz⟩ := hrel
          by_cases hml : m < 4
          · have c0 := RB.cell (4 * k + m) (by omega)
            have d0 := RS.cell k (by omega)
            rw [if_pos rfl] at d0
            have f0 := RS.free k (by omega)
            have b0 := HB.out (4 * k + m)
            have p0 := prt_bd b HB.out k m hml
            have i0 : (4 : Int) * k + m < 64 := by omega
            have hst : Hid (prt b k m * 256 + b (4 * k + m) = prt b k (m + 1)) := rfl
            generalize prt b k m = pm at d0 p0 hst
            generalize b (4 * k + m) = bm at c0 b0 hst
            go_wp2
            go_region
            all_goals go_wp2
            all_goals
              go_roundw
              case rel =>
                refine ⟨m + 1, by omega, by go_num, (RB.other _ _ (show w.heap.size ≠ w.heap.size + 1 + 1 by omega)).drew, (RZ.other _ _ (show w.heap.size + 1 ≠ w.heap.size + 1 + 1 by omega)).drew, ((RS.set k _ (by omega)).congr (fun j _ => ?_)).drew, (B.setCell (show w.heap.size ≤ w.heap.size + 1 + 1 by omega) _).drew, by simp; omega⟩
                by_cases e : j = k
                · rw [if_pos e, if_pos e, hst.out]
                · rw [if_neg e, if_neg e, if_neg e]
              case measure => simp [intOf]; omega
          · obtain rfl : m = 4 := by omega
            go_wp2
            go_roundw
            case rel =>
              refine ⟨k + 1, by omega, by go_num, RB, RZ, RS.congr (fun j _ => ?_), B, hz⟩
              refine sch_next b k j _ ?_
              rw [prt_word]
              unfold nxt
              rw [if_pos hlow]
            case measure => simp [intOf]; omega
      · have c2 := RS.cell (k - 2) (by omega)
        have c7 := RS.cell (k - 7) (by omega)
        have c15 := RS.cell (k - 15) (by omega)
        have c16 := RS.cell (k - 16) (by omega)
        have c0 := RS.cell k (by omega)
        have f0 := RS.free k (by omega)
        have b2 := sch_w b HB.out k (k - 2)
        have b15 := sch_w b HB.out k (k - 15)
        have hst : Hid (pl (pl (pl (sch b k (k - 16)) (s0 (sch b k (k - 15)))) (sch b k (k - 7))) (s1 (sch b k (k - 2))) = nxt b (sch b k) k) := by unfold Hid nxt; rw [if_neg (by omega)]
        generalize sch b k (k - 2) = x2 at c2 b2 hst
        generalize sch b k (k - 7) = x7 at c7 hst
        generalize sch b k (k - 15) = x15 at c15 b15 hst
        generalize sch b k (k - 16) = x16 at c16 hst
        have m2 : (2 : Int) ≤ (k : Int) := by omega
        have m3 : (k : Int) < 66 := by omega
        have i2 : (0 : Int) ≤ k - 2 ∧ (k : Int) - 2 < 64 := by omega
        have i7 : (0 : Int) ≤ k - 7 ∧ (k : Int) - 7 < 64 := by omega
        have i15 : (0 : Int) ≤ k - 15 ∧ (k : Int) - 15 < 64 := by omega
        have i16 : (0 : Int) ≤ k - 16 ∧ (k : Int) - 16 < 64 := by omega
        have l2 := b2.1
        have u2 := b2.2
        have l15 := b15.1
        have u15 := b15.2
        go_wp2_with fail
        refine (rtn7 _ _ l15 u15).mono ?_
        rintro e w1 ⟨rfl, rfl⟩
        go_wp2_with fail
        refine (rtn18 _ _ l15 u15).mono ?_
        rintro e w1 ⟨rfl, rfl⟩
        go_wp2_with fail
        refine (rtn17 _ _ l2 u2).mono ?_
        rintro e w1 ⟨rfl, rfl⟩
        go_wp2_with fail
        refine (rtn19 _ _ l2 u2).mono ?_
        rintro e w1 ⟨rfl, rfl⟩
        go_wp2
        go_region
        all_goals go_wp2
        all_goals
          go_roundw
          case rel =>
            refine ⟨k + 1, by omega, by go_num, (RB.other _ _ (show w.heap.size ≠ w.heap.size + 1 + 1 by omega)).drew, (RZ.other _ _ (show w.heap.size + 1 ≠ w.heap.size + 1 + 1 by omega)).drew, ((RS.set k _ (by omega)).congr (fun j _ => ?_)).drew, (B.setCell (show w.heap.size ≤ w.heap.size + 1 + 1 by omega) _).drew, by simp; omega⟩
            refine sch_next b k j _ ?_
            rw [← hst.out]
            exact pl4r _ _ _ _
          case measure => simp [intOf]; omega
    · obtain rfl : k = 64 := by omega
      go_wp2_with (first | (refine wpList_load_arr (by rfl) 79 (.tmp 3) (by rfl) (w.heap.size + 1 + 1) (by rfl) RS Tryd.underlying79 Tryd.sz79 ?_) | (refine wpList_store_arr (by rfl) 79 (.tmp 2) (.tmp 73) (by rfl) (w.heap.size + 1) (by rfl) (by rfl) RZ Tryd.sz79 (by rfl) ?_))
      exact bodyPost_ret (results_arr Tryd.results49 _ _ rfl (put_row RZ) Tryd.underlying79 Tryd.sz79) rfl ⟨rfl, put_below B (by omega)⟩
#print axioms words_any
end Go.Proofs.YtnfcnfhchfmcpaaDoor
