/- What the reference's Block answers: as the program's. -/
import Derived.Test.YtnfcnfhchfmcpaaDoorShaT
namespace Go.Proofs.YtnfcnfhchfmcpaaDoor
open Go.RowKit

theorem step8 (v : Nat → Int) (x : Int) (w : World) (hv : ∀ j, W32 (v j)) :
    Calls Tryd.prog 51 #[.agg #[.int .u32 (v 0), .int .u32 (v 1), .int .u32 (v 2), .int .u32 (v 3), .int .u32 (v 4), .int .u32 (v 5), .int .u32 (v 6), .int .u32 (v 7)], .int .u32 x] w fun e w' =>
      e = .returned (.agg #[.int .u32 (stp v x 0), .int .u32 (stp v x 1), .int .u32 (stp v x 2), .int .u32 (stp v x 3), .int .u32 (stp v x 4), .int .u32 (stp v x 5), .int .u32 (stp v x 6), .int .u32 (stp v x 7)]) ∧ Below w.heap.size w w' :=
  step_any v x w hv

theorem oth8 {k : IntKind} {w : World} {g n gv : Nat} {f : Nat → Int} (h : Row k w g n f) (hne : g ≠ gv) (x0 x1 x2 x3 x4 x5 x6 x7 : Value) :
    Row k ((((((((w.setCell ⟨gv, 0, none⟩ x0).setCell ⟨gv, 1, none⟩ x1).setCell ⟨gv, 2, none⟩ x2).setCell ⟨gv, 3, none⟩ x3).setCell ⟨gv, 4, none⟩ x4).setCell ⟨gv, 5, none⟩ x5).setCell ⟨gv, 6, none⟩ x6).setCell ⟨gv, 7, none⟩ x7) g n f :=
  (((((((h.other _ _ hne).other _ _ hne).other _ _ hne).other _ _ hne).other _ _ hne).other _ _ hne).other _ _ hne).other _ _ hne

set_option maxHeartbeats 8000000 in
theorem rblock_any (h b : Nat → Int) (w : World) (hh : ∀ j, W32 (h j)) (hb : ∀ j, 0 ≤ b j ∧ b j < 256) :
    Calls Tryd.prog 38 #[.agg (cs .u32 8 h), .agg (cs .u8 64 b)] w fun e w' => e = .returned (.agg (cs .u32 8 (blk kk h b))) ∧ Below w.heap.size w w' := by
  have HH : Hid (∀ j, W32 (h j)) := hh
  have HB : Hid (∀ j, 0 ≤ b j ∧ b j < 256) := hb
  clear hh hb
  go_enter Tryd.func38, Tryd.ntmps38
  go_wp2_with (refine wpList_load_arr (by rfl) 56 (.tmp 3) (by rfl) (w.heap.size + 1) (by rfl) (startB w h b _ _ _ _ rfl).2.1 Tryd.underlying56 Tryd.sz56 ?_)
  obtain ⟨RH, RB, RR, B, hz⟩ := startB w h b 63 56 63 #[.int .u32 0, .int .u32 0, .int .u32 0, .int .u32 0, .int .u32 0, .int .u32 0, .int .u32 0, .int .u32 0] rfl
  generalize ((w.alloc (.cells (cs .u32 8 h) 63)).alloc (.cells (cs .u8 64 b) 56)).alloc (.cells #[.int .u32 0, .int .u32 0, .int .u32 0, .int .u32 0, .int .u32 0, .int .u32 0, .int .u32 0, .int .u32 0] 63) = W at RH RB RR B hz ⊢
  refine (words_any b _ HB.out).mono ?_
  rintro e w1 ⟨rfl, b1⟩
  have RH1 := RH.below b1 (by omega)
  have RR1 := RR.below b1 (by omega)
  have B1 : Below w.heap.size w w1 := B.trans (b1.mono (by omega))
  have hz1 : w.heap.size + 3 ≤ w1.heap.size := by have := b1.size; omega
  clear RH RB RR B hz b1
  go_wp2_with (refine wpList_store_any (by rfl) 79 (.tmp 5) (.tmp 11) (by rfl) w1.heap.size (by rfl) (by rfl) (Row.rep (n := 64) (z := 0) rfl) Tryd.sz79 (by rfl) ?_; intro W2 RS2 U2)
  have RH2 := (RH1.alloc (by omega) _).upd U2 (by rw [World.size_alloc]; omega) (by omega)
  have RR2 := (RR1.alloc (by omega) _).upd U2 (by rw [World.size_alloc]; omega) (by omega)
  have B2 : Below w.heap.size w W2 := U2.below (B1.alloc (by omega) _) (by omega) (by rw [World.size_alloc]; omega)
  have hz2 : w1.heap.size < W2.heap.size := by rw [U2.size, World.size_alloc]; omega
  clear RH1 RR1 B1 U2
  go_wp2_with fail
  refine (constants_any _).mono ?_
  rintro e w3 ⟨rfl, b3⟩
  have RH3 := RH2.below b3 (by omega)
  have RR3 := RR2.below b3 (by omega)
  have RS3 := RS2.below b3 (by omega)
  have B3 : Below w.heap.size w w3 := B2.trans (b3.mono (by omega))
  have hz3 : w1.heap.size < w3.heap.size := by have := b3.size; omega
  clear RH2 RR2 RS2 B2 hz2 b3
  go_wp2_with (first | (refine wpList_store_any (by rfl) 79 (.tmp 6) (.tmp 12) (by rfl) w3.heap.size (by rfl) (by rfl) (Row.rep (n := 64) (z := 0) rfl) Tryd.sz79 (by rfl) ?_; intro W4 RK4 U4; have RH4 := (RH3.alloc (by omega) _).upd U4 (by rw [World.size_alloc]; omega) (by omega); have RR4 := (RR3.alloc (by omega) _).upd U4 (by rw [World.size_alloc]; omega) (by omega); have RS4 := (RS3.alloc (by omega) _).upd U4 (by rw [World.size_alloc]; omega) (by omega); have B4 : Below w.heap.size w W4 := U4.below (B3.alloc (by omega) _) (by omega) (by rw [World.size_alloc]; omega); have hz4 : w3.heap.size < W4.heap.size := by (rw [U4.size, World.size_alloc]; omega)) | (refine wpList_load_arr (by rfl) 63 (.tmp 2) (by rfl) w.heap.size (by rfl) RH4 Tryd.underlying63 Tryd.sz63 ?_) | (refine wpList_store_any (by rfl) 63 (.tmp 7) (.tmp 13) (by rfl) W4.heap.size (by rfl) (by rfl) (Row.rep (n := 8) (z := 0) rfl) Tryd.sz63 (by rfl) ?_; intro W5 RV5 U5))
  have RH5 := (RH4.alloc (by omega) _).upd U5 (by rw [World.size_alloc]; omega) (by omega)
  have RR5 := (RR4.alloc (by omega) _).upd U5 (by rw [World.size_alloc]; omega) (by omega)
  have RS5 := (RS4.alloc (by omega) _).upd U5 (by rw [World.size_alloc]; omega) (by omega)
  have RK5 := (RK4.alloc (by omega) _).upd U5 (by rw [World.size_alloc]; omega) (by omega)
  have B5 : Below w.heap.size w W5 := U5.below (B4.alloc (by omega) _) (by omega) (by rw [World.size_alloc]; omega)
  have hz5 : W4.heap.size < W5.heap.size := by rw [U5.size, World.size_alloc]; omega
  clear RH4 RR4 RS4 RK4 B4 U5 RH3 RR3 RS3 B3 U4
  go_wp2
  have hzk : w1.heap.size < w3.heap.size := hz3
  have hzv : w3.heap.size < W4.heap.size := hz4
  clear hz3 hz4
  generalize w1.heap.size = gw at RS5 hz1 hzk ⊢
  generalize w3.heap.size = gk at RK5 hzk hzv ⊢
  generalize W4.heap.size = gv at RV5 hzv hz5 ⊢
  go_loopw [8] (fun i wr => ∃ k : Nat, k ≤ 64 ∧ i = .int .i64 k ∧ Row .u32 wr w.heap.size 8 h ∧ Row .u32 wr (w.heap.size + 1 + 1) 8 (fun _ => 0) ∧ Row .u32 wr gw 64 (sch b 64) ∧ Row .u32 wr gk 64 kk ∧ Row .u32 wr gv 8 (rnd kk h (sch b 64) k) ∧ Below w.heap.size w wr ∧ gv < wr.heap.size) (fun i _ => 64 - (intOf i).toNat)
  case atStart => exact ⟨0, by omega, rfl, RH5, RR5, RS5, RK5, RV5, B5, hz5⟩
  case round =>
    obtain ⟨k, hk, rfl, RH, RR, RS, RK, RV, B, hz⟩ := hrel
    clear RH5 RR5 RS5 RK5 RV5 B5 hz5
    by_cases hlt : k < 64
    · have hst : Hid (stp (rnd kk h (sch b 64) k) (pl (kk k) (sch b 64 k)) = rnd kk h (sch b 64) (k + 1)) := rfl
      have hv : Hid (∀ j, W32 (rnd kk h (sch b 64) k j)) := rnd_w kk h (sch b 64) HH.out k
      have ck := RK.cell k (by omega)
      have cw := RS.cell k (by omega)
      generalize rnd kk h (sch b 64) k = v at hst hv RV
      generalize hwk : sch b 64 k = wk at hst cw
      generalize hkk : kk k = qk at hst ck
      clear hwk hkk
      have hgh : w.heap.size < wr.heap.size := by omega
      have hgr : w.heap.size + 1 + 1 < wr.heap.size := by omega
      have hgw : gw < wr.heap.size := by omega
      have hgk : gk < wr.heap.size := by omega
      have c0 := RV.cell 0 (by omega)
      have c1 := RV.cell 1 (by omega)
      have c2 := RV.cell 2 (by omega)
      have c3 := RV.cell 3 (by omega)
      have c4 := RV.cell 4 (by omega)
      have c5 := RV.cell 5 (by omega)
      have c6 := RV.cell 6 (by omega)
      have c7 := RV.cell 7 (by omega)
      go_wp2
      go_region_with (go_at_call 51; refine (step8 v _ _ hv.out).mono ?_; rintro e w6 ⟨rfl, b6⟩; have RV6 := RV.drew.below b6 hz; have d0 := RV6.cell 0 (by omega); have d1 := RV6.cell 1 (by omega); have d2 := RV6.cell 2 (by omega); have d3 := RV6.cell 3 (by omega); have d4 := RV6.cell 4 (by omega); have d5 := RV6.cell 5 (by omega); have d6 := RV6.cell 6 (by omega); have d7 := RV6.cell 7 (by omega); have f0 := RV6.free 0 (by omega); have f1 := RV6.free 1 (by omega); have f2 := RV6.free 2 (by omega); have f3 := RV6.free 3 (by omega); have f4 := RV6.free 4 (by omega); have f5 := RV6.free 5 (by omega); have f6 := RV6.free 6 (by omega); have f7 := RV6.free 7 (by omega); have RH6 := RH.drew.below b6 hgh; have RR6 := RR.drew.below b6 hgr; have RS6 := RS.drew.below b6 hgw; have RK6 := RK.drew.below b6 hgk; have B6 : Below w.heap.size w w6 := B.drew.trans (b6.mono B.size); have hz6 : gv < w6.heap.size := Nat.lt_of_lt_of_le hz b6.size)
      all_goals go_wp2
      all_goals
        go_roundw
        case rel =>
          refine ⟨k + 1, by omega, by go_num, oth8 RH6 (by omega) _ _ _ _ _ _ _ _, oth8 RR6 (by omega) _ _ _ _ _ _ _ _, oth8 RS6 (by omega) _ _ _ _ _ _ _ _, oth8 RK6 (by omega) _ _ _ _ _ _ _ _, (row8 RV6 _ _ _ _ _ _ _ _).congr (fun j hj => ?_), bel8 B6 (by omega) _ _ _ _ _ _ _ _, by simp only [World.size_setCell]; exact hz6⟩
          rw [← hst.out]
          exact vec8_of _ j hj
        case measure => simp [intOf]; omega
    · obtain rfl : k = 64 := by omega
      have hbl : Hid (∀ j, (rnd kk h (sch b 64) 64 j + h j) % 4294967296 = blk kk h b j) := fun j => by unfold blk pl; rw [Int.add_comm]
      clear RS RK
      generalize rnd kk h (sch b 64) 64 = v at hbl RV
      go_wp2
      go_loopw [9] (fun i wr => ∃ m : Nat, m ≤ 8 ∧ i = .int .i64 m ∧ Row .u32 wr w.heap.size 8 h ∧ Row .u32 wr (w.heap.size + 1 + 1) 8 (fun _ => 0) ∧ Row .u32 wr gv 8 (fun j => if j < m then (v j + h j) % 4294967296 else v j) ∧ Below w.heap.size w wr ∧ gv < wr.heap.size) (fun i _ => 8 - (intOf i).toNat)
      case atStart => exact ⟨0, by omega, rfl, RH, RR, RV.congr (fun j _ => by simp), B, hz⟩
      case round =>
        obtain ⟨m, hm, rfl, RH, RR, RV, B, hz⟩ := hrel
        by_cases hml : m < 8
        · have c0 := RH.cell m hml
          have d0 := RV.cell m hml
          rw [if_neg (by omega)] at d0
          have f0 := RV.free m hml
          go_wp2
          go_region
          all_goals go_wp2
          all_goals
            go_roundw
            case rel =>
              refine ⟨m + 1, by omega, by go_num, (RH.other _ _ (show w.heap.size ≠ gv by omega)).drew, (RR.other _ _ (show w.heap.size + 1 + 1 ≠ gv by omega)).drew, ((RV.set m _ hml).congr (fun j _ => ?_)).drew, (B.setCell (show w.heap.size ≤ gv by omega) _).drew, by simp; omega⟩
              by_cases e : j = m
              · subst e; rw [if_pos rfl, if_pos (by omega)]
              · rw [if_neg e]
                by_cases g : j < m
                · rw [if_pos g, if_pos (by omega)]
                · rw [if_neg g, if_neg (by omega)]
            case measure => simp [intOf]; omega
        · obtain rfl : m = 8 := by omega
          go_wp2_with (first | (refine wpList_load_arr (by rfl) 63 (.tmp 7) (by rfl) gv (by rfl) RV Tryd.underlying63 Tryd.sz63 ?_) | (refine wpList_store_any (by rfl) 63 (.tmp 4) (.tmp 39) (by rfl) (w.heap.size + 1 + 1) (by rfl) (by rfl) RR Tryd.sz63 (by rfl) ?_; intro W9 R9 U9))
          refine bodyPost_ret (results_arr Tryd.results38 _ _ rfl R9 Tryd.underlying63 Tryd.sz63) rfl ⟨?_, U9.below B (by omega) B.size⟩
          exact congrArg (fun c => Ending.returned (Value.agg c)) (cs_congr .u32 8 (fun j hj => by rw [if_pos hj]; exact hbl.out j))
#print axioms rblock_any
end Go.Proofs.YtnfcnfhchfmcpaaDoor
