/- Gathered: ShaT ShaU PadA PadB PadC OfA OfC OfD. -/
import Derived.Test.YtojefckhefanhaaDoorProg
import Derived.Test.YtojefckhefanhaaDoorQa
import Derived.Test.YtojefckhefanhaaDoorQi
/- What the reference's constants, step and Block answer. -/
namespace Go.Proofs.YtojefckhefanhaaDoor
open Go.RowKit
set_option maxRecDepth 100000 in
set_option maxHeartbeats 4000000 in
theorem constants_any (w : World) : Calls Tryd.prog 53 #[] w fun e w' => e = .returned (.agg (cs .u32 64 kk)) ∧ Below w.heap.size w w' := by
  go_enter Tryd.func53, Tryd.ntmps53
  go_wp2_with (refine wpList_store_any (f := kk) (by rfl) 103 (.tmp 0) (.tmp 1) (by rfl) w.heap.size (by rfl) (by rfl) (Row.rep (n := 64) (z := 0) rfl) Tryd.sz103 (by rfl) ?_; intro W2 RS2 U2)
  exact bodyPost_ret (results_arr Tryd.results53 _ _ rfl RS2 Tryd.underlying103 Tryd.sz103) rfl ⟨rfl, U2.below ((Below.refl _ _).alloc (Nat.le_refl _) _) (Nat.le_refl _) (by rw [World.size_alloc]; omega)⟩

theorem startT (w : World) (v : Nat → Int) (e1 e2 : TypeId) (A : Array Value) (hA : A = Array.replicate 8 (.int .u32 0)) :
    Row .u32 ((w.alloc (.cells (cs .u32 8 v) e1)).alloc (.cells A e2)) w.heap.size 8 v ∧ Row .u32 ((w.alloc (.cells (cs .u32 8 v) e1)).alloc (.cells A e2)) (w.heap.size + 1) 8 (fun _ => 0) ∧
    Below w.heap.size w ((w.alloc (.cells (cs .u32 8 v) e1)).alloc (.cells A e2)) := by
  have z1 : (w.alloc (.cells (cs .u32 8 v) e1)).heap.size = w.heap.size + 1 := World.size_alloc _ _
  have r1 : Row .u32 (w.alloc (.cells (cs .u32 8 v) e1)) w.heap.size 8 v := Row.box
  have b1 : Below w.heap.size w (w.alloc (.cells (cs .u32 8 v) e1)) := (Below.refl _ _).alloc (Nat.le_refl _) _
  generalize w.alloc (.cells (cs .u32 8 v) e1) = w1 at z1 r1 b1 ⊢
  have r3 : Row .u32 (w1.alloc (.cells A e2)) w1.heap.size 8 (fun _ => 0) := Row.rep hA
  rw [z1] at r3
  exact ⟨r1.alloc (by omega) _, r3, b1.alloc (by omega) _⟩

theorem rtn6 (x : Int) (w : World) (h0 : 0 ≤ x) (h1 : x < 4294967296) : Calls Tryd.prog 78 #[.int .u32 x, .int .u64 6] w fun e w' => e = .returned (.int .u32 (rot x 6)) ∧ w' = w := rturn_any x 6 w h0 h1 (by omega)
theorem rtn11 (x : Int) (w : World) (h0 : 0 ≤ x) (h1 : x < 4294967296) : Calls Tryd.prog 78 #[.int .u32 x, .int .u64 11] w fun e w' => e = .returned (.int .u32 (rot x 11)) ∧ w' = w := rturn_any x 11 w h0 h1 (by omega)
theorem rtn25 (x : Int) (w : World) (h0 : 0 ≤ x) (h1 : x < 4294967296) : Calls Tryd.prog 78 #[.int .u32 x, .int .u64 25] w fun e w' => e = .returned (.int .u32 (rot x 25)) ∧ w' = w := rturn_any x 25 w h0 h1 (by omega)
theorem rtn2 (x : Int) (w : World) (h0 : 0 ≤ x) (h1 : x < 4294967296) : Calls Tryd.prog 78 #[.int .u32 x, .int .u64 2] w fun e w' => e = .returned (.int .u32 (rot x 2)) ∧ w' = w := rturn_any x 2 w h0 h1 (by omega)
theorem rtn13 (x : Int) (w : World) (h0 : 0 ≤ x) (h1 : x < 4294967296) : Calls Tryd.prog 78 #[.int .u32 x, .int .u64 13] w fun e w' => e = .returned (.int .u32 (rot x 13)) ∧ w' = w := rturn_any x 13 w h0 h1 (by omega)
theorem rtn22 (x : Int) (w : World) (h0 : 0 ≤ x) (h1 : x < 4294967296) : Calls Tryd.prog 78 #[.int .u32 x, .int .u64 22] w fun e w' => e = .returned (.int .u32 (rot x 22)) ∧ w' = w := rturn_any x 22 w h0 h1 (by omega)

theorem step_vec (v : Nat → Int) (x : Int) (hv : ∀ j, W32 (v j)) (j : Nat) (hj : j < 8) :
    vec8 ((v 7 + xo (xo (rot (v 4) 6) (rot (v 4) 11)) (rot (v 4) 25) + bits .or .u32 (an (v 4) (v 5)) (an (no (v 4)) (v 6)) + x + (xo (xo (rot (v 0) 2) (rot (v 0) 13)) (rot (v 0) 22) + bits .or .u32 (bits .or .u32 (an (v 0) (v 1)) (an (v 0) (v 2))) (an (v 1) (v 2)))) % 4294967296)
      (v 0) (v 1) (v 2) ((v 3 + (v 7 + xo (xo (rot (v 4) 6) (rot (v 4) 11)) (rot (v 4) 25) + bits .or .u32 (an (v 4) (v 5)) (an (no (v 4)) (v 6)) + x)) % 4294967296) (v 4) (v 5) (v 6) j = stp v x j := by
  rw [or_choose _ _ _ (hv 4) (hv 5) (hv 6), or_most _ _ _ (hv 0) (hv 1) (hv 2), ← vec8_of (stp v x) j hj]
  have e0 : (v 7 + xo (xo (rot (v 4) 6) (rot (v 4) 11)) (rot (v 4) 25) + cho (v 4) (v 5) (v 6) + x + (xo (xo (rot (v 0) 2) (rot (v 0) 13)) (rot (v 0) 22) + maj (v 0) (v 1) (v 2))) % 4294967296 = stp v x 0 := by
    show _ = (t1 v x + t2 v) % 4294967296
    unfold t1 t2 hmx lmx
    omega
  have e4 : (v 3 + (v 7 + xo (xo (rot (v 4) 6) (rot (v 4) 11)) (rot (v 4) 25) + cho (v 4) (v 5) (v 6) + x)) % 4294967296 = stp v x 4 := by
    show _ = (v 3 + t1 v x) % 4294967296
    unfold t1 hmx
    omega
  rw [e0, e4]
  rfl

set_option maxRecDepth 10000 in
set_option maxHeartbeats 2000000 in
theorem step_any (v : Nat → Int) (x : Int) (w : World) (hv : ∀ j, W32 (v j)) :
    Calls Tryd.prog 54 #[.agg (cs .u32 8 v), .int .u32 x] w fun e w' => e = .returned (.agg (cs .u32 8 (stp v x))) ∧ Below w.heap.size w w' := by
  have HV : Hid (∀ j, W32 (v j)) := hv
  have l0 := (hv 0).1
  have r0 := (hv 0).2
  have l4 := (hv 4).1
  have r4 := (hv 4).2
  clear hv
  obtain ⟨RV, RR, B⟩ := startT w v 70 70 #[.int .u32 0, .int .u32 0, .int .u32 0, .int .u32 0, .int .u32 0, .int .u32 0, .int .u32 0, .int .u32 0] rfl
  have c0 := RV.cell 0 (by omega)
  have c1 := RV.cell 1 (by omega)
  have c2 := RV.cell 2 (by omega)
  have c3 := RV.cell 3 (by omega)
  have c4 := RV.cell 4 (by omega)
  have c5 := RV.cell 5 (by omega)
  have c6 := RV.cell 6 (by omega)
  have c7 := RV.cell 7 (by omega)
  go_enter Tryd.func54, Tryd.ntmps54
  go_wp2
  generalize (w.alloc (.cells (cs .u32 8 v) 70)).alloc (.cells #[.int .u32 0, .int .u32 0, .int .u32 0, .int .u32 0, .int .u32 0, .int .u32 0, .int .u32 0, .int .u32 0] 70) = W at RV RR B c0 c1 c2 c3 c4 c5 c6 c7 ⊢
  go_quiet (first | (go_at_call_of 78 (Value.int IntKind.u64 6); exact Calls.quiet_of_same (rtn6 _ _ l4 r4)) | (go_at_call_of 78 (Value.int IntKind.u64 11); exact Calls.quiet_of_same (rtn11 _ _ l4 r4)) | (go_at_call_of 78 (Value.int IntKind.u64 25); exact Calls.quiet_of_same (rtn25 _ _ l4 r4)))
  go_wp2
  have hd : ∀ a, (W.drewN nq).cell? a = W.cell? a := fun _ => rfl
  rw [← hd] at c0 c1 c2 c3 c4 c5 c6 c7
  clear hd
  have RV1 := RV.drewN nq
  have RR1 := RR.drewN nq
  have B1 := bel_drewN B nq
  generalize W.drewN nq = W1 at RV1 RR1 B1 c0 c1 c2 c3 c4 c5 c6 c7 ⊢
  go_quiet (first | (go_at_call_of 78 (Value.int IntKind.u64 2); exact Calls.quiet_of_same (rtn2 _ _ l0 r0)) | (go_at_call_of 78 (Value.int IntKind.u64 13); exact Calls.quiet_of_same (rtn13 _ _ l0 r0)) | (go_at_call_of 78 (Value.int IntKind.u64 22); exact Calls.quiet_of_same (rtn22 _ _ l0 r0)))
  have RR2 := RR1.drewN nq
  have B2 := bel_drewN B1 nq
  have d0 := RR1.cell 0 (by omega)
  have f0 := RR1.free 0 (by omega)
  have d1 := RR1.cell 1 (by omega)
  have f1 := RR1.free 1 (by omega)
  have d2 := RR1.cell 2 (by omega)
  have f2 := RR1.free 2 (by omega)
  have d3 := RR1.cell 3 (by omega)
  have f3 := RR1.free 3 (by omega)
  have d4 := RR1.cell 4 (by omega)
  have f4 := RR1.free 4 (by omega)
  have d5 := RR1.cell 5 (by omega)
  have f5 := RR1.free 5 (by omega)
  have d6 := RR1.cell 6 (by omega)
  have f6 := RR1.free 6 (by omega)
  have d7 := RR1.cell 7 (by omega)
  have f7 := RR1.free 7 (by omega)
  go_wp2
  refine bodyPost_ret (results_arr Tryd.results54 _ _ rfl (row8 RR2 _ _ _ _ _ _ _ _) Tryd.underlying70 Tryd.sz70) rfl ⟨?_, bel8 B2 (by omega) _ _ _ _ _ _ _ _⟩
  exact congrArg (fun c => Ending.returned (Value.agg c)) (cs_congr .u32 8 (fun j hj => step_vec v x HV.out j hj))
#print axioms step_any
end Go.Proofs.YtojefckhefanhaaDoor
/- What the reference's Block answers: as the program's. -/
namespace Go.Proofs.YtojefckhefanhaaDoor
open Go.RowKit

theorem step8 (v : Nat → Int) (x : Int) (w : World) (hv : ∀ j, W32 (v j)) :
    Calls Tryd.prog 54 #[.agg #[.int .u32 (v 0), .int .u32 (v 1), .int .u32 (v 2), .int .u32 (v 3), .int .u32 (v 4), .int .u32 (v 5), .int .u32 (v 6), .int .u32 (v 7)], .int .u32 x] w fun e w' =>
      e = .returned (.agg #[.int .u32 (stp v x 0), .int .u32 (stp v x 1), .int .u32 (stp v x 2), .int .u32 (stp v x 3), .int .u32 (stp v x 4), .int .u32 (stp v x 5), .int .u32 (stp v x 6), .int .u32 (stp v x 7)]) ∧ Below w.heap.size w w' :=
  step_any v x w hv

theorem oth8 {k : IntKind} {w : World} {g n gv : Nat} {f : Nat → Int} (h : Row k w g n f) (hne : g ≠ gv) (x0 x1 x2 x3 x4 x5 x6 x7 : Value) :
    Row k ((((((((w.setCell ⟨gv, 0, none⟩ x0).setCell ⟨gv, 1, none⟩ x1).setCell ⟨gv, 2, none⟩ x2).setCell ⟨gv, 3, none⟩ x3).setCell ⟨gv, 4, none⟩ x4).setCell ⟨gv, 5, none⟩ x5).setCell ⟨gv, 6, none⟩ x6).setCell ⟨gv, 7, none⟩ x7) g n f :=
  (((((((h.other _ _ hne).other _ _ hne).other _ _ hne).other _ _ hne).other _ _ hne).other _ _ hne).other _ _ hne).other _ _ hne

set_option maxRecDepth 10000 in
set_option maxHeartbeats 8000000 in
theorem rblock_any (h b : Nat → Int) (w : World) (hh : ∀ j, W32 (h j)) (hb : ∀ j, 0 ≤ b j ∧ b j < 256) :
    Calls Tryd.prog 39 #[.agg (cs .u32 8 h), .agg (cs .u8 64 b)] w fun e w' => e = .returned (.agg (cs .u32 8 (blk kk h b))) ∧ Below w.heap.size w w' := by
  have HH : Hid (∀ j, W32 (h j)) := hh
  have HB : Hid (∀ j, 0 ≤ b j ∧ b j < 256) := hb
  clear hh hb
  go_enter Tryd.func39, Tryd.ntmps39
  go_wp2_with (refine wpList_load_arr (by rfl) 74 (.tmp 3) (by rfl) (w.heap.size + 1) (by rfl) (startB w h b _ _ _ _ rfl).2.1 Tryd.underlying74 Tryd.sz74 ?_)
  obtain ⟨RH, RB, RR, B, hz⟩ := startB w h b 70 74 70 #[.int .u32 0, .int .u32 0, .int .u32 0, .int .u32 0, .int .u32 0, .int .u32 0, .int .u32 0, .int .u32 0] rfl
  generalize ((w.alloc (.cells (cs .u32 8 h) 70)).alloc (.cells (cs .u8 64 b) 74)).alloc (.cells #[.int .u32 0, .int .u32 0, .int .u32 0, .int .u32 0, .int .u32 0, .int .u32 0, .int .u32 0, .int .u32 0] 70) = W at RH RB RR B hz ⊢
  refine (words_any b _ HB.out).mono ?_
  rintro e w1 ⟨rfl, b1⟩
  have RH1 := RH.below b1 (by omega)
  have RR1 := RR.below b1 (by omega)
  have B1 : Below w.heap.size w w1 := B.trans (b1.mono (by omega))
  have hz1 : w.heap.size + 3 ≤ w1.heap.size := by have := b1.size; omega
  clear RH RB RR B hz b1
  go_wp2_with (refine wpList_store_any (by rfl) 103 (.tmp 5) (.tmp 11) (by rfl) w1.heap.size (by rfl) (by rfl) (Row.rep (n := 64) (z := 0) rfl) Tryd.sz103 (by rfl) ?_; intro W2 RS2 U2)
  have RH2 := (RH1.alloc (by omega) _).upd U2 (by rw [World.size_alloc]; omega) (by omega)
  have RR2 := (RR1.alloc (by omega) _).upd U2 (by rw [World.size_alloc]; omega) (by omega)
  have B2 : Below w.heap.size w W2 := U2.below (B1.alloc (by omega) _) (by omega) (by rw [World.size_alloc]; omega)
  have hz2 : w1.heap.size < W2.heap.size := by rw [U2.size, World.size_alloc]; omega
  clear RH1 RR1 B1 U2
  go_wp2_with fail
  refine (constants_any _).mono ?_
  rintro e w3 ⟨rfl, b3⟩
  have RH3 := RH2.below b3 (by omega)
  have RR3 := RR2.below b3 (by omega)
  have RS3 := RS2.below b3 (by omega)
  have B3 : Below w.heap.size w w3 := B2.trans (b3.mono (by omega))
  have hz3 : w1.heap.size < w3.heap.size := by have := b3.size; omega
  clear RH2 RR2 RS2 B2 hz2 b3
  go_wp2_with (first | (refine wpList_store_any (by rfl) 103 (.tmp 6) (.tmp 12) (by rfl) w3.heap.size (by rfl) (by rfl) (Row.rep (n := 64) (z := 0) rfl) Tryd.sz103 (by rfl) ?_; intro W4 RK4 U4; have RH4 := (RH3.alloc (by omega) _).upd U4 (by rw [World.size_alloc]; omega) (by omega); have RR4 := (RR3.alloc (by omega) _).upd U4 (by rw [World.size_alloc]; omega) (by omega); have RS4 := (RS3.alloc (by omega) _).upd U4 (by rw [World.size_alloc]; omega) (by omega); have B4 : Below w.heap.size w W4 := U4.below (B3.alloc (by omega) _) (by omega) (by rw [World.size_alloc]; omega); have hz4 : w3.heap.size < W4.heap.size := by (rw [U4.size, World.size_alloc]; omega)) | (refine wpList_load_arr (by rfl) 70 (.tmp 2) (by rfl) w.heap.size (by rfl) RH4 Tryd.underlying70 Tryd.sz70 ?_) | (refine wpList_store_any (by rfl) 70 (.tmp 7) (.tmp 13) (by rfl) W4.heap.size (by rfl) (by rfl) (Row.rep (n := 8) (z := 0) rfl) Tryd.sz70 (by rfl) ?_; intro W5 RV5 U5))
  have RH5 := (RH4.alloc (by omega) _).upd U5 (by rw [World.size_alloc]; omega) (by omega)
  have RR5 := (RR4.alloc (by omega) _).upd U5 (by rw [World.size_alloc]; omega) (by omega)
  have RS5 := (RS4.alloc (by omega) _).upd U5 (by rw [World.size_alloc]; omega) (by omega)
  have RK5 := (RK4.alloc (by omega) _).upd U5 (by rw [World.size_alloc]; omega) (by omega)
  have B5 : Below w.heap.size w W5 := U5.below (B4.alloc (by omega) _) (by omega) (by rw [World.size_alloc]; omega)
  have hz5 : W4.heap.size < W5.heap.size := by rw [U5.size, World.size_alloc]; omega
  clear RH4 RR4 RS4 RK4 B4 U5 RH3 RR3 RS3 B3 U4
  go_wp2
  have hzk : w1.heap.size < w3.heap.size := hz3
  have hzv : w3.heap.size < W4.heap.size := hz4
  clear hz3 hz4
  generalize w1.heap.size = gw at RS5 hz1 hzk ⊢
  generalize w3.heap.size = gk at RK5 hzk hzv ⊢
  generalize W4.heap.size = gv at RV5 hzv hz5 ⊢
  go_loopw [8] (fun i wr => ∃ k : Nat, k ≤ 64 ∧ i = .int .i64 k ∧ Row .u32 wr w.heap.size 8 h ∧ Row .u32 wr (w.heap.size + 1 + 1) 8 (fun _ => 0) ∧ Row .u32 wr gw 64 (sch b 64) ∧ Row .u32 wr gk 64 kk ∧ Row .u32 wr gv 8 (rnd kk h (sch b 64) k) ∧ Below w.heap.size w wr ∧ gv < wr.heap.size) (fun i _ => 64 - (intOf i).toNat)
  case atStart => exact ⟨0, by omega, rfl, RH5, RR5, RS5, RK5, RV5, B5, hz5⟩
  case round =>
    obtain ⟨k, hk, rfl, RH, RR, RS, RK, RV, B, hz⟩ := hrel
    clear RH5 RR5 RS5 RK5 RV5 B5 hz5
    by_cases hlt : k < 64
    · have hst : Hid (stp (rnd kk h (sch b 64) k) (pl (kk k) (sch b 64 k)) = rnd kk h (sch b 64) (k + 1)) := rfl
      have hv : Hid (∀ j, W32 (rnd kk h (sch b 64) k j)) := rnd_w kk h (sch b 64) HH.out k
      have ck := RK.cell k (by omega)
      have cw := RS.cell k (by omega)
      generalize rnd kk h (sch b 64) k = v at hst hv RV
      generalize hwk : sch b 64 k = wk at hst cw
      generalize hkk : kk k = qk at hst ck
      clear hwk hkk
      have hgh : w.heap.size < wr.heap.size := by omega
      have hgr : w.heap.size + 1 + 1 < wr.heap.size := by omega
      have hgw : gw < wr.heap.size := by omega
      have hgk : gk < wr.heap.size := by omega
      have c0 := RV.cell 0 (by omega)
      have c1 := RV.cell 1 (by omega)
      have c2 := RV.cell 2 (by omega)
      have c3 := RV.cell 3 (by omega)
      have c4 := RV.cell 4 (by omega)
      have c5 := RV.cell 5 (by omega)
      have c6 := RV.cell 6 (by omega)
      have c7 := RV.cell 7 (by omega)
      go_wp2
      go_region_with (go_at_call 54; refine (step8 v _ _ hv.out).mono ?_; rintro e w6 ⟨rfl, b6⟩; have RV6 := RV.drew.below b6 hz; have d0 := RV6.cell 0 (by omega); have d1 := RV6.cell 1 (by omega); have d2 := RV6.cell 2 (by omega); have d3 := RV6.cell 3 (by omega); have d4 := RV6.cell 4 (by omega); have d5 := RV6.cell 5 (by omega); have d6 := RV6.cell 6 (by omega); have d7 := RV6.cell 7 (by omega); have f0 := RV6.free 0 (by omega); have f1 := RV6.free 1 (by omega); have f2 := RV6.free 2 (by omega); have f3 := RV6.free 3 (by omega); have f4 := RV6.free 4 (by omega); have f5 := RV6.free 5 (by omega); have f6 := RV6.free 6 (by omega); have f7 := RV6.free 7 (by omega); have RH6 := RH.drew.below b6 hgh; have RR6 := RR.drew.below b6 hgr; have RS6 := RS.drew.below b6 hgw; have RK6 := RK.drew.below b6 hgk; have B6 : Below w.heap.size w w6 := B.drew.trans (b6.mono B.size); have hz6 : gv < w6.heap.size := Nat.lt_of_lt_of_le hz b6.size)
      all_goals go_wp2
      all_goals
        go_roundw
        case rel =>
          refine ⟨k + 1, by omega, by go_num, oth8 RH6 (by omega) _ _ _ _ _ _ _ _, oth8 RR6 (by omega) _ _ _ _ _ _ _ _, oth8 RS6 (by omega) _ _ _ _ _ _ _ _, oth8 RK6 (by omega) _ _ _ _ _ _ _ _, (row8 RV6 _ _ _ _ _ _ _ _).congr (fun j hj => ?_), bel8 B6 (by omega) _ _ _ _ _ _ _ _, by simp only [World.size_setCell]; exact hz6⟩
          rw [← hst.out]
          exact vec8_of _ j hj
        case measure => simp [intOf]; omega
    · obtain rfl : k = 64 := by omega
      have hbl : Hid (∀ j, (rnd kk h (sch b 64) 64 j + h j) % 4294967296 = blk kk h b j) := fun j => by unfold blk pl; rw [Int.add_comm]
      clear RS RK
      generalize rnd kk h (sch b 64) 64 = v at hbl RV
      go_wp2
      go_loopw [9] (fun i wr => ∃ m : Nat, m ≤ 8 ∧ i = .int .i64 m ∧ Row .u32 wr w.heap.size 8 h ∧ Row .u32 wr (w.heap.size + 1 + 1) 8 (fun _ => 0) ∧ Row .u32 wr gv 8 (fun j => if j < m then (v j + h j) % 4294967296 else v j) ∧ Below w.heap.size w wr ∧ gv < wr.heap.size) (fun i _ => 8 - (intOf i).toNat)
      case atStart => exact ⟨0, by omega, rfl, RH, RR, RV.congr (fun j _ => by simp), B, hz⟩
      case round =>
        obtain ⟨m, hm, rfl, RH, RR, RV, B, hz⟩ := hrel
        by_cases hml : m < 8
        · have c0 := RH.cell m hml
          have d0 := RV.cell m hml
          rw [if_neg (by omega)] at d0
          have f0 := RV.free m hml
          go_wp2
          go_region
          all_goals go_wp2
          all_goals
            go_roundw
            case rel =>
              refine ⟨m + 1, by omega, by go_num, (RH.other _ _ (show w.heap.size ≠ gv by omega)).drew, (RR.other _ _ (show w.heap.size + 1 + 1 ≠ gv by omega)).drew, ((RV.set m _ hml).congr (fun j _ => ?_)).drew, (B.setCell (show w.heap.size ≤ gv by omega) _).drew, by simp; omega⟩
              by_cases e : j = m
              · subst e; rw [if_pos rfl, if_pos (by omega)]
              · rw [if_neg e]
                by_cases g : j < m
                · rw [if_pos g, if_pos (by omega)]
                · rw [if_neg g, if_neg (by omega)]
            case measure => simp [intOf]; omega
        · obtain rfl : m = 8 := by omega
          go_wp2_with (first | (refine wpList_load_arr (by rfl) 70 (.tmp 7) (by rfl) gv (by rfl) RV Tryd.underlying70 Tryd.sz70 ?_) | (refine wpList_store_any (by rfl) 70 (.tmp 4) (.tmp 39) (by rfl) (w.heap.size + 1 + 1) (by rfl) (by rfl) RR Tryd.sz70 (by rfl) ?_; intro W9 R9 U9))
          refine bodyPost_ret (results_arr Tryd.results39 _ _ rfl R9 Tryd.underlying70 Tryd.sz70) rfl ⟨?_, U9.below B (by omega) B.size⟩
          exact congrArg (fun c => Ending.returned (Value.agg c)) (cs_congr .u32 8 (fun j hj => by rw [if_pos hj]; exact hbl.out j))
#print axioms rblock_any
end Go.Proofs.YtojefckhefanhaaDoor
/- The program's padding: what sha.Pad answers for every n from 0 on. -/
namespace Go.Proofs.YtojefckhefanhaaDoor
open Go.RowKit
theorem Tryd.infoS5 : (Tryd.prog.info? 5).map (fun i => (i.zero, i.size, i.bytes)) = some (some (.int .u8 0), 1, 1) := by kernel_rfl
/-- Byte j of the padding behind n bytes, z noughts in it, its last k bytes written. -/
def padFn (n : Int) (z k j : Nat) : Int := if j = 0 then 128 else if z + 9 - k ≤ j then (8 * n) % 18446744073709551616 / 2 ^ (8 * (z + 8 - j)) % 256 else 0
theorem padFn_step (n : Int) (z k j : Nat) (hk : k < 8) : (if j = z + 8 - k then 8 * n % 18446744073709551616 / 2 ^ (8 * k) % 256 else padFn n z k j) = padFn n z (k + 1) j := by
  unfold padFn
  by_cases e : j = z + 8 - k
  · subst e
    rw [if_pos rfl, if_neg (by omega), if_pos (by omega)]
    rw [show z + 8 - (z + 8 - k) = k from by omega]
  · rw [if_neg e]
    by_cases e0 : j = 0
    · rw [if_pos e0, if_pos e0]
    · rw [if_neg e0, if_neg e0]
      by_cases e1 : z + 9 - k ≤ j
      · rw [if_pos e1, if_pos (by omega)]
      · rw [if_neg e1, if_neg (by omega)]
set_option maxRecDepth 10000 in
set_option maxHeartbeats 400000 in
theorem pad_any (n : Int) (z : Nat) (w : World) (h0 : 0 ≤ n) (h1 : n ≤ 9223372036854775807) (hz : (z : Int) = (119 - n % 64) % 64) :
    Calls Tryd.prog 33 #[.int .i64 n] w fun e w' => e = .returned (.string (strFn (z + 9) (padFn n z 8))) ∧ Below w.heap.size w w' := by
  obtain ⟨i0, hi, hz0, hz1, hz2⟩ := info_parts Tryd.infoS5
  have hz' : z < 64 := by omega
  have HZ : Hid ((z : Int) = (119 - n % 64) % 64) := hz
  have e1 : (1 + (119 - n) % 64 + 8 : Int) = ((z + 9 : Nat) : Int) := by omega
  have E1 : Hid ((1 + (119 - n) % 64 + 8 : Int) = ((z + 9 : Nat) : Int)) := e1
  clear e1 hz
  go_enter Tryd.func33, Tryd.ntmps33
  go_wp2_with fail
  rw [E1.out]
  rw [run_make (P := Tryd.prog) w 38 5 i0 (.int .u8 0) Tryd.underlying38 hi hz0 .i64 .i64 _ _ (by omega) (by omega) (by rw [hz2]; omega) (by omega)]
  have R0 : Row .u8 (w.alloc (.cells (madeCells (Value.int .u8 0).cells ((((z + 9 : Nat) : Int)).toNat * i0.size)) 5)) w.heap.size (z + 9) (fun _ => 0) := Row.made (by rw [hz1]; omega)
  have B0 : Below w.heap.size w (w.alloc (.cells (madeCells (Value.int .u8 0).cells ((((z + 9 : Nat) : Int)).toNat * i0.size)) 5)) := (Below.refl _ _).alloc (Nat.le_refl _) _
  have S0 : w.heap.size < (w.alloc (.cells (madeCells (Value.int .u8 0).cells ((((z + 9 : Nat) : Int)).toNat * i0.size)) 5)).heap.size := by simp
  generalize w.alloc (.cells (madeCells (Value.int .u8 0).cells ((((z + 9 : Nat) : Int)).toNat * i0.size)) 5) = W1 at R0 B0 S0 ⊢
  rw [Int.toNat_natCast]
  have c0 := R0.cell 0 (by omega)
  have f0 := R0.free 0 (by omega)
  clear hi hz0 hz1 hz2
  go_wp2
  have B1 : Hid (IntKind.u64.wrap (8 * n) = (8 * n) % 18446744073709551616) := by unfold Hid; rw [IntKind.wrap_u64]
  go_loopw [22] (fun i wr => ∃ k : Nat, k ≤ 8 ∧ i = .int .i64 k ∧ Row .u8 wr w.heap.size (z + 9) (padFn n z k) ∧ Below w.heap.size w wr) (fun i _ => 8 - (intOf i).toNat)
  case atStart =>
    refine ⟨0, by omega, rfl, (R0.set 0 128 (by omega)).congr (fun j hj => ?_), B0.setCell (Nat.le_refl _) _⟩
    unfold padFn
    by_cases e : j = 0
    · simp [e]
    · simp [e]; omega
  case round =>
    obtain ⟨k, hk, rfl, R, B⟩ := hrel
    by_cases hlt : k < 8
    · have c1 := R.cell (z + 8 - k) (by omega)
      have f1 := R.free (z + 8 - k) (by omega)
      go_wp2
      go_roundw
      case rel =>
        refine ⟨k + 1, by omega, by go_num, (R.set (z + 8 - k) _ (by omega)).congr (fun j hj => ?_), B.setCell (Nat.le_refl _) _⟩
        rw [B1.out]
        exact padFn_step n z k j hlt
      case measure => simp [intOf]; omega
    · have c1 := run_string_row (P := Tryd.prog) (src := 38) (dst := 9) (c := z + 9) Tryd.underlying38 Tryd.underlying5 Tryd.underlying9 R
      obtain rfl : k = 8 := by omega
      go_wp2
      go_ret
      exact ⟨rfl, B⟩
#print axioms pad_any
end Go.Proofs.YtojefckhefanhaaDoor
/- The document's padding: what the reference's Pad answers for every n from 0 on: the same string. -/
namespace Go.Proofs.YtojefckhefanhaaDoor
open Go.RowKit
theorem padFn_low (n : Int) (z j : Nat) (h : j < z + 1) : padFn n z 0 j = padFn n z 8 j := by
  unfold padFn
  by_cases e : j = 0
  · rw [if_pos e, if_pos e]
  · rw [if_neg e, if_neg e, if_neg (by omega), if_neg (by omega)]
set_option maxRecDepth 10000 in
set_option maxHeartbeats 400000 in
theorem rpad_any (n : Int) (z : Nat) (w : World) (h0 : 0 ≤ n) (h1 : n ≤ 9223372036854775807) (hz : (z : Int) = (119 - n % 64) % 64) :
    Calls Tryd.prog 37 #[.int .i64 n] w fun e w' => e = .returned (.string (strFn (z + 9) (padFn n z 8))) ∧ Below w.heap.size w w' := by
  have hz' : z < 64 := by omega
  have HZ : Hid ((z : Int) = (119 - n % 64) % 64) := hz
  clear hz
  go_enter Tryd.func37, Tryd.ntmps37
  go_wp2
  go_loop [3] (fun p => ∃ m : Nat, m ≤ z ∧ p = .string (strFn (m + 1) (padFn n z 0))) (fun p => match p with | .string s => z + 1 - s.size | _ => 0)
  case atStart => exact ⟨0, by omega, rfl⟩
  case round =>
    obtain ⟨m, hm, rfl⟩ := hrel
    have hs := strFn_size (m + 1) (padFn n z 0)
    by_cases hlt : m = z
    · subst hlt
      have ht : ((n % 64 + (m + 1)) % 64 != 56) = false := by have := HZ.out; simp; omega
      go_wp2
      have B1 : Hid (IntKind.u64.wrap (n * 8) = (8 * n) % 18446744073709551616) := by unfold Hid; rw [IntKind.wrap_u64, Int.mul_comm]
      rw [show strFn (m + 1) (padFn n m 0) = strFn (m + 1 + 0) (padFn n m 8) from strFn_congr (fun j hj => padFn_low n m j hj)]
      clear hs
      go_loopw [3, 5] (fun p i wr => ∃ k : Nat, k ≤ 8 ∧ i = .int .i64 (7 - (k : Int)) ∧ p = .string (strFn (m + 1 + k) (padFn n m 8)) ∧ Below w.heap.size w wr) (fun _ i _ => (intOf i + 1).toNat)
      case atStart => exact ⟨0, by omega, rfl, rfl, Below.refl _ _⟩
      case round =>
        obtain ⟨k, hk, rfl, rfl, B⟩ := hrel
        by_cases hlt : k < 8
        · have hs := strFn_size (m + 1 + k) (padFn n m 8)
          have hq : 0 ≤ 7 - (k : Int) := by omega
          have bsz := B.size
          have kc := fun x => run_string_one (P := Tryd.prog) wr 38 9 5 1 x Tryd.underlying38 Tryd.underlying5 Tryd.underlying9
          go_wp2
          go_roundw
          case rel =>
            refine ⟨k + 1, by omega, by go_num, ?_, B.alloc bsz _⟩
            rw [B1.out]
            have q0 : 0 ≤ 8 * n % 18446744073709551616 / 2 ^ (8 * (7 - k)) := Int.ediv_nonneg (by omega) (Int.le_of_lt (Int.pow_pos (by omega)))
            have q1 : 8 * n % 18446744073709551616 / 2 ^ (8 * (7 - k)) < 18446744073709551616 := Int.lt_of_le_of_lt (Int.ediv_le_self _ (by omega)) (by omega)
            rw [and255_u64 _ q0 q1, strFn_snoc (m + 1 + k) (padFn n m 8) _ (by
              unfold padFn
              rw [if_neg (by omega), if_pos (by omega), show m + 8 - (m + 1 + k) = 7 - k from by omega, Int.emod_emod])]
            rfl
          case measure => simp [intOf]; omega
        · obtain rfl : k = 8 := by omega
          have hq : ¬ (0 ≤ 7 - ((8 : Nat) : Int)) := by omega
          go_wp2
          go_ret
          exact ⟨rfl, B⟩
    · have ht : ((n % 64 + (m + 1)) % 64 != 56) = true := by have := HZ.out; simp; omega
      go_wp2
      go_round
      case rel =>
        refine ⟨m + 1, by omega, ?_⟩
        rw [strFn_snoc (m + 1) (padFn n z 0) 0 (by unfold padFn; rw [if_neg (by omega), if_neg (by omega)]; rfl)]
      case measure =>
        have e1 : ({ data := #[0] } : ByteArray).size = 1 := rfl
        simp only [ByteArray.size_append, hs, e1]; omega
end Go.Proofs.YtojefckhefanhaaDoor
/- The padding as a function of n. -/
namespace Go.Proofs.YtojefckhefanhaaDoor
open Go.RowKit
set_option maxRecDepth 10000 in
set_option maxHeartbeats 400000 in
theorem pad_neg (n : Int) (w : World) (h0 : n < 0) : Calls Tryd.prog 33 #[.int .i64 n] w fun e w' => e = .returned (.string ⟨#[]⟩) ∧ Below w.heap.size w w' := by
  go_enter Tryd.func33, Tryd.ntmps33
  go_wp2
  go_ret
  exact ⟨rfl, Below.refl _ _⟩
set_option maxRecDepth 10000 in
set_option maxHeartbeats 400000 in
theorem rpad_neg (n : Int) (w : World) (h0 : n < 0) : Calls Tryd.prog 37 #[.int .i64 n] w fun e w' => e = .returned (.string ⟨#[]⟩) ∧ Below w.heap.size w w' := by
  go_enter Tryd.func37, Tryd.ntmps37
  go_wp2
  go_ret
  exact ⟨rfl, Below.refl _ _⟩
/-- The padding as a function of n. -/
def padStr (n : Int) : ByteArray := if n < 0 then ⟨#[]⟩ else strFn (((119 - n % 64) % 64).toNat + 9) (padFn n ((119 - n % 64) % 64).toNat 8)
theorem pad_all (n : Int) (w : World) (h1 : n ≤ 9223372036854775807) : Calls Tryd.prog 33 #[.int .i64 n] w fun e w' => e = .returned (.string (padStr n)) ∧ Below w.heap.size w w' := by
  unfold padStr
  by_cases h : n < 0
  · rw [if_pos h]; exact pad_neg n w h
  · rw [if_neg h]; exact pad_any n _ w (by omega) h1 (by omega)
theorem rpad_all (n : Int) (w : World) (h1 : n ≤ 9223372036854775807) : Calls Tryd.prog 37 #[.int .i64 n] w fun e w' => e = .returned (.string (padStr n)) ∧ Below w.heap.size w w' := by
  unfold padStr
  by_cases h : n < 0
  · rw [if_pos h]; exact rpad_neg n w h
  · rw [if_neg h]; exact rpad_any n _ w (by omega) h1 (by omega)
end Go.Proofs.YtojefckhefanhaaDoor
/- The words with which a digest begins; the words behind a message's blocks; the digest's bytes. -/
namespace Go.Proofs.YtojefckhefanhaaDoor
open Go.RowKit
def stl : List Int := [1779033703, 3144134277, 1013904242, 2773480762, 1359893119, 2600822924, 528734635, 1541459225]
def stw (i : Nat) : Int := stl.getD i 0
theorem stw_w (j : Nat) : W32 (stw j) := by
  by_cases h : j < 8
  · rcases (show j = 0 ∨ j = 1 ∨ j = 2 ∨ j = 3 ∨ j = 4 ∨ j = 5 ∨ j = 6 ∨ j = 7 from by omega) with rfl | rfl | rfl | rfl | rfl | rfl | rfl | rfl
    all_goals exact ⟨by decide, by decide⟩
  · have : stw j = 0 := by
      unfold stw stl
      rw [List.getD_eq_getElem?_getD, List.getElem?_eq_none (by simp; omega)]
      rfl
    rw [this]
    exact ⟨by decide, by decide⟩
/-- The words behind t blocks of the bytes m. -/
def hw (m : Nat → Int) : Nat → Nat → Int
  | 0 => stw
  | t + 1 => blk kk (hw m t) (fun j => m (64 * t + j))
theorem hw_w (m : Nat → Int) (t j : Nat) : W32 (hw m t j) := by
  cases t with
  | zero => exact stw_w j
  | succ t => exact blk_w _ _ _ _
/-- Byte i of the digest that eight words are. -/
def dg (h : Nat → Int) (i : Nat) : Int := h (i / 4) / 2 ^ (8 * (3 - i % 4)) % 256
/-- The first n of f, noughts behind. -/
def upF (f : Nat → Int) (n x : Nat) : Int := if x < n then f x else 0
theorem upF_set (f : Nat → Int) (n x : Nat) : (if x = n then f n else upF f n x) = upF f (n + 1) x := by
  unfold upF
  by_cases e : x = n
  · rw [if_pos e, if_pos (by omega), e]
  · rw [if_neg e]
    by_cases h : x < n
    · rw [if_pos h, if_pos (by omega)]
    · rw [if_neg h, if_neg (by omega)]
theorem upF_all (f : Nat → Int) (n x : Nat) (h : x < n) : upF f n x = f x := by unfold upF; rw [if_pos h]
theorem upF_zero (f : Nat → Int) (x : Nat) : upF f 0 x = 0 := by unfold upF; rw [if_neg (by omega)]

set_option maxRecDepth 100000 in
set_option maxHeartbeats 4000000 in
theorem rstart_any (w : World) : Calls Tryd.prog 38 #[] w fun e w' => e = .returned (.agg (cs .u32 8 stw)) ∧ Below w.heap.size w w' := by
  go_enter Tryd.func38, Tryd.ntmps38
  go_wp2_with (refine wpList_store_any (f := stw) (by rfl) 70 (.tmp 0) (.tmp 1) (by rfl) w.heap.size (by rfl) (by rfl) (Row.rep (n := 8) (z := 0) rfl) Tryd.sz70 (by rfl) ?_; intro W2 RS2 U2)
  exact bodyPost_ret (results_arr Tryd.results38 _ _ rfl RS2 Tryd.underlying70 Tryd.sz70) rfl ⟨rfl, U2.below ((Below.refl _ _).alloc (Nat.le_refl _) _) (Nat.le_refl _) (by rw [World.size_alloc]; omega)⟩

set_option maxRecDepth 100000 in
set_option maxHeartbeats 4000000 in
theorem startWords_any (w : World) : Calls Tryd.prog 30 #[] w fun e w' => e = .returned (.agg (cs .u32 8 stw)) ∧ Below w.heap.size w w' := by
  go_enter Tryd.func30, Tryd.ntmps30
  go_wp2_with (refine wpList_store_any (f := stw) (by rfl) 70 (.tmp 0) (.tmp 1) (by rfl) w.heap.size (by rfl) (by rfl) (Row.rep (n := 8) (z := 0) rfl) Tryd.sz70 (by rfl) ?_; intro W2 RS2 U2)
  exact bodyPost_ret (results_arr Tryd.results30 _ _ rfl RS2 Tryd.underlying70 Tryd.sz70) rfl ⟨rfl, U2.below ((Below.refl _ _).alloc (Nat.le_refl _) _) (Nat.le_refl _) (by rw [World.size_alloc]; omega)⟩

/-- The message with its padding. -/
def msg (s : ByteArray) : ByteArray := s ++ padStr s.size
theorem padStr_size (n : Nat) : (padStr n).size = ((119 - (n : Int) % 64) % 64).toNat + 9 := by
  unfold padStr
  rw [if_neg (by omega), strFn_size]
/-- How many blocks the message has. -/
def nb (s : ByteArray) : Nat := (s.size + 72) / 64
theorem msg_size (s : ByteArray) : (msg s).size = 64 * nb s := by
  unfold msg nb
  rw [ByteArray.size_append, padStr_size]
  omega
#print axioms startWords_any
#print axioms msg_size
end Go.Proofs.YtojefckhefanhaaDoor
/- What sha.digestOf answers. -/
namespace Go.Proofs.YtojefckhefanhaaDoor
open Go.RowKit
theorem Tryd.sz24 : (Tryd.prog.info? 24).map (·.size) = some 32 := by kernel_rfl
theorem Tryd.und24 : Tryd.prog.underlying 24 = some (.array 32 5) := by kernel_rfl
theorem run_part_cs' {P : Program} (w : World) (e : TypeId) (k k' : IntKind) (n : Nat) (f : Nat → Int) (he : P.underlying e = some (.int k')) (j : Nat) (hj : j < n) : (part e (cs k n f) j).run P w = .ok (.int k (f j)) w := by
  simp [part, isAgg, run_underlying he, cs_get k n f j hj]

theorem run_index_cs {P : Program} (w : World) (t e : TypeId) (k k' : IntKind) (n : Nat) (f : Nat → Int) {i : TypeInfo} (hu : P.underlying t = some (.array n e)) (he : P.underlying e = some (.int k')) (hi : P.info? e = some i) (h1 : i.size = 1) (j : Nat) (hj : j < n) :
    (Instr.index t (.agg (cs k n f)) (.int .i64 j)).run P w = .ok (.int k (f j)) w := by
  simp [Instr.index, asIntOf, run_underlying hu, sizeOf, typeInfo, hi, h1, run_part_cs' w e k k' n f he j hj]
  omega
theorem dg_step (h : Nat → Int) (k : Nat) (h0 : 0 ≤ h k) (h1 : h k < 4294967296) (x : Nat) :
    (if x = 4 * k + 3 then h k % 256 else if x = 4 * k + 2 then h k / 256 % 256 else if x = 4 * k + 1 then h k / 65536 % 256 else if x = 4 * k then h k / 16777216 else upF (dg h) (4 * k) x) = upF (dg h) (4 * (k + 1)) x := by
  have e0 : dg h (4 * k) = h k / 16777216 := by
    unfold dg
    rw [show 4 * k / 4 = k from by omega, show 4 * k % 4 = 0 from by omega]
    show h k / 16777216 % 256 = _
    omega
  have e1 : dg h (4 * k + 1) = h k / 65536 % 256 := by
    unfold dg
    rw [show (4 * k + 1) / 4 = k from by omega, show (4 * k + 1) % 4 = 1 from by omega]
    rfl
  have e2 : dg h (4 * k + 2) = h k / 256 % 256 := by
    unfold dg
    rw [show (4 * k + 2) / 4 = k from by omega, show (4 * k + 2) % 4 = 2 from by omega]
    rfl
  have e3 : dg h (4 * k + 3) = h k % 256 := by
    unfold dg
    rw [show (4 * k + 3) / 4 = k from by omega, show (4 * k + 3) % 4 = 3 from by omega]
    show h k / 1 % 256 = _
    rw [Int.ediv_one]
  rw [← e0, ← e1, ← e2, ← e3, upF_set, upF_set, upF_set, upF_set]
  rfl

set_option maxRecDepth 100000 in
set_option maxHeartbeats 4000000 in
theorem digestOf_any (h : Nat → Int) (w : World) (hh : ∀ j, W32 (h j)) :
    Calls Tryd.prog 34 #[.agg (cs .u32 8 h)] w fun e w' => e = .returned (.agg (cs .u8 32 (dg h))) ∧ Below w.heap.size w w' := by
  have HW : Hid (∀ j, W32 (h j)) := hh
  clear hh
  obtain ⟨i27, hi27, hs27⟩ : ∃ i, Tryd.prog.info? 69 = some i ∧ i.size = 1 := by
    have h : (Tryd.prog.info? 69).map (·.size) = some 1 := by kernel_rfl
    obtain ⟨i, h1, h2⟩ := Option.map_eq_some_iff.1 h
    exact ⟨i, h1, h2⟩
  go_enter Tryd.func34, Tryd.ntmps34
  go_wp2_with (refine wpList_load_arr (by rfl) 70 (.tmp 1) (by rfl) w.heap.size (by rfl) (((Row.box (e := 70)).alloc (by rw [World.size_alloc]; omega) _).alloc (by rw [World.size_alloc, World.size_alloc]; omega) _) Tryd.underlying70 Tryd.sz70 ?_)
  go_loopw [7] (fun i wr => ∃ k : Nat, k ≤ 8 ∧ i = .int .i64 k ∧ Row .u8 wr (w.heap.size + 1 + 1) 32 (upF (dg h) (4 * k)) ∧ Row .u8 wr (w.heap.size + 1) 32 (fun _ => 0) ∧ Below w.heap.size w wr ∧ w.heap.size + 1 + 1 < wr.heap.size) (fun i _ => 8 - (intOf i).toNat)
  case atStart =>
    refine ⟨0, Nat.zero_le _, rfl, ?_, ?_, ?_, ?_⟩
    · have r : Row .u8 (((w.alloc (.cells (cs .u32 8 h) 70)).alloc (.cells (Array.replicate 32 (.int .u8 0)) 24)).alloc (.cells (Array.replicate 32 (.int .u8 0)) 24)) ((w.alloc (.cells (cs .u32 8 h) 70)).alloc (.cells (Array.replicate 32 (.int .u8 0)) 24)).heap.size 32 (fun _ => 0) := Row.rep rfl
      rw [World.size_alloc, World.size_alloc] at r
      exact r.congr (fun x _ => (upF_zero _ x).symm)
    · have r : Row .u8 ((w.alloc (.cells (cs .u32 8 h) 70)).alloc (.cells (Array.replicate 32 (.int .u8 0)) 24)) (w.alloc (.cells (cs .u32 8 h) 70)).heap.size 32 (fun _ => 0) := Row.rep rfl
      rw [World.size_alloc] at r
      exact r.alloc (by rw [World.size_alloc, World.size_alloc]; omega) _
    · exact (((Below.refl _ _).alloc (Nat.le_refl _) _).alloc (by rw [World.size_alloc]; omega) _).alloc (by rw [World.size_alloc, World.size_alloc]; omega) _
    · rw [World.size_alloc, World.size_alloc, World.size_alloc]; omega
  case round =>
    obtain ⟨k, hk, rfl, RD, R, B, z⟩ := hrel
    by_cases hlt : k < 8
    · have hcs := run_index_cs (P := Tryd.prog) wr 70 69 .u32 .u32 8 h Tryd.underlying70 Tryd.underlying69 hi27 hs27 k hlt
      have hx0 := (HW.out k).1
      have hx1 := (HW.out k).2
      have c0 := RD.cell (4 * k) (by omega)
      have f0 := RD.free (4 * k) (by omega)
      have c1 := RD.cell (4 * k + 1) (by omega)
      have f1 := RD.free (4 * k + 1) (by omega)
      have c2 := RD.cell (4 * k + 2) (by omega)
      have f2 := RD.free (4 * k + 2) (by omega)
      have c3 := RD.cell (4 * k + 3) (by omega)
      have f3 := RD.free (4 * k + 3) (by omega)
      go_wp2
      go_roundw
      case rel =>
        refine ⟨k + 1, by omega, by go_num, ((((RD.set (4 * k) _ (by omega)).set (4 * k + 1) _ (by omega)).set (4 * k + 2) _ (by omega)).set (4 * k + 3) _ (by omega)).congr (fun x _ => dg_step h k hx0 hx1 x),
          (((R.other _ _ (by simp)).other _ _ (by simp)).other _ _ (by simp)).other _ _ (by simp), (((B.setCell (by simp; omega) _).setCell (by simp; omega) _).setCell (by simp; omega) _).setCell (by simp; omega) _, by simp only [World.size_setCell]; exact z⟩
      case measure => simp [intOf]; omega
    · obtain rfl : k = 8 := by omega
      have RD' : Row .u8 wr (w.heap.size + 1 + 1) 32 (dg h) := RD.congr (fun x hx => upF_all _ (4 * 8) x (by omega))
      clear RD
      go_wp2_with (first | refine wpList_load_arr (by rfl) 24 (.tmp 3) (by rfl) (w.heap.size + 1 + 1) (by rfl) RD' Tryd.und24 Tryd.sz24 ?_ | (refine wpList_store_any (by rfl) 24 (.tmp 2) (.tmp 38) (by rfl) (w.heap.size + 1) (by rfl) (by rfl) R Tryd.sz24 (by rfl) ?_; intro W7 R7 U7))
      exact bodyPost_ret (results_arr Tryd.results34 _ _ rfl R7 Tryd.und24 Tryd.sz24) rfl ⟨rfl, U7.below B (by omega) (by omega)⟩
#print axioms digestOf_any
end Go.Proofs.YtojefckhefanhaaDoor
/- A digest's State in memory; what sha.New answers. -/
namespace Go.Proofs.YtojefckhefanhaaDoor
open Go.RowKit
/-- Block g is a State: n bytes written, the words h, the block f. -/
structure Stt (w : World) (g : Nat) (n : Int) (h f : Nat → Int) : Prop where
  c0 : w.cell? ⟨g, 0, none⟩ = some (.int .i64 n)
  cw : ∀ j, j < 8 → w.cell? ⟨g, 1 + j, none⟩ = some (.int .u32 (h j))
  cb : ∀ j, j < 64 → w.cell? ⟨g, 9 + j, none⟩ = some (.int .u8 (f j))
  fr : ∀ j, j < 73 → w.frozen? ⟨g, j, none⟩ = false

/-- A State of noughts. -/
def zst : Array Value := (Value.int .i64 0 :: (List.replicate 8 (Value.int .u32 0) ++ List.replicate 64 (Value.int .u8 0))).toArray
/-- A State with nothing written, the words h. -/
def hst (h : Nat → Int) : Array Value := (Value.int .i64 0 :: ((List.range 8).map (fun i => Value.int .u32 (h i)) ++ List.replicate 64 (Value.int .u8 0))).toArray
theorem zst_size : zst.size = 73 := by simp [zst]
theorem hst_fold (h : Nat → Int) : Array.foldl (fun cs x => cs.setIfInBounds (1 + x.snd) x.fst) zst (cs .u32 8 h).zipIdx 0 8 = hst h := by kernel_rfl
theorem Tryd.zero76 : (Tryd.prog.info? 76).map (fun i => i.zero) = some (some (.agg zst)) := by kernel_rfl
theorem run_zero_st (w : World) : (zeroValue 76).run Tryd.prog w = .ok (.agg zst) w := by
  obtain ⟨i, hi, hz⟩ := Option.map_eq_some_iff.1 Tryd.zero76
  simp [zeroValue, typeInfo, hi, hz]
theorem Stt.made (w : World) (e : TypeId) (h : Nat → Int) : Stt (w.alloc (.cells (hst h) e)) w.heap.size 0 h (fun _ => 0) := by
  refine ⟨by rw [World.cell?_alloc_new]; simp [hst], fun j hj => ?_, fun j hj => ?_, fun j _ => World.frozen?_alloc_new w _ _ _⟩
  · rw [World.cell?_alloc_new, hst, List.getElem?_toArray, Nat.add_comm 1 j, List.getElem?_cons_succ, List.getElem?_append_left (by simp; omega)]
    simp [hj]
  · rw [World.cell?_alloc_new, hst, List.getElem?_toArray, show 9 + j = (8 + j) + 1 from by omega, List.getElem?_cons_succ, List.getElem?_append_right (by simp), List.length_map, List.length_range, show 8 + j - 8 = j from by omega, List.getElem?_replicate, if_pos hj]

set_option maxRecDepth 100000 in
set_option maxHeartbeats 4000000 in
theorem new_any (w : World) : Calls Tryd.prog 12 #[] w fun e w' => ∃ g, e = .returned (.pointer (some ⟨g, 0, none⟩)) ∧ w.heap.size ≤ g ∧ g < w'.heap.size ∧ Stt w' g 0 stw (fun _ => 0) ∧ Below w.heap.size w w' := by
  have q1 := run_zero_st
  have q2 := zst_size
  have q3 := hst_fold stw
  have q4 := cs_size .u32 8 stw
  go_enter Tryd.func12, Tryd.ntmps12
  go_wp2_with fail
  refine (startWords_any _).mono ?_
  rintro e w1 ⟨rfl, b1⟩
  go_wp2
  go_ret
  exact ⟨_, rfl, b1.size, by rw [World.size_alloc]; omega, Stt.made _ _ _, b1.alloc b1.size _⟩
#print axioms new_any
end Go.Proofs.YtojefckhefanhaaDoor
