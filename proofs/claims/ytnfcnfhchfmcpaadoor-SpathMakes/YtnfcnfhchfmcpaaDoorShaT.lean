/- What the reference's constants, step and Block answer. -/
import Derived.Test.YtnfcnfhchfmcpaaDoorShaR
namespace Go.Proofs.YtnfcnfhchfmcpaaDoor
open Go.RowKit
set_option maxRecDepth 100000 in
set_option maxHeartbeats 4000000 in
theorem constants_any (w : World) : Calls Tryd.prog 50 #[] w fun e w' => e = .returned (.agg (cs .u32 64 kk)) ∧ Below w.heap.size w w' := by
  go_enter Tryd.func50, Tryd.ntmps50
  go_wp2_with (refine wpList_store_any (f := kk) (by rfl) 79 (.tmp 0) (.tmp 1) (by rfl) w.heap.size (by rfl) (by rfl) (Row.rep (n := 64) (z := 0) rfl) Tryd.sz79 (by rfl) ?_; intro W2 RS2 U2)
  exact bodyPost_ret (results_arr Tryd.results50 _ _ rfl RS2 Tryd.underlying79 Tryd.sz79) rfl ⟨rfl, U2.below ((Below.refl _ _).alloc (Nat.le_refl _) _) (Nat.le_refl _) (by rw [World.size_alloc]; omega)⟩

theorem startT (w : World) (v : Nat → Int) (e1 e2 : TypeId) (A : Array Value) (hA : A = Array.replicate 8 (.int .u32 0)) :
    Row .u32 ((w.alloc (.cells (cs .u32 8 v) e1)).alloc (.cells A e2)) w.heap.size 8 v ∧ Row .u32 ((w.alloc (.cells (cs .u32 8 v) e1)).alloc (.cells A e2)) (w.heap.size + 1) 8 (fun _ => 0) ∧
    Below w.heap.size w ((w.alloc (.cells (cs .u32 8 v) e1)).alloc (.cells A e2)) := by
  have z1 : (w.alloc (.cells (cs .u32 8 v) e1)).heap.size = w.heap.size + 1 := World.size_alloc _ _
  have r1 : Row .u32 (w.alloc (.cells (cs .u32 8 v) e1)) w.heap.size 8 v := Row.box
  have b1 : Below w.heap.size w (w.alloc (.cells (cs .u32 8 v) e1)) := (Below.refl _ _).alloc (Nat.le_refl _) _
  generalize w.alloc (.cells (cs .u32 8 v) e1) = w1 at z1 r1 b1 ⊢
  have r3 : Row .u32 (w1.alloc (.cells A e2)) w1.heap.size 8 (fun _ => 0) := Row.rep hA
  rw [z1] at r3
  exact ⟨r1.alloc (by omega) _, r3, b1.alloc (by omega) _⟩

theorem rtn6 (x : Int) (w : World) (h0 : 0 ≤ x) (h1 : x < 4294967296) : Calls Tryd.prog 58 #[.int .u32 x, .int .u64 6] w fun e w' => e = .returned (.int .u32 (rot x 6)) ∧ w' = w := rturn_any x 6 w h0 h1 (by omega)
theorem rtn11 (x : Int) (w : World) (h0 : 0 ≤ x) (h1 : x < 4294967296) : Calls Tryd.prog 58 #[.int .u32 x, .int .u64 11] w fun e w' => e = .returned (.int .u32 (rot x 11)) ∧ w' = w := rturn_any x 11 w h0 h1 (by omega)
theorem rtn25 (x : Int) (w : World) (h0 : 0 ≤ x) (h1 : x < 4294967296) : Calls Tryd.prog 58 #[.int .u32 x, .int .u64 25] w fun e w' => e = .returned (.int .u32 (rot x 25)) ∧ w' = w := rturn_any x 25 w h0 h1 (by omega)
theorem rtn2 (x : Int) (w : World) (h0 : 0 ≤ x) (h1 : x < 4294967296) : Calls Tryd.prog 58 #[.int .u32 x, .int .u64 2] w fun e w' => e = .returned (.int .u32 (rot x 2)) ∧ w' = w := rturn_any x 2 w h0 h1 (by omega)
theorem rtn13 (x : Int) (w : World) (h0 : 0 ≤ x) (h1 : x < 4294967296) : Calls Tryd.prog 58 #[.int .u32 x, .int .u64 13] w fun e w' => e = .returned (.int .u32 (rot x 13)) ∧ w' = w := rturn_any x 13 w h0 h1 (by omega)
theorem rtn22 (x : Int) (w : World) (h0 : 0 ≤ x) (h1 : x < 4294967296) : Calls Tryd.prog 58 #[.int .u32 x, .int .u64 22] w fun e w' => e = .returned (.int .u32 (rot x 22)) ∧ w' = w := rturn_any x 22 w h0 h1 (by omega)

theorem step_vec (v : Nat → Int) (x : Int) (hv : ∀ j, W32 (v j)) (j : Nat) (hj : j < 8) :
    vec8 ((v 7 + xo (xo (rot (v 4) 6) (rot (v 4) 11)) (rot (v 4) 25) + bits .or .u32 (an (v 4) (v 5)) (an (no (v 4)) (v 6)) + x + (xo (xo (rot (v 0) 2) (rot (v 0) 13)) (rot (v 0) 22) + bits .or .u32 (bits .or .u32 (an (v 0) (v 1)) (an (v 0) (v 2))) (an (v 1) (v 2)))) % 4294967296)
      (v 0) (v 1) (v 2) ((v 3 + (v 7 + xo (xo (rot (v 4) 6) (rot (v 4) 11)) (rot (v 4) 25) + bits .or .u32 (an (v 4) (v 5)) (an (no (v 4)) (v 6)) + x)) % 4294967296) (v 4) (v 5) (v 6) j = stp v x j := by
  rw [or_choose _ _ _ (hv 4) (hv 5) (hv 6), or_most _ _ _ (hv 0) (hv 1) (hv 2), ← vec8_of (stp v x) j hj]
  have e0 : (v 7 + xo (xo (rot (v 4) 6) (rot (v 4) 11)) (rot (v 4) 25) + cho (v 4) (v 5) (v 6) + x + (xo (xo (rot (v 0) 2) (rot (v 0) 13)) (rot (v 0) 22) + maj (v 0) (v 1) (v 2))) % 4294967296 = stp v x 0 := by
    show _ = (t1 v x + t2 v) % 4294967296
    unfold t1 t2 hmx lmx
    omega
  have e4 : (v 3 + (v 7 + xo (xo (rot (v 4) 6) (rot (v 4) 11)) (rot (v 4) 25) + cho (v 4) (v 5) (v 6) + x)) % 4294967296 = stp v x 4 := by
    show _ = (v 3 + t1 v x) % 4294967296
    unfold t1 hmx
    omega
  rw [e0, e4]
  rfl

set_option maxHeartbeats 2000000 in
theorem step_any (v : Nat → Int) (x : Int) (w : World) (hv : ∀ j, W32 (v j)) :
    Calls Tryd.prog 51 #[.agg (cs .u32 8 v), .int .u32 x] w fun e w' => e = .returned (.agg (cs .u32 8 (stp v x))) ∧ Below w.heap.size w w' := by
  have HV : Hid (∀ j, W32 (v j)) := hv
  have l0 := (hv 0).1
  have r0 := (hv 0).2
  have l4 := (hv 4).1
  have r4 := (hv 4).2
  clear hv
  obtain ⟨RV, RR, B⟩ := startT w v 63 63 #[.int .u32 0, .int .u32 0, .int .u32 0, .int .u32 0, .int .u32 0, .int .u32 0, .int .u32 0, .int .u32 0] rfl
  have c0 := RV.cell 0 (by omega)
  have c1 := RV.cell 1 (by omega)
  have c2 := RV.cell 2 (by omega)
  have c3 := RV.cell 3 (by omega)
  have c4 := RV.cell 4 (by omega)
  have c5 := RV.cell 5 (by omega)
  have c6 := RV.cell 6 (by omega)
  have c7 := RV.cell 7 (by omega)
  go_enter Tryd.func51, Tryd.ntmps51
  go_wp2
  generalize (w.alloc (.cells (cs .u32 8 v) 63)).alloc (.cells #[.int .u32 0, .int .u32 0, .int .u32 0, .int .u32 0, .int .u32 0, .int .u32 0, .int .u32 0, .int .u32 0] 63) = W at RV RR B c0 c1 c2 c3 c4 c5 c6 c7 ⊢
  go_quiet (first | (go_at_call_of 58 (Value.int IntKind.u64 6); exact Calls.quiet_of_same (rtn6 _ _ l4 r4)) | (go_at_call_of 58 (Value.int IntKind.u64 11); exact Calls.quiet_of_same (rtn11 _ _ l4 r4)) | (go_at_call_of 58 (Value.int IntKind.u64 25); exact Calls.quiet_of_same (rtn25 _ _ l4 r4)))
  go_wp2
  have hd : ∀ a, (W.drewN nq).cell? a = W.cell? a := fun _ => rfl
  rw [← hd] at c0 c1 c2 c3 c4 c5 c6 c7
  clear hd
  have RV1 := RV.drewN nq
  have RR1 := RR.drewN nq
  have B1 := bel_drewN B nq
  generalize W.drewN nq = W1 at RV1 RR1 B1 c0 c1 c2 c3 c4 c5 c6 c7 ⊢
  go_quiet (first | (go_at_call_of 58 (Value.int IntKind.u64 2); exact Calls.quiet_of_same (rtn2 _ _ l0 r0)) | (go_at_call_of 58 (Value.int IntKind.u64 13); exact Calls.quiet_of_same (rtn13 _ _ l0 r0)) | (go_at_call_of 58 (Value.int IntKind.u64 22); exact Calls.quiet_of_same (rtn22 _ _ l0 r0)))
  have RR2 := RR1.drewN nq
  have B2 := bel_drewN B1 nq
  have d0 := RR1.cell 0 (by omega)
  have f0 := RR1.free 0 (by omega)
  have d1 := RR1.cell 1 (by omega)
  have f1 := RR1.free 1 (by omega)
  have d2 := RR1.cell 2 (by omega)
  have f2 := RR1.free 2 (by omega)
  have d3 := RR1.cell 3 (by omega)
  have f3 := RR1.free 3 (by omega)
  have d4 := RR1.cell 4 (by omega)
  have f4 := RR1.free 4 (by omega)
  have d5 := RR1.cell 5 (by omega)
  have f5 := RR1.free 5 (by omega)
  have d6 := RR1.cell 6 (by omega)
  have f6 := RR1.free 6 (by omega)
  have d7 := RR1.cell 7 (by omega)
  have f7 := RR1.free 7 (by omega)
  go_wp2
  refine bodyPost_ret (results_arr Tryd.results51 _ _ rfl (row8 RR2 _ _ _ _ _ _ _ _) Tryd.underlying63 Tryd.sz63) rfl ⟨?_, bel8 B2 (by omega) _ _ _ _ _ _ _ _⟩
  exact congrArg (fun c => Ending.returned (Value.agg c)) (cs_congr .u32 8 (fun j hj => step_vec v x HV.out j hj))
#print axioms step_any
end Go.Proofs.YtnfcnfhchfmcpaaDoor
