/- What the reference's Of answers. -/
import Derived.Test.YtnfcnfhchfmcpaaDoorOfA
namespace Go.Proofs.YtnfcnfhchfmcpaaDoor
open Go.RowKit
theorem Tryd.sz23 : (Tryd.prog.info? 23).map (·.size) = some 32 := by kernel_rfl
set_option maxRecDepth 100000 in
set_option maxHeartbeats 8000000 in
theorem rof_any (s : ByteArray) (w : World) (hs : s.size ≤ 140737488351232) :
    Calls Tryd.prog 22 #[.string s] w fun e w' => e = .returned (.agg (cs .u8 32 (dg (hw (bt (msg s)) (nb s))))) ∧ Below w.heap.size w w' := by
  have hsz := msg_size s
  have hnb : nb s ≤ 140737488351232 := by unfold nb; omega
  have hp72 : (padStr s.size).size ≤ 72 := by rw [padStr_size]; omega
  have HM : Hid (s ++ padStr s.size = msg s) := rfl
  go_enter Tryd.func22, Tryd.ntmps22
  go_wp2_with fail
  refine (rpad_all s.size _ (by omega)).mono ?_
  rintro e w1 ⟨rfl, b1⟩
  have R1 : Row .u8 w1 w.heap.size 32 (fun _ => 0) := Row.below (Row.rep (by rfl)) b1 (by rw [World.size_alloc]; omega)
  have B1 : Below w.heap.size w w1 := ((Below.refl _ _).alloc (Nat.le_refl _) _).trans (b1.mono (by rw [World.size_alloc]; omega))
  have z1 : w.heap.size < w1.heap.size := by have := b1.size; rw [World.size_alloc] at this; omega
  clear b1
  go_wp2_with fail
  refine (rstart_any _).mono ?_
  rintro e w2 ⟨rfl, b2⟩
  rw [HM.out]
  have R2 := R1.below b2 z1
  have B2 : Below w.heap.size w w2 := B1.trans (b2.mono B1.size)
  have z2 : w.heap.size < w2.heap.size := Nat.lt_of_lt_of_le z1 b2.size
  clear R1 B1 b2 HM
  go_wp2_with (refine wpList_store_any (by rfl) 63 (.tmp 4) (.tmp 15) (by rfl) w2.heap.size (by rfl) (by rfl) (Row.rep (n := 8) (z := 0) rfl) Tryd.sz63 (by rfl) ?_; intro W3 RH3 U3)
  have R3 := (R2.alloc (by omega) _).upd U3 (by rw [World.size_alloc]; omega) (by omega)
  have B3 : Below w.heap.size w W3 := U3.below (B2.alloc (by omega) _) (by omega) (by rw [World.size_alloc]; omega)
  have z3 : w2.heap.size < W3.heap.size := by rw [U3.size, World.size_alloc]; omega
  clear R2 B2 U3
  generalize hT : nb s = T at hsz hnb ⊢
  generalize hM : msg s = M at hsz ⊢
  have HT : Hid (nb s = T) := hT
  have HM : Hid (msg s = M) := hM
  clear hT hM hp72
  have gl := get_bt M
  generalize hg2 : w2.heap.size = gh at *
  clear hg2 z1
  go_loopw [5] (fun i wr => ∃ t : Nat, t ≤ T ∧ i = .int .i64 (64 * (t : Int)) ∧ Row .u32 wr gh 8 (hw (bt M) t) ∧ Row .u8 wr w.heap.size 32 (fun _ => 0) ∧ Below w.heap.size w wr ∧ gh < wr.heap.size) (fun i _ => 64 * T - (intOf i).toNat)
  case atStart => exact ⟨0, Nat.zero_le _, by simp, RH3, R3, B3, z3⟩
  case round =>
    obtain ⟨t, ht, rfl, RH, R, B, z⟩ := hrel
    clear RH3 R3 B3 z3
    obtain ⟨wo, hwo⟩ : ∃ wo, wo = wr := ⟨_, rfl⟩
    subst hwo
    by_cases hlt : t < T
    · go_wp2
      go_loopw [7] (fun i wi => ∃ j : Nat, j ≤ 64 ∧ i = .int .i64 j ∧ Row .u8 wi wo.heap.size 64 (upF (fun x => bt M (64 * t + x)) j) ∧ Row .u32 wi gh 8 (hw (bt M) t) ∧ Row .u8 wi w.heap.size 32 (fun _ => 0) ∧ Below w.heap.size w wi ∧ wo.heap.size < wi.heap.size) (fun i _ => 64 - (intOf i).toNat)
      case atStart => exact ⟨0, Nat.zero_le _, rfl, (Row.rep (n := 64) (z := 0) rfl).congr (fun x _ => (upF_zero _ x).symm), RH.alloc z _, R.alloc (by omega) _, B.alloc (by omega) _, by rw [World.size_alloc]; omega⟩
      case round =>
        obtain ⟨j, hj, rfl, RB, RH, R, B, zi⟩ := hrel
        by_cases hj64 : j < 64
        · have c1 := RB.cell j hj64
          have f1 := RB.free j hj64
          have hM : 64 * t + j < M.size := by omega
          go_wp2
          go_roundw
          case rel => exact ⟨j + 1, by omega, by go_num, (RB.set j _ hj64).congr (fun x _ => upF_set (fun x => bt M (64 * t + x)) j x), RH.other _ _ (by simp; omega), R.other _ _ (by simp; omega), B.setCell (by simp; omega) _, by rw [World.size_setCell]; exact zi⟩
          case measure => simp [intOf]; omega
        · obtain rfl : j = 64 := by omega
          have RB' : Row .u8 wr wo.heap.size 64 (fun x => bt M (64 * t + x)) := RB.congr (fun x hx => upF_all _ 64 x hx)
          clear RB
          go_wp2_with (first | refine wpList_load_arr (by rfl) 63 (.tmp 4) (by rfl) gh (by rfl) RH Tryd.underlying63 Tryd.sz63 ?_ | refine wpList_load_arr (by rfl) 56 (.tmp 6) (by rfl) wo.heap.size (by rfl) RB' Tryd.underlying56 Tryd.sz56 ?_)
          refine (rblock_any (hw (bt M) t) (fun x => bt M (64 * t + x)) _ (hw_w _ _) (fun x => bt_bd M _)).mono ?_
          rintro e w5 ⟨rfl, b5⟩
          have RH5 := RH.below b5 (by omega)
          have R5 := R.below b5 (by omega)
          have B5 : Below w.heap.size w w5 := B.trans (b5.mono B.size)
          have z5 : gh < w5.heap.size := by have := b5.size; omega
          have z6 : w.heap.size < w5.heap.size := by omega
          clear RH R B b5 RB'
          go_wp2_with (refine wpList_store_any (by rfl) 63 (.tmp 4) (.tmp 35) (by rfl) gh (by rfl) (by rfl) RH5 Tryd.sz63 (by rfl) ?_; intro W6 RH6 U6)
          have R6 := R5.upd U6 z6 (by omega)
          have B6 : Below w.heap.size w W6 := U6.below B5 (by omega) (by omega)
          have z7 : gh < W6.heap.size := by rw [U6.size]; exact z5
          clear RH5 R5 B5 U6
          go_wp2
          go_roundw
          case rel => exact ⟨t + 1, by omega, by congr 1, RH6, R6, B6, z7⟩
          case measure => simp [intOf]; omega
    · obtain rfl : t = T := by omega
      have HW : Hid (∀ j, W32 (hw (bt M) t j)) := hw_w (bt M) t
      generalize hh : hw (bt M) t = h at HW RH ⊢
      have HH : Hid (hw (bt M) t = h) := hh
      clear hh
      go_wp2
      go_loopw [9] (fun i wi => ∃ j : Nat, j ≤ 32 ∧ i = .int .i64 j ∧ Row .u8 wi wo.heap.size 32 (upF (dg h) j) ∧ Row .u32 wi gh 8 h ∧ Row .u8 wi w.heap.size 32 (fun _ => 0) ∧ Below w.heap.size w wi ∧ wo.heap.size < wi.heap.size) (fun i _ => 32 - (intOf i).toNat)
      case atStart => exact ⟨0, Nat.zero_le _, rfl, (Row.rep (n := 32) (z := 0) rfl).congr (fun x _ => (upF_zero _ x).symm), RH.alloc z _, R.alloc (by omega) _, B.alloc (by omega) _, by rw [World.size_alloc]; omega⟩
      case round =>
        obtain ⟨j, hj, rfl, RB, RH, R, B, zi⟩ := hrel
        by_cases hj32 : j < 32
        · have c1 := RB.cell j hj32
          have f1 := RB.free j hj32
          have c2 := RH.cell (j / 4) (by omega)
          have hx0 := (HW.out (j / 4)).1
          have hx1 := (HW.out (j / 4)).2
          have hdg : Hid (∀ x, (if x = j then h (j / 4) / 2 ^ (8 * (3 - j % 4)) % 256 else upF (dg h) j x) = upF (dg h) (j + 1) x) := fun x => upF_set (dg h) j x
          go_wp2
          go_roundw
          case rel => exact ⟨j + 1, by omega, by go_num, (RB.set j _ hj32).congr (fun x _ => hdg.out x), RH.other _ _ (by simp; omega), R.other _ _ (by simp; omega), B.setCell (by simp; omega) _, by rw [World.size_setCell]; exact zi⟩
          case measure => simp [intOf]; omega
        · obtain rfl : j = 32 := by omega
          have RB' : Row .u8 wr wo.heap.size 32 (dg h) := RB.congr (fun x hx => upF_all _ 32 x hx)
          clear RB
          go_wp2_with (first | refine wpList_load_arr (by rfl) 23 (.tmp 8) (by rfl) wo.heap.size (by rfl) RB' Tryd.underlying23 Tryd.sz23 ?_ | (refine wpList_store_any (by rfl) 23 (.tmp 2) (.tmp 53) (by rfl) w.heap.size (by rfl) (by rfl) R Tryd.sz23 (by rfl) ?_; intro W7 R7 U7))
          exact bodyPost_ret (results_arr Tryd.results22 _ _ rfl R7 Tryd.underlying23 Tryd.sz23) rfl ⟨by rw [HM.out, HT.out, HH.out], U7.below B (Nat.le_refl _) (by omega)⟩
#print axioms rof_any
end Go.Proofs.YtnfcnfhchfmcpaaDoor
