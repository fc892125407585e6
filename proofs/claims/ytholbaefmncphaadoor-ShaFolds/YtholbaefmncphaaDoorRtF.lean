/- fold and the law ShaFolds, walked. -/
import Derived.Test.YtholbaefmncphaaDoorRtE
import Derived.Test.YtholbaefmncphaaDoorOfJ
import Derived.Test.YtholbaefmncphaaDoorShaE
namespace Go.Proofs.YtholbaefmncphaaDoor
open Go.RowKit
theorem run_slice_all64 (g : Nat) (w : World) : (Instr.sliceAt 29 (.pointer (some ⟨g, 0, none⟩)) none none none).run Tryd.prog w = .ok (.slice (some ⟨g, 0, none⟩) 64 64) w := by
  have hl : Tryd.prog.arrayLen 29 = 64 := by kernel_rfl
  have he : Tryd.prog.elem 29 = 5 := by kernel_rfl
  obtain ⟨i0, hi, hz0, hz1, hz2⟩ := info_parts Tryd.info5
  rw [run_sliceAt_array_all (P := Tryd.prog) w 29 ⟨g, 0, none⟩ (by kernel_rfl), he, hl]
  simp only [sizeOf, typeInfo, Sem.run_bind]
  simp [hi, hz1, slicedAt, Addr.add_lit]
theorem row_bcs {w : World} {g : Nat} {z : Nat → Int} (u : ByteArray) (R : Row .u8 w g 64 z) : Row .u8 (w.setCells g 0 (bcs u 64)) g 64 (bt u) ∧ Upd w (w.setCells g 0 (bcs u 64)) g := by
  have e : bcs u 64 = (cs .u8 64 (bt u)).toList := by unfold bcs cs; rw [List.toList_toArray]
  rw [e]
  exact ⟨put_row (f := bt u) R, put_upd w g .u8 64 (bt u)⟩
theorem bt_ext (M : ByteArray) (a j : Nat) (hj : j < 64) (h : a + 64 ≤ M.size) : bt (M.extract a (a + 64)) j = bt M (a + j) := by
  unfold bt
  rw [dif_pos (by rw [ByteArray.size_extract]; omega), dif_pos (by omega), ByteArray.getElem_extract]

set_option maxRecDepth 100000 in
set_option maxHeartbeats 8000000 in
theorem fold_any (M : ByteArray) (T : Nat) (w : World) (hsz : M.size = 64 * T) (hT : T ≤ 140737488351232) (hK : KT w) :
    Calls Tryd.prog 15 #[.string M] w fun e w' => e = .returned (.agg (cs .u8 32 (dg (hw (bt M) T)))) ∧ Below w.heap.size w w' := by
  have HK : Hid (KT w) := hK
  have hz : ∀ w, (Go.sizeOf 5).run Tryd.prog w = .ok 1 w := fun w => by
    obtain ⟨i0, hi, hz0, hz1, hz2⟩ := info_parts Tryd.info5
    simp [sizeOf, typeInfo, hi, hz1]
  have HZ : Hid (∀ w, (Go.sizeOf 5).run Tryd.prog w = .ok 1 w) := hz
  clear hK hz
  go_enter Tryd.func15, Tryd.ntmps15
  go_wp2_with fail
  refine (rooted8_any _).mono ?_
  rintro e w2 ⟨rfl, b1⟩
  have R2 : Row .u8 w2 w.heap.size 32 (fun _ => 0) := Row.below (Row.rep (by rfl)) b1 (by rw [World.size_alloc]; omega)
  have B2 : Below w.heap.size w w2 := ((Below.refl _ _).alloc (Nat.le_refl _) _).trans (b1.mono (by rw [World.size_alloc]; omega))
  have z2 : w.heap.size < w2.heap.size := by have := b1.size; rw [World.size_alloc] at this; omega
  clear b1
  go_wp2_with (refine wpList_store_any (by rfl) 28 (.tmp 3) (.tmp 8) (by rfl) w2.heap.size (by rfl) (by rfl) (Row.rep (n := 8) (z := 0) rfl) Tryd.sz28 (by rfl) ?_; intro W3 RH3 U3)
  have R3 := (R2.alloc (by omega) _).upd U3 (by rw [World.size_alloc]; omega) (by omega)
  have B3 : Below w.heap.size w W3 := U3.below (B2.alloc (by omega) _) (by omega) (by rw [World.size_alloc]; omega)
  have z3 : w2.heap.size < W3.heap.size := by rw [U3.size, World.size_alloc]; omega
  clear R2 B2 U3
  generalize hg2 : w2.heap.size = gh at *
  clear hg2
  go_loopw [4] (fun i wr => ∃ t : Nat, t ≤ T ∧ i = .int .i64 (64 * (t : Int)) ∧ Hid (Row .u32 wr gh 8 (hw (bt M) t)) ∧ Hid (Row .u8 wr w.heap.size 32 (fun _ => 0)) ∧ Hid (Below w.heap.size w wr) ∧ gh < wr.heap.size) (fun i _ => 64 * T - (intOf i).toNat)
  case atStart => exact ⟨0, Nat.zero_le _, by simp, RH3, R3, B3, z3⟩
  case round =>
    obtain ⟨t, ht, rfl, RH, R, B, z⟩ := hrel
    clear RH3 R3 B3 z3
    by_cases hlt : t < T
    · go_wp2_with fail
      have RB4 : Row .u8 (wr.alloc (.cells (Array.replicate 64 (.int .u8 0)) 29)) wr.heap.size 64 (fun _ => 0) := Row.rep rfl
      have B4 : Below w.heap.size w (wr.alloc (.cells (Array.replicate 64 (.int .u8 0)) 29)) := B.out.alloc (by omega) _
      have RH4 : Row .u32 (wr.alloc (.cells (Array.replicate 64 (.int .u8 0)) 29)) gh 8 (hw (bt M) t) := RH.out.alloc z _
      have R4 : Row .u8 (wr.alloc (.cells (Array.replicate 64 (.int .u8 0)) 29)) w.heap.size 32 (fun _ => 0) := R.out.alloc (by omega) _
      have z4 : wr.heap.size < (wr.alloc (.cells (Array.replicate 64 (.int .u8 0)) 29)).heap.size := by rw [World.size_alloc]; omega
      show Code.wp Tryd.prog _ _ _ (wr.alloc (.cells (Array.replicate 64 (.int .u8 0)) 29))
      obtain ⟨gb, hgb⟩ : ∃ gb, wr.heap.size = gb := ⟨_, rfl⟩
      have hgw : w.heap.size < gb := by omega
      rw [hgb] at RB4 z4 z ⊢
      clear hgb RH R B
      generalize wr.alloc (.cells (Array.replicate 64 (.int .u8 0)) 29) = W0 at *
      have HRB : Hid (Row .u8 W0.drew gb 64 (fun _ => 0)) := RB4.drew
      have HRH : Hid (Row .u32 W0.drew gh 8 (hw (bt M) t)) := RH4.drew
      have HR : Hid (Row .u8 W0.drew w.heap.size 32 (fun _ => 0)) := R4.drew
      have HB : Hid (Below w.heap.size w W0.drew) := B4.drew
      have zd : gb < W0.drew.heap.size := z4
      clear RB4 RH4 R4 B4 z4
      obtain ⟨a, ha⟩ : ∃ a : Nat, 64 * t = a := ⟨_, rfl⟩
      have HA : Hid (a = 64 * t) := ha.symm
      have hM : a + 64 ≤ M.size := by omega
      rw [show (64 * (t : Int)) = (a : Int) from by omega]
      have hwr : IntKind.i64.wrap ((a : Int) + 64) = (a : Int) + 64 := by rw [IntKind.wrap_i64]; omega
      have g0 : (0 : Int) ≤ (a : Int) + 64 := by omega
      have g1 : (a : Int) + 64 ≤ 64 * (T : Int) := by omega
      have g2 : (a : Int) ≤ (a : Int) + 64 := by omega
      have g3 : ((a : Int) + 64).toNat = a + 64 := by omega
      clear ha
      refine wp_region_held_drew (S := fun _ => True) (by kernel_rfl) trivial (fun hHeld => ?_)
      clear hHeld
      generalize W0.drew = W1 at *
      refine wpAnyH_take (i := 0) (oi := { dst := some 16, op := Op.slice 29 (Operand.tmp 5) none none none, type := 48, pos := "law.go:67", after := #[], guard := none }) (v := .slice (some ⟨gb, 0, none⟩) 64 64) rfl (by kernel_rfl) (by kernel_rfl) (by kernel_rfl) (fun _ _ _ h => h) (Or.inl ⟨by rfl, by intro w _; have hsl := run_slice_all64 gb w; go_simp⟩) trivial ?_
      simp only [Act.put, List.setIfInBounds_toArray, List.set_cons_zero, List.set_cons_succ]
      refine wpAnyH_take (i := 1) (oi := { dst := some 17, op := Op.move (Operand.tmp 0), type := 9, pos := "law.go:67", after := #[], guard := none }) (v := .string M) rfl (by kernel_rfl) (by kernel_rfl) (by kernel_rfl) (fun _ _ _ h => h) (Or.inl ⟨by rfl, by intro w _; go_simp⟩) trivial ?_
      simp only [Act.put, List.setIfInBounds_toArray, List.set_cons_zero, List.set_cons_succ]
      refine wpAnyH_take (i := 2) (oi := { dst := some 18, op := Op.move (Operand.tmp 4), type := 3, pos := "law.go:67", after := #[], guard := none }) (v := .int .i64 (a : Int)) rfl (by kernel_rfl) (by kernel_rfl) (by kernel_rfl) (fun _ _ _ h => h) (Or.inl ⟨by rfl, by intro w _; go_simp⟩) trivial ?_
      simp only [Act.put, List.setIfInBounds_toArray, List.set_cons_zero, List.set_cons_succ]
      refine wpAnyH_take (i := 3) (oi := { dst := some 19, op := Op.move (Operand.tmp 4), type := 3, pos := "law.go:67", after := #[], guard := none }) (v := .int .i64 (a : Int)) rfl (by kernel_rfl) (by kernel_rfl) (by kernel_rfl) (fun _ _ _ h => h) (Or.inl ⟨by rfl, by intro w _; go_simp⟩) trivial ?_
      simp only [Act.put, List.setIfInBounds_toArray, List.set_cons_zero, List.set_cons_succ]
      refine wpAnyH_take (i := 4) (oi := { dst := some 20, op := Op.binOp BinOp.add 3 (Operand.tmp 19) (Operand.const (Value.int IntKind.i64 64)) 3, type := 3, pos := "law.go:67", after := #[{ on := 3, ground := Ground.data }], guard := none }) (v := .int .i64 ((a : Int) + 64)) rfl (by kernel_rfl) (by kernel_rfl) (by kernel_rfl) (fun _ _ _ h => h) (Or.inl ⟨by rfl, by intro w _; go_simp⟩) trivial ?_
      simp only [Act.put, List.setIfInBounds_toArray, List.set_cons_zero, List.set_cons_succ]
      refine wpAnyH_take (i := 5) (oi := { dst := some 21, op := Op.slice 9 (Operand.tmp 17) (some (Operand.tmp 18)) (some (Operand.tmp 20)) none, type := 9, pos := "law.go:67", after := #[{ on := 1, ground := Ground.data }, { on := 2, ground := Ground.data }, { on := 4, ground := Ground.data }], guard := none }) (v := .string (M.extract a (a + 64))) rfl (by kernel_rfl) (by kernel_rfl) (by kernel_rfl) (fun _ _ _ h => h) (Or.inl ⟨by rfl, by intro w _; go_simp⟩) trivial ?_
      simp only [Act.put, List.setIfInBounds_toArray, List.set_cons_zero, List.set_cons_succ]
      have hqn : Nat.min (M.extract a (a + 64)).size 64 = 64 := by
        have : (M.extract a (a + 64)).size = 64 := by rw [ByteArray.size_extract]; omega
        rw [this]
        rfl
      refine wpAnyH_ready (rs := [6]) (by kernel_rfl) (by decide) (AllReadyH.cons rfl (fun K hK => ?_) AllReadyH.nil)
      refine step_copy_min rfl (.tmp 16) (.tmp 21) 48 9 rfl 5 Tryd.underlying48 HZ.out gb 0 64 64 64 rfl (M.extract a (a + 64)) rfl hqn (fun j hj => by rw [Nat.zero_add, HRB.out.cell j hj]; rfl) (fun j hj => by rw [Nat.zero_add]; exact HRB.out.free j hj) 22 rfl ?_
      have hput := row_bcs (M.extract a (a + 64)) HRB.out
      have RB2 : Row .u8 (W1.setCells gb 0 (bcs (M.extract a (a + 64)) 64)) gb 64 (fun x => bt M (64 * t + x)) := hput.1.congr (fun j hj => by rw [bt_ext M a j hj hM, HA.out])
      have RH2 : Row .u32 (W1.setCells gb 0 (bcs (M.extract a (a + 64)) 64)) gh 8 (hw (bt M) t) := HRH.out.upd hput.2 (by omega) (by omega)
      have R2 : Hid (Row .u8 (W1.setCells gb 0 (bcs (M.extract a (a + 64)) 64)) w.heap.size 32 (fun _ => 0)) := HR.out.upd hput.2 (by omega) (by omega)
      have B2 : Hid (Below w.heap.size w (W1.setCells gb 0 (bcs (M.extract a (a + 64)) 64))) := hput.2.below HB.out (by omega) (by omega)
      have z2 : gb < (W1.setCells gb 0 (bcs (M.extract a (a + 64)) 64)).heap.size := by rw [hput.2.size]; exact zd
      clear hput HRB HRH HR HB zd
      generalize W1.setCells gb 0 (bcs (M.extract a (a + 64)) 64) = W2 at *
      refine hK.out _ _ trivial (fun _ => ?_)
      clear hK K hqn hwr
      simp only [Act.put, List.setIfInBounds_toArray, List.set_cons_zero, List.set_cons_succ]
      refine wpAnyH_done (by kernel_rfl) ?_ _
      go_wp2_with (first | refine wpList_load_arr (by rfl) 28 (.tmp 3) (by rfl) gh (by rfl) RH2 Tryd.underlying28 Tryd.sz28 ?_ | refine wpList_load_arr (by rfl) 29 (.tmp 5) (by rfl) gb (by rfl) RB2 Tryd.underlying29 Tryd.sz29 ?_)
      refine (block_any (hw (bt M) t) (fun x => bt M (64 * t + x)) _ (hw_w _ _) (fun x => bt_bd M _) (HK.out.below B2.out)).mono ?_
      rintro e w5 ⟨rfl, b5⟩
      have RH5 := RH2.below b5 (by omega)
      have R5 := R2.out.below b5 (by omega)
      have B5 : Below w.heap.size w w5 := B2.out.trans (b5.mono B2.out.size)
      have z5 : gh < w5.heap.size := by have := b5.size; omega
      have z6 : w.heap.size < w5.heap.size := by omega
      clear RH2 R2 B2 b5 RB2
      go_wp2_with (refine wpList_store_any (by rfl) 28 (.tmp 3) (.tmp 25) (by rfl) gh (by rfl) (by rfl) RH5 Tryd.sz28 (by rfl) ?_; intro W6 RH6 U6)
      have R6 := R5.upd U6 z6 (by omega)
      have B6 : Below w.heap.size w W6 := U6.below B5 (by omega) (by omega)
      have z7 : gh < W6.heap.size := by rw [U6.size]; exact z5
      clear RH5 R5 B5 U6
      go_wp2
      go_roundw
      case rel => exact ⟨t + 1, by omega, by have := HA.out; congr 1; omega, RH6, R6, B6, z7⟩
      case measure => have := HA.out; simp [intOf]; omega
    · obtain rfl : t = T := by omega
      have HW : Hid (∀ j, W32 (hw (bt M) t j)) := hw_w (bt M) t
      generalize hh : hw (bt M) t = h at HW RH ⊢
      have HH : Hid (hw (bt M) t = h) := hh
      clear hh
      obtain ⟨wo, hwo⟩ : ∃ wo, wo = wr := ⟨_, rfl⟩
      subst hwo
      go_wp2
      go_loopw [26] (fun i wi => ∃ j : Nat, j ≤ 32 ∧ i = .int .i64 j ∧ Row .u8 wi wo.heap.size 32 (upF (dg h) j) ∧ Row .u32 wi gh 8 h ∧ Row .u8 wi w.heap.size 32 (fun _ => 0) ∧ Below w.heap.size w wi ∧ wo.heap.size < wi.heap.size) (fun i _ => 32 - (intOf i).toNat)
      case atStart => exact ⟨0, Nat.zero_le _, rfl, (Row.rep (n := 32) (z := 0) rfl).congr (fun x _ => (upF_zero _ x).symm), RH.out.alloc z _, R.out.alloc (by omega) _, B.out.alloc (by omega) _, by rw [World.size_alloc]; omega⟩
      case round =>
        obtain ⟨j, hj, rfl, RB, RH', R', B', zi⟩ := hrel
        clear RH R B
        by_cases hj32 : j < 32
        · have c1 := RB.cell j hj32
          have f1 := RB.free j hj32
          have c2 := RH'.cell (j / 4) (by omega)
          have hx0 := (HW.out (j / 4)).1
          have hx1 := (HW.out (j / 4)).2
          have hdg : Hid (∀ x, (if x = j then h (j / 4) / 2 ^ (8 * (3 - j % 4)) % 256 else upF (dg h) j x) = upF (dg h) (j + 1) x) := fun x => upF_set (dg h) j x
          have e24 : 24 - 8 * (j % 4) = 8 * (3 - j % 4) := by omega
          go_wp2
          go_roundw
          case rel => exact ⟨j + 1, by omega, by go_num, (RB.set j _ hj32).congr (fun x _ => hdg.out x), RH'.other _ _ (by simp; omega), R'.other _ _ (by simp; omega), B'.setCell (by simp; omega) _, by rw [World.size_setCell]; exact zi⟩
          case measure => simp [intOf]; omega
        · obtain rfl : j = 32 := by omega
          have RB' : Row .u8 wr wo.heap.size 32 (dg h) := RB.congr (fun x hx => upF_all _ 32 x hx)
          clear RB
          go_wp2_with (first | refine wpList_load_arr (by rfl) 23 (.tmp 6) (by rfl) wo.heap.size (by rfl) RB' Tryd.und23 Tryd.sz23 ?_ | (refine wpList_store_any (by rfl) 23 (.tmp 2) (.tmp 42) (by rfl) w.heap.size (by rfl) (by rfl) R' Tryd.sz23 (by rfl) ?_; intro W7 R7 U7))
          exact bodyPost_ret (results_arr Tryd.results15 _ _ rfl R7 Tryd.und23 Tryd.sz23) rfl ⟨by rw [HH.out], U7.below B' (Nat.le_refl _) (by omega)⟩

set_option maxRecDepth 100000 in
set_option maxHeartbeats 1000000 in
theorem folds_walk (s : ByteArray) (w : World) (hs : s.size ≤ 140737488351232) (hK : KT w) :
    Calls Tryd.prog 6 #[.string s] w fun e w' => e = .returned (.bool true) ∧ Below w.heap.size w w' := by
  have HK : Hid (KT w) := hK
  have HN : Hid (nb s ≤ 140737488351232) := by unfold Hid nb; omega
  have hp72 : (padStr s.size).size ≤ 72 := by rw [padStr_size]; omega
  have HM : Hid (s ++ padStr s.size = msg s) := rfl
  clear hK
  go_enter Tryd.func6, Tryd.ntmps6
  go_wp2_with fail
  refine (awake_any _ HK.out).mono ?_
  rintro e w1 ⟨rfl, b1⟩
  have K1 : Hid (KT w1) := HK.out.below b1
  go_wp2_with fail
  refine (of_any s _ (by omega) K1.out).mono ?_
  rintro e w2 ⟨rfl, b2⟩
  have B2 : Below w.heap.size w w2 := b1.trans (b2.mono b1.size)
  have K2 : Hid (KT w2) := K1.out.below b2
  clear b1 b2 K1 HK
  go_wp2_with fail
  refine (pad_all (s.size : Int) _ (by omega)).mono ?_
  rintro e w3 ⟨rfl, b3⟩
  have B3 : Below w.heap.size w w3 := B2.trans (b3.mono B2.size)
  have K3 : Hid (KT w3) := K2.out.below b3
  clear B2 b3 K2
  go_wp2_with fail
  rw [HM.out]
  refine (fold_any (msg s) (nb s) _ (msg_size s) HN.out K3.out).mono ?_
  rintro e w4 ⟨rfl, b4⟩
  have B4 : Below w.heap.size w w4 := B3.trans (b4.mono B3.size)
  clear B3 b4 K3 HN
  have heq : ∀ w, (Op.equalIn 10000 23 (.agg (cs .u8 32 (dg (hw (bt (msg s)) (nb s))))) (.agg (cs .u8 32 (dg (hw (bt (msg s)) (nb s)))))).run Tryd.prog w = .ok true w := fun w => run_equalIn_same w 9998 23 5 .u8 .u8 32 _ Tryd.und23 (by kernel_rfl) (by kernel_rfl) Tryd.underlying5
  generalize cs .u8 32 (dg (hw (bt (msg s)) (nb s))) = A at *
  go_wp2
  go_ret
  exact ⟨rfl, B4⟩
#print axioms folds_walk
end Go.Proofs.YtholbaefmncphaaDoor
