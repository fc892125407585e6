/- Rooted of the reference, walked: as Block. -/
import Derived.Test.YtholbaefmncphaaDoorRtG
import Derived.Test.YtholbaefmncphaaDoorOfE
import Derived.Deep.RegionHeld3
namespace Go.Proofs.YtholbaefmncphaaDoor
open Go.RowKit

/-- A whole array read in a region that draws its order. -/
theorem yieldsIf_row {P : Program} {ops : Array Oper} {S : World → Prop} {op : Oper} {a : Act} {k : IntKind} {n e : Nat} {f : Nat → Int} (hw : Region.wanted op (yielded ops a.tmps) = true) (ty : TypeId) (x : Operand) (ho : op.op = .load ty x)
    (g : Nat) (hx : a.eval x = .pointer (some ⟨g, 0, none⟩)) (hS : ∀ w, S w → Row k w g n f) (hu : P.underlying ty = some (.array n e)) (hi : (P.info? ty).map (·.size) = some n) : YieldsIf P ops S op (.agg (cs k n f)) a := by
  have h := yieldsIf_load_mid (P := P) (ops := ops) (S := S) hw ty x ho g 0 hx (cs k n f).toList (.array n e) (fun w hs => (hS w hs).range) hu rfl (by rw [hi]; simp [cs_size])
  simpa using h
theorem Row.there {k : IntKind} {w : World} {g n : Nat} {f : Nat → Int} (h : Row k w g n f) : w.there g 0 n := fun j hj => by
  rw [Nat.zero_add, h.cell j hj, h.free j hj]
  exact ⟨rfl, rfl⟩

set_option maxRecDepth 100000 in
set_option maxHeartbeats 8000000 in
theorem rooted_any (h b : Nat → Int) (w : World) (hh : ∀ j, W32 (h j)) (hb : ∀ j, 0 ≤ b j ∧ b j < 256) :
    Calls Tryd.prog 11 #[.agg (cs .u32 8 h), .agg (cs .u8 64 b)] w fun e w' => e = .returned (.agg (cs .u32 8 (blk kk h b))) ∧ Below w.heap.size w w' := by
  have HH : Hid (∀ j, W32 (h j)) := hh
  have HB : Hid (∀ j, 0 ≤ b j ∧ b j < 256) := hb
  clear hh hb
  go_enter Tryd.func11, Tryd.ntmps11
  go_wp2_with (refine wpList_load_arr (by rfl) 29 (.tmp 3) (by rfl) (w.heap.size + 1) (by rfl) (startB w h b _ _ _ _ rfl).2.1 Tryd.underlying29 Tryd.sz29 ?_)
  obtain ⟨RH, RB, RR, B, hz⟩ := startB w h b 28 29 28 #[.int .u32 0, .int .u32 0, .int .u32 0, .int .u32 0, .int .u32 0, .int .u32 0, .int .u32 0, .int .u32 0] rfl
  generalize ((w.alloc (.cells (cs .u32 8 h) 28)).alloc (.cells (cs .u8 64 b) 29)).alloc (.cells #[.int .u32 0, .int .u32 0, .int .u32 0, .int .u32 0, .int .u32 0, .int .u32 0, .int .u32 0, .int .u32 0] 28) = W at RH RB RR B hz ⊢
  refine (words_any b _ HB.out).mono ?_
  rintro e w1 ⟨rfl, b1⟩
  have RH1 := RH.below b1 (by omega)
  have RR1 := RR.below b1 (by omega)
  have B1 : Below w.heap.size w w1 := B.trans (b1.mono (by omega))
  have hz1 : w.heap.size + 3 ≤ w1.heap.size := by have := b1.size; omega
  clear RH RB RR B hz b1
  go_wp2_with (first | (refine wpList_store_any (by rfl) 40 (.tmp 5) (.tmp 11) (by rfl) w1.heap.size (by rfl) (by rfl) (Row.rep (n := 64) (z := 0) rfl) Tryd.sz40 (by rfl) ?_; intro W2 RS2 U2; have RH2 := (RH1.alloc (by omega) _).upd U2 (by rw [World.size_alloc]; omega) (by omega); have RR2 := (RR1.alloc (by omega) _).upd U2 (by rw [World.size_alloc]; omega) (by omega); have B2 : Below w.heap.size w W2 := U2.below (B1.alloc (by omega) _) (by omega) (by rw [World.size_alloc]; omega); have hz2 : w1.heap.size < W2.heap.size := (by rw [U2.size, World.size_alloc]; omega); clear RH1 RR1 B1 U2) | (refine wpList_load_arr (by rfl) 28 (.tmp 2) (by rfl) w.heap.size (by rfl) RH2 Tryd.underlying28 Tryd.sz28 ?_) | (refine wpList_store_any (by rfl) 28 (.tmp 6) (.tmp 12) (by rfl) W2.heap.size (by rfl) (by rfl) (Row.rep (n := 8) (z := 0) rfl) Tryd.sz28 (by rfl) ?_; intro W5 RV5 U5))
  have RH5 := (RH2.alloc (by omega) _).upd U5 (by rw [World.size_alloc]; omega) (by omega)
  have RR5 := (RR2.alloc (by omega) _).upd U5 (by rw [World.size_alloc]; omega) (by omega)
  have RS5 := (RS2.alloc (by omega) _).upd U5 (by rw [World.size_alloc]; omega) (by omega)
  have B5 : Below w.heap.size w W5 := U5.below (B2.alloc (by omega) _) (by omega) (by rw [World.size_alloc]; omega)
  have hz5 : W2.heap.size < W5.heap.size := by rw [U5.size, World.size_alloc]; omega
  clear RH2 RR2 RS2 B2 U5
  generalize w1.heap.size = gw at *
  generalize W2.heap.size = gv at *
  go_loopw [7, 8] (fun xp xi wr => ∃ k : Nat, k ≤ 64 ∧ xp = .int .i64 ((prs64.getD k 0 : Nat) : Int) ∧ xi = .int .i64 (k : Int) ∧ Hid (Row .u32 wr w.heap.size 8 h) ∧ Hid (Row .u32 wr (w.heap.size + 1 + 1) 8 (fun _ => 0)) ∧ Hid (Row .u32 wr gw 64 (sch b 64)) ∧ Hid (Row .u32 wr gv 8 (rnd kk h (sch b 64) k)) ∧ Hid (Below w.heap.size w wr) ∧ gv < wr.heap.size) (fun _ i _ => 64 - (intOf i).toNat)
  case atStart => exact ⟨0, by omega, rfl, rfl, RH5, RR5, RS5, RV5, B5, hz5⟩
  case round =>
    obtain ⟨k, hk, rfl, rfl, RH, RR, RS, RV, B, hz⟩ := hrel
    clear RH5 RR5 RS5 RV5 B5 hz5
    by_cases hlt : k < 64
    · have hst : Hid (stp (rnd kk h (sch b 64) k) (pl (kk k) (sch b 64 k)) = rnd kk h (sch b 64) (k + 1)) := rfl
      have hv : Hid (∀ j, W32 (rnd kk h (sch b 64) k j)) := rnd_w kk h (sch b 64) HH.out k
      have HN : Hid (nxT 100 (prs64.getD k 0 + 1) = some (prs64.getD (k + 1) 0)) := next64 k hlt
      have HP1 : Hid (1 ≤ prs64.getD k 0 ∧ prs64.getD k 0 ≤ 400) := prs64_bd k (by omega)
      have HP2 : Hid (1 ≤ prs64.getD (k + 1) 0 ∧ prs64.getD (k + 1) 0 ≤ 400) := prs64_bd (k + 1) (by omega)
      obtain ⟨r, hr, hr2⟩ := root64 k hlt
      have HR : Hid (rootT (prs64.getD (k + 1) 0) 3 = some r) := hr
      have HR2 : Hid (((r % 4294967296 : Nat) : Int) = kk k) := hr2
      clear hr hr2
      obtain ⟨p, hp⟩ : ∃ p, prs64.getD k 0 = p := ⟨_, rfl⟩
      obtain ⟨q, hq⟩ : ∃ q, prs64.getD (k + 1) 0 = q := ⟨_, rfl⟩
      have HQ : Hid (prs64.getD (k + 1) 0 = q) := hq
      rw [hp, hq] at HN
      rw [hp] at HP1 ⊢
      rw [hq] at HP2 HR
      clear hp hq
      go_wp2_with fail
      refine (next_any p q _ HP1.out.1 HP1.out.2 HN.out).mono ?_
      rintro e w2 ⟨rfl, rfl⟩
      go_wp2_with fail
      have cw : w2.cell? ⟨gw, k, none⟩ = some (.int .u32 (sch b 64 k)) := RS.out.cell k (by omega)
      generalize rnd kk h (sch b 64) k = v at hst hv RV
      obtain ⟨wk, hwk⟩ : ∃ x, sch b 64 k = x := ⟨_, rfl⟩
      obtain ⟨qk, hqk⟩ : ∃ x, kk k = x := ⟨_, rfl⟩
      rw [hwk, hqk] at hst
      rw [hwk] at cw
      rw [hqk] at HR2
      have HWK : Hid (sch b 64 k = wk) := hwk
      clear hwk hqk
      have hadd : IntKind.u32.wrap (qk + wk) = pl qk wk := by rw [IntKind.wrap_u32]; rfl
      have hgw : gw < w2.heap.size := by omega
      have bD : Below w2.heap.size w2 w2.drew := (Below.refl _ _).drew
      have cwd : w2.drew.cell? ⟨gw, k, none⟩ = some (.int .u32 wk) := cw
      refine wp_region_held_drew (S := fun W => W.cell? ⟨gw, k, none⟩ = some (.int .u32 wk)) (by kernel_rfl) cwd (fun hH => ?_)
      clear hH
      refine wpAnyH_take (i := 1) (oi := { dst := some 20, op := Op.move (Operand.tmp 7), type := 3, pos := "ref.go:77", after := #[], guard := none }) (v := .int .i64 (q : Int)) rfl (by kernel_rfl) (by kernel_rfl) (by kernel_rfl) (fun _ _ _ h => h) (Or.inl ⟨by rfl, by intro w hS; go_simp⟩) cwd ?_
      simp only [Act.put, List.setIfInBounds_toArray, List.set_cons_zero, List.set_cons_succ]
      refine wpAnyH_take (i := 3) (oi := { dst := some 22, op := Op.move (Operand.tmp 8), type := 3, pos := "ref.go:77", after := #[], guard := none }) (v := .int .i64 (k : Int)) rfl (by kernel_rfl) (by kernel_rfl) (by kernel_rfl) (fun _ _ _ h => h) (Or.inl ⟨by rfl, by intro w hS; go_simp⟩) cwd ?_
      simp only [Act.put, List.setIfInBounds_toArray, List.set_cons_zero, List.set_cons_succ]
      refine wpAnyH_take (i := 4) (oi := { dst := some 23, op := Op.indexAddr 40 (Operand.tmp 5) (Operand.tmp 22), type := 0, pos := "ref.go:77", after := #[{ on := 3, ground := Ground.data }], guard := none }) (v := .pointer (some ⟨gw, k, none⟩)) rfl (by kernel_rfl) (by kernel_rfl) (by kernel_rfl) (fun _ _ _ h => h) (Or.inl ⟨by rfl, by intro w hS; go_simp⟩) cwd ?_
      simp only [Act.put, List.setIfInBounds_toArray, List.set_cons_zero, List.set_cons_succ]
      refine wpAnyH_take (i := 5) (oi := { dst := some 24, op := Op.load 27 (Operand.tmp 23), type := 27, pos := "ref.go:77", after := #[{ on := 4, ground := Ground.data }], guard := none }) (v := .int .u32 wk) rfl (by kernel_rfl) (by kernel_rfl) (by kernel_rfl) (fun _ _ _ h => h) (Or.inl ⟨by rfl, by intro w hS; go_simp⟩) cwd ?_
      simp only [Act.put, List.setIfInBounds_toArray, List.set_cons_zero, List.set_cons_succ]
      refine wpAnyH_ready (rs := [0, 2]) (by kernel_rfl) (by decide) (AllReadyH.cons rfl (fun K hK => ?_) (AllReadyH.cons rfl (fun K hK => ?_) AllReadyH.nil))
      · rw [if_pos (by rfl)]
        refine wp_load_at (e := 27) 28 (.tmp 6) rfl gv 0 rfl (RV.out.below bD hz).range Tryd.underlying28 Tryd.sz28 19 rfl ?_
        refine hK.out _ _ ((bD.cell (p := ⟨gw, k, none⟩) hgw).trans cw) (fun _ => ?_)
        clear hK K
        try simp only [Act.put, List.setIfInBounds_toArray, List.set_cons_zero, List.set_cons_succ]
        refine wpAnyH_ready (rs := [2]) (by kernel_rfl) (by decide) (AllReadyH.cons rfl (fun K hK => ?_) AllReadyH.nil)
        rw [if_pos (by rfl)]
        go_simp
        refine (root_any q 3 r _ HP2.out.2 (by omega) (by omega) HR.out).mono ?_
        rintro e w6 ⟨rfl, b6⟩
        rw [HR2.out]
        have b7 : Below w2.heap.size w2 w6 := below_n bD b6
        go_wp2_with fail
        refine hK.out _ _ ((b7.cell (p := ⟨gw, k, none⟩) hgw).trans cw) (fun _ => ?_)
        clear hK K b6
        try simp only [Act.put, List.setIfInBounds_toArray, List.set_cons_zero, List.set_cons_succ]
        refine wpAnyH_take (i := 6) (oi := { dst := some 25, op := Op.binOp BinOp.add 27 (Operand.tmp 21) (Operand.tmp 24) 27, type := 27, pos := "ref.go:77", after := #[{ on := 2, ground := Ground.data }, { on := 5, ground := Ground.data }], guard := none }) (v := .int .u32 (pl qk wk)) rfl (by kernel_rfl) (by kernel_rfl) (by kernel_rfl) (fun _ _ _ h => h) (Or.inl ⟨by rfl, by intro w hS; go_simp⟩) ((b7.cell (p := ⟨gw, k, none⟩) hgw).trans cw) ?_
        simp only [Act.put, List.setIfInBounds_toArray, List.set_cons_zero, List.set_cons_succ]
        refine wpAnyH_ready (rs := [7]) (by kernel_rfl) (by decide) (AllReadyH.cons rfl (fun K hK => ?_) AllReadyH.nil)
        rw [if_pos (by rfl)]
        go_simp
        refine (step_any v (pl qk wk) _ hv.out).mono ?_
        rintro e w8 ⟨rfl, b8⟩
        have b9 : Below w2.heap.size w2 w8 := below_n b7 b8
        go_wp2_with fail
        refine hK.out _ _ ((b9.cell (p := ⟨gw, k, none⟩) hgw).trans cw) (fun _ => ?_)
        clear hK K b8 b7
        try simp only [Act.put, List.setIfInBounds_toArray, List.set_cons_zero, List.set_cons_succ]
        have RV9 := RV.out.below b9 hz
        have RH9 := RH.out.below b9 (by omega)
        have RR9 := RR.out.below b9 (by omega)
        have RS9 := RS.out.below b9 (by omega)
        have B9 := below_n B.out b9
        have z9 : gv < w8.heap.size := Nat.lt_of_lt_of_le hz b9.size
        refine wpAnyH_ready (rs := [8]) (by kernel_rfl) (by decide) (AllReadyH.cons rfl (fun K hK => ?_) AllReadyH.nil)
        rw [if_pos (by rfl)]
        refine wp_store_at (f := stp v (pl qk wk)) 28 (.tmp 6) (.tmp 26) rfl gv 0 rfl rfl RV9.there Tryd.sz28 rfl ?_
        have PV : Hid (Row .u32 (w8.setCells gv 0 (cs .u32 8 (stp v (pl qk wk))).toList) gv 8 (stp v (pl qk wk))) := put_row RV9
        have U9 : Upd w8 (w8.setCells gv 0 (cs .u32 8 (stp v (pl qk wk))).toList) gv := put_upd w8 gv .u32 8 _
        have PH : Hid (Row .u32 (w8.setCells gv 0 (cs .u32 8 (stp v (pl qk wk))).toList) w.heap.size 8 h) := RH9.upd U9 (by omega) (by omega)
        have PR : Hid (Row .u32 (w8.setCells gv 0 (cs .u32 8 (stp v (pl qk wk))).toList) (w.heap.size + 1 + 1) 8 (fun _ => 0)) := RR9.upd U9 (by omega) (by omega)
        have PS : Row .u32 (w8.setCells gv 0 (cs .u32 8 (stp v (pl qk wk))).toList) gw 64 (sch b 64) := RS9.upd U9 (by omega) (by omega)
        have PB : Hid (Below w.heap.size w (w8.setCells gv 0 (cs .u32 8 (stp v (pl qk wk))).toList)) := U9.below B9 (by omega) (by omega)
        have pz : gv < (w8.setCells gv 0 (cs .u32 8 (stp v (pl qk wk))).toList).heap.size := by rw [U9.size]; exact z9
        have pc := PS.cell k (by omega)
        rw [HWK.out] at pc
        have HPS : Hid (Row .u32 (w8.setCells gv 0 (cs .u32 8 (stp v (pl qk wk))).toList) gw 64 (sch b 64)) := PS
        clear RV9 RH9 RR9 RS9 B9 z9 U9 PS
        generalize w8.setCells gv 0 (cs .u32 8 (stp v (pl qk wk))).toList = W9 at *
        refine hK.out _ _ pc (fun _ => ?_)
        clear hK K pc
        refine wpAnyH_done (by kernel_rfl) ?_ _
        rw [hst.out] at PV
        go_wp2
        go_roundw
        case rel => exact ⟨k + 1, by omega, by rw [HQ.out], by go_num, PH, PR, HPS, PV, PB, pz⟩
        case measure => simp only [intOf]; omega
      · rw [if_pos (by rfl)]
        go_simp
        refine (root_any q 3 r _ HP2.out.2 (by omega) (by omega) HR.out).mono ?_
        rintro e w6 ⟨rfl, b6⟩
        rw [HR2.out]
        have b7 : Below w2.heap.size w2 w6 := below_n bD b6
        go_wp2_with fail
        refine hK.out _ _ ((b7.cell (p := ⟨gw, k, none⟩) hgw).trans cw) (fun _ => ?_)
        clear hK K b6
        try simp only [Act.put, List.setIfInBounds_toArray, List.set_cons_zero, List.set_cons_succ]
        refine wpAnyH_take (i := 6) (oi := { dst := some 25, op := Op.binOp BinOp.add 27 (Operand.tmp 21) (Operand.tmp 24) 27, type := 27, pos := "ref.go:77", after := #[{ on := 2, ground := Ground.data }, { on := 5, ground := Ground.data }], guard := none }) (v := .int .u32 (pl qk wk)) rfl (by kernel_rfl) (by kernel_rfl) (by kernel_rfl) (fun _ _ _ h => h) (Or.inl ⟨by rfl, by intro w hS; go_simp⟩) ((b7.cell (p := ⟨gw, k, none⟩) hgw).trans cw) ?_
        simp only [Act.put, List.setIfInBounds_toArray, List.set_cons_zero, List.set_cons_succ]
        refine wpAnyH_ready (rs := [0]) (by kernel_rfl) (by decide) (AllReadyH.cons rfl (fun K hK => ?_) AllReadyH.nil)
        rw [if_pos (by rfl)]
        refine wp_load_at (e := 27) 28 (.tmp 6) rfl gv 0 rfl (RV.out.below b7 hz).range Tryd.underlying28 Tryd.sz28 19 rfl ?_
        refine hK.out _ _ ((b7.cell (p := ⟨gw, k, none⟩) hgw).trans cw) (fun _ => ?_)
        clear hK K
        try simp only [Act.put, List.setIfInBounds_toArray, List.set_cons_zero, List.set_cons_succ]
        refine wpAnyH_ready (rs := [7]) (by kernel_rfl) (by decide) (AllReadyH.cons rfl (fun K hK => ?_) AllReadyH.nil)
        rw [if_pos (by rfl)]
        go_simp
        refine (step_any v (pl qk wk) _ hv.out).mono ?_
        rintro e w8 ⟨rfl, b8⟩
        have b9 : Below w2.heap.size w2 w8 := below_n b7 b8
        go_wp2_with fail
        refine hK.out _ _ ((b9.cell (p := ⟨gw, k, none⟩) hgw).trans cw) (fun _ => ?_)
        clear hK K b8 b7
        try simp only [Act.put, List.setIfInBounds_toArray, List.set_cons_zero, List.set_cons_succ]
        have RV9 := RV.out.below b9 hz
        have RH9 := RH.out.below b9 (by omega)
        have RR9 := RR.out.below b9 (by omega)
        have RS9 := RS.out.below b9 (by omega)
        have B9 := below_n B.out b9
        have z9 : gv < w8.heap.size := Nat.lt_of_lt_of_le hz b9.size
        refine wpAnyH_ready (rs := [8]) (by kernel_rfl) (by decide) (AllReadyH.cons rfl (fun K hK => ?_) AllReadyH.nil)
        rw [if_pos (by rfl)]
        refine wp_store_at (f := stp v (pl qk wk)) 28 (.tmp 6) (.tmp 26) rfl gv 0 rfl rfl RV9.there Tryd.sz28 rfl ?_
        have PV : Hid (Row .u32 (w8.setCells gv 0 (cs .u32 8 (stp v (pl qk wk))).toList) gv 8 (stp v (pl qk wk))) := put_row RV9
        have U9 : Upd w8 (w8.setCells gv 0 (cs .u32 8 (stp v (pl qk wk))).toList) gv := put_upd w8 gv .u32 8 _
        have PH : Hid (Row .u32 (w8.setCells gv 0 (cs .u32 8 (stp v (pl qk wk))).toList) w.heap.size 8 h) := RH9.upd U9 (by omega) (by omega)
        have PR : Hid (Row .u32 (w8.setCells gv 0 (cs .u32 8 (stp v (pl qk wk))).toList) (w.heap.size + 1 + 1) 8 (fun _ => 0)) := RR9.upd U9 (by omega) (by omega)
        have PS : Row .u32 (w8.setCells gv 0 (cs .u32 8 (stp v (pl qk wk))).toList) gw 64 (sch b 64) := RS9.upd U9 (by omega) (by omega)
        have PB : Hid (Below w.heap.size w (w8.setCells gv 0 (cs .u32 8 (stp v (pl qk wk))).toList)) := U9.below B9 (by omega) (by omega)
        have pz : gv < (w8.setCells gv 0 (cs .u32 8 (stp v (pl qk wk))).toList).heap.size := by rw [U9.size]; exact z9
        have pc := PS.cell k (by omega)
        rw [HWK.out] at pc
        have HPS : Hid (Row .u32 (w8.setCells gv 0 (cs .u32 8 (stp v (pl qk wk))).toList) gw 64 (sch b 64)) := PS
        clear RV9 RH9 RR9 RS9 B9 z9 U9 PS
        generalize w8.setCells gv 0 (cs .u32 8 (stp v (pl qk wk))).toList = W9 at *
        refine hK.out _ _ pc (fun _ => ?_)
        clear hK K pc
        refine wpAnyH_done (by kernel_rfl) ?_ _
        rw [hst.out] at PV
        go_wp2
        go_roundw
        case rel => exact ⟨k + 1, by omega, by rw [HQ.out], by go_num, PH, PR, HPS, PV, PB, pz⟩
        case measure => simp only [intOf]; omega
    · obtain rfl : k = 64 := by omega
      have hbl : Hid (∀ j, (rnd kk h (sch b 64) 64 j + h j) % 4294967296 = blk kk h b j) := fun j => by unfold blk pl; rw [Int.add_comm]
      replace RH := RH.out
      replace RR := RR.out
      replace RV := RV.out
      replace B := B.out
      clear RS
      generalize rnd kk h (sch b 64) 64 = v at hbl RV
      go_wp2
      go_loopw [9] (fun i wr => ∃ m : Nat, m ≤ 8 ∧ i = .int .i64 m ∧ Row .u32 wr w.heap.size 8 h ∧ Row .u32 wr (w.heap.size + 1 + 1) 8 (fun _ => 0) ∧ Row .u32 wr gv 8 (fun j => if j < m then (v j + h j) % 4294967296 else v j) ∧ Below w.heap.size w wr ∧ gv < wr.heap.size) (fun i _ => 8 - (intOf i).toNat)
      case atStart => exact ⟨0, by omega, rfl, RH, RR, RV.congr (fun j _ => by simp), B, hz⟩
      case round =>
        obtain ⟨m, hm, rfl, RH, RR, RV, B, hz⟩ := hrel
        by_cases hml : m < 8
        · have c0 := RH.cell m hml
          have d0 := RV.cell m hml
          rw [if_neg (by omega)] at d0
          have f0 := RV.free m hml
          go_wp2
          go_region
          all_goals go_wp2
          all_goals
            go_roundw
            case rel =>
              refine ⟨m + 1, by omega, by go_num, (RH.other _ _ (show w.heap.size ≠ gv by omega)).drew, (RR.other _ _ (show w.heap.size + 1 + 1 ≠ gv by omega)).drew, ((RV.set m _ hml).congr (fun j _ => ?_)).drew, (B.setCell (show w.heap.size ≤ gv by omega) _).drew, by simp; omega⟩
              by_cases e : j = m
              · subst e; rw [if_pos rfl, if_pos (by omega)]
              · rw [if_neg e]
                by_cases g : j < m
                · rw [if_pos g, if_pos (by omega)]
                · rw [if_neg g, if_neg (by omega)]
            case measure => simp [intOf]; omega
        · obtain rfl : m = 8 := by omega
          go_wp2_with (first | (refine wpList_load_arr (by rfl) 28 (.tmp 6) (by rfl) gv (by rfl) RV Tryd.underlying28 Tryd.sz28 ?_) | (refine wpList_store_any (by rfl) 28 (.tmp 4) (.tmp 39) (by rfl) (w.heap.size + 1 + 1) (by rfl) (by rfl) RR Tryd.sz28 (by rfl) ?_; intro W9 R9 U9))
          refine bodyPost_ret (results_arr Tryd.results11 _ _ rfl R9 Tryd.underlying28 Tryd.sz28) rfl ⟨?_, U9.below B (by omega) B.size⟩
          exact congrArg (fun c => Ending.returned (Value.agg c)) (cs_congr .u32 8 (fun j hj => by rw [if_pos hj]; exact hbl.out j))
#print axioms rooted_any
end Go.Proofs.YtholbaefmncphaaDoor
