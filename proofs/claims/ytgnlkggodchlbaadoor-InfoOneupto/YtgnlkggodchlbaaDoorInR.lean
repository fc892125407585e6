/- The document's SplitSign; walked. -/
import Derived.Test.YtgnlkggodchlbaaDoorInQ
namespace Go.Proofs.YtgnlkggodchlbaaDoor
open Go.RowKit

set_option maxRecDepth 100000 in
set_option maxHeartbeats 1000000 in
theorem rspS_any (s : ByteArray) (w : World) (hs : s.size ≤ 1048576) :
    Calls Tryd.prog 10 #[.string s] w fun e w' => e = .returned (.tuple #[.string (snN s), .agg (cs .u8 32 (snD s)), .int .i64 (snC s)]) ∧ Below w.heap.size w w' := by
  have R0 : Row .u8 (w.alloc (.cells (cs .u8 32 (fun _ => 0)) 22)) w.heap.size 32 (fun _ => 0) := Row.box
  have B0 : Below w.heap.size w (w.alloc (.cells (cs .u8 32 (fun _ => 0)) 22)) := (Below.refl _ _).alloc (Nat.le_refl _) _
  have z0 : w.heap.size < (w.alloc (.cells (cs .u8 32 (fun _ => 0)) 22)).heap.size := by rw [World.size_alloc]; omega
  have hb := get_bt s
  generalize hN : snN s = xN
  generalize hE : snD s = xD
  generalize hC : snC s = xC
  have HN : Hid (snN s = xN) := hN
  have HE : Hid (snD s = xD) := hE
  have HC : Hid (snC s = xC) := hC
  clear hN hE hC
  go_enter Tryd.func10, Tryd.ntmps10
  go_wp2
  rw [cs_zero32]
  generalize w.alloc (.cells (cs .u8 32 (fun _ => 0)) 22) = w0 at R0 B0 z0 ⊢
  go_loop [5] (fun i => ∃ k : Nat, k ≤ s.size ∧ i = .int .i64 (k : Int) ∧ Hid (∀ j, j < k → bt s j ≠ 58)) (fun i => s.size - (intOf i).toNat)
  case atStart => exact ⟨0, Nat.zero_le _, rfl, fun j hj => absurd hj (by omega)⟩
  case round =>
    obtain ⟨k, hk, rfl, hok⟩ := hrel
    by_cases hlt : k < s.size
    · by_cases hc : bt s k = 58
      · have hf : fst s 58 = k := fst_uniq hk hok.out (Or.inr hc)
        have e1 : (bt s k == 58) = true := by rw [hc]; rfl
        have e2 : (bt s k != 58) = false := by rw [hc]; rfl
        have e3 : ((k : Int) == (s.size : Int)) = false := by rw [beq_eq_false_iff_ne]; omega
        have e4 : ¬ (k : Int) = (s.size : Int) := by omega
        have k1 : k + 1 ≤ s.size := by omega
        have k2 : (k : Int) + 1 ≤ (s.size : Int) := by omega
        have k3 : ¬ (k : Int) + 1 < 0 := by omega
        have k4 : ((k : Int) + 1).toNat = k + 1 := by omega
        have hA : snA s = s.extract 0 k := by unfold snA; rw [hf]
        have hB : snB s = s.extract (k + 1) s.size := by unfold snB; rw [hf]
        have hBs : (snB s).size ≤ 1048576 := by rw [hB, ByteArray.size_extract]; omega
        have CD := rdgO_any (snB s) w0 hBs
        rw [hB] at CD
        by_cases hD : dOk (snB s)
        · by_cases hS : sgOk (snA s)
          · have hsn : snOk s := ⟨by rw [hf]; exact hlt, hS, hD⟩
            have eD : Hid (dFn (s.extract (k + 1) s.size) = xD) := by unfold Hid; rw [← hB, dFn_yes hD, ← HE.out, snD_yes hsn]
            have eN : Hid (xN = s.extract 0 k) := by unfold Hid; rw [← HN.out, snN_yes hsn, hA]
            have eC : Hid (xC = 0) := by unfold Hid; rw [← HC.out, snC_yes hsn]
            rw [eD.out, show decide (dOk (s.extract (k + 1) s.size)) = true from by rw [← hB]; exact decide_eq_true hD] at CD
            have HCS : Hid (sgC (s.extract 0 k) = 0) := by unfold Hid; rw [← hA]; exact sgC_yes hS
            clear hf hA hB hD hS hsn hok hBs hc HN HE HC eD
            go_wp2_with fail
            refine CD.mono ?_
            clear CD
            rintro e w3 ⟨rfl, b3⟩
            have R3 : Hid (Row .u8 w3 w.heap.size 32 (fun _ => 0)) := R0.below b3 z0
            have B3 : Hid (Below w.heap.size w w3) := B0.trans (b3.mono B0.size)
            have z3 : Hid (w.heap.size < w3.heap.size) := Nat.lt_of_lt_of_le z0 b3.size
            clear b3 R0 B0 z0
            go_wp2_with (refine wpList_store_any (by rfl) 22 (.tmp 6) (.tmp 31) (by rfl) w3.heap.size (by rfl) (by rfl) (Row.rep (by rfl)) szR32 (by rfl) ?_; intro W4 R4 U4; refine Hid.out ?_)
            unfold Hid
            have R4' : Hid (Row .u8 W4.drew w.heap.size 32 (fun _ => 0)) := ((R3.out.alloc z3.out _).upd U4 (by rw [World.size_alloc]; have := z3.out; omega) (by have := z3.out; omega)).drew
            have B4 : Hid (Below w.heap.size w W4.drew) := (U4.below (B3.out.alloc B3.out.size _) (by have := z3.out; omega) (by rw [World.size_alloc]; have := z3.out; omega)).drew
            have z4 : Hid (w.heap.size < W4.drew.heap.size) := by show w.heap.size < W4.heap.size; rw [U4.size, World.size_alloc]; have := z3.out; omega
            have z5 : Hid (w3.heap.size < W4.drew.heap.size) := by show w3.heap.size < W4.heap.size; rw [U4.size, World.size_alloc]; omega
            clear R3 B3 U4
            go_wp2_with fail
            refine (rckS_any _ _).mono ?_
            rintro e w5 ⟨rfl, hw5⟩
            subst hw5
            rw [HCS.out]
            clear HCS
            go_wp2
            refine wp_region_held_drew (S := fun W => Row .u8 W w3.heap.size 32 xD) (by kernel_rfl) R4.drew (fun hH => ?_)
            generalize w5.drew = W at R4' B4 z4 z5 hH ⊢
            refine wpAnyH_take (i := 0) (oi := { dst := some 43, op := Op.move (Operand.tmp 0), type := 9, pos := "ref.go:73", after := #[], guard := none }) (v := .string s) rfl (by kernel_rfl) (by kernel_rfl) (by kernel_rfl) (fun _ _ _ h => h) (Or.inl ⟨by rfl, by intro w _; go_simp⟩) hH ?_
            simp only [Act.put, List.setIfInBounds_toArray, List.set_cons_zero, List.set_cons_succ]
            refine wpAnyH_take (i := 1) (oi := { dst := some 44, op := Op.move (Operand.tmp 5), type := 3, pos := "ref.go:73", after := #[], guard := none }) (v := .int .i64 (k : Int)) rfl (by kernel_rfl) (by kernel_rfl) (by kernel_rfl) (fun _ _ _ h => h) (Or.inl ⟨by rfl, by intro w _; go_simp⟩) hH ?_
            simp only [Act.put, List.setIfInBounds_toArray, List.set_cons_zero, List.set_cons_succ]
            refine wpAnyH_take (i := 2) (oi := { dst := some 45, op := Op.slice 9 (Operand.tmp 43) none (some (Operand.tmp 44)) none, type := 9, pos := "ref.go:73", after := #[{ on := 0, ground := Ground.data }, { on := 1, ground := Ground.data }], guard := none }) (v := .string (s.extract 0 k)) rfl (by kernel_rfl) (by kernel_rfl) (by kernel_rfl) (fun _ _ _ h => h) (Or.inl ⟨by rfl, by intro w _; go_simp⟩) hH ?_
            simp only [Act.put, List.setIfInBounds_toArray, List.set_cons_zero, List.set_cons_succ]
            refine wpAnyH_take (i := 3) (oi := { dst := some 46, op := Op.load 22 (Operand.tmp 6), type := 22, pos := "ref.go:73", after := #[{ on := 4, ground := Ground.gcOnly Departure.lateStores }], guard := none }) rfl (by kernel_rfl) (by kernel_rfl) (by kernel_rfl) (fun _ _ _ h => h) (yieldsIf_arr (by rfl) 22 (.tmp 6) rfl w3.heap.size rfl (fun w' s => s) undD32 szR32) hH ?_
            simp only [Act.put, List.setIfInBounds_toArray, List.set_cons_zero, List.set_cons_succ]
            refine wpAnyH_ready (rs := [4]) (by kernel_rfl) (by decide) (AllReadyH.cons rfl (fun K hK => ?_) AllReadyH.nil)
            rw [if_pos (by rfl)]
            go_simp
            refine hK.out _ _ hH (fun hH2 => ?_)
            clear hK K
            try simp only [Act.put, List.setIfInBounds_toArray, List.set_cons_zero, List.set_cons_succ]
            refine wpAnyH_ready (rs := [5]) (by kernel_rfl) (by decide) (AllReadyH.cons rfl (fun K hK => ?_) AllReadyH.nil)
            rw [if_pos (by rfl)]
            refine wp_store_mid 22 (.tmp 3) (.tmp 46) rfl w.heap.size 0 (cs .u8 32 xD) rfl rfl (by rw [cs_size]; exact R4'.out.thereAll) (by rw [cs_size]; exact szR32) (cs_all _ _ _) ?_
            have U6 := put_upd W w.heap.size .u8 32 xD
            have R6 := put_row (f := xD) R4'.out
            have R7 : Row .u8 (put W w.heap.size .u8 32 xD) w3.heap.size 32 xD := hH2.upd U6 z5.out (by have := z3.out; omega)
            change K _ (put W w.heap.size .u8 32 xD)
            generalize put W w.heap.size .u8 32 xD = W6 at U6 R6 R7 ⊢
            refine hK.out _ _ R7 (fun hH3 => ?_)
            clear hK K
            try simp only [Act.put]
            refine wpAnyH_ready (rs := [6]) (by kernel_rfl) (by decide) (AllReadyH.cons rfl (fun K hK => ?_) AllReadyH.nil)
            rw [if_pos (by rfl)]
            go_simp
            refine hK.out _ _ hH3 (fun hH4 => ?_)
            clear hK K
            try simp only [Act.put, List.setIfInBounds_toArray, List.set_cons_zero, List.set_cons_succ]
            refine wpAnyH_done (by kernel_rfl) ?_ _
            go_wp2
            exact bodyPost_ret (results_tct Tryd.results10 _ _ rfl R6 undD32 szR32) rfl ⟨by rw [eN.out, eC.out]; rfl, U6.below B4.out (Nat.le_refl _) (by have := z4.out; omega)⟩
          · have hsn : ¬ snOk s := fun h => hS h.2.1
            have eN : Hid (xN = ⟨#[]⟩) := by unfold Hid; rw [← HN.out, snN_no hsn]
            have eD : Hid (xD = fun _ => 0) := by unfold Hid; rw [← HE.out, snD_no hsn]
            have eC : Hid (xC = 151) := by unfold Hid; rw [← HC.out, snC_no hsn]
            rw [show decide (dOk (s.extract (k + 1) s.size)) = true from by rw [← hB]; exact decide_eq_true hD] at CD
            generalize dFn (s.extract (k + 1) s.size) = Y at CD
            have HCS : Hid (sgC (s.extract 0 k) = 151) := by unfold Hid; rw [← hA]; exact sgC_no hS
            clear hf hA hB hD hS hsn hok hBs hc HN HE HC
            go_wp2_with fail
            refine CD.mono ?_
            clear CD
            rintro e w3 ⟨rfl, b3⟩
            have R3 : Hid (Row .u8 w3 w.heap.size 32 (fun _ => 0)) := R0.below b3 z0
            have B3 : Hid (Below w.heap.size w w3) := B0.trans (b3.mono B0.size)
            have z3 : Hid (w.heap.size < w3.heap.size) := Nat.lt_of_lt_of_le z0 b3.size
            clear b3 R0 B0 z0
            go_wp2_with (refine wpList_store_any (by rfl) 22 (.tmp 6) (.tmp 31) (by rfl) w3.heap.size (by rfl) (by rfl) (Row.rep (by rfl)) szR32 (by rfl) ?_; intro W4 R4 U4; refine Hid.out ?_)
            unfold Hid
            have R4' : Row .u8 W4 w.heap.size 32 (fun _ => 0) := ((R3.out.alloc z3.out _).upd U4 (by rw [World.size_alloc]; have := z3.out; omega) (by have := z3.out; omega))
            have B4 : Below w.heap.size w W4 := (U4.below (B3.out.alloc B3.out.size _) (by have := z3.out; omega) (by rw [World.size_alloc]; have := z3.out; omega))
            have z4 : w.heap.size < W4.heap.size := by rw [U4.size, World.size_alloc]; have := z3.out; omega
            clear R3 B3 U4 R4
            go_wp2_with fail
            refine (rckS_any _ _).mono ?_
            rintro e w5 ⟨rfl, hw5⟩
            subst hw5
            rw [HCS.out]
            clear HCS
            go_wp2_with (refine wpList_store_any (by rfl) 22 (.tmp 3) (.tmp 42) (by rfl) w.heap.size (by rfl) (by exact congrArg Value.agg cs_zero32) R4' szR32 (by rfl) ?_; intro W5 R5 U5)
            exact bodyPost_ret (results_tct Tryd.results10 _ _ rfl R5 undD32 szR32) rfl ⟨by rw [eN.out, eD.out, eC.out]; rfl, U5.below B4 (Nat.le_refl _) (by omega)⟩
        · have hsn : ¬ snOk s := fun h => hD h.2.2
          have eN : Hid (xN = ⟨#[]⟩) := by unfold Hid; rw [← HN.out, snN_no hsn]
          have eD : Hid (xD = fun _ => 0) := by unfold Hid; rw [← HE.out, snD_no hsn]
          have eC : Hid (xC = 151) := by unfold Hid; rw [← HC.out, snC_no hsn]
          rw [show decide (dOk (s.extract (k + 1) s.size)) = false from by rw [← hB]; exact decide_eq_false hD] at CD
          generalize dFn (s.extract (k + 1) s.size) = Y at CD
          clear hf hA hB hD hsn hok hBs hc HN HE HC
          go_wp2_with fail
          refine CD.mono ?_
          clear CD
          rintro e w3 ⟨rfl, b3⟩
          have R3 : Hid (Row .u8 w3 w.heap.size 32 (fun _ => 0)) := R0.below b3 z0
          have B3 : Hid (Below w.heap.size w w3) := B0.trans (b3.mono B0.size)
          have z3 : Hid (w.heap.size < w3.heap.size) := Nat.lt_of_lt_of_le z0 b3.size
          clear b3 R0 B0 z0
          go_wp2_with (refine wpList_store_any (by rfl) 22 (.tmp 6) (.tmp 31) (by rfl) w3.heap.size (by rfl) (by rfl) (Row.rep (by rfl)) szR32 (by rfl) ?_; intro W4 R4 U4; refine Hid.out ?_)
          unfold Hid
          have R4' : Row .u8 W4 w.heap.size 32 (fun _ => 0) := ((R3.out.alloc z3.out _).upd U4 (by rw [World.size_alloc]; have := z3.out; omega) (by have := z3.out; omega))
          have B4 : Below w.heap.size w W4 := (U4.below (B3.out.alloc B3.out.size _) (by have := z3.out; omega) (by rw [World.size_alloc]; have := z3.out; omega))
          have z4 : w.heap.size < W4.heap.size := by rw [U4.size, World.size_alloc]; have := z3.out; omega
          clear R3 B3 U4 R4
          go_wp2_with (refine wpList_store_any (by rfl) 22 (.tmp 3) (.tmp 42) (by rfl) w.heap.size (by rfl) (by exact congrArg Value.agg cs_zero32) R4' szR32 (by rfl) ?_; intro W5 R5 U5)
          exact bodyPost_ret (results_tct Tryd.results10 _ _ rfl R5 undD32 szR32) rfl ⟨by rw [eN.out, eD.out, eC.out]; rfl, U5.below B4 (Nat.le_refl _) (by omega)⟩
      · have e1 : (bt s k == 58) = false := by rw [beq_eq_false_iff_ne]; exact hc
        have e2 : (bt s k != 58) = true := by rw [bne_iff_ne]; exact hc
        have hok2 : Hid (∀ j, j < k + 1 → bt s j ≠ 58) := fun j hj => by
          by_cases e : j = k
          · rw [e]; exact hc
          · exact hok.out j (by omega)
        clear hc
        go_wp2
        go_round
        case rel => exact ⟨k + 1, by omega, by go_num, hok2⟩
        case measure => simp [intOf]; omega
    · obtain rfl : k = s.size := by omega
      have hf : fst s 58 = s.size := fst_uniq (Nat.le_refl _) hok.out (Or.inl rfl)
      have hsn : ¬ snOk s := fun h => by have := h.1; omega
      have eN : Hid (xN = ⟨#[]⟩) := by unfold Hid; rw [← HN.out, snN_no hsn]
      have eD : Hid (xD = fun _ => 0) := by unfold Hid; rw [← HE.out, snD_no hsn]
      have eC : Hid (xC = 151) := by unfold Hid; rw [← HC.out, snC_no hsn]
      have e3 : ((s.size : Int) == (s.size : Int)) = true := by simp
      clear hf hsn hok HN HE HC
      go_wp2_with (refine wpList_store_any (by rfl) 22 (.tmp 3) (.tmp 24) (by rfl) w.heap.size (by rfl) (by exact congrArg Value.agg cs_zero32) R0 szR32 (by rfl) ?_; intro W5 R5 U5)
      exact bodyPost_ret (results_tct Tryd.results10 _ _ rfl R5 undD32 szR32) rfl ⟨by rw [eN.out, eD.out, eC.out]; rfl, U5.below B0 (Nat.le_refl _) (by omega)⟩

end Go.Proofs.YtgnlkggodchlbaaDoor
