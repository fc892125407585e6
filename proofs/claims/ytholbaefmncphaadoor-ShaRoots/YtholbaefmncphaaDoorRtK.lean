/- The law ShaRoots walked: it returns true for every eight words and every block. -/
import Derived.Test.YtholbaefmncphaaDoorRtH
import Derived.Test.YtholbaefmncphaaDoorShaV
namespace Go.Proofs.YtholbaefmncphaaDoor
open Go.RowKit
set_option maxHeartbeats 4000000 in
theorem roots_walk (h b : Nat → Int) (w : World) (hh : ∀ j, W32 (h j)) (hb : ∀ j, 0 ≤ b j ∧ b j < 256) (hk : KT w) :
    Calls Tryd.prog 5 #[.agg (cs .u32 8 h), .agg (cs .u8 64 b)] w fun e w' => e = .returned (.bool true) ∧ Below w.heap.size w w' := by
  have HH : Hid (∀ j, W32 (h j)) := hh
  have HB : Hid (∀ j, 0 ≤ b j ∧ b j < 256) := hb
  have hS0 := SB.start w h b 28 29 hk
  clear hh hb hk
  go_enter Tryd.func5, Tryd.ntmps5
  go_wp2
  generalize (w.alloc (.cells (cs .u32 8 h) 28)).alloc (.cells (cs .u8 64 b) 29) = W at hS0 ⊢
  have heq : ∀ w, (Op.equalIn 10000 28 (.agg (cs .u32 8 (blk kk h b))) (.agg (cs .u32 8 (blk kk h b)))).run Tryd.prog w = .ok true w := fun w => run_equalIn_same w 9998 28 27 .u32 .u32 8 _ Tryd.underlying28 (by kernel_rfl) (by kernel_rfl) Tryd.underlying27
  have heq2 : ∀ w, (Op.equalIn 10000 28 (.agg (cs .u32 8 stw)) (.agg (cs .u32 8 stw))).run Tryd.prog w = .ok true w := fun w => run_equalIn_same w 9998 28 27 .u32 .u32 8 _ Tryd.underlying28 (by kernel_rfl) (by kernel_rfl) Tryd.underlying27
  refine wp_region_held_drew (S := SB w h b) (by kernel_rfl) hS0.drew (fun hHeld => ?_)
  refine wpAnyH_take (i := 0) rfl (by kernel_rfl) (by kernel_rfl) (by kernel_rfl) (fun _ _ _ h => h) (yieldsIf_arr (by rfl) 28 (.tmp 2) rfl (w.heap.size) rfl (fun w' s => s.rh) Tryd.underlying28 Tryd.sz28) hHeld ?_
  simp only [Act.put]
  refine wpAnyH_take (i := 1) rfl (by kernel_rfl) (by kernel_rfl) (by kernel_rfl) (fun _ _ _ h => h) (yieldsIf_arr (by rfl) 29 (.tmp 3) rfl (w.heap.size + 1) rfl (fun w' s => s.rb) Tryd.underlying29 Tryd.sz29) hHeld ?_
  simp only [Act.put]
  refine wpAnyH_take (i := 3) rfl (by kernel_rfl) (by kernel_rfl) (by kernel_rfl) (fun _ _ _ h => h) (yieldsIf_arr (by rfl) 28 (.tmp 2) rfl (w.heap.size) rfl (fun w' s => s.rh) Tryd.underlying28 Tryd.sz28) hHeld ?_
  simp only [Act.put]
  refine wpAnyH_take (i := 4) rfl (by kernel_rfl) (by kernel_rfl) (by kernel_rfl) (fun _ _ _ h => h) (yieldsIf_arr (by rfl) 29 (.tmp 3) rfl (w.heap.size + 1) rfl (fun w' s => s.rb) Tryd.underlying29 Tryd.sz29) hHeld ?_
  simp only [Act.put]
  refine wpAnyH_ready (rs := [2]) (by kernel_rfl) (by decide) (AllReadyH.cons rfl (fun K hK => ?_) AllReadyH.nil)
  · rw [if_pos (by rfl)]
    go_simp
    refine (block_any h b _ HH.out HB.out hHeld.kt).mono ?_
    rintro e w6 ⟨rfl, b6⟩
    go_wp2_with fail
    have hHeld2 := hHeld.next b6
    refine hK.out _ _ hHeld2 (fun _ => ?_)
    clear hK K
    try simp only [Act.put, List.setIfInBounds_toArray, List.set_cons_zero, List.set_cons_succ]
    refine wpAnyH_ready (rs := [5]) (by kernel_rfl) (by decide) (AllReadyH.cons rfl (fun K hK => ?_) AllReadyH.nil)
    rw [if_pos (by rfl)]
    go_simp
    refine (rooted_any h b _ HH.out HB.out).mono ?_
    rintro e w7 ⟨rfl, b7⟩
    go_wp2_with fail
    have hHeld3 := hHeld2.next b7
    refine hK.out _ _ hHeld3 (fun _ => ?_)
    clear hK K
    try simp only [Act.put, List.setIfInBounds_toArray, List.set_cons_zero, List.set_cons_succ]
    refine wpAnyH_ready (rs := [6]) (by kernel_rfl) (by decide) (AllReadyH.cons rfl (fun K hK => ?_) AllReadyH.nil)
    rw [if_pos (by rfl)]
    go_simp
    refine hK.out _ _ hHeld3 (fun _ => ?_)
    clear hK K
    try simp only [Act.put, List.setIfInBounds_toArray, List.set_cons_zero, List.set_cons_succ]
    refine wpAnyH_ready (rs := [7]) (by kernel_rfl) (by decide) (AllReadyH.cons rfl (fun K hK => ?_) AllReadyH.nil)
    rw [if_pos (by rfl)]
    go_simp
    refine hK.out _ _ hHeld3 (fun _ => ?_)
    clear hK K
    try simp only [Act.put, List.setIfInBounds_toArray, List.set_cons_zero, List.set_cons_succ]
    refine wpAnyH_ready (rs := [8]) (by kernel_rfl) (by decide) (AllReadyH.cons rfl (fun K hK => ?_) AllReadyH.nil)
    rw [if_pos (by rfl)]
    go_simp
    refine (rooted8_any _).mono ?_
    rintro e w8 ⟨rfl, b8⟩
    go_wp2_with fail
    have hHeld5 := hHeld3.next b8
    refine hK.out _ _ hHeld5 (fun _ => ?_)
    clear hK K
    try simp only [Act.put, List.setIfInBounds_toArray, List.set_cons_zero, List.set_cons_succ]
    refine wpAnyH_ready (rs := [9]) (by kernel_rfl) (by decide) (AllReadyH.cons rfl (fun K hK => ?_) AllReadyH.nil)
    rw [if_pos (by rfl)]
    go_simp
    refine (rstart_any _).mono ?_
    rintro e w9 ⟨rfl, b9⟩
    go_wp2_with fail
    have hHeld6 := hHeld5.next b9
    refine hK.out _ _ hHeld6 (fun _ => ?_)
    clear hK K
    try simp only [Act.put, List.setIfInBounds_toArray, List.set_cons_zero, List.set_cons_succ]
    refine wpAnyH_ready (rs := [10]) (by kernel_rfl) (by decide) (AllReadyH.cons rfl (fun K hK => ?_) AllReadyH.nil)
    rw [if_pos (by rfl)]
    go_simp
    refine hK.out _ _ hHeld6 (fun _ => ?_)
    clear hK K
    try simp only [Act.put, List.setIfInBounds_toArray, List.set_cons_zero, List.set_cons_succ]
    refine wpAnyH_ready (rs := [11]) (by kernel_rfl) (by decide) (AllReadyH.cons rfl (fun K hK => ?_) AllReadyH.nil)
    rw [if_pos (by rfl)]
    go_simp
    refine hK.out _ _ hHeld6 (fun _ => ?_)
    clear hK K
    try simp only [Act.put, List.setIfInBounds_toArray, List.set_cons_zero, List.set_cons_succ]
    refine wpAnyH_ready (rs := [12]) (by kernel_rfl) (by decide) (AllReadyH.cons rfl (fun K hK => ?_) AllReadyH.nil)
    rw [if_pos (by rfl)]
    go_simp
    refine hK.out _ _ hHeld6 (fun _ => ?_)
    clear hK K
    try simp only [Act.put, List.setIfInBounds_toArray, List.set_cons_zero, List.set_cons_succ]
    refine wpAnyH_done (by kernel_rfl) ?_ _
    go_wp2
    go_ret
    exact ⟨rfl, hHeld6.bel⟩
#print axioms roots_walk
end Go.Proofs.YtholbaefmncphaaDoor
