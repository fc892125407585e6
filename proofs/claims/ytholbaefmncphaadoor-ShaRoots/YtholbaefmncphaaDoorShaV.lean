/- The law ShaBlocks walked: it returns true for every eight words and every block. -/
import Derived.Test.YtholbaefmncphaaDoorShaU
import Derived.Test.YtholbaefmncphaaDoorShaE
import Derived.Deep.RegionHeld3
namespace Go.Proofs.YtholbaefmncphaaDoor
open Go.RowKit
/-- What holds in every world on the law's way: the two boxes, the table, what was there. -/
structure SB (w : World) (h b : Nat → Int) (w' : World) : Prop where
  rh : Row .u32 w' w.heap.size 8 h
  rb : Row .u8 w' (w.heap.size + 1) 64 b
  kt : KT w'
  bel : Below w.heap.size w w'
  sz : w.heap.size + 1 < w'.heap.size
theorem SB.next {w W w' : World} {h b : Nat → Int} (s : SB w h b W) (b6 : Below W.heap.size W w') : SB w h b w' :=
  ⟨s.rh.below b6 (by have := s.sz; omega), s.rb.below b6 s.sz, s.kt.below b6, s.bel.trans (b6.mono s.bel.size), Nat.lt_of_lt_of_le s.sz b6.size⟩
theorem SB.drew {w W : World} {h b : Nat → Int} (s : SB w h b W) : SB w h b W.drew := ⟨s.rh.drew, s.rb.drew, fun i hi => s.kt i hi, s.bel.drew, s.sz⟩
theorem SB.start (w : World) (h b : Nat → Int) (e1 e2 : TypeId) (hk : KT w) : SB w h b ((w.alloc (.cells (cs .u32 8 h) e1)).alloc (.cells (cs .u8 64 b) e2)) := by
  have z1 : (w.alloc (.cells (cs .u32 8 h) e1)).heap.size = w.heap.size + 1 := World.size_alloc _ _
  have r1 : Row .u32 (w.alloc (.cells (cs .u32 8 h) e1)) w.heap.size 8 h := Row.box
  have b1 : Below w.heap.size w (w.alloc (.cells (cs .u32 8 h) e1)) := (Below.refl _ _).alloc (Nat.le_refl _) _
  generalize w.alloc (.cells (cs .u32 8 h) e1) = w1 at z1 r1 b1 ⊢
  have r2 : Row .u8 (w1.alloc (.cells (cs .u8 64 b) e2)) w1.heap.size 64 b := Row.box
  have b2 := b1.alloc (by omega) (.cells (cs .u8 64 b) e2)
  rw [z1] at r2
  exact ⟨r1.alloc (by omega) _, r2, hk.below b2, b2, by rw [World.size_alloc]; omega⟩

/-- A whole array read in a region that draws its order. -/
theorem yieldsIf_arr {P : Program} {ops : Array Oper} {S : World → Prop} {op : Oper} {a : Act} {k : IntKind} {n e : Nat} {f : Nat → Int} (hw : Region.wanted op (yielded ops a.tmps) = true) (ty : TypeId) (x : Operand) (ho : op.op = .load ty x)
    (g : Nat) (hx : a.eval x = .pointer (some ⟨g, 0, none⟩)) (hS : ∀ w, S w → Row k w g n f) (hu : P.underlying ty = some (.array n e)) (hi : (P.info? ty).map (·.size) = some n) : YieldsIf P ops S op (.agg (cs k n f)) a := by
  have h := yieldsIf_load_mid (P := P) (ops := ops) (S := S) hw ty x ho g 0 hx (cs k n f).toList (.array n e) (fun w hs => (hS w hs).range) hu rfl (by rw [hi]; simp [cs_size])
  simpa using h

set_option maxHeartbeats 4000000 in
theorem blocks_walk (h b : Nat → Int) (w : World) (hh : ∀ j, W32 (h j)) (hb : ∀ j, 0 ≤ b j ∧ b j < 256) (hk : KT w) :
    Calls Tryd.prog 4 #[.agg (cs .u32 8 h), .agg (cs .u8 64 b)] w fun e w' => e = .returned (.bool true) ∧ Below w.heap.size w w' := by
  have HH : Hid (∀ j, W32 (h j)) := hh
  have HB : Hid (∀ j, 0 ≤ b j ∧ b j < 256) := hb
  have hS0 := SB.start w h b 28 29 hk
  clear hh hb hk
  go_enter Tryd.func4, Tryd.ntmps4
  go_wp2
  generalize (w.alloc (.cells (cs .u32 8 h) 28)).alloc (.cells (cs .u8 64 b) 29) = W at hS0 ⊢
  have heq : ∀ w, (Op.equalIn 10000 28 (.agg (cs .u32 8 (blk kk h b))) (.agg (cs .u32 8 (blk kk h b)))).run Tryd.prog w = .ok true w := fun w => run_equalIn_same w 9998 28 27 .u32 .u32 8 _ Tryd.underlying28 (by kernel_rfl) (by kernel_rfl) Tryd.underlying27
  refine wp_region_held_drew (S := SB w h b) (by kernel_rfl) hS0.drew (fun hHeld => ?_)
  refine wpAnyH_take (i := 0) rfl (by kernel_rfl) (by kernel_rfl) (by kernel_rfl) (fun _ _ _ h => h) (yieldsIf_arr (by rfl) 28 (.tmp 2) rfl (w.heap.size) rfl (fun w' s => s.rh) Tryd.underlying28 Tryd.sz28) hHeld ?_
  simp only [Act.put]
  refine wpAnyH_take (i := 1) rfl (by kernel_rfl) (by kernel_rfl) (by kernel_rfl) (fun _ _ _ h => h) (yieldsIf_arr (by rfl) 29 (.tmp 3) rfl (w.heap.size + 1) rfl (fun w' s => s.rb) Tryd.underlying29 Tryd.sz29) hHeld ?_
  simp only [Act.put]
  refine wpAnyH_take (i := 3) rfl (by kernel_rfl) (by kernel_rfl) (by kernel_rfl) (fun _ _ _ h => h) (yieldsIf_arr (by rfl) 28 (.tmp 2) rfl (w.heap.size) rfl (fun w' s => s.rh) Tryd.underlying28 Tryd.sz28) hHeld ?_
  simp only [Act.put]
  refine wpAnyH_take (i := 4) rfl (by kernel_rfl) (by kernel_rfl) (by kernel_rfl) (fun _ _ _ h => h) (yieldsIf_arr (by rfl) 29 (.tmp 3) rfl (w.heap.size + 1) rfl (fun w' s => s.rb) Tryd.underlying29 Tryd.sz29) hHeld ?_
  simp only [Act.put]
  refine wpAnyH_ready (rs := [2]) (by kernel_rfl) (by decide) (AllReadyH.cons rfl (fun K hK => ?_) AllReadyH.nil)
  · rw [if_pos (by rfl)]
    go_simp
    refine (block_any h b _ HH.out HB.out hHeld.kt).mono ?_
    rintro e w6 ⟨rfl, b6⟩
    go_wp2_with fail
    have hHeld2 := hHeld.next b6
    refine hK.out _ _ hHeld2 (fun _ => ?_)
    clear hK K
    try simp only [Act.put, List.setIfInBounds_toArray, List.set_cons_zero, List.set_cons_succ]
    refine wpAnyH_ready (rs := [5]) (by kernel_rfl) (by decide) (AllReadyH.cons rfl (fun K hK => ?_) AllReadyH.nil)
    rw [if_pos (by rfl)]
    go_simp
    refine (rblock_any h b _ HH.out HB.out).mono ?_
    rintro e w7 ⟨rfl, b7⟩
    go_wp2_with fail
    have hHeld3 := hHeld2.next b7
    refine hK.out _ _ hHeld3 (fun _ => ?_)
    clear hK K
    try simp only [Act.put, List.setIfInBounds_toArray, List.set_cons_zero, List.set_cons_succ]
    refine wpAnyH_ready (rs := [6]) (by kernel_rfl) (by decide) (AllReadyH.cons rfl (fun K hK => ?_) AllReadyH.nil)
    rw [if_pos (by rfl)]
    go_simp
    refine hK.out _ _ hHeld3 (fun hHeld4 => ?_)
    clear hK K
    try simp only [Act.put, List.setIfInBounds_toArray, List.set_cons_zero, List.set_cons_succ]
    refine wpAnyH_ready (rs := [7]) (by kernel_rfl) (by decide) (AllReadyH.cons rfl (fun K hK => ?_) AllReadyH.nil)
    rw [if_pos (by rfl)]
    go_simp
    refine hK.out _ _ hHeld3 (fun hHeld4 => ?_)
    clear hK K
    try simp only [Act.put, List.setIfInBounds_toArray, List.set_cons_zero, List.set_cons_succ]
    refine wpAnyH_done (by kernel_rfl) ?_ _
    go_wp2
    go_ret
    exact ⟨rfl, hHeld3.bel⟩
#print axioms blocks_walk
end Go.Proofs.YtholbaefmncphaaDoor
