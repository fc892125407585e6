/- Gathered: OfE. -/
import Derived.Deep.RegionHeld3
import Derived.Test.YtdjjleahfciipaaGreatDoorQD
/- A digest's State in memory, moved on; what advance does. -/
namespace Go.Proofs.YtdjjleahfciipaaGreatDoor
open Go.RowKit
theorem Stt.same {w w' : World} {g : Nat} {n : Int} {h f : Nat → Int} (s : Stt w g n h f) (e : w'.heap[g]? = w.heap[g]?) : Stt w' g n h f :=
  ⟨by rw [World.cell?_of_block (w := w) (w' := w') (a := ⟨g, 0, none⟩) e]; exact s.c0,
   fun j hj => by rw [World.cell?_of_block (w := w) (w' := w') (a := ⟨g, 1 + j, none⟩) e]; exact s.cw j hj,
   fun j hj => by rw [World.cell?_of_block (w := w) (w' := w') (a := ⟨g, 9 + j, none⟩) e]; exact s.cb j hj,
   fun j hj => by rw [World.frozen?_of_block (w := w) (w' := w') (a := ⟨g, j, none⟩) e]; exact s.fr j hj⟩
theorem Stt.lt {w : World} {g : Nat} {n : Int} {h f : Nat → Int} (s : Stt w g n h f) : g < w.heap.size := block_lt_of_cell s.c0
theorem Stt.below {w w' : World} {g B : Nat} {n : Int} {h f : Nat → Int} (s : Stt w g n h f) (b : Below B w w') (hg : g < B) : Stt w' g n h f := s.same (b.block g hg)
theorem Stt.drew {w : World} {g : Nat} {n : Int} {h f : Nat → Int} (s : Stt w g n h f) : Stt w.drew g n h f := s.same rfl
theorem Stt.kept {w w' : World} {g g' : Nat} {n : Int} {h f : Nat → Int} (s : Stt w g n h f) (b : w.grownBy w' (some g')) (hg : g ≠ g') : Stt w' g n h f := s.same (b.block g s.lt (by simpa using hg))
theorem Stt.set0 {w : World} {g : Nat} {n : Int} {h f : Nat → Int} (s : Stt w g n h f) (n' : Int) : Stt (w.setCell ⟨g, 0, none⟩ (.int .i64 n')) g n' h f :=
  ⟨World.cell?_setCell_same _ _ _ s.c0,
   fun j hj => by rw [World.cell?_setCell_other _ _ _ _ (fun c => by injection c with _ c2 _; omega)]; exact s.cw j hj,
   fun j hj => by rw [World.cell?_setCell_other _ _ _ _ (fun c => by injection c with _ c2 _; omega)]; exact s.cb j hj,
   fun j hj => by rw [World.frozen?_setCell]; exact s.fr j hj⟩
theorem Stt.setB {w : World} {g : Nat} {n : Int} {h f : Nat → Int} (s : Stt w g n h f) (i : Nat) (hi : i < 64) (x : Int) : Stt (w.setCell ⟨g, 9 + i, none⟩ (.int .u8 x)) g n h (fun j => if j = i then x else f j) :=
  ⟨by rw [World.cell?_setCell_other _ _ _ _ (fun c => by injection c with _ c2 _; omega)]; exact s.c0,
   fun j hj => by rw [World.cell?_setCell_other _ _ _ _ (fun c => by injection c with _ c2 _; omega)]; exact s.cw j hj,
   fun j hj => by
    by_cases e : j = i
    · subst e; rw [World.cell?_setCell_same _ _ _ (s.cb j hj), if_pos rfl]
    · rw [World.cell?_setCell_other _ _ _ _ (fun c => by injection c with _ c2 _; omega), if_neg e]; exact s.cb j hj,
   fun j hj => by rw [World.frozen?_setCell]; exact s.fr j hj⟩
theorem Stt.rangeW {w : World} {g : Nat} {n : Int} {h f : Nat → Int} (s : Stt w g n h f) : w.rangeAt g 1 (cs .u32 8 h).toList := fun j v hv => by
  have hj : j < 8 := by
    have := (List.getElem?_eq_some_iff.1 hv).1
    simpa [cs_size] using this
  rw [Array.getElem?_toList, cs_get .u32 8 h j hj] at hv
  rw [s.cw j hj]
  exact hv
theorem Stt.rangeB {w : World} {g : Nat} {n : Int} {h f : Nat → Int} (s : Stt w g n h f) : w.rangeAt g 9 (cs .u8 64 f).toList := fun j v hv => by
  have hj : j < 64 := by
    have := (List.getElem?_eq_some_iff.1 hv).1
    simpa [cs_size] using this
  rw [Array.getElem?_toList, cs_get .u8 64 f j hj] at hv
  rw [s.cb j hj]
  exact hv
theorem Stt.thereW {w : World} {g : Nat} {n : Int} {h f : Nat → Int} (s : Stt w g n h f) : w.there g 1 8 := fun j hj => by
  rw [s.cw j hj, s.fr (1 + j) (by omega)]
  exact ⟨rfl, rfl⟩
theorem Stt.putW {w : World} {g : Nat} {n : Int} {h f : Nat → Int} (s : Stt w g n h f) (h' : Nat → Int) : Stt (w.setCells g 1 (cs .u32 8 h').toList) g n h' f :=
  ⟨by rw [World.cell?_setCells_out _ _ _ _ _ (fun _ _ => .inl (by simp))]; exact s.c0,
   fun j hj => World.rangeAt_setCells_same w g 1 (cs .u32 8 h').toList (by simpa [cs_size] using s.thereW) j _ (by rw [Array.getElem?_toList, cs_get .u32 8 h' j hj]),
   fun j hj => by rw [World.cell?_setCells_out _ _ _ _ _ (fun _ _ => .inr (by simp [cs_size]))]; exact s.cb j hj,
   fun j hj => by rw [World.frozen?_setCells]; exact s.fr j hj⟩
theorem gb_trans {a b c : World} {r : Option Nat} (h1 : a.grownBy b r) (h2 : b.grownBy c r) : a.grownBy c r :=
  ⟨h2.os.trans h1.os, h2.tape.trans h1.tape, h2.output.trans h1.output, Nat.le_trans h1.size h2.size, fun k hk hne => (h2.block k (Nat.lt_of_lt_of_le hk h1.size) hne).trans (h1.block k hk hne)⟩
theorem gb_below {a b : World} (h : Below a.heap.size a b) (r : Option Nat) : a.grownBy b r := ⟨h.os, h.tape, h.output, h.size, fun k hk _ => h.block k hk⟩
theorem gb_below' {a b : World} {g : Nat} (h : Below g a b) (hg : g + 1 = a.heap.size) : a.grownBy b (some g) := ⟨h.os, h.tape, h.output, h.size, fun k hk hne => h.block k (by have : k ≠ g := fun e => hne (by rw [e]); omega)⟩
theorem gb_set (w : World) (g o : Nat) (v : Value) : w.grownBy (w.setCell ⟨g, o, none⟩ v) (some g) := by
  have b : Below 0 w (w.setCell ⟨g, o, none⟩ v) := (Below.refl _ _).setCell (Nat.zero_le _) _
  exact ⟨b.os, b.tape, b.output, b.size, fun k _ hne => Below.heap_setCell w _ v k (fun e => hne (by rw [e]))⟩
theorem gb_setCells (w : World) (g o : Nat) (vs : List Value) : w.grownBy (w.setCells g o vs) (some g) := by
  have b : Below 0 w (w.setCells g o vs) := setCells_below g (Nat.zero_le _) vs o w w (Below.refl _ _)
  exact ⟨b.os, b.tape, b.output, b.size, fun k hk hne => World.heap_setCells_other w g o vs hk (fun e => hne (by rw [e]))⟩
theorem gb_drew {a w : World} {r : Option Nat} (h : a.grownBy w r) : a.grownBy w.drew r := ⟨h.os, h.tape, h.output, h.size, h.block⟩
theorem KT.grown {w w' : World} {g : Nat} (h : KT w) (b : w.grownBy w' (some g)) (hg : 0 < g) : KT w' := fun i hi => by
  rw [World.cell?_of_block (w := w) (w' := w') (a := ⟨0, i, none⟩) (b.block 0 h.lt (by simp; omega))]
  exact h i hi
/-- The words behind N bytes in all, f the block. -/
def adv (h f : Nat → Int) (N : Int) : Nat → Int := if N % 64 = 0 then blk kk h f else h

set_option maxRecDepth 10000 in
set_option maxHeartbeats 2000000 in
theorem advance_no (g : Nat) (n k : Int) (h f : Nat → Int) (w : World) (S : Stt w g n h f) (h0 : 0 ≤ n) (h1 : 0 ≤ k) (h2 : n + k ≤ 4611686018427387904) (ht : (n + k) % 64 ≠ 0) :
    Calls Tryz.prog 47 #[.pointer (some ⟨g, 0, none⟩), .int .i64 k] w fun e w' => e = .returned (.tuple #[]) ∧ Stt w' g (n + k) (adv h f (n + k)) f ∧ w.grownBy w' (some g) := by
  have c0 := S.c0
  have f0 := S.fr 0 (by omega)
  have S1 := S.set0 (n + k)
  have ea : Hid (adv h f (n + k) = h) := by unfold Hid adv; rw [if_neg ht]
  have t : ((n + k) % 64 == 0) = false := by simp [ht]
  clear S ht
  go_enter Tryz.func47, Tryz.ntmps47
  go_wp2
  go_end0
  rw [ea.out]
  exact ⟨rfl, S1, gb_set _ _ _ _⟩

/-- What holds on the way through the region: the State, the table. -/
structure SA (w : World) (g : Nat) (N : Int) (h f : Nat → Int) (w' : World) : Prop where
  st : Stt w' g N h f
  kt : KT w'
  gb : w.grownBy w' (some g)
theorem SA.drew {w W : World} {g : Nat} {N : Int} {h f : Nat → Int} (s : SA w g N h f W) : SA w g N h f W.drew := ⟨s.st.drew, fun i hi => s.kt i hi, gb_drew s.gb⟩
theorem SA.next {w W W' : World} {g : Nat} {N : Int} {h f : Nat → Int} (s : SA w g N h f W) (b : Below W.heap.size W W') : SA w g N h f W' :=
  ⟨s.st.below b s.st.lt, s.kt.below b, gb_trans s.gb (gb_below b _)⟩

theorem wp_load_at {P : Program} {op : Oper} {a : Act} {w : World} {K : Act → World → Prop} {Q : Exit → Act → World → Prop} {k : IntKind} {n e : Nat} {f : Nat → Int} (ty : TypeId) (x : Operand) (ho : op.op = .load ty x)
    (b o : Nat) (hx : a.eval x = .pointer (some ⟨b, o, none⟩)) (hc : w.rangeAt b o (cs k n f).toList) (hu : P.underlying ty = some (.array n e)) (hi : (P.info? ty).map (·.size) = some n)
    (t : Tmp) (hdst : op.dst = some t) (h : K (a.put (some t) (.agg (cs k n f))) w) : op.wp P a w K Q :=
  wp_load_mid ty x ho b o hx (cs k n f).toList (.array n e) hc hu rfl (by rw [hi]; simp [cs_size]) (by rw [hdst]; simpa using h)
theorem wp_store_at {P : Program} {op : Oper} {a : Act} {w : World} {K : Act → World → Prop} {Q : Exit → Act → World → Prop} {k : IntKind} {n : Nat} {f : Nat → Int} (ty : TypeId) (x y : Operand) (ho : op.op = .store ty x y)
    (b o : Nat) (hx : a.eval x = .pointer (some ⟨b, o, none⟩)) (hy : a.eval y = .agg (cs k n f)) (ht : w.there b o n) (hi : (P.info? ty).map (·.size) = some n)
    (hdst : op.dst = none) (h : K a (w.setCells b o (cs k n f).toList)) : op.wp P a w K Q :=
  wp_store_mid ty x y ho b o (cs k n f) hx hy (by rw [cs_size]; exact ht) (by rw [cs_size]; exact hi) (cs_all k n f) (by rw [hdst]; exact h)

set_option maxRecDepth 10000 in
set_option maxHeartbeats 4000000 in
theorem advance_yes (g : Nat) (n k : Int) (h f : Nat → Int) (w : World) (S : Stt w g n h f) (h0 : 0 ≤ n) (h1 : 0 ≤ k) (h2 : n + k ≤ 4611686018427387904) (ht : (n + k) % 64 = 0)
    (hh : ∀ j, W32 (h j)) (hf : ∀ j, 0 ≤ f j ∧ f j < 256) (hK : KT w) (hg : 0 < g) :
    Calls Tryz.prog 47 #[.pointer (some ⟨g, 0, none⟩), .int .i64 k] w fun e w' => e = .returned (.tuple #[]) ∧ Stt w' g (n + k) (adv h f (n + k)) f ∧ w.grownBy w' (some g) := by
  have c0 := S.c0
  have f0 := S.fr 0 (by omega)
  have SAs : SA w g (n + k) h f (w.setCell ⟨g, 0, none⟩ (.int .i64 (n + k))) := ⟨S.set0 (n + k), hK.grown (gb_set _ _ _ _) hg, gb_set _ _ _ _⟩
  have ea : Hid (adv h f (n + k) = blk kk h f) := by unfold Hid adv; rw [if_pos ht]
  have t : ((n + k) % 64 == 0) = true := by simp [ht]
  have HH : Hid (∀ j, W32 (h j)) := hh
  have HB : Hid (∀ j, 0 ≤ f j ∧ f j < 256) := hf
  clear S ht hh hf hK
  go_enter Tryz.func47, Tryz.ntmps47
  go_wp2
  generalize w.setCell ⟨g, 0, none⟩ (.int .i64 (n + k)) = W at SAs ⊢
  refine wp_region_held_drew (S := fun _ => True) (by kernel_rfl) trivial (fun hHeld => ?_)
  replace SAs := SAs.drew
  generalize W.drew = W1 at SAs ⊢
  refine wpAnyH_take (i := 0) (oi := { dst := some 21, op := Op.move (Operand.tmp 0), type := 60, pos := "sha.go:62", after := #[], guard := none }) (v := .pointer (some ⟨g, 0, none⟩)) rfl (by kernel_rfl) (by kernel_rfl) (by kernel_rfl) (fun _ _ _ h => h) (Or.inl ⟨by rfl, by intro w _; go_simp⟩) trivial ?_
  simp only [Act.put, List.setIfInBounds_toArray, List.set_cons_zero, List.set_cons_succ]
  refine wpAnyH_take (i := 1) (oi := { dst := some 22, op := Op.move (Operand.tmp 0), type := 60, pos := "sha.go:62", after := #[], guard := none }) (v := .pointer (some ⟨g, 0, none⟩)) rfl (by kernel_rfl) (by kernel_rfl) (by kernel_rfl) (fun _ _ _ h => h) (Or.inl ⟨by rfl, by intro w _; go_simp⟩) trivial ?_
  simp only [Act.put, List.setIfInBounds_toArray, List.set_cons_zero, List.set_cons_succ]
  refine wpAnyH_take (i := 5) (oi := { dst := some 26, op := Op.move (Operand.tmp 0), type := 60, pos := "sha.go:62", after := #[], guard := none }) (v := .pointer (some ⟨g, 0, none⟩)) rfl (by kernel_rfl) (by kernel_rfl) (by kernel_rfl) (fun _ _ _ h => h) (Or.inl ⟨by rfl, by intro w _; go_simp⟩) trivial ?_
  simp only [Act.put, List.setIfInBounds_toArray, List.set_cons_zero, List.set_cons_succ]
  refine wpAnyH_take (i := 2) (oi := { dst := some 23, op := Op.nilCheck (Operand.tmp 22), type := 0, pos := "sha.go:62", after := #[{ on := 1, ground := Ground.data }], guard := none }) (v := .pointer (some ⟨g, 0, none⟩)) rfl (by kernel_rfl) (by kernel_rfl) (by kernel_rfl) (fun _ _ _ h => h) (Or.inl ⟨by rfl, by intro w _; go_simp⟩) trivial ?_
  simp only [Act.put, List.setIfInBounds_toArray, List.set_cons_zero, List.set_cons_succ]
  refine wpAnyH_take (i := 6) (oi := { dst := some 27, op := Op.nilCheck (Operand.tmp 26), type := 0, pos := "sha.go:62", after := #[{ on := 5, ground := Ground.data }], guard := none }) (v := .pointer (some ⟨g, 0, none⟩)) rfl (by kernel_rfl) (by kernel_rfl) (by kernel_rfl) (fun _ _ _ h => h) (Or.inl ⟨by rfl, by intro w _; go_simp⟩) trivial ?_
  simp only [Act.put, List.setIfInBounds_toArray, List.set_cons_zero, List.set_cons_succ]
  refine wpAnyH_take (i := 3) (oi := { dst := some 24, op := Op.fieldAddr 112 (Operand.tmp 23) 1, type := 0, pos := "sha.go:62", after := #[{ on := 2, ground := Ground.data }], guard := none }) (v := .pointer (some ⟨g, 1, none⟩)) rfl (by kernel_rfl) (by kernel_rfl) (by kernel_rfl) (fun _ _ _ h => h) (Or.inl ⟨by rfl, by intro w _; go_simp⟩) trivial ?_
  simp only [Act.put, List.setIfInBounds_toArray, List.set_cons_zero, List.set_cons_succ]
  refine wpAnyH_take (i := 7) (oi := { dst := some 28, op := Op.fieldAddr 112 (Operand.tmp 27) 2, type := 0, pos := "sha.go:62", after := #[{ on := 6, ground := Ground.data }], guard := none }) (v := .pointer (some ⟨g, 9, none⟩)) rfl (by kernel_rfl) (by kernel_rfl) (by kernel_rfl) (fun _ _ _ h => h) (Or.inl ⟨by rfl, by intro w _; go_simp⟩) trivial ?_
  simp only [Act.put, List.setIfInBounds_toArray, List.set_cons_zero, List.set_cons_succ]
  refine wpAnyH_ready (rs := [4, 8]) (by kernel_rfl) (by decide) (AllReadyH.cons rfl (fun K hK => ?_) (AllReadyH.cons rfl (fun K hK => ?_) AllReadyH.nil))
  · rw [if_pos (by rfl)]
    refine wp_load_at (e := 105) 106 (.tmp 24) rfl g 1 rfl SAs.st.rangeW Tryz.underlying106 Tryz.sz106 25 rfl ?_
    refine hK.out _ _ trivial (fun _ => ?_)
    clear hK K
    simp only [Act.put, List.setIfInBounds_toArray, List.set_cons_zero, List.set_cons_succ]
    refine wpAnyH_ready (rs := [8]) (by kernel_rfl) (by decide) (AllReadyH.cons rfl (fun K hK => ?_) AllReadyH.nil)
    rw [if_pos (by rfl)]
    refine wp_load_at (e := 5) 110 (.tmp 28) rfl g 9 rfl SAs.st.rangeB Tryz.underlying110 Tryz.sz110 29 rfl ?_
    refine hK.out _ _ trivial (fun _ => ?_)
    clear hK K
    simp only [Act.put, List.setIfInBounds_toArray, List.set_cons_zero, List.set_cons_succ]
    refine wpAnyH_ready (rs := [9]) (by kernel_rfl) (by decide) (AllReadyH.cons rfl (fun K hK => ?_) AllReadyH.nil)
    rw [if_pos (by rfl)]
    go_simp
    refine (block_any h f _ HH.out HB.out SAs.kt).mono ?_
    rintro e w6 ⟨rfl, b6⟩
    go_wp2_with fail
    have SB := SAs.next b6
    refine hK.out _ _ trivial (fun _ => ?_)
    clear hK K
    try simp only [Act.put, List.setIfInBounds_toArray, List.set_cons_zero, List.set_cons_succ]
    refine wpAnyH_ready (rs := [10]) (by kernel_rfl) (by decide) (AllReadyH.cons rfl (fun K hK => ?_) AllReadyH.nil)
    rw [if_pos (by rfl)]
    go_simp
    refine hK.out _ _ trivial (fun _ => ?_)
    clear hK K
    try simp only [Act.put, List.setIfInBounds_toArray, List.set_cons_zero, List.set_cons_succ]
    refine wpAnyH_ready (rs := [11]) (by kernel_rfl) (by decide) (AllReadyH.cons rfl (fun K hK => ?_) AllReadyH.nil)
    rw [if_pos (by rfl)]
    go_simp
    refine hK.out _ _ trivial (fun _ => ?_)
    clear hK K
    try simp only [Act.put, List.setIfInBounds_toArray, List.set_cons_zero, List.set_cons_succ]
    refine wpAnyH_ready (rs := [12]) (by kernel_rfl) (by decide) (AllReadyH.cons rfl (fun K hK => ?_) AllReadyH.nil)
    rw [if_pos (by rfl)]
    refine wp_store_at (f := blk kk h f) 106 (.tmp 32) (.tmp 30) rfl g 1 rfl rfl SB.st.thereW Tryz.sz106 rfl ?_
    refine hK.out _ _ trivial (fun _ => ?_)
    clear hK K
    refine wpAnyH_done (by kernel_rfl) ?_ _
    have SC := SB.st.putW (blk kk h f)
    have GC := gb_trans SB.gb (gb_setCells w6 g 1 (cs .u32 8 (blk kk h f)).toList)
    generalize w6.setCells g 1 (cs .u32 8 (blk kk h f)).toList = W9 at SC GC ⊢
    go_wp2
    go_end0
    rw [ea.out]
    exact ⟨rfl, SC, GC⟩
  · rw [if_pos (by rfl)]
    refine wp_load_at (e := 5) 110 (.tmp 28) rfl g 9 rfl SAs.st.rangeB Tryz.underlying110 Tryz.sz110 29 rfl ?_
    refine hK.out _ _ trivial (fun _ => ?_)
    clear hK K
    simp only [Act.put, List.setIfInBounds_toArray, List.set_cons_zero, List.set_cons_succ]
    refine wpAnyH_ready (rs := [4]) (by kernel_rfl) (by decide) (AllReadyH.cons rfl (fun K hK => ?_) AllReadyH.nil)
    rw [if_pos (by rfl)]
    refine wp_load_at (e := 105) 106 (.tmp 24) rfl g 1 rfl SAs.st.rangeW Tryz.underlying106 Tryz.sz106 25 rfl ?_
    refine hK.out _ _ trivial (fun _ => ?_)
    clear hK K
    simp only [Act.put, List.setIfInBounds_toArray, List.set_cons_zero, List.set_cons_succ]
    refine wpAnyH_ready (rs := [9]) (by kernel_rfl) (by decide) (AllReadyH.cons rfl (fun K hK => ?_) AllReadyH.nil)
    rw [if_pos (by rfl)]
    go_simp
    refine (block_any h f _ HH.out HB.out SAs.kt).mono ?_
    rintro e w6 ⟨rfl, b6⟩
    go_wp2_with fail
    have SB := SAs.next b6
    refine hK.out _ _ trivial (fun _ => ?_)
    clear hK K
    try simp only [Act.put, List.setIfInBounds_toArray, List.set_cons_zero, List.set_cons_succ]
    refine wpAnyH_ready (rs := [10]) (by kernel_rfl) (by decide) (AllReadyH.cons rfl (fun K hK => ?_) AllReadyH.nil)
    rw [if_pos (by rfl)]
    go_simp
    refine hK.out _ _ trivial (fun _ => ?_)
    clear hK K
    try simp only [Act.put, List.setIfInBounds_toArray, List.set_cons_zero, List.set_cons_succ]
    refine wpAnyH_ready (rs := [11]) (by kernel_rfl) (by decide) (AllReadyH.cons rfl (fun K hK => ?_) AllReadyH.nil)
    rw [if_pos (by rfl)]
    go_simp
    refine hK.out _ _ trivial (fun _ => ?_)
    clear hK K
    try simp only [Act.put, List.setIfInBounds_toArray, List.set_cons_zero, List.set_cons_succ]
    refine wpAnyH_ready (rs := [12]) (by kernel_rfl) (by decide) (AllReadyH.cons rfl (fun K hK => ?_) AllReadyH.nil)
    rw [if_pos (by rfl)]
    refine wp_store_at (f := blk kk h f) 106 (.tmp 32) (.tmp 30) rfl g 1 rfl rfl SB.st.thereW Tryz.sz106 rfl ?_
    refine hK.out _ _ trivial (fun _ => ?_)
    clear hK K
    refine wpAnyH_done (by kernel_rfl) ?_ _
    have SC := SB.st.putW (blk kk h f)
    have GC := gb_trans SB.gb (gb_setCells w6 g 1 (cs .u32 8 (blk kk h f)).toList)
    generalize w6.setCells g 1 (cs .u32 8 (blk kk h f)).toList = W9 at SC GC ⊢
    go_wp2
    go_end0
    rw [ea.out]
    exact ⟨rfl, SC, GC⟩

theorem advance_any (g : Nat) (n k : Int) (h f : Nat → Int) (w : World) (S : Stt w g n h f) (h0 : 0 ≤ n) (h1 : 0 ≤ k) (h2 : n + k ≤ 4611686018427387904)
    (hh : ∀ j, W32 (h j)) (hf : ∀ j, 0 ≤ f j ∧ f j < 256) (hK : KT w) (hg : 0 < g) :
    Calls Tryz.prog 47 #[.pointer (some ⟨g, 0, none⟩), .int .i64 k] w fun e w' => e = .returned (.tuple #[]) ∧ Stt w' g (n + k) (adv h f (n + k)) f ∧ w.grownBy w' (some g) := by
  by_cases ht : (n + k) % 64 = 0
  · exact advance_yes g n k h f w S h0 h1 h2 ht hh hf hK hg
  · exact advance_no g n k h f w S h0 h1 h2 ht
#print axioms advance_any
end Go.Proofs.YtdjjleahfciipaaGreatDoor
