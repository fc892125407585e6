/- The law InfoChecks walked. -/
import Derived.Test.YtgnlkggodchlbaaDoorInU
import Derived.Test.YtgnlkggodchlbaaDoorInO
import Derived.Test.YtgnlkggodchlbaaDoorShaE
namespace Go.Proofs.YtgnlkggodchlbaaDoor
open Go.RowKit Go.Shelf

/-- What the law's last region keeps. -/
structure CkW (w : World) (P : ByteArray) (D : Nat → Int) (z : Int) (F : ByteArray) (vr vs : Value) (g a b : Nat) (E : Nat → Int) (W : World) : Prop where
  inf : Inf W g P D z vr F vs
  d1 : Row .u8 W a 32 E
  d2 : Row .u8 W b 32 E
  bel : Below w.heap.size w W
theorem CkW.next {w : World} {P : ByteArray} {D : Nat → Int} {z : Int} {F : ByteArray} {vr vs : Value} {g a b : Nat} {E : Nat → Int} {W W' : World} (h : CkW w P D z F vr vs g a b E W) (c : Below W.heap.size W W') : CkW w P D z F vr vs g a b E W' :=
  ⟨h.inf.below c h.inf.lt, h.d1.below c (World.block_lt_of_cell? _ _ (h.d1.cell 0 (by omega))), h.d2.below c (World.block_lt_of_cell? _ _ (h.d2.cell 0 (by omega))), h.bel.trans (c.mono h.bel.size)⟩
theorem yieldsIf_inf {ops : Array Oper} {S : World → Prop} {op : Oper} {a : Act} {g : Nat} {P : ByteArray} {D : Nat → Int} {z : Int} {vr : Value} {F : ByteArray} {vs : Value} (hw : Region.wanted op (yielded ops a.tmps) = true) (x : Operand) (ho : op.op = .load 26 x)
    (hx : a.eval x = .pointer (some ⟨g, 0, none⟩)) (hS : ∀ w, S w → Inf w g P D z vr F vs) : YieldsIf Tryd.prog ops S op (.agg (infC P D z vr F vs)) a :=
  yieldsIf_load_mid hw 26 x ho g 0 hx (infL P D z vr F vs) _ (fun w hs => (hS w hs).range) Tryd.underlying26 rfl (by rw [szINF]; exact congrArg some (infL_len P D z vr F vs).symm)

set_option maxRecDepth 100000 in
set_option maxHeartbeats 4000000 in
theorem checks_walk (P : ByteArray) (D : Nat → Int) (z : Int) (F : ByteArray) (xr : Option Addr) (nr cr : Nat) (fr : Nat → ByteArray) (xs : Option Addr) (ns cs' : Nat) (fs : Nat → ByteArray) (s : ByteArray) (w : World)
    (hr : SIs w xr nr fr) (hs : SIs w xs ns fs) (hnc : ns ≤ cs') (hns : ns ≤ 1152921504606846976) (hsz : ∀ i, i < ns → (fs i).size ≤ 1048576) (hsS : s.size ≤ 1048576) (hT : PT w) :
    Calls Tryd.prog 3 #[.agg (infC P D z (.slice xr nr cr) F (.slice xs ns cs')), .string s] w fun e w' => e = .returned (.bool true) ∧ Below w.heap.size w w' := by
  have I0 : Inf (w.alloc (.cells (infC P D z (.slice xr nr cr) F (.slice xs ns cs')) 26)) w.heap.size P D z (.slice xr nr cr) F (.slice xs ns cs') := Inf.box _ _ _ _ _ _ _ _
  have B0 : Below w.heap.size w (w.alloc (.cells (infC P D z (.slice xr nr cr) F (.slice xs ns cs')) 26)) := (Below.refl _ _).alloc (Nat.le_refl _) _
  have z0 : w.heap.size < (w.alloc (.cells (infC P D z (.slice xr nr cr) F (.slice xs ns cs')) 26)).heap.size := by rw [World.size_alloc]; omega
  have CA := fun W (b : Below w.heap.size w W) => iaw_any W (hT.below b)
  have CS := fun W => spS_any s W (by omega)
  have CT := fun W => rspS_any s W hsS
  have CC := fun W (b : Below w.heap.size w W) => ick_any P D z F xr nr cr fr xs ns cs' fs W (hr.below b (Nat.le_refl _)) (hs.below b (Nat.le_refl _)) hnc hns (fun i hi => by have := hsz i hi; omega)
  have CD := fun W (b : Below w.heap.size w W) => rick_any P D z F xr nr cr fr xs ns cs' fs W (hr.below b (Nat.le_refl _)) (hs.below b (Nat.le_refl _)) hns hsz
  have CP := fun W => plain_any P D z F xr nr cr xs ns cs' W
  have CK := fun W => ckSn_any s W (by omega)
  have CG : ∀ W, Calls Tryd.prog 14 #[.string s] W fun e w' => e = .returned (.int .i64 (sgC s)) ∧ Below W.heap.size W w' := fun W => (ckS_any s W).mono (fun e w' h => ⟨h.1, by rw [h.2]; exact Below.refl _ _⟩)
  have CR : ∀ W, Calls Tryd.prog 15 #[.string s] W fun e w' => e = .returned (.int .i64 (sgC s)) ∧ Below W.heap.size W w' := fun W => (rckS_any s W).mono (fun e w' h => ⟨h.1, by rw [h.2]; exact Below.refl _ _⟩)
  generalize sgC s = d0 at CG CR
  generalize ckC P z fr nr F fs ns = c0 at CC CD
  generalize snD s = E at CS CT
  generalize snN s = n at CS CT
  generalize snC s = c at CS CT CK
  clear hr hs hnc hns hsz hsS hT
  go_enter Tryd.func3, Tryd.ntmps3
  go_wp2_with fail
  generalize w.alloc (.cells (infC P D z (.slice xr nr cr) F (.slice xs ns cs')) 26) = w0 at I0 B0 z0 ⊢
  refine (CA w0 B0).mono ?_
  rintro e w1 ⟨rfl, b1⟩
  have I1 := I0.below b1 I0.lt
  have B1 := B0.trans (b1.mono B0.size)
  have z1 : w.heap.size < w1.heap.size := by have := b1.size; omega
  clear I0 B0 z0 b1 CA
  go_wp2_with fail
  refine (CS w1).mono ?_
  rintro e w2 ⟨rfl, b2⟩
  have I2 : Hid (Inf w2 w.heap.size P D z (.slice xr nr cr) F (.slice xs ns cs')) := I1.below b2 I1.lt
  have B2 : Hid (Below w.heap.size w w2) := B1.trans (b2.mono B1.size)
  have z2 : Hid (w.heap.size < w2.heap.size) := by have := b2.size; unfold Hid; omega
  clear I1 B1 z1 b2 CS
  go_wp2_with (refine wpList_store_any (by rfl) 23 (.tmp 6) (.tmp 19) (by rfl) w2.heap.size (by rfl) (by rfl) (Row.rep (by rfl)) szD32 (by rfl) ?_; intro W3 R3 U3; refine Hid.out ?_)
  unfold Hid
  have I3 : Inf W3 w.heap.size P D z (.slice xr nr cr) F (.slice xs ns cs') := I2.out.same ((U3.block _ (by rw [World.size_alloc]; have := z2.out; omega) (by have := z2.out; omega)).trans (Below.heap_alloc _ _ _ z2.out))
  have B3 : Below w.heap.size w W3 := U3.below (B2.out.alloc B2.out.size _) (by have := z2.out; omega) (by rw [World.size_alloc]; have := z2.out; omega)
  have z3 : w2.heap.size < W3.heap.size := by rw [U3.size, World.size_alloc]; omega
  clear U3 I2 B2
  go_wp2_with fail
  refine (CT W3).mono ?_
  rintro e w4 ⟨rfl, b4⟩
  have I4 : Hid (Inf w4 w.heap.size P D z (.slice xr nr cr) F (.slice xs ns cs')) := I3.below b4 I3.lt
  have R4 : Hid (Row .u8 w4 w2.heap.size 32 E) := R3.below b4 z3
  have B4 : Hid (Below w.heap.size w w4) := B3.trans (b4.mono B3.size)
  have z4 : Hid (w2.heap.size < w4.heap.size) := by have := b4.size; unfold Hid; omega
  clear I3 B3 z3 R3 b4 CT
  go_wp2_with (refine wpList_store_any (by rfl) 22 (.tmp 9) (.tmp 25) (by rfl) w4.heap.size (by rfl) (by rfl) (Row.rep (by rfl)) szR32 (by rfl) ?_; intro W5 R5 U5; refine Hid.out ?_)
  unfold Hid
  have I5 : Inf W5 w.heap.size P D z (.slice xr nr cr) F (.slice xs ns cs') := I4.out.same ((U5.block _ (by rw [World.size_alloc]; have := z2.out; have := z4.out; omega) (by have := z2.out; have := z4.out; omega)).trans (Below.heap_alloc _ _ _ (by have := z2.out; have := z4.out; omega)))
  have B5 : Below w.heap.size w W5 := U5.below (B4.out.alloc B4.out.size _) (by have := z2.out; have := z4.out; omega) (by rw [World.size_alloc]; have := z2.out; have := z4.out; omega)
  have Q5 : Row .u8 W5 w2.heap.size 32 E := (R4.out.alloc z4.out _).upd U5 (by rw [World.size_alloc]; have := z4.out; omega) (by have := z4.out; omega)
  have K5 : CkW w P D z F (.slice xr nr cr) (.slice xs ns cs') w.heap.size w2.heap.size w4.heap.size E W5.drew := ⟨I5.same rfl, Q5.drew, R5.drew, B5.drew⟩
  clear I5 B5 Q5 R5 U5 I4 R4 B4 z2 z4
  generalize w2.heap.size = a at K5 ⊢
  generalize w4.heap.size = b at K5 ⊢
  go_wp2_with fail
  have e1 : (n.toList == n.toList) = true := by simp
  have heq : ∀ w, (Op.equalIn 10000 23 (.agg (cs .u8 32 E)) (.agg (cs .u8 32 E))).run Tryd.prog w = .ok true w := fun w => run_equalIn_same w 9998 23 5 .u8 .u8 32 _ undDIG (by kernel_rfl) (by kernel_rfl) (by kernel_rfl)
  refine wp_region_held_drew (S := CkW w P D z F (.slice xr nr cr) (.slice xs ns cs') w.heap.size a b E) (by kernel_rfl) K5 (fun hH => ?_)
  generalize W5.drew = W at hH ⊢
  clear K5
  -- @R
  refine wpAnyH_take (i := 0) (oi := { dst := some 27, op := Op.load 26 (Operand.tmp 2), type := 26, pos := "law.go:52", after := #[], guard := none }) rfl (by kernel_rfl) (by kernel_rfl) (by kernel_rfl) (fun _ _ _ h => h) (yieldsIf_inf (by rfl) (.tmp 2) rfl rfl (fun w' s => s.inf)) hH ?_
  simp only [Act.put, List.setIfInBounds_toArray, List.set_cons_zero, List.set_cons_succ]
  refine wpAnyH_take (i := 2) (oi := { dst := some 29, op := Op.load 26 (Operand.tmp 2), type := 26, pos := "law.go:52", after := #[], guard := none }) rfl (by kernel_rfl) (by kernel_rfl) (by kernel_rfl) (fun _ _ _ h => h) (yieldsIf_inf (by rfl) (.tmp 2) rfl rfl (fun w' s => s.inf)) hH ?_
  simp only [Act.put, List.setIfInBounds_toArray, List.set_cons_zero, List.set_cons_succ]
  refine wpAnyH_ready (rs := [1]) (by kernel_rfl) (by decide) (AllReadyH.cons rfl (fun K hK => ?_) AllReadyH.nil)
  rw [if_pos (by rfl)]
  go_simp
  refine (CC _ hH.bel).mono ?_
  rintro e v1 ⟨rfl, c1⟩
  go_wp2_with fail
  have hH1 := hH.next c1
  refine hK.out _ _ hH1 (fun _ => ?_)
  clear hK K
  try simp only [Act.put, List.setIfInBounds_toArray, List.set_cons_zero, List.set_cons_succ]
  refine wpAnyH_ready (rs := [3]) (by kernel_rfl) (by decide) (AllReadyH.cons rfl (fun K hK => ?_) AllReadyH.nil)
  rw [if_pos (by rfl)]
  go_simp
  refine (CP _).mono ?_
  rintro e v2 ⟨rfl, c2⟩
  go_wp2_with fail
  have hH2 := hH1.next c2
  refine hK.out _ _ hH2 (fun _ => ?_)
  clear hK K
  try simp only [Act.put, List.setIfInBounds_toArray, List.set_cons_zero, List.set_cons_succ]
  refine wpAnyH_ready (rs := [4]) (by kernel_rfl) (by decide) (AllReadyH.cons rfl (fun K hK => ?_) AllReadyH.nil)
  rw [if_pos (by rfl)]
  go_simp
  refine (CD _ hH2.bel).mono ?_
  rintro e v3 ⟨rfl, c3⟩
  go_wp2_with fail
  have hH3 := hH2.next c3
  refine hK.out _ _ hH3 (fun _ => ?_)
  clear hK K
  try simp only [Act.put, List.setIfInBounds_toArray, List.set_cons_zero, List.set_cons_succ]
  refine wpAnyH_ready (rs := [5]) (by kernel_rfl) (by decide) (AllReadyH.cons rfl (fun K hK => ?_) AllReadyH.nil)
  rw [if_pos (by rfl)]
  go_simp
  refine hK.out _ _ hH3 (fun _ => ?_)
  clear hK K
  try simp only [Act.put, List.setIfInBounds_toArray, List.set_cons_zero, List.set_cons_succ]
  refine wpAnyH_ready (rs := [6]) (by kernel_rfl) (by decide) (AllReadyH.cons rfl (fun K hK => ?_) AllReadyH.nil)
  rw [if_pos (by rfl)]
  go_simp
  refine hK.out _ _ hH3 (fun _ => ?_)
  clear hK K
  try simp only [Act.put, List.setIfInBounds_toArray, List.set_cons_zero, List.set_cons_succ]
  refine wpAnyH_take (i := 7) (oi := { dst := some 34, op := Op.move (Operand.tmp 1), type := 9, pos := "law.go:52", after := #[{ on := 6, ground := Ground.guard }], guard := some (6, true) }) (v := .string s) rfl (by kernel_rfl) (by kernel_rfl) (by kernel_rfl) (fun _ _ _ h => h) (Or.inl ⟨by rfl, by intro w _; go_simp⟩) hH3 ?_
  simp only [Act.put, List.setIfInBounds_toArray, List.set_cons_zero, List.set_cons_succ]
  refine wpAnyH_take (i := 9) (oi := { dst := some 36, op := Op.move (Operand.tmp 1), type := 9, pos := "law.go:52", after := #[{ on := 6, ground := Ground.guard }], guard := some (6, true) }) (v := .string s) rfl (by kernel_rfl) (by kernel_rfl) (by kernel_rfl) (fun _ _ _ h => h) (Or.inl ⟨by rfl, by intro w _; go_simp⟩) hH3 ?_
  simp only [Act.put, List.setIfInBounds_toArray, List.set_cons_zero, List.set_cons_succ]
  refine wpAnyH_ready (rs := [8]) (by kernel_rfl) (by decide) (AllReadyH.cons rfl (fun K hK => ?_) AllReadyH.nil)
  rw [if_pos (by rfl)]
  go_simp
  refine (CG _).mono ?_
  rintro e v4 ⟨rfl, c4⟩
  go_wp2_with fail
  have hH4 := hH3.next c4
  refine hK.out _ _ hH4 (fun _ => ?_)
  clear hK K
  try simp only [Act.put, List.setIfInBounds_toArray, List.set_cons_zero, List.set_cons_succ]
  refine wpAnyH_ready (rs := [10]) (by kernel_rfl) (by decide) (AllReadyH.cons rfl (fun K hK => ?_) AllReadyH.nil)
  rw [if_pos (by rfl)]
  go_simp
  refine (CR _).mono ?_
  rintro e v5 ⟨rfl, c5⟩
  go_wp2_with fail
  have hH5 := hH4.next c5
  refine hK.out _ _ hH5 (fun _ => ?_)
  clear hK K
  try simp only [Act.put, List.setIfInBounds_toArray, List.set_cons_zero, List.set_cons_succ]
  refine wpAnyH_ready (rs := [11]) (by kernel_rfl) (by decide) (AllReadyH.cons rfl (fun K hK => ?_) AllReadyH.nil)
  rw [if_pos (by rfl)]
  go_simp
  refine hK.out _ _ hH5 (fun _ => ?_)
  clear hK K
  try simp only [Act.put, List.setIfInBounds_toArray, List.set_cons_zero, List.set_cons_succ]
  refine wpAnyH_ready (rs := [12]) (by kernel_rfl) (by decide) (AllReadyH.cons rfl (fun K hK => ?_) AllReadyH.nil)
  rw [if_pos (by rfl)]
  go_simp
  refine hK.out _ _ hH5 (fun _ => ?_)
  clear hK K
  try simp only [Act.put, List.setIfInBounds_toArray, List.set_cons_zero, List.set_cons_succ]
  refine wpAnyH_ready (rs := [13]) (by kernel_rfl) (by decide) (AllReadyH.cons rfl (fun K hK => ?_) AllReadyH.nil)
  rw [if_pos (by rfl)]
  go_simp
  refine hK.out _ _ hH5 (fun _ => ?_)
  clear hK K
  try simp only [Act.put, List.setIfInBounds_toArray, List.set_cons_zero, List.set_cons_succ]
  refine wpAnyH_take (i := 14) (oi := { dst := some 41, op := Op.move (Operand.tmp 5), type := 9, pos := "law.go:52", after := #[{ on := 13, ground := Ground.guard }], guard := some (13, true) }) (v := .string n) rfl (by kernel_rfl) (by kernel_rfl) (by kernel_rfl) (fun _ _ _ h => h) (Or.inl ⟨by rfl, by intro w _; go_simp⟩) hH5 ?_
  simp only [Act.put, List.setIfInBounds_toArray, List.set_cons_zero, List.set_cons_succ]
  refine wpAnyH_take (i := 15) (oi := { dst := some 42, op := Op.move (Operand.tmp 8), type := 9, pos := "law.go:52", after := #[{ on := 13, ground := Ground.guard }], guard := some (13, true) }) (v := .string n) rfl (by kernel_rfl) (by kernel_rfl) (by kernel_rfl) (fun _ _ _ h => h) (Or.inl ⟨by rfl, by intro w _; go_simp⟩) hH5 ?_
  simp only [Act.put, List.setIfInBounds_toArray, List.set_cons_zero, List.set_cons_succ]
  refine wpAnyH_ready (rs := [16]) (by kernel_rfl) (by decide) (AllReadyH.cons rfl (fun K hK => ?_) AllReadyH.nil)
  rw [if_pos (by rfl)]
  go_simp
  refine hK.out _ _ hH5 (fun _ => ?_)
  clear hK K
  try simp only [Act.put, List.setIfInBounds_toArray, List.set_cons_zero, List.set_cons_succ]
  refine wpAnyH_ready (rs := [17]) (by kernel_rfl) (by decide) (AllReadyH.cons rfl (fun K hK => ?_) AllReadyH.nil)
  rw [if_pos (by rfl)]
  go_simp
  refine hK.out _ _ hH5 (fun _ => ?_)
  clear hK K
  try simp only [Act.put, List.setIfInBounds_toArray, List.set_cons_zero, List.set_cons_succ]
  refine wpAnyH_ready (rs := [18]) (by kernel_rfl) (by decide) (AllReadyH.cons rfl (fun K hK => ?_) AllReadyH.nil)
  rw [if_pos (by rfl)]
  go_simp
  refine hK.out _ _ hH5 (fun _ => ?_)
  clear hK K
  try simp only [Act.put, List.setIfInBounds_toArray, List.set_cons_zero, List.set_cons_succ]
  refine wpAnyH_take (i := 19) (oi := { dst := some 46, op := Op.load 23 (Operand.tmp 6), type := 23, pos := "law.go:52", after := #[{ on := 18, ground := Ground.guard }], guard := some (18, true) }) rfl (by kernel_rfl) (by kernel_rfl) (by kernel_rfl) (fun _ _ _ h => h) (yieldsIf_arr (by rfl) 23 (.tmp 6) rfl a rfl (fun w' s => s.d1) undDIG szD32) hH5 ?_
  simp only [Act.put, List.setIfInBounds_toArray, List.set_cons_zero, List.set_cons_succ]
  refine wpAnyH_take (i := 20) (oi := { dst := some 47, op := Op.load 22 (Operand.tmp 9), type := 22, pos := "law.go:52", after := #[{ on := 18, ground := Ground.guard }], guard := some (18, true) }) rfl (by kernel_rfl) (by kernel_rfl) (by kernel_rfl) (fun _ _ _ h => h) (yieldsIf_arr (by rfl) 22 (.tmp 9) rfl b rfl (fun w' s => s.d2) undD32 szR32) hH5 ?_
  simp only [Act.put, List.setIfInBounds_toArray, List.set_cons_zero, List.set_cons_succ]
  refine wpAnyH_ready (rs := [21]) (by kernel_rfl) (by decide) (AllReadyH.cons rfl (fun K hK => ?_) AllReadyH.nil)
  rw [if_pos (by rfl)]
  go_simp
  refine hK.out _ _ hH5 (fun _ => ?_)
  clear hK K
  try simp only [Act.put, List.setIfInBounds_toArray, List.set_cons_zero, List.set_cons_succ]
  refine wpAnyH_ready (rs := [22]) (by kernel_rfl) (by decide) (AllReadyH.cons rfl (fun K hK => ?_) AllReadyH.nil)
  rw [if_pos (by rfl)]
  go_simp
  refine hK.out _ _ hH5 (fun _ => ?_)
  clear hK K
  try simp only [Act.put, List.setIfInBounds_toArray, List.set_cons_zero, List.set_cons_succ]
  refine wpAnyH_ready (rs := [23]) (by kernel_rfl) (by decide) (AllReadyH.cons rfl (fun K hK => ?_) AllReadyH.nil)
  rw [if_pos (by rfl)]
  go_simp
  refine hK.out _ _ hH5 (fun _ => ?_)
  clear hK K
  try simp only [Act.put, List.setIfInBounds_toArray, List.set_cons_zero, List.set_cons_succ]
  refine wpAnyH_take (i := 24) (oi := { dst := some 51, op := Op.move (Operand.tmp 7), type := 28, pos := "law.go:52", after := #[{ on := 23, ground := Ground.guard }], guard := some (23, true) }) (v := .int .i64 c) rfl (by kernel_rfl) (by kernel_rfl) (by kernel_rfl) (fun _ _ _ h => h) (Or.inl ⟨by rfl, by intro w _; go_simp⟩) hH5 ?_
  simp only [Act.put, List.setIfInBounds_toArray, List.set_cons_zero, List.set_cons_succ]
  refine wpAnyH_take (i := 25) (oi := { dst := some 52, op := Op.move (Operand.tmp 10), type := 3, pos := "law.go:52", after := #[{ on := 23, ground := Ground.guard }], guard := some (23, true) }) (v := .int .i64 c) rfl (by kernel_rfl) (by kernel_rfl) (by kernel_rfl) (fun _ _ _ h => h) (Or.inl ⟨by rfl, by intro w _; go_simp⟩) hH5 ?_
  simp only [Act.put, List.setIfInBounds_toArray, List.set_cons_zero, List.set_cons_succ]
  refine wpAnyH_ready (rs := [26]) (by kernel_rfl) (by decide) (AllReadyH.cons rfl (fun K hK => ?_) AllReadyH.nil)
  rw [if_pos (by rfl)]
  go_simp
  refine hK.out _ _ hH5 (fun _ => ?_)
  clear hK K
  try simp only [Act.put, List.setIfInBounds_toArray, List.set_cons_zero, List.set_cons_succ]
  refine wpAnyH_ready (rs := [27]) (by kernel_rfl) (by decide) (AllReadyH.cons rfl (fun K hK => ?_) AllReadyH.nil)
  rw [if_pos (by rfl)]
  go_simp
  refine hK.out _ _ hH5 (fun _ => ?_)
  clear hK K
  try simp only [Act.put, List.setIfInBounds_toArray, List.set_cons_zero, List.set_cons_succ]
  refine wpAnyH_ready (rs := [28]) (by kernel_rfl) (by decide) (AllReadyH.cons rfl (fun K hK => ?_) AllReadyH.nil)
  rw [if_pos (by rfl)]
  go_simp
  refine hK.out _ _ hH5 (fun _ => ?_)
  clear hK K
  try simp only [Act.put, List.setIfInBounds_toArray, List.set_cons_zero, List.set_cons_succ]
  refine wpAnyH_take (i := 29) (oi := { dst := some 56, op := Op.move (Operand.tmp 1), type := 9, pos := "law.go:52", after := #[{ on := 28, ground := Ground.guard }], guard := some (28, true) }) (v := .string s) rfl (by kernel_rfl) (by kernel_rfl) (by kernel_rfl) (fun _ _ _ h => h) (Or.inl ⟨by rfl, by intro w _; go_simp⟩) hH5 ?_
  simp only [Act.put, List.setIfInBounds_toArray, List.set_cons_zero, List.set_cons_succ]
  refine wpAnyH_take (i := 31) (oi := { dst := some 58, op := Op.move (Operand.tmp 7), type := 28, pos := "law.go:52", after := #[{ on := 28, ground := Ground.guard }], guard := some (28, true) }) (v := .int .i64 c) rfl (by kernel_rfl) (by kernel_rfl) (by kernel_rfl) (fun _ _ _ h => h) (Or.inl ⟨by rfl, by intro w _; go_simp⟩) hH5 ?_
  simp only [Act.put, List.setIfInBounds_toArray, List.set_cons_zero, List.set_cons_succ]
  refine wpAnyH_ready (rs := [30]) (by kernel_rfl) (by decide) (AllReadyH.cons rfl (fun K hK => ?_) AllReadyH.nil)
  rw [if_pos (by rfl)]
  go_simp
  refine (CK _).mono ?_
  rintro e v6 ⟨rfl, c6⟩
  go_wp2_with fail
  have hH6 := hH5.next c6
  refine hK.out _ _ hH6 (fun _ => ?_)
  clear hK K
  try simp only [Act.put, List.setIfInBounds_toArray, List.set_cons_zero, List.set_cons_succ]
  refine wpAnyH_ready (rs := [32]) (by kernel_rfl) (by decide) (AllReadyH.cons rfl (fun K hK => ?_) AllReadyH.nil)
  rw [if_pos (by rfl)]
  go_simp
  refine hK.out _ _ hH6 (fun _ => ?_)
  clear hK K
  try simp only [Act.put, List.setIfInBounds_toArray, List.set_cons_zero, List.set_cons_succ]
  refine wpAnyH_ready (rs := [33]) (by kernel_rfl) (by decide) (AllReadyH.cons rfl (fun K hK => ?_) AllReadyH.nil)
  rw [if_pos (by rfl)]
  go_simp
  refine hK.out _ _ hH6 (fun _ => ?_)
  clear hK K
  try simp only [Act.put, List.setIfInBounds_toArray, List.set_cons_zero, List.set_cons_succ]
  refine wpAnyH_ready (rs := [34]) (by kernel_rfl) (by decide) (AllReadyH.cons rfl (fun K hK => ?_) AllReadyH.nil)
  rw [if_pos (by rfl)]
  go_simp
  refine hK.out _ _ hH6 (fun _ => ?_)
  clear hK K
  try simp only [Act.put, List.setIfInBounds_toArray, List.set_cons_zero, List.set_cons_succ]
  -- @E
  refine wpAnyH_done (by kernel_rfl) ?_ _
  go_wp2
  go_ret
  exact ⟨rfl, hH6.bel⟩

end Go.Proofs.YtgnlkggodchlbaaDoor
