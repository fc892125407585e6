/- info.SplitSign, CheckSign; walked. -/
import Derived.Test.YtjhbfkckkinfjaaDoorInC
namespace Go.Proofs.YtjhbfkckkinfjaaDoor
open Go.RowKit

theorem yieldsIf_arr {P : Program} {ops : Array Oper} {S : World → Prop} {op : Oper} {a : Act} {k : IntKind} {n e : Nat} {f : Nat → Int} (hw : Region.wanted op (yielded ops a.tmps) = true) (ty : TypeId) (x : Operand) (ho : op.op = .load ty x)
    (g : Nat) (hx : a.eval x = .pointer (some ⟨g, 0, none⟩)) (hS : ∀ w, S w → Row k w g n f) (hu : P.underlying ty = some (.array n e)) (hi : (P.info? ty).map (·.size) = some n) : YieldsIf P ops S op (.agg (cs k n f)) a := by
  have h := yieldsIf_load_mid (P := P) (ops := ops) (S := S) hw ty x ho g 0 hx (cs k n f).toList (.array n e) (fun w hs => (hS w hs).range) hu rfl (by rw [hi]; simp [cs_size])
  simpa using h

theorem snOk_iff (s : ByteArray) : snOk s ↔ sgOk (ctA s 58) ∧ dOk (ctB s 58) := by
  unfold snOk ctA ctB snA snB
  by_cases h : fst s 58 < s.size
  · rw [if_pos h, if_pos h]
    exact ⟨fun x => x.2, fun x => ⟨h, x⟩⟩
  · rw [if_neg h, if_neg h]
    exact ⟨fun x => absurd x.1 h, fun x => absurd x.2.1 (by decide)⟩
theorem snA_ct {s : ByteArray} (h : snOk s) : ctA s 58 = snA s := by unfold ctA snA; rw [if_pos h.1]
theorem snB_ct {s : ByteArray} (h : snOk s) : ctB s 58 = snB s := by unfold ctB snB; rw [if_pos h.1]
theorem ctB_size (s : ByteArray) (c : Int) : (ctB s c).size ≤ s.size := by
  unfold ctB
  split
  · rw [ByteArray.size_extract]; omega
  · exact Nat.zero_le _
def colon : ByteArray := ⟨#[58]⟩
theorem colon_bt : bt colon 0 = 58 := by decide +kernel

set_option maxRecDepth 100000 in
set_option maxHeartbeats 2000000 in
theorem spS_any (s : ByteArray) (w : World) (hs : s.size ≤ 140737488351232) :
    Calls Tryd.prog 59 #[.string s] w fun e w' => e = .returned (.tuple #[.string (snN s), .agg (cs .u8 32 (snD s)), .int .i64 (snC s)]) ∧ Below w.heap.size w w' := by
  have C0 := fun W => cut_any s colon 58 W rfl colon_bt hs
  have hB := ctB_size s 58
  have C1 := fun W => dgO_any (ctB s 58) W (by omega)
  have R0 : Row .u8 (w.alloc (.cells (cs .u8 32 (fun _ => 0)) 23)) w.heap.size 32 (fun _ => 0) := Row.box
  have B0 : Below w.heap.size w (w.alloc (.cells (cs .u8 32 (fun _ => 0)) 23)) := (Below.refl _ _).alloc (Nat.le_refl _) _
  have z0 : (w.alloc (.cells (cs .u8 32 (fun _ => 0)) 23)).heap.size = w.heap.size + 1 := World.size_alloc _ _
  clear hB
  by_cases hA : sgOk (ctA s 58)
  · by_cases hD : dOk (ctB s 58)
    · have hok : snOk s := (snOk_iff s).2 ⟨hA, hD⟩
      have HC := sgC_yes hA
      have eA := snA_ct hok
      have eB := snB_ct hok
      have eD : Hid (dFn (ctB s 58) = snD s) := by unfold Hid; rw [dFn_yes hD, snD_yes hok, eB]
      rw [snN_yes hok, snC_yes hok, ← eA]
      have C1' := C1
      simp only [decide_eq_true hD, eD.out] at C1'
      clear hok hA hD eA eB C1 eD
      generalize ctA s 58 = a at C0 HC ⊢
      generalize ctB s 58 = b at C0 C1'
      generalize ctF s 58 = f at C0
      generalize snD s = D at C1' ⊢
      go_enter Tryd.func59, Tryd.ntmps59
      rw [show (⟨#[58]⟩ : ByteArray) = colon from rfl]
      go_wp2_with fail
      rw [cs_zero32]
      generalize w.alloc (.cells (cs .u8 32 (fun _ => 0)) 23) = w0 at R0 B0 z0 ⊢
      refine (C0 w0).mono ?_
      rintro e w1 ⟨rfl, b1⟩
      go_wp2_with fail
      refine (ckS_any _ _).mono ?_
      rintro e w2 ⟨rfl, rfl⟩
      rw [HC]
      go_wp2_with fail
      refine (C1' _).mono ?_
      rintro e w3 ⟨rfl, b3⟩
      have R3 : Hid (Row .u8 w3 w.heap.size 32 (fun _ => 0)) := (R0.below b1 (by omega)).below b3 (by have := b1.size; omega)
      have B3 : Hid (Below w.heap.size w w3) := (B0.trans (b1.mono B0.size)).trans (b3.mono (by have := b1.size; have := B0.size; omega))
      have z3 : Hid (w.heap.size < w3.heap.size) := by have := b1.size; have := b3.size; unfold Hid; omega
      clear C0 C1' HC R0 B0 z0 b1 b3
      go_wp2_with (refine wpList_store_any (by rfl) 23 (.tmp 9) (.tmp 26) (by rfl) w3.heap.size (by rfl) (by rfl) (Row.rep (by rfl)) szD32 (by rfl) ?_; intro W4 R4 U4; refine Hid.out ?_)
      unfold Hid
      have R4' : Hid (Row .u8 W4.drew w.heap.size 32 (fun _ => 0)) := ((R3.out.alloc z3.out _).upd U4 (by rw [World.size_alloc]; have := z3.out; omega) (by have := z3.out; omega)).drew
      have B4 : Hid (Below w.heap.size w W4.drew) := (U4.below (B3.out.alloc B3.out.size _) (by have := z3.out; omega) (by rw [World.size_alloc]; have := z3.out; omega)).drew
      have z4 : Hid (w.heap.size < W4.drew.heap.size) := by show w.heap.size < W4.heap.size; rw [U4.size, World.size_alloc]; have := z3.out; omega
      have z5 : Hid (w3.heap.size < W4.drew.heap.size) := by show w3.heap.size < W4.heap.size; rw [U4.size, World.size_alloc]; omega
      clear R3 B3 U4
      go_wp2
      refine wp_region_held_drew (S := fun W => Row .u8 W w3.heap.size 32 D) (by kernel_rfl) R4.drew (fun hH => ?_)
      generalize W4.drew = W at R4' B4 z4 z5 hH ⊢
      refine wpAnyH_take (i := 0) (oi := { dst := some 31, op := Op.move (Operand.tmp 5), type := 9, pos := "sign.go:49", after := #[], guard := none }) (v := .string a) rfl (by kernel_rfl) (by kernel_rfl) (by kernel_rfl) (fun _ _ _ h => h) (Or.inl ⟨by rfl, by intro w _; go_simp⟩) hH ?_
      simp only [Act.put, List.setIfInBounds_toArray, List.set_cons_zero, List.set_cons_succ]
      refine wpAnyH_take (i := 1) (oi := { dst := some 32, op := Op.load 23 (Operand.tmp 9), type := 23, pos := "sign.go:49", after := #[{ on := 2, ground := Ground.gcOnly Departure.lateStores }], guard := none }) rfl (by kernel_rfl) (by kernel_rfl) (by kernel_rfl) (fun _ _ _ h => h) (yieldsIf_arr (by rfl) 23 (.tmp 9) rfl w3.heap.size rfl (fun w' s => s) undDIG szD32) hH ?_
      simp only [Act.put, List.setIfInBounds_toArray, List.set_cons_zero, List.set_cons_succ]
      refine wpAnyH_ready (rs := [2]) (by kernel_rfl) (by decide) (AllReadyH.cons rfl (fun K hK => ?_) AllReadyH.nil)
      rw [if_pos (by rfl)]
      go_simp
      refine hK.out _ _ hH (fun hH2 => ?_)
      clear hK K
      try simp only [Act.put, List.setIfInBounds_toArray, List.set_cons_zero, List.set_cons_succ]
      refine wpAnyH_ready (rs := [3]) (by kernel_rfl) (by decide) (AllReadyH.cons rfl (fun K hK => ?_) AllReadyH.nil)
      rw [if_pos (by rfl)]
      refine wp_store_mid 23 (.tmp 3) (.tmp 32) rfl w.heap.size 0 (cs .u8 32 D) rfl rfl (by rw [cs_size]; exact R4'.out.thereAll) (by rw [cs_size]; exact szD32) (cs_all _ _ _) ?_
      have U6 := put_upd W w.heap.size .u8 32 D
      have R6 := put_row (f := D) R4'.out
      have R7 : Row .u8 (put W w.heap.size .u8 32 D) w3.heap.size 32 D := hH2.upd U6 z5.out (by have := z3.out; omega)
      change K _ (put W w.heap.size .u8 32 D)
      generalize put W w.heap.size .u8 32 D = W6 at U6 R6 R7 ⊢
      refine hK.out _ _ R7 (fun hH3 => ?_)
      clear hK K
      try simp only [Act.put]
      refine wpAnyH_ready (rs := [4]) (by kernel_rfl) (by decide) (AllReadyH.cons rfl (fun K hK => ?_) AllReadyH.nil)
      rw [if_pos (by rfl)]
      go_simp
      refine hK.out _ _ hH3 (fun hH4 => ?_)
      clear hK K
      try simp only [Act.put, List.setIfInBounds_toArray, List.set_cons_zero, List.set_cons_succ]
      refine wpAnyH_done (by kernel_rfl) ?_ _
      go_wp2
      exact bodyPost_ret (results_tct Tryd.results59 _ _ rfl R6 undDIG szD32) rfl ⟨rfl, U6.below B4.out (Nat.le_refl _) (by have := z4.out; omega)⟩
    · have hok : ¬ snOk s := fun h => hD ((snOk_iff s).1 h).2
      have HC := sgC_yes hA
      rw [snN_no hok, snC_no hok, snD_no hok]
      have C1' := C1
      simp only [decide_eq_false hD, dFn_no hD] at C1'
      clear hok hA hD C1
      generalize ctA s 58 = a at C0 HC
      generalize ctB s 58 = b at C0 C1'
      generalize ctF s 58 = f at C0
      go_enter Tryd.func59, Tryd.ntmps59
      rw [show (⟨#[58]⟩ : ByteArray) = colon from rfl]
      go_wp2_with fail
      rw [cs_zero32]
      generalize w.alloc (.cells (cs .u8 32 (fun _ => 0)) 23) = w0 at R0 B0 z0 ⊢
      refine (C0 w0).mono ?_
      rintro e w1 ⟨rfl, b1⟩
      go_wp2_with fail
      refine (ckS_any _ _).mono ?_
      rintro e w2 ⟨rfl, rfl⟩
      rw [HC]
      go_wp2_with fail
      refine (C1' _).mono ?_
      rintro e w3 ⟨rfl, b3⟩
      have R3 : Hid (Row .u8 w3 w.heap.size 32 (fun _ => 0)) := (R0.below b1 (by omega)).below b3 (by have := b1.size; omega)
      have B3 : Hid (Below w.heap.size w w3) := (B0.trans (b1.mono B0.size)).trans (b3.mono (by have := b1.size; have := B0.size; omega))
      have z3 : Hid (w.heap.size < w3.heap.size) := by have := b1.size; have := b3.size; unfold Hid; omega
      clear C0 C1' HC R0 B0 z0 b1 b3
      go_wp2_with (refine wpList_store_any (by rfl) 23 (.tmp 9) (.tmp 26) (by rfl) w3.heap.size (by rfl) (by rfl) (Row.rep (by rfl)) szD32 (by rfl) ?_; intro W4 R4 U4; refine Hid.out ?_)
      unfold Hid
      have R4' : Row .u8 W4 w.heap.size 32 (fun _ => 0) := ((R3.out.alloc z3.out _).upd U4 (by rw [World.size_alloc]; have := z3.out; omega) (by have := z3.out; omega))
      have B4 : Below w.heap.size w W4 := (U4.below (B3.out.alloc B3.out.size _) (by have := z3.out; omega) (by rw [World.size_alloc]; have := z3.out; omega))
      have z4 : w.heap.size < W4.heap.size := by rw [U4.size, World.size_alloc]; have := z3.out; omega
      clear R3 B3 U4 R4
      go_wp2_with (refine wpList_store_any (by rfl) 23 (.tmp 3) (.tmp 30) (by rfl) w.heap.size (by rfl) (by exact congrArg Value.agg cs_zero32) R4' szD32 (by rfl) ?_; intro W5 R5 U5)
      exact bodyPost_ret (results_tct Tryd.results59 _ _ rfl R5 undDIG szD32) rfl ⟨rfl, U5.below B4 (Nat.le_refl _) (by omega)⟩
  · have hok : ¬ snOk s := fun h => hA ((snOk_iff s).1 h).1
    have HC := sgC_no hA
    rw [snN_no hok, snC_no hok, snD_no hok]
    clear hok hA C1
    generalize ctA s 58 = a at C0 HC
    generalize ctB s 58 = b at C0
    generalize ctF s 58 = f at C0
    go_enter Tryd.func59, Tryd.ntmps59
    rw [show (⟨#[58]⟩ : ByteArray) = colon from rfl]
    go_wp2_with fail
    rw [cs_zero32]
    generalize w.alloc (.cells (cs .u8 32 (fun _ => 0)) 23) = w0 at R0 B0 z0 ⊢
    refine (C0 w0).mono ?_
    rintro e w1 ⟨rfl, b1⟩
    go_wp2_with fail
    refine (ckS_any _ _).mono ?_
    rintro e w2 ⟨rfl, rfl⟩
    rw [HC]
    have R4' : Row .u8 w2 w.heap.size 32 (fun _ => 0) := R0.below b1 (by omega)
    have B4 : Below w.heap.size w w2 := B0.trans (b1.mono B0.size)
    have z4 : w.heap.size < w2.heap.size := by have := b1.size; omega
    clear C0 HC R0 B0 z0 b1
    go_wp2_with (refine wpList_store_any (by rfl) 23 (.tmp 3) (.tmp 21) (by rfl) w.heap.size (by rfl) (by exact congrArg Value.agg cs_zero32) R4' szD32 (by rfl) ?_; intro W5 R5 U5)
    exact bodyPost_ret (results_tct Tryd.results59 _ _ rfl R5 undDIG szD32) rfl ⟨rfl, U5.below B4 (Nat.le_refl _) (by omega)⟩

set_option maxRecDepth 100000 in
set_option maxHeartbeats 1000000 in
theorem ckSn_any (s : ByteArray) (w : World) (hs : s.size ≤ 140737488351232) :
    Calls Tryd.prog 46 #[.string s] w fun e w' => e = .returned (.int .i64 (snC s)) ∧ Below w.heap.size w w' := by
  have C0 := spS_any s w hs
  generalize snD s = D at C0
  generalize snN s = n at C0
  generalize snC s = c at C0 ⊢
  go_enter Tryd.func46, Tryd.ntmps46
  go_wp2_with fail
  refine C0.mono ?_
  rintro e w1 ⟨rfl, b1⟩
  have B1 : Hid (Below w.heap.size w w1) := b1
  clear b1 C0
  go_wp2_with (refine wpList_store_any (by rfl) 23 (.tmp 4) (.tmp 10) (by rfl) w1.heap.size (by rfl) (by rfl) (Row.rep (by rfl)) szD32 (by rfl) ?_; intro W4 R4 U4; refine Hid.out ?_)
  unfold Hid
  have B4 : Hid (Below w.heap.size w W4) := U4.below (B1.out.alloc B1.out.size _) B1.out.size (by rw [World.size_alloc]; have := B1.out.size; omega)
  clear R4 U4
  go_wp2
  go_ret
  exact ⟨rfl, B4.out⟩

end Go.Proofs.YtjhbfkckkinfjaaDoor
