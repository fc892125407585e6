/- info.readPath, readHash, isNumber, readSize; walked. -/
import Derived.Test.YtjhbfkckkinfjaaDoorInJ
namespace Go.Proofs.YtjhbfkckkinfjaaDoor
open Go.RowKit Go.Shelf

/-- The store path behind a head. -/
def rpC (l h : ByteArray) : Int := if hpQ l h then prC (cpQ l h) else 150
def rpS (l h : ByteArray) : ByteArray := if rpC l h = 0 then cpQ l h else emp
theorem rpC_no {l h : ByteArray} (g : hpQ l h = false) : rpC l h = 150 := by unfold rpC; rw [g]; rfl
theorem rpC_yes {l h : ByteArray} (g : hpQ l h = true) : rpC l h = prC (cpQ l h) := by unfold rpC; rw [g]; rfl
theorem rpS_n {l h : ByteArray} (g : rpC l h ≠ 0) : rpS l h = emp := if_neg g
theorem rpS_z {l h : ByteArray} (g : rpC l h = 0) : rpS l h = cpQ l h := if_pos g

set_option maxRecDepth 100000 in
set_option maxHeartbeats 1000000 in
theorem rdP_any (l h : ByteArray) (w : World) :
    Calls Tryd.prog 34 #[.string l, .string h] w fun e w' => e = .returned (.tuple #[.string (rpS l h), .int .i64 (rpC l h)]) ∧ Below w.heap.size w w' := by
  have C0 := cutQ_any l h w
  cases g : hpQ l h
  · rw [rpC_no g, rpS_n (by rw [rpC_no g]; decide)]
    rw [g] at C0
    clear g
    generalize cpQ l h = q at C0
    go_enter Tryd.func34, Tryd.ntmps34
    go_wp2_with fail
    refine C0.mono ?_
    rintro e w1 ⟨rfl, rfl⟩
    go_wp2
    go_ret2
    exact ⟨rfl, Below.refl _ _⟩
  · have e1 := rpC_yes g
    rw [g] at C0
    rcases prC_is (cpQ l h) with hp | hp
    · rw [rpS_z (by rw [e1]; exact hp), e1, hp]
      have HP : Hid (prC (cpQ l h) = 0) := hp
      clear g e1 hp
      generalize cpQ l h = q at C0 HP ⊢
      go_enter Tryd.func34, Tryd.ntmps34
      go_wp2_with fail
      refine C0.mono ?_
      rintro e w1 ⟨rfl, rfl⟩
      go_wp2_with fail
      refine (parse_any _ _).mono ?_
      rintro e w2 ⟨rfl, b2⟩
      rw [HP.out]
      go_wp2
      go_ret2
      exact ⟨rfl, b2⟩
    · rw [rpS_n (by rw [e1]; rw [bne_iff_ne] at hp; exact hp), e1]
      clear g e1
      generalize cpQ l h = q at C0 hp ⊢
      go_enter Tryd.func34, Tryd.ntmps34
      go_wp2_with fail
      refine C0.mono ?_
      rintro e w1 ⟨rfl, rfl⟩
      go_wp2_with fail
      refine (parse_any _ _).mono ?_
      rintro e w2 ⟨rfl, b2⟩
      go_wp2
      go_ret2
      exact ⟨rfl, b2⟩

/-- The digest of a line Hash. -/
def rhC (l : ByteArray) : Int := if hpQ l hdH then (if dOk (cpQ l hdH) then 0 else 131) else 150
def rhD (l : ByteArray) : Nat → Int := if rhC l = 0 then dFn (cpQ l hdH) else fun _ => 0
theorem rhC_no {l : ByteArray} (g : hpQ l hdH = false) : rhC l = 150 := by unfold rhC; rw [g]; rfl
theorem rhC_yes {l : ByteArray} (g : hpQ l hdH = true) (h : dOk (cpQ l hdH)) : rhC l = 0 := by unfold rhC; rw [g, if_pos rfl, if_pos h]
theorem rhC_bad {l : ByteArray} (g : hpQ l hdH = true) (h : ¬ dOk (cpQ l hdH)) : rhC l = 131 := by unfold rhC; rw [g, if_pos rfl, if_neg h]
theorem rhD_n {l : ByteArray} (g : rhC l ≠ 0) : rhD l = fun _ => 0 := if_neg g
theorem rhD_z {l : ByteArray} (g : rhC l = 0) : rhD l = dFn (cpQ l hdH) := if_pos g
theorem cpQ_size (l h : ByteArray) : (cpQ l h).size ≤ l.size := by
  unfold cpQ
  split
  · rw [ByteArray.size_extract]; omega
  · exact Nat.le_refl _

set_option maxRecDepth 100000 in
set_option maxHeartbeats 1000000 in
theorem rdH_any (l : ByteArray) (w : World) (hl : l.size ≤ 281474976710656) :
    Calls Tryd.prog 35 #[.string l] w fun e w' => e = .returned (.tuple #[.agg (cs .u8 32 (rhD l)), .int .i64 (rhC l)]) ∧ Below w.heap.size w w' := by
  have C0 := fun W => cutQ_any l hdH W
  have hq := cpQ_size l hdH
  have C1 := fun W => dgO_any (cpQ l hdH) W (by omega)
  have R0 : Row .u8 (w.alloc (.cells (cs .u8 32 (fun _ => 0)) 23)) w.heap.size 32 (fun _ => 0) := Row.box
  have B0 : Below w.heap.size w (w.alloc (.cells (cs .u8 32 (fun _ => 0)) 23)) := (Below.refl _ _).alloc (Nat.le_refl _) _
  have z0 : (w.alloc (.cells (cs .u8 32 (fun _ => 0)) 23)).heap.size = w.heap.size + 1 := World.size_alloc _ _
  clear hq
  cases g : hpQ l hdH
  · rw [rhC_no g, rhD_n (by rw [rhC_no g]; decide)]
    simp only [g] at C0
    clear g C1
    generalize cpQ l hdH = q at C0
    go_enter Tryd.func35, Tryd.ntmps35
    rw [show (⟨#[72, 97, 115, 104, 58, 32, 115, 104, 97, 50, 53, 54, 58]⟩ : ByteArray) = hdH from rfl]
    go_wp2_with fail
    rw [cs_zero32]
    generalize w.alloc (.cells (cs .u8 32 (fun _ => 0)) 23) = w0 at R0 B0 z0 ⊢
    refine (C0 w0).mono ?_
    rintro e w1 ⟨rfl, rfl⟩
    clear C0
    go_wp2_with (refine wpList_store_any (by rfl) 23 (.tmp 2) (.tmp 15) (by rfl) w.heap.size (by rfl) (by exact congrArg Value.agg cs_zero32) R0 szD32 (by rfl) ?_; intro W5 R5 U5)
    exact bodyPost_ret (results_ct Tryd.results35 _ _ rfl R5 undDIG szD32) rfl ⟨rfl, U5.below B0 (Nat.le_refl _) (by omega)⟩
  · simp only [g] at C0
    by_cases hd : dOk (cpQ l hdH)
    · rw [rhD_z (rhC_yes g hd), rhC_yes g hd]
      simp only [decide_eq_true hd] at C1
      clear g hd
      generalize dFn (cpQ l hdH) = D at C1 ⊢
      generalize cpQ l hdH = q at C0 C1
      go_enter Tryd.func35, Tryd.ntmps35
      rw [show (⟨#[72, 97, 115, 104, 58, 32, 115, 104, 97, 50, 53, 54, 58]⟩ : ByteArray) = hdH from rfl]
      go_wp2_with fail
      rw [cs_zero32]
      generalize w.alloc (.cells (cs .u8 32 (fun _ => 0)) 23) = w0 at R0 B0 z0 ⊢
      refine (C0 w0).mono ?_
      rintro e w1 ⟨rfl, rfl⟩
      go_wp2_with fail
      refine (C1 w1).mono ?_
      rintro e w3 ⟨rfl, b3⟩
      have R3 : Hid (Row .u8 w3 w.heap.size 32 (fun _ => 0)) := R0.below b3 (by omega)
      have B3 : Hid (Below w.heap.size w w3) := B0.trans (b3.mono (by have := B0.size; omega))
      have z3 : Hid (w.heap.size < w3.heap.size) := by have := b3.size; unfold Hid; omega
      clear C0 C1 R0 B0 z0 b3
      go_wp2_with (refine wpList_store_any (by rfl) 23 (.tmp 6) (.tmp 19) (by rfl) w3.heap.size (by rfl) (by rfl) (Row.rep (by rfl)) szD32 (by rfl) ?_; intro W4 R4 U4; refine Hid.out ?_)
      unfold Hid
      have R4' : Row .u8 W4 w.heap.size 32 (fun _ => 0) := ((R3.out.alloc z3.out _).upd U4 (by rw [World.size_alloc]; have := z3.out; omega) (by have := z3.out; omega))
      have B4 : Below w.heap.size w W4 := (U4.below (B3.out.alloc B3.out.size _) (by have := z3.out; omega) (by rw [World.size_alloc]; have := z3.out; omega))
      have z4 : w.heap.size < W4.heap.size := by rw [U4.size, World.size_alloc]; have := z3.out; omega
      clear R3 B3 U4
      go_wp2_with (first
        | (refine wpList_load_arr (by rfl) 23 (.tmp 6) (by rfl) w3.heap.size (by rfl) R4 undDIG szD32 ?_)
        | (refine wpList_store_any (by rfl) 23 (.tmp 2) (.tmp 24) (by rfl) w.heap.size (by rfl) (by rfl) R4' szD32 (by rfl) ?_; intro W5 R5 U5))
      exact bodyPost_ret (results_ct Tryd.results35 _ _ rfl R5 undDIG szD32) rfl ⟨rfl, U5.below B4 (Nat.le_refl _) (by omega)⟩
    · rw [rhC_bad g hd, rhD_n (by rw [rhC_bad g hd]; decide)]
      simp only [decide_eq_false hd, dFn_no hd] at C1
      clear g hd
      generalize cpQ l hdH = q at C0 C1
      go_enter Tryd.func35, Tryd.ntmps35
      rw [show (⟨#[72, 97, 115, 104, 58, 32, 115, 104, 97, 50, 53, 54, 58]⟩ : ByteArray) = hdH from rfl]
      go_wp2_with fail
      rw [cs_zero32]
      generalize w.alloc (.cells (cs .u8 32 (fun _ => 0)) 23) = w0 at R0 B0 z0 ⊢
      refine (C0 w0).mono ?_
      rintro e w1 ⟨rfl, rfl⟩
      go_wp2_with fail
      refine (C1 w1).mono ?_
      rintro e w3 ⟨rfl, b3⟩
      have R3 : Hid (Row .u8 w3 w.heap.size 32 (fun _ => 0)) := R0.below b3 (by omega)
      have B3 : Hid (Below w.heap.size w w3) := B0.trans (b3.mono (by have := B0.size; omega))
      have z3 : Hid (w.heap.size < w3.heap.size) := by have := b3.size; unfold Hid; omega
      clear C0 C1 R0 B0 z0 b3
      go_wp2_with (refine wpList_store_any (by rfl) 23 (.tmp 6) (.tmp 19) (by rfl) w3.heap.size (by rfl) (by rfl) (Row.rep (by rfl)) szD32 (by rfl) ?_; intro W4 R4 U4; refine Hid.out ?_)
      unfold Hid
      have R4' : Row .u8 W4 w.heap.size 32 (fun _ => 0) := ((R3.out.alloc z3.out _).upd U4 (by rw [World.size_alloc]; have := z3.out; omega) (by have := z3.out; omega))
      have B4 : Below w.heap.size w W4 := (U4.below (B3.out.alloc B3.out.size _) (by have := z3.out; omega) (by rw [World.size_alloc]; have := z3.out; omega))
      have z4 : w.heap.size < W4.heap.size := by rw [U4.size, World.size_alloc]; have := z3.out; omega
      clear R3 B3 U4 R4
      go_wp2_with (refine wpList_store_any (by rfl) 23 (.tmp 2) (.tmp 23) (by rfl) w.heap.size (by rfl) (by exact congrArg Value.agg cs_zero32) R4' szD32 (by rfl) ?_; intro W5 R5 U5)
      exact bodyPost_ret (results_ct Tryd.results35 _ _ rfl R5 undDIG szD32) rfl ⟨rfl, U5.below B4 (Nat.le_refl _) (by omega)⟩

end Go.Proofs.YtjhbfkckkinfjaaDoor
