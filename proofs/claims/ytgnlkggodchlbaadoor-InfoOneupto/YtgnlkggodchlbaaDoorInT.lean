/- The document's Check; the laws' plain; walked. -/
import Derived.Test.YtgnlkggodchlbaaDoorInS
namespace Go.Proofs.YtgnlkggodchlbaaDoor
open Go.RowKit Go.Shelf

theorem snOk_min {s : ByteArray} (h : snOk s) : 46 ≤ s.size := by
  obtain ⟨h1, h2, h3⟩ := h
  have b := h3.1
  unfold snB at b
  rw [ByteArray.size_extract] at b
  omega
theorem sn_of {s : ByteArray} (h : snC s = 0) : snOk s := by
  unfold snC at h
  split at h
  · rename_i a; exact a
  · exact absurd h (by decide)
theorem less_aheadS (f : Nat → ByteArray) (k : Nat) (h : snC (f k) = 0) : (0 < k → Op.bytesLess (f (k - 1)).toList (f k).toList = true) ↔ Op.bytesLess (ahead f k).toList (f k).toList = true := by
  unfold ahead
  by_cases e : k = 0
  · rw [if_pos e]
    constructor
    · intro _
      have e : (ByteArray.toList ⟨#[]⟩) = [] := by decide +kernel
      rw [e]
      exact less_nil _ (snOk_min (sn_of h))
    · intro _ q; omega
  · rw [if_neg e]
    exact ⟨fun g => g (by omega), fun g _ => g⟩
theorem ahead_succ (f : Nat → ByteArray) (k : Nat) : ahead f (k + 1) = f k := by unfold ahead; rw [if_neg (by omega), Nat.add_sub_cancel]

set_option maxRecDepth 100000 in
set_option maxHeartbeats 2000000 in
theorem rick_any (P : ByteArray) (D : Nat → Int) (z : Int) (F : ByteArray) (xr : Option Addr) (nr cr : Nat) (fr : Nat → ByteArray) (xs : Option Addr) (ns cs' : Nat) (fs : Nat → ByteArray) (w : World)
    (hr : SIs w xr nr fr) (hs : SIs w xs ns fs) (hns : ns ≤ 1152921504606846976) (hsz : ∀ i, i < ns → (fs i).size ≤ 1048576) :
    Calls Tryd.prog 12 #[.agg (infC P D z (.slice xr nr cr) F (.slice xs ns cs'))] w fun e w' => e = .returned (.int .i64 (ckC P z fr nr F fs ns)) ∧ Below w.heap.size w w' := by
  have I0 : Inf (w.alloc (.cells (infC P D z (.slice xr nr cr) F (.slice xs ns cs')) 36)) w.heap.size P D z (.slice xr nr cr) F (.slice xs ns cs') := Inf.box _ _ _ _ _ _ _ _
  have B0 : Below w.heap.size w (w.alloc (.cells (infC P D z (.slice xr nr cr) F (.slice xs ns cs')) 36)) := (Below.refl _ _).alloc (Nat.le_refl _) _
  have CU := fun W (b : Below w.heap.size w W) => runs_any P D z F xr nr cr fr (.slice xs ns cs') W (hr.below b (Nat.le_refl _))
  have HS : Hid (SIs w xs ns fs) := hs
  have HZ : Hid (∀ i, i < ns → (fs i).size ≤ 1048576) := hsz
  clear hr hs hsz
  generalize hC : ckC P z fr nr F fs ns = C
  have HC : Hid (ckC P z fr nr F fs ns = C) := hC
  clear hC
  unfold ckC at HC
  by_cases hU : unC P z fr nr F = 0
  · have hc : Hid (C = ssC fs ns) := by
      have h1 := HC.out
      rw [orC_z hU] at h1
      exact h1.symm
    simp only [hU] at CU
    clear HC hU
    go_enter Tryd.func12, Tryd.ntmps12
    go_wp2_with (refine wpList_load_rinf (by rfl) (.tmp 1) (by rfl) (by rfl) I0 ?_; refine Hid.out ?_)
    unfold Hid
    generalize w.alloc (.cells (infC P D z (.slice xr nr cr) F (.slice xs ns cs')) 36) = w0 at I0 B0 ⊢
    go_wp2_with fail
    refine (CU w0 B0).mono ?_
    rintro e w1 ⟨rfl, b1⟩
    have I1 : Hid (Inf w1 w.heap.size P D z (.slice xr nr cr) F (.slice xs ns cs')) := I0.below b1 I0.lt
    have B1 : Hid (Below w.heap.size w w1) := B0.trans (b1.mono B0.size)
    clear CU I0 B0 b1
    go_wp2
    go_loopw [4, 5] (fun lx xi wr => ∃ k : Nat, k ≤ ns ∧ xi = .int .i64 (k : Int) ∧ lx = .string (ahead fs k) ∧ Hid (ssOk fs k) ∧ Hid (Inf wr w.heap.size P D z (.slice xr nr cr) F (.slice xs ns cs')) ∧ Hid (Below w.heap.size w wr)) (fun _ i _ => ns - (intOf i).toNat)
    case atStart => exact ⟨0, Nat.zero_le _, rfl, rfl, fun i hi => absurd hi (by omega), I1, B1⟩
    case round =>
      clear I1 B1
      obtain ⟨k, hk, rfl, rfl, hok, IK, BK⟩ := hrel
      have c36 := IK.out.signs
      by_cases hlt : k < ns
      · have S1 := HS.out.below BK.out (Nat.le_refl _)
        obtain ⟨a, rfl, c0⟩ := S1 k hlt
        have CS := rspS_any (fs k) wr (HZ.out k hlt)
        clear S1
        have hl1 : (k : Int) < (ns : Int) := by omega
        rcases snC_is (fs k) with h0 | h0
        · have HLA : Hid ((0 < k → Op.bytesLess (fs (k - 1)).toList (fs k).toList = true) ↔ Op.bytesLess (ahead fs k).toList (fs k).toList = true) := less_aheadS fs k h0
          have H0 : Hid (snC (fs k) = 0) := h0
          rw [h0] at CS
          clear h0
          generalize snD (fs k) = E at CS
          generalize snN (fs k) = N at CS
          have hah : Hid (ahead fs (k + 1) = fs k) := ahead_succ fs k
          go_wp2_with fail
          refine CS.mono ?_
          clear CS
          rintro e w2 ⟨rfl, b2⟩
          have I2 : Hid (Inf w2 w.heap.size P D z (.slice (xr) nr cr) F (.slice (some a) ns cs')) := IK.out.below b2 IK.out.lt
          have B2 : Hid (Below w.heap.size w w2) := BK.out.trans (b2.mono BK.out.size)
          have c2 : Hid (w2.cell? (a.add k) = some (.string (fs k))) := (b2.cell (World.block_lt_of_cell? _ _ c0)).trans c0
          clear b2 IK BK c0 c36
          go_wp2_with (refine wpList_store_any (by rfl) 22 (.tmp 7) (.tmp 29) (by rfl) w2.heap.size (by rfl) (by rfl) (Row.rep (by rfl)) szR32 (by rfl) ?_; intro W4 R4 U4; refine Hid.out ?_)
          unfold Hid
          have hlt2 : Hid (∀ i, i < w2.heap.size → W4.heap[i]? = w2.heap[i]?) := fun i hi => (U4.block i (by rw [World.size_alloc]; omega) (by omega)).trans (Below.heap_alloc w2 _ i hi)
          have I4 : Hid (Inf W4 w.heap.size P D z (.slice (xr) nr cr) F (.slice (some a) ns cs')) := I2.out.same (hlt2.out _ I2.out.lt)
          have B4 : Hid (Below w.heap.size w W4) := U4.below (B2.out.alloc B2.out.size _) B2.out.size (by rw [World.size_alloc]; have := B2.out.size; omega)
          have c4 : W4.cell? (a.add k) = some (.string (fs k)) := (World.cell?_of_block (w := w2) (w' := W4) (a := a.add k) (hlt2.out _ (World.block_lt_of_cell? _ _ c2.out))).trans c2.out
          have d36 := I4.out.signs
          clear R4 U4 hlt2 I2 B2 c2
          cases h2 : Op.bytesLess (ahead fs k).toList (fs k).toList
          · have hh : Hid (ssC fs ns = 151) := ssC_no (fun g => by
              have := HLA.out.1 (g k hlt).2
              rw [h2] at this
              exact Bool.noConfusion this)
            have LE : (Op.bytesLess (fs k).toList (ahead fs k).toList || (fs k).toList == (ahead fs k).toList) = true := by rw [le_not, h2]; rfl
            clear h2 HLA
            generalize ahead fs k = L at LE ⊢
            go_wp2
            go_ret
            exact ⟨by rw [hc.out, hh.out]; rfl, B4.out⟩
          · have hok2 : Hid (ssOk fs (k + 1)) := ssOk_succ hok.out H0.out (HLA.out.2 h2)
            have LE : (Op.bytesLess (fs k).toList (ahead fs k).toList || (fs k).toList == (ahead fs k).toList) = false := by rw [le_not, h2]; rfl
            clear h2 HLA
            generalize ahead fs k = L at LE ⊢
            go_wp2
            go_roundw
            case rel => exact ⟨k + 1, by omega, by go_num, by rw [hah.out], hok2, I4, B4⟩
            case measure => simp [intOf]; omega
        · have hh : Hid (ssC fs ns = 151) := ssC_no (fun g => by have := (g k hlt).1; rw [h0] at this; exact absurd this (by decide))
          rw [h0] at CS
          clear h0
          generalize snD (fs k) = E at CS
          generalize snN (fs k) = N at CS
          go_wp2_with fail
          refine CS.mono ?_
          clear CS
          rintro e w2 ⟨rfl, b2⟩
          have B2 : Hid (Below w.heap.size w w2) := BK.out.trans (b2.mono BK.out.size)
          clear b2 IK BK c0 c36
          go_wp2_with (refine wpList_store_any (by rfl) 22 (.tmp 7) (.tmp 29) (by rfl) w2.heap.size (by rfl) (by rfl) (Row.rep (by rfl)) szR32 (by rfl) ?_; intro W4 R4 U4; refine Hid.out ?_)
          unfold Hid
          have B4 : Hid (Below w.heap.size w W4) := U4.below (B2.out.alloc B2.out.size _) B2.out.size (by rw [World.size_alloc]; have := B2.out.size; omega)
          clear R4 U4 B2
          generalize ahead fs k = L
          go_wp2
          go_ret
          exact ⟨by rw [hc.out, hh.out]; rfl, B4.out⟩
      · obtain rfl : k = ns := by omega
        have hh : Hid (ssC fs k = 0) := ssC_yes hok.out
        go_wp2
        go_ret
        exact ⟨by rw [hc.out, hh.out]; rfl, BK.out⟩
  · have hc : Hid (C = unC P z fr nr F) := by
      have h1 := HC.out
      rw [orC_n hU] at h1
      exact h1.symm
    have hU' : (unC P z fr nr F != 0) = true := by rw [bne_iff_ne]; exact hU
    have hU'' : (unC P z fr nr F == 0) = false := by rw [beq_eq_false_iff_ne]; exact hU
    clear HC hU
    generalize unC P z fr nr F = U at CU hc hU' hU''
    go_enter Tryd.func12, Tryd.ntmps12
    go_wp2_with (refine wpList_load_rinf (by rfl) (.tmp 1) (by rfl) (by rfl) I0 ?_; refine Hid.out ?_)
    unfold Hid
    generalize w.alloc (.cells (infC P D z (.slice xr nr cr) F (.slice xs ns cs')) 36) = w0 at I0 B0 ⊢
    go_wp2_with fail
    refine (CU w0 B0).mono ?_
    rintro e w1 ⟨rfl, b1⟩
    go_wp2
    go_ret
    exact ⟨by rw [hc.out]; rfl, B0.trans (b1.mono B0.size)⟩

end Go.Proofs.YtgnlkggodchlbaaDoor
