/- An info in memory; info.Check; walked. -/
import Derived.Test.YtjhbfkckkinfjaaDoorInE
namespace Go.Proofs.YtjhbfkckkinfjaaDoor
open Go.RowKit

/-- An info's cells. -/
def infL (P : ByteArray) (D : Nat → Int) (z : Int) (vr : Value) (F : ByteArray) (vs : Value) : List Value := .string P :: ((List.range 32).map (fun i => Value.int .u8 (D i)) ++ [.int .i64 z, vr, .string F, vs])
def infC (P : ByteArray) (D : Nat → Int) (z : Int) (vr : Value) (F : ByteArray) (vs : Value) : Array Value := (infL P D z vr F vs).toArray
theorem infL_len (P : ByteArray) (D : Nat → Int) (z : Int) (vr : Value) (F : ByteArray) (vs : Value) : (infL P D z vr F vs).length = 37 := by simp [infL]
theorem infC_size (P : ByteArray) (D : Nat → Int) (z : Int) (vr : Value) (F : ByteArray) (vs : Value) : (infC P D z vr F vs).size = 37 := by rw [infC, List.size_toArray, infL_len]
theorem infL_dig (P : ByteArray) (D : Nat → Int) (z : Int) (vr : Value) (F : ByteArray) (vs : Value) (j : Nat) (hj : j < 32) : (infL P D z vr F vs)[1 + j]? = some (.int .u8 (D j)) := by
  unfold infL
  rw [Nat.add_comm, List.getElem?_cons_succ, List.getElem?_append_left (by simp; omega)]
  simp [hj]
theorem infL_tail (P : ByteArray) (D : Nat → Int) (z : Int) (vr : Value) (F : ByteArray) (vs : Value) (j : Nat) : (infL P D z vr F vs)[33 + j]? = [Value.int .i64 z, vr, .string F, vs][j]? := by
  unfold infL
  rw [show 33 + j = (32 + j) + 1 from by omega, List.getElem?_cons_succ, List.getElem?_append_right (by simp)]
  simp

/-- Block g is an info. -/
structure Inf (w : World) (g : Nat) (P : ByteArray) (D : Nat → Int) (z : Int) (vr : Value) (F : ByteArray) (vs : Value) : Prop where
  path : w.cell? ⟨g, 0, none⟩ = some (.string P)
  dig : ∀ j, j < 32 → w.cell? ⟨g, 1 + j, none⟩ = some (.int .u8 (D j))
  size : w.cell? ⟨g, 33, none⟩ = some (.int .i64 z)
  refs : w.cell? ⟨g, 34, none⟩ = some vr
  from_ : w.cell? ⟨g, 35, none⟩ = some (.string F)
  signs : w.cell? ⟨g, 36, none⟩ = some vs
  free : ∀ j, j < 37 → w.frozen? ⟨g, j, none⟩ = false
theorem Inf.same {w w' : World} {g : Nat} {P : ByteArray} {D : Nat → Int} {z : Int} {vr : Value} {F : ByteArray} {vs : Value} (h : Inf w g P D z vr F vs) (e : w'.heap[g]? = w.heap[g]?) : Inf w' g P D z vr F vs := by
  have c : ∀ j, w'.cell? ⟨g, j, none⟩ = w.cell? ⟨g, j, none⟩ := fun j => World.cell?_of_block (w := w) (w' := w') (a := ⟨g, j, none⟩) e
  have f : ∀ j, w'.frozen? ⟨g, j, none⟩ = w.frozen? ⟨g, j, none⟩ := fun j => World.frozen?_of_block (w := w) (w' := w') (a := ⟨g, j, none⟩) e
  exact ⟨(c _).trans h.path, fun j hj => (c _).trans (h.dig j hj), (c _).trans h.size, (c _).trans h.refs, (c _).trans h.from_, (c _).trans h.signs, fun j hj => (f _).trans (h.free j hj)⟩
theorem Inf.lt {w : World} {g : Nat} {P : ByteArray} {D : Nat → Int} {z : Int} {vr : Value} {F : ByteArray} {vs : Value} (h : Inf w g P D z vr F vs) : g < w.heap.size := World.block_lt_of_cell? _ _ h.path
theorem Inf.below {w w' : World} {g B : Nat} {P : ByteArray} {D : Nat → Int} {z : Int} {vr : Value} {F : ByteArray} {vs : Value} (h : Inf w g P D z vr F vs) (b : Below B w w') (hg : g < B) : Inf w' g P D z vr F vs := h.same (b.block g hg)
theorem Inf.box (w : World) (t : TypeId) (P : ByteArray) (D : Nat → Int) (z : Int) (vr : Value) (F : ByteArray) (vs : Value) : Inf (w.alloc (.cells (infC P D z vr F vs) t)) w.heap.size P D z vr F vs := by
  have c : ∀ j v, (infL P D z vr F vs)[j]? = some v → (w.alloc (.cells (infC P D z vr F vs) t)).cell? ⟨w.heap.size, j, none⟩ = some v := fun j v h => by
    rw [World.cell?_alloc_new]
    unfold infC
    simpa using h
  exact ⟨c 0 _ rfl, fun j hj => c _ _ (infL_dig _ _ _ _ _ _ j hj), c 33 _ (infL_tail _ _ _ _ _ _ 0), c 34 _ (infL_tail _ _ _ _ _ _ 1), c 35 _ (infL_tail _ _ _ _ _ _ 2), c 36 _ (infL_tail _ _ _ _ _ _ 3), fun j _ => World.frozen?_alloc_new w _ _ _⟩

theorem prC_is (p : ByteArray) : prC p = 0 ∨ (prC p != 0) = true := by
  by_cases h : prC p = 0
  · exact Or.inl h
  · exact Or.inr (by rw [bne_iff_ne]; exact h)
theorem crf_is (f : Nat → ByteArray) (n : Nat) : crf f n = 0 ∨ (crf f n != 0) = true := by
  by_cases h : crf f n = 0
  · exact Or.inl h
  · exact Or.inr (by rw [bne_iff_ne]; exact h)

set_option maxRecDepth 100000 in
set_option maxHeartbeats 2000000 in
theorem ick_any (P : ByteArray) (D : Nat → Int) (z : Int) (F : ByteArray) (xr : Option Addr) (nr cr : Nat) (fr : Nat → ByteArray) (xs : Option Addr) (ns cs' : Nat) (fs : Nat → ByteArray) (w : World)
    (hr : SIs w xr nr fr) (hs : SIs w xs ns fs) (hnc : ns ≤ cs') (hns : ns ≤ 1152921504606846976) (hsz : ∀ i, i < ns → (fs i).size ≤ 140737488351232) :
    Calls Tryd.prog 7 #[.agg (infC P D z (.slice xr nr cr) F (.slice xs ns cs'))] w fun e w' => e = .returned (.int .i64 (ckC P z fr nr F fs ns)) ∧ Below w.heap.size w w' := by
  have I0 : Inf (w.alloc (.cells (infC P D z (.slice xr nr cr) F (.slice xs ns cs')) 26)) w.heap.size P D z (.slice xr nr cr) F (.slice xs ns cs') := Inf.box _ _ _ _ _ _ _ _
  have B0 : Below w.heap.size w (w.alloc (.cells (infC P D z (.slice xr nr cr) F (.slice xs ns cs')) 26)) := (Below.refl _ _).alloc (Nat.le_refl _) _
  have z0 : w.heap.size < (w.alloc (.cells (infC P D z (.slice xr nr cr) F (.slice xs ns cs')) 26)).heap.size := by rw [World.size_alloc]; omega
  have HR : Hid (SIs w xr nr fr) := hr
  have HS : Hid (SIs w xs ns fs) := hs
  have HZ : Hid (∀ i, i < ns → (fs i).size ≤ 140737488351232) := hsz
  have HK : Hid (ckC P z fr nr F fs ns = ckC P z fr nr F fs ns) := rfl
  clear hr hs hsz
  generalize hC : ckC P z fr nr F fs ns = C
  have HC : Hid (ckC P z fr nr F fs ns = C) := hC
  clear hC HK
  unfold ckC unC at HC
  have p0 := I0.path
  have CP := fun W => parse_any P W
  rcases prC_is P with hP | hP
  · rw [hP] at CP
    by_cases hz0 : 0 ≤ z
    · have hz0' : ¬ z < 0 := by omega
      by_cases hz1 : z ≤ 1048576
      · have hz1' : ¬ 1048576 < z := by omega
        have HC1 : Hid (orC (orC (crf fr nr) (frC F)) (ssC fs ns) = C) := by
          have h1 := HC.out
          rw [orC_z hP, orC_z (szC_yes hz0 hz1)] at h1
          exact h1
        rcases crf_is fr nr with hR | hR
        · have HC2 : Hid (orC (frC F) (ssC fs ns) = C) := by
            have h1 := HC1.out
            rw [orC_z hR] at h1
            exact h1
          by_cases hF : F.size = 0
          · have hc : Hid (C = ssC fs ns) := by
              have h1 := HC2.out
              rw [frC_z hF, orC_z rfl] at h1
              exact h1.symm
            obtain rfl : F = ⟨#[]⟩ := bytes_ext (by rw [hF]; rfl) (fun k hk => absurd hk (by omega))
            clear HC HC1 HC2 hF
            go_enter Tryd.func7, Tryd.ntmps7
            go_wp2_with fail
            generalize w.alloc (.cells (infC P D z (.slice xr nr cr) ⟨#[]⟩ (.slice xs ns cs')) 26) = w0 at I0 B0 z0 p0 ⊢
            refine (CP w0).mono ?_
            rintro e w1 ⟨rfl, b1⟩
            have I1 := I0.below b1 z0
            have B1 : Hid (Below w.heap.size w w1) := B0.trans (b1.mono B0.size)
            have z1 : Hid (w.heap.size < w1.heap.size) := Nat.lt_of_lt_of_le z0 b1.size
            clear b1 I0 B0 z0 p0 CP
            have c33 := I1.size
            have c34 := I1.refs
            have CR := ckR_any xr nr cr fr w1 (HR.out.below B1.out (Nat.le_refl _))
            rw [hR] at CR
            go_wp2_with fail
            refine CR.mono ?_
            rintro e w2 ⟨rfl, b2⟩
            have I2 := I1.below b2 z1.out
            have B2 : Hid (Below w.heap.size w w2) := B1.out.trans (b2.mono B1.out.size)
            have z2 : Hid (w.heap.size < w2.heap.size) := Nat.lt_of_lt_of_le z1.out b2.size
            clear b2 CR c33 c34 I1 B1 z1
            have c35 := I2.from_
            have c36 := I2.signs
            have CS := ckSs_any xs ns cs' fs w2 (HS.out.below B2.out (Nat.le_refl _)) hnc hns HZ.out
            go_wp2_with fail
            refine CS.mono ?_
            rintro e w4 ⟨rfl, b4⟩
            have B4 : Hid (Below w.heap.size w w4) := B2.out.trans (b4.mono B2.out.size)
            clear b4 CS
            go_wp2
            go_ret
            exact ⟨by rw [hc.out]; rfl, B4.out⟩
          · have f1 : (F.toList == []) = false := by
              rw [beq_eq_false_iff_ne]
              intro h
              exact hF ((empty_iff F).1 (by rw [h]; rfl))
            have f2 : (F.toList != []) = true := by rw [bne_iff_ne]; rw [beq_eq_false_iff_ne] at f1; exact f1
            have f3 : ¬ F.toList = [] := by rw [beq_eq_false_iff_ne] at f1; exact f1
            have f4 : F.toList.isEmpty = false := by
              cases h : F.toList.isEmpty
              · rfl
              · exact absurd ((empty_iff F).1 h) hF
            rcases prC_is F with hF2 | hF2
            · have hc : Hid (C = ssC fs ns) := by
                have h1 := HC2.out
                rw [frC_n hF, orC_z hF2] at h1
                exact h1.symm
              have HF2 : Hid (prC F = 0) := hF2
              clear HC HC1 HC2 hF hF2
              go_enter Tryd.func7, Tryd.ntmps7
              go_wp2_with fail
              generalize w.alloc (.cells (infC P D z (.slice xr nr cr) F (.slice xs ns cs')) 26) = w0 at I0 B0 z0 p0 ⊢
              refine (CP w0).mono ?_
              rintro e w1 ⟨rfl, b1⟩
              have I1 := I0.below b1 z0
              have B1 : Hid (Below w.heap.size w w1) := B0.trans (b1.mono B0.size)
              have z1 : Hid (w.heap.size < w1.heap.size) := Nat.lt_of_lt_of_le z0 b1.size
              clear b1 I0 B0 z0 p0 CP
              have c33 := I1.size
              have c34 := I1.refs
              have CR := ckR_any xr nr cr fr w1 (HR.out.below B1.out (Nat.le_refl _))
              rw [hR] at CR
              go_wp2_with fail
              refine CR.mono ?_
              rintro e w2 ⟨rfl, b2⟩
              have I2 := I1.below b2 z1.out
              have B2 : Hid (Below w.heap.size w w2) := B1.out.trans (b2.mono B1.out.size)
              have z2 : Hid (w.heap.size < w2.heap.size) := Nat.lt_of_lt_of_le z1.out b2.size
              clear b2 CR c33 c34 I1 B1 z1
              have c35 := I2.from_
              go_wp2_with fail
              refine (parse_any F w2).mono ?_
              rintro e w3 ⟨rfl, b3⟩
              rw [HF2.out]
              have I3 := I2.below b3 z2.out
              have B3 : Hid (Below w.heap.size w w3) := B2.out.trans (b3.mono B2.out.size)
              have z3 : Hid (w.heap.size < w3.heap.size) := Nat.lt_of_lt_of_le z2.out b3.size
              clear b3 c35 I2 B2 z2
              have c36 := I3.signs
              have CS := ckSs_any xs ns cs' fs w3 (HS.out.below B3.out (Nat.le_refl _)) hnc hns HZ.out
              go_wp2_with fail
              refine CS.mono ?_
              rintro e w4 ⟨rfl, b4⟩
              have B4 : Hid (Below w.heap.size w w4) := B3.out.trans (b4.mono B3.out.size)
              clear b4 CS
              go_wp2
              go_ret
              exact ⟨by rw [hc.out]; rfl, B4.out⟩
            · have hc : Hid (C = prC F) := by
                have h1 := HC2.out
                rw [bne_iff_ne] at hF2
                rw [frC_n hF, orC_n hF2] at h1
                exact h1.symm
              clear HC HC1 HC2 hF
              go_enter Tryd.func7, Tryd.ntmps7
              go_wp2_with fail
              generalize w.alloc (.cells (infC P D z (.slice xr nr cr) F (.slice xs ns cs')) 26) = w0 at I0 B0 z0 p0 ⊢
              refine (CP w0).mono ?_
              rintro e w1 ⟨rfl, b1⟩
              have I1 := I0.below b1 z0
              have B1 : Hid (Below w.heap.size w w1) := B0.trans (b1.mono B0.size)
              have z1 : Hid (w.heap.size < w1.heap.size) := Nat.lt_of_lt_of_le z0 b1.size
              clear b1 I0 B0 z0 p0 CP
              have c33 := I1.size
              have c34 := I1.refs
              have CR := ckR_any xr nr cr fr w1 (HR.out.below B1.out (Nat.le_refl _))
              rw [hR] at CR
              go_wp2_with fail
              refine CR.mono ?_
              rintro e w2 ⟨rfl, b2⟩
              have I2 := I1.below b2 z1.out
              have B2 : Hid (Below w.heap.size w w2) := B1.out.trans (b2.mono B1.out.size)
              have z2 : Hid (w.heap.size < w2.heap.size) := Nat.lt_of_lt_of_le z1.out b2.size
              clear b2 CR c33 c34 I1 B1 z1
              have c35 := I2.from_
              go_wp2_with fail
              refine (parse_any F w2).mono ?_
              rintro e w3 ⟨rfl, b3⟩
              have I3 := I2.below b3 z2.out
              have B3 : Hid (Below w.heap.size w w3) := B2.out.trans (b3.mono B2.out.size)
              have z3 : Hid (w.heap.size < w3.heap.size) := Nat.lt_of_lt_of_le z2.out b3.size
              clear b3 c35 I2 B2 z2
              go_wp2
              go_ret
              exact ⟨by rw [hc.out]; rfl, B3.out⟩
        · have hc : Hid (C = crf fr nr) := by
            have h1 := HC1.out
            rw [bne_iff_ne] at hR
            rw [orC_n (a := orC (crf fr nr) _) (by rw [orC_n hR]; exact hR), orC_n hR] at h1
            exact h1.symm
          clear HC HC1
          go_enter Tryd.func7, Tryd.ntmps7
          go_wp2_with fail
          generalize w.alloc (.cells (infC P D z (.slice xr nr cr) F (.slice xs ns cs')) 26) = w0 at I0 B0 z0 p0 ⊢
          refine (CP w0).mono ?_
          rintro e w1 ⟨rfl, b1⟩
          have I1 := I0.below b1 z0
          have B1 : Hid (Below w.heap.size w w1) := B0.trans (b1.mono B0.size)
          have z1 : Hid (w.heap.size < w1.heap.size) := Nat.lt_of_lt_of_le z0 b1.size
          clear b1 I0 B0 z0 p0 CP
          have c33 := I1.size
          have c34 := I1.refs
          have CR := ckR_any xr nr cr fr w1 (HR.out.below B1.out (Nat.le_refl _))
          go_wp2_with fail
          refine CR.mono ?_
          rintro e w2 ⟨rfl, b2⟩
          have I2 := I1.below b2 z1.out
          have B2 : Hid (Below w.heap.size w w2) := B1.out.trans (b2.mono B1.out.size)
          have z2 : Hid (w.heap.size < w2.heap.size) := Nat.lt_of_lt_of_le z1.out b2.size
          clear b2 CR c33 c34 I1 B1 z1
          go_wp2
          go_ret
          exact ⟨by rw [hc.out]; rfl, B2.out⟩
      · have hz1' : 1048576 < z := by omega
        have hc : Hid (C = 152) := by
          have h1 := HC.out
          have h2 := szC_no (z := z) (by omega)
          rw [orC_z hP, h2, orC_n (a := orC 152 _) (by rw [orC_n (by decide)]; decide), orC_n (by decide)] at h1
          exact h1.symm
        clear HC
        go_enter Tryd.func7, Tryd.ntmps7
        go_wp2_with fail
        generalize w.alloc (.cells (infC P D z (.slice xr nr cr) F (.slice xs ns cs')) 26) = w0 at I0 B0 z0 p0 ⊢
        refine (CP w0).mono ?_
        rintro e w1 ⟨rfl, b1⟩
        have I1 := I0.below b1 z0
        have B1 : Hid (Below w.heap.size w w1) := B0.trans (b1.mono B0.size)
        have z1 : Hid (w.heap.size < w1.heap.size) := Nat.lt_of_lt_of_le z0 b1.size
        clear b1 I0 B0 z0 p0 CP
        have c33 := I1.size
        go_wp2
        go_ret
        exact ⟨by rw [hc.out]; rfl, B1.out⟩
    · have hz0' : z < 0 := by omega
      have hc : Hid (C = 152) := by
        have h1 := HC.out
        have h2 := szC_no (z := z) (by omega)
        rw [orC_z hP, h2, orC_n (a := orC 152 _) (by rw [orC_n (by decide)]; decide), orC_n (by decide)] at h1
        exact h1.symm
      clear HC
      go_enter Tryd.func7, Tryd.ntmps7
      go_wp2_with fail
      generalize w.alloc (.cells (infC P D z (.slice xr nr cr) F (.slice xs ns cs')) 26) = w0 at I0 B0 z0 p0 ⊢
      refine (CP w0).mono ?_
      rintro e w1 ⟨rfl, b1⟩
      have I1 := I0.below b1 z0
      have B1 : Hid (Below w.heap.size w w1) := B0.trans (b1.mono B0.size)
      have z1 : Hid (w.heap.size < w1.heap.size) := Nat.lt_of_lt_of_le z0 b1.size
      clear b1 I0 B0 z0 p0 CP
      have c33 := I1.size
      go_wp2
      go_ret
      exact ⟨by rw [hc.out]; rfl, B1.out⟩
  · have hc : Hid (C = prC P) := by
      have h1 := HC.out
      rw [bne_iff_ne] at hP
      unfold Hid
      rw [orC_n (a := orC (prC P) _) (by rw [orC_n hP]; exact hP), orC_n hP] at h1
      exact h1.symm
    go_enter Tryd.func7, Tryd.ntmps7
    go_wp2_with fail
    generalize w.alloc (.cells (infC P D z (.slice xr nr cr) F (.slice xs ns cs')) 26) = w0 at I0 B0 z0 p0 ⊢
    refine (CP w0).mono ?_
    rintro e w1 ⟨rfl, b1⟩
    go_wp2
    go_ret
    exact ⟨by rw [hc.out]; rfl, B0.trans (b1.mono B0.size)⟩

end Go.Proofs.YtjhbfkckkinfjaaDoor
