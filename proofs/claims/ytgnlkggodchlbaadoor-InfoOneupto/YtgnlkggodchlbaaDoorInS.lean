/- The document's path, Unsigned, Check; the laws' plain; walked. -/
import Derived.Test.YtgnlkggodchlbaaDoorInR
import Derived.Test.YtgnlkggodchlbaaDoorInI
namespace Go.Proofs.YtgnlkggodchlbaaDoor
open Go.RowKit Go.Shelf

set_option maxHeartbeats 400000 in
theorem rpath_any (p : ByteArray) (w : World) :
    Calls Tryd.prog 47 #[.string p] w fun e w' => e = .returned (.int .i64 (prC p)) ∧ w' = w := by
  have C0 := rparse_any p w
  generalize prH p = a at C0
  generalize prL p = b at C0
  generalize prC p = c at C0 ⊢
  go_enter Tryd.func47, Tryd.ntmps47
  go_wp2_with fail
  refine C0.mono ?_
  rintro e w1 ⟨rfl, rfl⟩
  go_wp2
  go_ret
  exact ⟨rfl, rfl⟩

theorem szRINF : (Tryd.prog.info? 36).map (·.size) = some 37 := by kernel_rfl
theorem wpList_load_rinf {ops : Array Oper} {rest : List Oper} {o : Oper} {a : Act} {w : World} {Q : Exit → Act → World → Prop} {g : Nat} {P : ByteArray} {D : Nat → Int} {z : Int} {vr : Value} {F : ByteArray} {vs : Value} (hgd : o.guard = none) (x : Operand) (ho : o.op = .load 36 x)
    (hx : a.eval x = .pointer (some ⟨g, 0, none⟩)) (h : Inf w g P D z vr F vs) (hK : wpList Tryd.prog ops Q rest (a.put o.dst (.agg (infC P D z vr F vs))) w) : wpList Tryd.prog ops Q (o :: rest) a w :=
  wpList_load_mid hgd 36 x ho g 0 hx (infL P D z vr F vs) _ h.range Tryd.underlying36 rfl (by rw [szRINF]; exact congrArg some (infC_size P D z vr F vs).symm) hK

set_option maxRecDepth 100000 in
set_option maxHeartbeats 2000000 in
theorem runs_any (P : ByteArray) (D : Nat → Int) (z : Int) (F : ByteArray) (xr : Option Addr) (nr cr : Nat) (fr : Nat → ByteArray) (vs : Value) (w : World) (hr : SIs w xr nr fr) :
    Calls Tryd.prog 28 #[.agg (infC P D z (.slice xr nr cr) F vs)] w fun e w' => e = .returned (.int .i64 (unC P z fr nr F)) ∧ Below w.heap.size w w' := by
  have I0 : Inf (w.alloc (.cells (infC P D z (.slice xr nr cr) F vs) 36)) w.heap.size P D z (.slice xr nr cr) F vs := Inf.box _ _ _ _ _ _ _ _
  have B0 : Below w.heap.size w (w.alloc (.cells (infC P D z (.slice xr nr cr) F vs) 36)) := (Below.refl _ _).alloc (Nat.le_refl _) _
  have HR : Hid (SIs w xr nr fr) := hr
  clear hr
  generalize hC : unC P z fr nr F = C
  have HC : Hid (unC P z fr nr F = C) := hC
  clear hC
  unfold unC at HC
  have p0 := I0.path
  have CP := fun W => rpath_any P W
  rcases prC_is P with hP | hP
  · rw [hP] at CP
    by_cases hz0 : 0 ≤ z
    · have hz0' : ¬ z < 0 := by omega
      by_cases hz1 : z ≤ 1048576
      · have hz1' : ¬ 1048576 < z := by omega
        have HC1 : Hid (orC (crf fr nr) (frC F) = C) := by
          have h1 := HC.out
          rw [orC_z hP, orC_z (szC_yes hz0 hz1)] at h1
          exact h1
        rcases crf_is fr nr with hR | hR
        · have HC2 : Hid (frC F = C) := by
            have h1 := HC1.out
            rw [orC_z hR] at h1
            exact h1
          by_cases hF : F.size = 0
          · have hc : Hid (C = 0) := by
              have h1 := HC2.out
              rw [frC_z hF] at h1
              exact h1.symm
            obtain rfl : F = ⟨#[]⟩ := bytes_ext (by rw [hF]; rfl) (fun k hk => absurd hk (by omega))
            clear HC HC1 HC2 hF
            go_enter Tryd.func28, Tryd.ntmps28
            go_wp2_with fail
            generalize w.alloc (.cells (infC P D z (.slice xr nr cr) ⟨#[]⟩ vs) 36) = w0 at I0 B0 p0 ⊢
            refine (CP w0).mono ?_
            rintro e w1 ⟨rfl, rfl⟩
            have B1 : Hid (Below w.heap.size w w1) := B0
            have I1 := I0
            clear I0 B0 p0 CP
            have c33 := I1.size
            have c34 := I1.refs
            have CR := rckR_any xr nr cr fr w1 (HR.out.below B1.out (Nat.le_refl _))
            rw [hR] at CR
            go_wp2_with fail
            refine CR.mono ?_
            rintro e w2 ⟨rfl, rfl⟩
            have I2 := I1
            have B2 : Hid (Below w.heap.size w w2) := B1
            have c35 := I2.from_
            go_wp2
            go_ret
            exact ⟨by rw [hc.out]; rfl, B2.out⟩
          · have f1 : (F.toList == []) = false := by
              rw [beq_eq_false_iff_ne]
              intro h
              exact hF ((empty_iff F).1 (by rw [h]; rfl))
            have f2 : (F.toList != []) = true := by rw [bne_iff_ne]; rw [beq_eq_false_iff_ne] at f1; exact f1
            have f3 : ¬ F.toList = [] := by rw [beq_eq_false_iff_ne] at f1; exact f1
            have f4 : F.toList.isEmpty = false := by
              cases h : F.toList.isEmpty
              · rfl
              · exact absurd ((empty_iff F).1 h) hF
            have hc : Hid (C = prC F) := by
              have h1 := HC2.out
              rw [frC_n hF] at h1
              exact h1.symm
            clear HC HC1 HC2 hF
            go_enter Tryd.func28, Tryd.ntmps28
            go_wp2_with fail
            generalize w.alloc (.cells (infC P D z (.slice xr nr cr) F vs) 36) = w0 at I0 B0 p0 ⊢
            refine (CP w0).mono ?_
            rintro e w1 ⟨rfl, rfl⟩
            have B1 : Hid (Below w.heap.size w w1) := B0
            have I1 := I0
            clear I0 B0 p0 CP
            have c33 := I1.size
            have c34 := I1.refs
            have CR := rckR_any xr nr cr fr w1 (HR.out.below B1.out (Nat.le_refl _))
            rw [hR] at CR
            go_wp2_with fail
            refine CR.mono ?_
            rintro e w2 ⟨rfl, rfl⟩
            have I2 := I1
            have B2 : Hid (Below w.heap.size w w2) := B1
            have c35 := I2.from_
            go_wp2_with fail
            refine (rpath_any F w2).mono ?_
            rintro e w3 ⟨rfl, rfl⟩
            go_wp2
            go_ret
            exact ⟨by rw [hc.out]; rfl, B2.out⟩
        · have hc : Hid (C = crf fr nr) := by
            have h1 := HC1.out
            rw [bne_iff_ne] at hR
            rw [orC_n hR] at h1
            exact h1.symm
          clear HC HC1
          go_enter Tryd.func28, Tryd.ntmps28
          go_wp2_with fail
          generalize w.alloc (.cells (infC P D z (.slice xr nr cr) F vs) 36) = w0 at I0 B0 p0 ⊢
          refine (CP w0).mono ?_
          rintro e w1 ⟨rfl, rfl⟩
          have B1 : Hid (Below w.heap.size w w1) := B0
          have I1 := I0
          clear I0 B0 p0 CP
          have c33 := I1.size
          have c34 := I1.refs
          have CR := rckR_any xr nr cr fr w1 (HR.out.below B1.out (Nat.le_refl _))
          go_wp2_with fail
          refine CR.mono ?_
          rintro e w2 ⟨rfl, rfl⟩
          have I2 := I1
          have B2 : Hid (Below w.heap.size w w2) := B1
          go_wp2
          go_ret
          exact ⟨by rw [hc.out]; rfl, B2.out⟩
      · have hz1' : 1048576 < z := by omega
        have hc : Hid (C = 152) := by
          have h1 := HC.out
          have h2 := szC_no (z := z) (by omega)
          rw [orC_z hP, h2, orC_n (by decide)] at h1
          exact h1.symm
        clear HC
        go_enter Tryd.func28, Tryd.ntmps28
        go_wp2_with fail
        generalize w.alloc (.cells (infC P D z (.slice xr nr cr) F vs) 36) = w0 at I0 B0 p0 ⊢
        refine (CP w0).mono ?_
        rintro e w1 ⟨rfl, rfl⟩
        have B1 : Hid (Below w.heap.size w w1) := B0
        have I1 := I0
        clear I0 B0 p0 CP
        have c33 := I1.size
        go_wp2
        go_ret
        exact ⟨by rw [hc.out]; rfl, B1.out⟩
    · have hz0' : z < 0 := by omega
      have hc : Hid (C = 152) := by
        have h1 := HC.out
        have h2 := szC_no (z := z) (by omega)
        rw [orC_z hP, h2, orC_n (by decide)] at h1
        exact h1.symm
      clear HC
      go_enter Tryd.func28, Tryd.ntmps28
      go_wp2_with fail
      generalize w.alloc (.cells (infC P D z (.slice xr nr cr) F vs) 36) = w0 at I0 B0 p0 ⊢
      refine (CP w0).mono ?_
      rintro e w1 ⟨rfl, rfl⟩
      have B1 : Hid (Below w.heap.size w w1) := B0
      have I1 := I0
      clear I0 B0 p0 CP
      have c33 := I1.size
      go_wp2
      go_ret
      exact ⟨by rw [hc.out]; rfl, B1.out⟩
  · have hc : Hid (C = prC P) := by
      have h1 := HC.out
      rw [bne_iff_ne] at hP
      unfold Hid
      rw [orC_n hP] at h1
      exact h1.symm
    clear HC
    go_enter Tryd.func28, Tryd.ntmps28
    go_wp2_with fail
    generalize w.alloc (.cells (infC P D z (.slice xr nr cr) F vs) 36) = w0 at I0 B0 p0 ⊢
    refine (CP w0).mono ?_
    rintro e w1 ⟨rfl, rfl⟩
    have B1 : Hid (Below w.heap.size w w1) := B0
    have I1 := I0
    clear I0 B0 p0 CP
    have c33 := I1.size
    go_wp2
    go_ret
    exact ⟨by rw [hc.out]; rfl, B1.out⟩

end Go.Proofs.YtgnlkggodchlbaaDoor
