/- times of the reference, walked. -/
import Derived.Test.YtholbaefmncphaaDoorRtB
import Derived.Deep.QuietTactic
namespace Go.Proofs.YtholbaefmncphaaDoor
open Go.RowKit
theorem stepT_length (B : List Nat) (ai i : Nat) : ∀ (f j c : Nat) (C R : List Nat), stepT B ai i f j c C = some R → R.length = C.length
  | 0, _, _, _, _, h => by cases h
  | f + 1, j, c, C, R, h => by
    rw [stepT] at h
    split at h
    · split at h
      · have := stepT_length B ai i f _ _ _ _ h
        rw [this, List.length_set]
      · cases h
    · cases h; rfl
theorem outT_length (A B : List Nat) : ∀ (n i : Nat) (C R : List Nat), outT A B n i C = some R → R.length = C.length
  | 0, _, _, _, h => by cases h; rfl
  | n + 1, i, C, R, h => by
    obtain ⟨C', h1, h2⟩ := Option.bind_eq_some_iff.1 h
    rw [outT_length A B n (i + 1) C' R h2, stepT_length B _ i 40 0 0 C C' h1]
theorem timesT_length {A B R : List Nat} (h : timesT A B = some R) : R.length = A.length + B.length := by
  rw [outT_length A B _ _ _ _ h, List.length_replicate]
theorem row_set (C : List Nat) (n x : Nat) (hn : n < C.length) (j : Nat) : (if j = n then ((x : Nat) : Int) else ((C.getD j 0 : Nat) : Int)) = (((C.set n x).getD j 0 : Nat) : Int) := by
  rw [List.getD_eq_getElem?_getD, List.getD_eq_getElem?_getD, List.getElem?_set]
  by_cases e : j = n
  · subst e; simp [hn]
  · rw [if_neg e, if_neg (fun h => e h.symm)]
theorem and65535 (x : Nat) (h : x < 18446744073709551616) : bits .and .u64 (x : Int) 65535 = ((x % 65536 : Nat) : Int) := by
  have := u64_and (x : Int) 65535 (by omega) (by omega) (by omega) (by omega)
  rw [this]
  have h2 := Nat.and_two_pow_sub_one_eq_mod x 16
  simp at h2 ⊢
  omega
theorem info64 : (Tryd.prog.info? 49).map (fun i => (i.zero, i.size, i.bytes)) = some (some (.int .u64 0), 1, 8) := by kernel_rfl
theorem rep_getD (n j : Nat) : (List.replicate n 0).getD j 0 = 0 := by
  rw [List.getD_eq_getElem?_getD, List.getElem?_replicate]
  split <;> rfl
theorem mod_nat (a b : Nat) : ((a : Int) % (b : Int)) = ((a % b : Nat) : Int) := rfl

set_option maxHeartbeats 4000000 in
theorem times_any (A B R : List Nat) (va vb : Value) (w : World) (hA : LR w va A) (hB : LR w vb B) (la : A.length ≤ 1000) (lb : B.length ≤ 1000) (hR : timesT A B = some R) :
    Calls Tryd.prog 36 #[va, vb] w fun e w' => ∃ v, e = .returned v ∧ LR w' v R ∧ Below w.heap.size w w' := by
  obtain ⟨ga, ca, rfl, ha, RA, hga⟩ := hA
  obtain ⟨gb, cb, rfl, hb, RB, hgb⟩ := hB
  have HRA : Hid (Row .u64 w ga A.length (fun j => ((A.getD j 0 : Nat) : Int))) := RA
  have HRB : Hid (Row .u64 w gb B.length (fun j => ((B.getD j 0 : Nat) : Int))) := RB
  have HT : Hid (outT A B A.length 0 (List.replicate (A.length + B.length) 0) = some R) := hR
  have HL : Hid (R.length = A.length + B.length) := timesT_length hR
  clear RA RB hR
  have HMK : Hid (∀ w : World, (Instr.makeSlice 58 (.int .i64 ((A.length : Int) + (B.length : Int))) (.int .i64 ((A.length : Int) + (B.length : Int)))).run Tryd.prog w = .ok (.slice (some ⟨w.heap.size, 0, none⟩) (A.length + B.length) (A.length + B.length)) (w.alloc (.cells (madeCells (Value.int .u64 0).cells (A.length + B.length)) 49))) := fun w => by
    obtain ⟨i0, hi, hz0, hz1, hz2⟩ := info_parts info64
    rw [run_make (P := Tryd.prog) w 58 49 i0 (.int .u64 0) Tryd.underlying58 hi hz0 .i64 .i64 _ _ (by omega) (by omega) (by rw [hz2]; omega) (by omega), show (((A.length : Int) + (B.length : Int)) : Int).toNat = A.length + B.length by omega, hz1, Nat.mul_one]
  go_enter Tryd.func36, Tryd.ntmps36
  go_wp2_with fail
  rw [HMK.out]
  clear HMK
  have R2 : Hid (Row .u64 (w.alloc (.cells (madeCells (Value.int .u64 0).cells (A.length + B.length)) 49)) w.heap.size (A.length + B.length) (fun _ => 0)) := Row.made rfl
  have b2 : Hid (Below w.heap.size w (w.alloc (.cells (madeCells (Value.int .u64 0).cells (A.length + B.length)) 49))) := (Below.refl _ _).alloc (Nat.le_refl _) _
  obtain ⟨Q, hQ⟩ : ∃ Q, w.heap.size = Q := ⟨_, rfl⟩
  have HQ : Hid (w.heap.size = Q) := hQ
  have hQ2 : Q < (w.alloc (.cells (madeCells (Value.int .u64 0).cells (A.length + B.length)) 49)).heap.size := by rw [World.size_alloc]; omega
  rw [hQ] at R2 hga hgb ⊢
  clear hQ
  generalize w.alloc (.cells (madeCells (Value.int .u64 0).cells (A.length + B.length)) 49) = w2 at *
  go_wp2_with fail
  go_loopg [6] A.length (fun n xi wr => ∃ (i : Nat) (C : List Nat), i + n = A.length ∧ xi = .int .i64 (i : Int) ∧ C.length = A.length + B.length ∧ Hid (outT A B n i C = some R) ∧ Hid (Row .u64 wr Q (A.length + B.length) (fun j => ((C.getD j 0 : Nat) : Int))) ∧ Hid (Below w.heap.size w wr) ∧ Q < wr.heap.size)
  case atStart =>
    refine ⟨0, List.replicate (A.length + B.length) 0, by omega, rfl, by simp, HT, R2.out.congr (fun j hj => ?_), b2, hQ2⟩
    show (0 : Int) = (((List.replicate (A.length + B.length) 0).getD j 0 : Nat) : Int)
    rw [rep_getD]
    rfl
  case round =>
    obtain ⟨i, C, hin, rfl, hC, HO, RC, B1, hQw⟩ := hrel
    clear HT R2 b2 hQ2
    cases gk with
    | zero =>
      have hi : ¬ i < A.length := by omega
      go_wp2
      go_ret
      refine ⟨.slice (some ⟨Q, 0, none⟩) (A.length + B.length) (A.length + B.length), rfl, ⟨Q, A.length + B.length, by rw [HL.out], by rw [HL.out]; exact Nat.le_refl _, ?_, hQw⟩, B1.out⟩
      have e : C = R := Option.some.inj HO.out
      rw [HL.out, ← e]
      exact RC.out
    | succ n =>
      obtain ⟨C', hs, ho⟩ := Option.bind_eq_some_iff.1 HO.out
      have HS : Hid (stepT B (A.getD i 0) i 40 0 0 C = some C') := hs
      have HO2 : Hid (outT A B n (i + 1) C' = some R) := ho
      have hC' : C'.length = A.length + B.length := (stepT_length _ _ _ _ _ _ _ _ hs).trans hC
      obtain ⟨ai, hai⟩ : ∃ ai, A.getD i 0 = ai := ⟨_, rfl⟩
      rw [hai] at HS
      have HAI : Hid (A.getD i 0 = ai) := hai
      clear HO hs ho hai
      have hi : i < A.length := by omega
      go_wp2
      go_loopg [7, 8, 9] 40 (fun f xc xj _ wr' => ∃ (j c : Nat) (D : List Nat), xc = .int .u64 (c : Int) ∧ xj = .int .i64 (j : Int) ∧ j + f = 40 ∧ c < 18446744073709551616 ∧ D.length = A.length + B.length ∧ Hid (stepT B ai i f j c D = some C') ∧ Hid (Row .u64 wr' Q (A.length + B.length) (fun j => ((D.getD j 0 : Nat) : Int))) ∧ Hid (Below w.heap.size w wr') ∧ Q < wr'.heap.size)
      case atStart => exact ⟨0, 0, C, rfl, rfl, rfl, by decide, hC, HS, RC, B1, hQw⟩
      case round =>
        obtain ⟨j, c, D, rfl, rfl, hjf, hc64, hD, HS2, RD, BD, hQd⟩ := hrel
        clear HS RC B1 hQw
        cases gk with
        | zero => exact absurd HS2.out (by simp [stepT])
        | succ f =>
          by_cases hj : j < B.length
          · have hij : i + j < D.length := by omega
            have HS3 : Hid (stepT B ai i f (j + 1) (xT B D ai i j c / 65536) (D.set (i + j) (xT B D ai i j c % 65536)) = some C') := by
              have := HS2.out
              rw [stepT, if_pos (Or.inl hj), if_pos hij] at this
              exact this
            obtain ⟨x, hx⟩ : ∃ x, xT B D ai i j c = x := ⟨_, rfl⟩
            obtain ⟨dij, hdij⟩ : ∃ d, D.getD (i + j) 0 = d := ⟨_, rfl⟩
            obtain ⟨bj, hbj⟩ : ∃ d, B.getD j 0 = d := ⟨_, rfl⟩
            rw [hx] at HS3
            have c1 : wr.cell? ⟨Q, i + j, none⟩ = some (.int .u64 (dij : Int)) := by rw [← hdij]; exact RD.out.cell (i + j) (by omega)
            have f1 : wr.frozen? ⟨Q, i + j, none⟩ = false := RD.out.free (i + j) (by omega)
            have c2 : wr.cell? ⟨ga, i, none⟩ = some (.int .u64 (ai : Int)) := by
              rw [← HAI.out]
              exact (BD.out.cell (p := ⟨ga, i, none⟩) (by show ga < _; rw [HQ.out]; exact hga)).trans (HRA.out.cell i hi)
            have c3 : wr.cell? ⟨gb, j, none⟩ = some (.int .u64 (bj : Int)) := by
              rw [← hbj]
              exact (BD.out.cell (p := ⟨gb, j, none⟩) (by show gb < _; rw [HQ.out]; exact hgb)).trans (HRB.out.cell j hj)
            obtain ⟨s1, hs1⟩ : ∃ s, (dij + c) % 18446744073709551616 = s := ⟨_, rfl⟩
            obtain ⟨s2, hs2⟩ : ∃ s, ai * bj % 18446744073709551616 = s := ⟨_, rfl⟩
            have hx3 : (s1 + s2) % 18446744073709551616 = x := by
              rw [← hx, ← hs1, ← hs2, ← hdij, ← hbj]
              unfold xT
              rw [if_pos hj]
            have e1 : ((dij : Int) + (c : Int)) % 18446744073709551616 = (s1 : Int) := by rw [← hs1]; simp
            have e2 : ((ai : Int) * (bj : Int)) % 18446744073709551616 = (s2 : Int) := by rw [← hs2]; simp
            have e3 : ((s1 : Int) + (s2 : Int)) % 18446744073709551616 = (x : Int) := by rw [← hx3]; simp
            have e1w : IntKind.u64.wrap ((dij : Int) + (c : Int)) = (s1 : Int) := by rw [IntKind.wrap_u64]; exact e1
            have e2w : IntKind.u64.wrap ((ai : Int) * (bj : Int)) = (s2 : Int) := by rw [IntKind.wrap_u64]; exact e2
            have e3w : IntKind.u64.wrap ((s1 : Int) + (s2 : Int)) = (x : Int) := by rw [IntKind.wrap_u64]; exact e3
            have hx64 : x < 18446744073709551616 := by rw [← hx3]; exact Nat.mod_lt _ (by decide)
            obtain ⟨xm, hxm⟩ : ∃ m, x % 65536 = m := ⟨_, rfl⟩
            obtain ⟨xd, hxd⟩ : ∃ m, x / 65536 = m := ⟨_, rfl⟩
            rw [hxm, hxd] at HS3
            have e4 : bits .and .u64 (x : Int) 65535 = (xm : Int) := by rw [← hxm]; exact and65535 x hx64
            have e5 : ((x : Int) / 65536) = (xd : Int) := by rw [← hxd]; rfl
            have HRow : Hid (∀ W : World, Row .u64 W Q (A.length + B.length) (fun j => ((D.getD j 0 : Nat) : Int)) → Row .u64 (W.setCell ⟨Q, i + j, none⟩ (.int .u64 (xm : Int))) Q (A.length + B.length) (fun k => (((D.set (i + j) xm).getD k 0 : Nat) : Int))) := fun W RW => (RW.set (i + j) _ (by omega)).congr (fun k _ => row_set D (i + j) xm hij k)
            have HX64 : Hid (xd < 18446744073709551616) := by unfold Hid; rw [← hxd]; exact Nat.lt_of_le_of_lt (Nat.div_le_self _ _) hx64
            clear HS2 hx hdij hbj hs1 hs2 hx3 hxm hxd
            go_wp2_with fail
            go_quiet (fail)
            have RD' : Hid (Row .u64 (wr.drewN nq) Q (A.length + B.length) (fun j => ((D.getD j 0 : Nat) : Int))) := RD.out.same rfl
            have BD' : Hid (Below w.heap.size w (wr.drewN nq)) := ⟨BD.out.os, BD.out.tape, BD.out.output, BD.out.size, BD.out.block⟩
            have hQd' : Q < (wr.drewN nq).heap.size := hQd
            have c1' : (wr.drewN nq).cell? ⟨Q, i + j, none⟩ = some (.int .u64 (dij : Int)) := c1
            have f1' : (wr.drewN nq).frozen? ⟨Q, i + j, none⟩ = false := f1
            clear c1 f1 c2 c3 RD BD hQd
            generalize wr.drewN nq = wq at *
            go_wp2
            go_roundg f
            case measure => omega
            case rel => exact ⟨j + 1, xd, D.set (i + j) xm, rfl, by simp, by omega, HX64.out, by rw [List.length_set]; exact hD, HS3, HRow.out _ RD'.out, BD'.out.setCell (Nat.le_of_eq HQ.out) _, by simpa using hQd'⟩
          · by_cases hc : 0 < c
            · have hij : i + j < D.length := by
                by_cases h : i + j < D.length
                · exact h
                · have := HS2.out
                  rw [stepT, if_pos (Or.inr hc), if_neg h] at this
                  cases this
              have HS3 : Hid (stepT B ai i f (j + 1) (xT B D ai i j c / 65536) (D.set (i + j) (xT B D ai i j c % 65536)) = some C') := by
                have := HS2.out
                rw [stepT, if_pos (Or.inr hc), if_pos hij] at this
                exact this
              obtain ⟨x, hx⟩ : ∃ x, xT B D ai i j c = x := ⟨_, rfl⟩
              obtain ⟨dij, hdij⟩ : ∃ d, D.getD (i + j) 0 = d := ⟨_, rfl⟩
              rw [hx] at HS3
              have c1 : wr.cell? ⟨Q, i + j, none⟩ = some (.int .u64 (dij : Int)) := by rw [← hdij]; exact RD.out.cell (i + j) (by omega)
              have f1 : wr.frozen? ⟨Q, i + j, none⟩ = false := RD.out.free (i + j) (by omega)
              have hx3 : (dij + c) % 18446744073709551616 = x := by
                rw [← hx, ← hdij]
                unfold xT
                rw [if_neg hj]
              have e1 : ((dij : Int) + (c : Int)) % 18446744073709551616 = (x : Int) := by rw [← hx3]; simp
              have e1w : IntKind.u64.wrap ((dij : Int) + (c : Int)) = (x : Int) := by rw [IntKind.wrap_u64]; exact e1
              have hx64 : x < 18446744073709551616 := by rw [← hx3]; exact Nat.mod_lt _ (by decide)
              obtain ⟨xm, hxm⟩ : ∃ m, x % 65536 = m := ⟨_, rfl⟩
              obtain ⟨xd, hxd⟩ : ∃ m, x / 65536 = m := ⟨_, rfl⟩
              rw [hxm, hxd] at HS3
              have e4 : bits .and .u64 (x : Int) 65535 = (xm : Int) := by rw [← hxm]; exact and65535 x hx64
              have e5 : ((x : Int) / 65536) = (xd : Int) := by rw [← hxd]; rfl
              have hijn : i + j < A.length + B.length := by omega
              have HRow : Hid (∀ W : World, Row .u64 W Q (A.length + B.length) (fun j => ((D.getD j 0 : Nat) : Int)) → Row .u64 (W.setCell ⟨Q, i + j, none⟩ (.int .u64 (xm : Int))) Q (A.length + B.length) (fun k => (((D.set (i + j) xm).getD k 0 : Nat) : Int))) := fun W RW => (RW.set (i + j) _ (by omega)).congr (fun k _ => row_set D (i + j) xm hij k)
              have HX64 : Hid (xd < 18446744073709551616) := by unfold Hid; rw [← hxd]; exact Nat.lt_of_le_of_lt (Nat.div_le_self _ _) hx64
              clear HS2 hx hdij hx3 hxm hxd
              go_wp2
              go_roundg f
              case measure => omega
              case rel => exact ⟨j + 1, xd, D.set (i + j) xm, rfl, by simp, by omega, HX64.out, by rw [List.length_set]; exact hD, HS3, HRow.out _ RD.out, BD.out.setCell (Nat.le_of_eq HQ.out) _, by simpa using hQd⟩
            · obtain rfl : c = 0 := by omega
              have hD2 : D = C' := by
                have := HS2.out
                rw [stepT, if_neg (by omega)] at this
                exact Option.some.inj this
              subst hD2
              clear HS2
              go_wp2
              go_roundg n
              case measure => omega
              case rel => exact ⟨i + 1, D, by omega, by simp, hD, HO2, RD, BD, hQd⟩
#print axioms times_any
end Go.Proofs.YtholbaefmncphaaDoor
