/- What sha.digestOf answers. -/
import Derived.Test.YtnfcnfhchfmcpabDoorOfA
namespace Go.Proofs.YtnfcnfhchfmcpabDoor
open Go.RowKit
theorem Tryd.sz28 : (Tryd.prog.info? 28).map (·.size) = some 32 := by kernel_rfl
theorem Tryd.und28 : Tryd.prog.underlying 28 = some (.array 32 5) := by kernel_rfl
theorem run_part_cs' {P : Program} (w : World) (e : TypeId) (k k' : IntKind) (n : Nat) (f : Nat → Int) (he : P.underlying e = some (.int k')) (j : Nat) (hj : j < n) : (part e (cs k n f) j).run P w = .ok (.int k (f j)) w := by
  simp [part, isAgg, run_underlying he, cs_get k n f j hj]

theorem run_index_cs {P : Program} (w : World) (t e : TypeId) (k k' : IntKind) (n : Nat) (f : Nat → Int) {i : TypeInfo} (hu : P.underlying t = some (.array n e)) (he : P.underlying e = some (.int k')) (hi : P.info? e = some i) (h1 : i.size = 1) (j : Nat) (hj : j < n) :
    (Instr.index t (.agg (cs k n f)) (.int .i64 j)).run P w = .ok (.int k (f j)) w := by
  simp [Instr.index, asIntOf, run_underlying hu, sizeOf, typeInfo, hi, h1, run_part_cs' w e k k' n f he j hj]
  omega
theorem dg_step (h : Nat → Int) (k : Nat) (h0 : 0 ≤ h k) (h1 : h k < 4294967296) (x : Nat) :
    (if x = 4 * k + 3 then h k % 256 else if x = 4 * k + 2 then h k / 256 % 256 else if x = 4 * k + 1 then h k / 65536 % 256 else if x = 4 * k then h k / 16777216 else upF (dg h) (4 * k) x) = upF (dg h) (4 * (k + 1)) x := by
  have e0 : dg h (4 * k) = h k / 16777216 := by
    unfold dg
    rw [show 4 * k / 4 = k from by omega, show 4 * k % 4 = 0 from by omega]
    show h k / 16777216 % 256 = _
    omega
  have e1 : dg h (4 * k + 1) = h k / 65536 % 256 := by
    unfold dg
    rw [show (4 * k + 1) / 4 = k from by omega, show (4 * k + 1) % 4 = 1 from by omega]
    rfl
  have e2 : dg h (4 * k + 2) = h k / 256 % 256 := by
    unfold dg
    rw [show (4 * k + 2) / 4 = k from by omega, show (4 * k + 2) % 4 = 2 from by omega]
    rfl
  have e3 : dg h (4 * k + 3) = h k % 256 := by
    unfold dg
    rw [show (4 * k + 3) / 4 = k from by omega, show (4 * k + 3) % 4 = 3 from by omega]
    show h k / 1 % 256 = _
    rw [Int.ediv_one]
  rw [← e0, ← e1, ← e2, ← e3, upF_set, upF_set, upF_set, upF_set]
  rfl

set_option maxRecDepth 100000 in
set_option maxHeartbeats 4000000 in
theorem digestOf_any (h : Nat → Int) (w : World) (hh : ∀ j, W32 (h j)) :
    Calls Tryd.prog 25 #[.agg (cs .u32 8 h)] w fun e w' => e = .returned (.agg (cs .u8 32 (dg h))) ∧ Below w.heap.size w w' := by
  have HW : Hid (∀ j, W32 (h j)) := hh
  clear hh
  obtain ⟨i27, hi27, hs27⟩ : ∃ i, Tryd.prog.info? 47 = some i ∧ i.size = 1 := by
    have h : (Tryd.prog.info? 47).map (·.size) = some 1 := by kernel_rfl
    obtain ⟨i, h1, h2⟩ := Option.map_eq_some_iff.1 h
    exact ⟨i, h1, h2⟩
  go_enter Tryd.func25, Tryd.ntmps25
  go_wp2_with (refine wpList_load_arr (by rfl) 48 (.tmp 1) (by rfl) w.heap.size (by rfl) (((Row.box (e := 48)).alloc (by rw [World.size_alloc]; omega) _).alloc (by rw [World.size_alloc, World.size_alloc]; omega) _) Tryd.underlying48 Tryd.sz48 ?_)
  go_loopw [7] (fun i wr => ∃ k : Nat, k ≤ 8 ∧ i = .int .i64 k ∧ Row .u8 wr (w.heap.size + 1 + 1) 32 (upF (dg h) (4 * k)) ∧ Row .u8 wr (w.heap.size + 1) 32 (fun _ => 0) ∧ Below w.heap.size w wr ∧ w.heap.size + 1 + 1 < wr.heap.size) (fun i _ => 8 - (intOf i).toNat)
  case atStart =>
    refine ⟨0, Nat.zero_le _, rfl, ?_, ?_, ?_, ?_⟩
    · have r : Row .u8 (((w.alloc (.cells (cs .u32 8 h) 48)).alloc (.cells (Array.replicate 32 (.int .u8 0)) 28)).alloc (.cells (Array.replicate 32 (.int .u8 0)) 28)) ((w.alloc (.cells (cs .u32 8 h) 48)).alloc (.cells (Array.replicate 32 (.int .u8 0)) 28)).heap.size 32 (fun _ => 0) := Row.rep rfl
      rw [World.size_alloc, World.size_alloc] at r
      exact r.congr (fun x _ => (upF_zero _ x).symm)
    · have r : Row .u8 ((w.alloc (.cells (cs .u32 8 h) 48)).alloc (.cells (Array.replicate 32 (.int .u8 0)) 28)) (w.alloc (.cells (cs .u32 8 h) 48)).heap.size 32 (fun _ => 0) := Row.rep rfl
      rw [World.size_alloc] at r
      exact r.alloc (by rw [World.size_alloc, World.size_alloc]; omega) _
    · exact (((Below.refl _ _).alloc (Nat.le_refl _) _).alloc (by rw [World.size_alloc]; omega) _).alloc (by rw [World.size_alloc, World.size_alloc]; omega) _
    · rw [World.size_alloc, World.size_alloc, World.size_alloc]; omega
  case round =>
    obtain ⟨k, hk, rfl, RD, R, B, z⟩ := hrel
    by_cases hlt : k < 8
    · have hcs := run_index_cs (P := Tryd.prog) wr 48 47 .u32 .u32 8 h Tryd.underlying48 Tryd.underlying47 hi27 hs27 k hlt
      have hx0 := (HW.out k).1
      have hx1 := (HW.out k).2
      have c0 := RD.cell (4 * k) (by omega)
      have f0 := RD.free (4 * k) (by omega)
      have c1 := RD.cell (4 * k + 1) (by omega)
      have f1 := RD.free (4 * k + 1) (by omega)
      have c2 := RD.cell (4 * k + 2) (by omega)
      have f2 := RD.free (4 * k + 2) (by omega)
      have c3 := RD.cell (4 * k + 3) (by omega)
      have f3 := RD.free (4 * k + 3) (by omega)
      go_wp2
      go_roundw
      case rel =>
        refine ⟨k + 1, by omega, by go_num, ((((RD.set (4 * k) _ (by omega)).set (4 * k + 1) _ (by omega)).set (4 * k + 2) _ (by omega)).set (4 * k + 3) _ (by omega)).congr (fun x _ => dg_step h k hx0 hx1 x),
          (((R.other _ _ (by simp)).other _ _ (by simp)).other _ _ (by simp)).other _ _ (by simp), (((B.setCell (by simp; omega) _).setCell (by simp; omega) _).setCell (by simp; omega) _).setCell (by simp; omega) _, by simp only [World.size_setCell]; exact z⟩
      case measure => simp [intOf]; omega
    · obtain rfl : k = 8 := by omega
      have RD' : Row .u8 wr (w.heap.size + 1 + 1) 32 (dg h) := RD.congr (fun x hx => upF_all _ (4 * 8) x (by omega))
      clear RD
      go_wp2_with (first | refine wpList_load_arr (by rfl) 28 (.tmp 3) (by rfl) (w.heap.size + 1 + 1) (by rfl) RD' Tryd.und28 Tryd.sz28 ?_ | (refine wpList_store_any (by rfl) 28 (.tmp 2) (.tmp 38) (by rfl) (w.heap.size + 1) (by rfl) (by rfl) R Tryd.sz28 (by rfl) ?_; intro W7 R7 U7))
      exact bodyPost_ret (results_arr Tryd.results25 _ _ rfl R7 Tryd.und28 Tryd.sz28) rfl ⟨rfl, U7.below B (by omega) (by omega)⟩
#print axioms digestOf_any
end Go.Proofs.YtnfcnfhchfmcpabDoor
