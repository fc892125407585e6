/- The law NameRises, walked. -/
import Derived.Test.YtdmkkkfdigeinabSoA
namespace Go.Proofs.Ytdmkkkfdigeinab
open Go.RowKit

theorem SIs.below {w w' : World} {x : Option Addr} {n B : Nat} {f : Nat → ByteArray} (h : SIs w x n f) (b : Below B w w') (hB : w.heap.size ≤ B) : SIs w' x n f := fun i hi => by
  obtain ⟨a, ha, hc⟩ := h i hi
  refine ⟨a, ha, ?_⟩
  have hl := World.block_lt_of_cell? _ _ hc
  rw [b.cell (p := a.add i) (by omega)]
  exact hc

theorem cmp_ab : cmpB ⟨#[97]⟩ ⟨#[98]⟩ = -1 := by decide +kernel
theorem cmp_ba : cmpB ⟨#[98]⟩ ⟨#[97]⟩ = 1 := by decide +kernel

set_option maxHeartbeats 2000000 in
theorem rises_walk (x : Option Addr) (n c : Nat) (f : Nat → ByteArray) (w : World) (hn : n ≤ 140737488351232) (h : SIs w x n f) :
    Calls Try.prog 3 #[.slice x n c] w fun e w' => e = .returned (.bool true) ∧ Below w.heap.size w w' := by
  have HS : Hid (SIs w x n f) := h
  clear h
  go_enter Try.func3, Try.ntmps3
  go_wp2_with fail
  refine (compare_quiet _ _ _ cmp_ab _).mono ?_
  rintro e w1 ⟨rfl, rfl⟩
  go_wp2_with fail
  have S2 : SIs (w1.alloc (Obj.cells #[Value.string ⟨#[98]⟩, Value.string ⟨#[97]⟩] 9)) (some ⟨w1.heap.size, 0, none⟩) 2 (fun i => if i = 0 then ⟨#[98]⟩ else ⟨#[97]⟩) := fun i hi => by
    refine ⟨_, rfl, ?_⟩
    have : i = 0 ∨ i = 1 := by omega
    rcases this with rfl | rfl
    · show (w1.alloc (Obj.cells #[Value.string ⟨#[98]⟩, Value.string ⟨#[97]⟩] 9)).cell? ⟨w1.heap.size, 0, none⟩ = _
      rw [World.cell?_alloc_new]; rfl
    · show (w1.alloc (Obj.cells #[Value.string ⟨#[98]⟩, Value.string ⟨#[97]⟩] 9)).cell? ⟨w1.heap.size, 1, none⟩ = _
      rw [World.cell?_alloc_new]; rfl
  refine (sorted_any _ 2 2 _ _ (by decide) S2).mono ?_
  rintro e w2 ⟨⟨r, rfl, hr⟩, q, rfl⟩
  obtain rfl : r = 1 := hr.of (k := 0) (by decide) (by show 0 ≤ cmpB ⟨#[98]⟩ ⟨#[97]⟩; rw [cmp_ba]; decide) (fun j hj => absurd hj (by omega))
  have B2 : Below w1.heap.size w1 ((w1.alloc (Obj.cells #[Value.string ⟨#[98]⟩, Value.string ⟨#[97]⟩] 9)).drewN q) := bel_drewN ((Below.refl _ _).alloc (Nat.le_refl _) _) _
  clear hr S2
  generalize (w1.alloc (Obj.cells #[Value.string ⟨#[98]⟩, Value.string ⟨#[97]⟩] 9)).drewN q = W at *
  have HW : Hid (SIs W x n f) := HS.out.below B2 (Nat.le_refl _)
  clear HS
  go_wp2_with fail
  refine (sorted_any _ n _ f _ hn HW.out).mono ?_
  rintro e w2 ⟨⟨r, rfl, hr⟩, q, rfl⟩
  have HR : Hid (Brk f n r) := hr
  clear hr
  have HV : Hid (SIs (W.drewN q) x n f) := fun i hi => HW.out i hi
  have B3 : Hid (Below w1.heap.size w1 (W.drewN q)) := bel_drewN B2 _
  clear B2 HW
  generalize W.drewN q = V at *
  go_wp2
  go_loopw [4] (fun i wr => ∃ k : Nat, (k + 1 ≤ n ∨ k = 0) ∧ i = .int .i64 ((k + 1 : Nat) : Int) ∧ Hid (∀ j, j < k → cmpB (f j) (f (j + 1)) < 0) ∧ Hid (∃ q, wr = V.drewN q)) (fun i _ => n - (intOf i).toNat)
  case atStart => exact ⟨0, Or.inr rfl, rfl, fun j hj => absurd hj (by omega), 0, rfl⟩
  case round =>
    obtain ⟨k, hk, rfl, hl, hq⟩ := hrel
    have BB : Hid (∀ m, Below w1.heap.size w1 (wr.drewN m)) := fun m => by obtain ⟨q, hw⟩ := hq.out; rw [hw]; exact bel_drewN (bel_drewN B3.out _) _
    by_cases hlt : k + 1 < n
    · obtain ⟨a, rfl, c0⟩ := HV.out k (by omega)
      obtain ⟨a', ha', c1⟩ := HV.out (k + 1) hlt
      obtain rfl := Option.some.inj ha'
      obtain ⟨q, hwr⟩ := hq.out
      have d0 : wr.cell? (a.add k) = some (.string (f k)) := by rw [hwr]; exact c0
      have d1 : wr.cell? ⟨a.block, a.off + (k + 1), none⟩ = some (.string (f (k + 1))) := by rw [add_succ] at c1; rw [hwr]; exact c1
      clear c0 c1 hwr ha'
      have hk0 : k < n := by omega
      have hk1 : (k : Int) + 1 < (n : Int) := by omega
      have hk2 : (0 : Int) ≤ (k : Int) + 1 := by omega
      have hk3 : ((k : Int) + 1).toNat = k + 1 := by omega
      have hk4 : ¬ ((k : Int) + 1 < 0) := by omega
      have hkw : IntKind.i64.wrap ((k : Nat) : Int) = (k : Int) := by rw [IntKind.wrap_i64]; omega
      rcases cmp_cases (f k) (f (k + 1)) with ⟨e0, e1, e2⟩ | ⟨e0, e1, e2⟩ | ⟨e0, e1, e2⟩
      · have CM := compare_quiet _ _ _ e0
        have E0 : Hid (cmpB (f k) (f (k + 1)) = -1) := e0
        clear e0
        go_wp2
        go_quiet ((go_at_call 6; exact Calls.quiet_of_same (CM _)))
        clear CM
        go_wp2
        go_quiet (fail)
        go_wp2
        go_roundw
        case rel => exact ⟨k + 1, by omega, by go_num, fun j hj => by
          by_cases e : j = k
          · rw [e, E0.out]; omega
          · exact hl.out j (by omega), by obtain ⟨q, hw⟩ := hq.out; exact ⟨_, by rw [hw, World.drewN_drewN]⟩⟩
        case measure => simp [intOf]; omega
      · have CM := compare_quiet _ _ _ e0
        have E0 : Hid (cmpB (f k) (f (k + 1)) = 0) := e0
        have HE : Hid (r = ((k + 1 : Nat) : Int)) := HR.out.of hlt (by rw [E0.out]; omega) hl.out
        have HB : (r == (k : Int) + 1) = true := by rw [HE.out]; simp
        clear e0
        go_wp2
        go_quiet ((go_at_call 6; exact Calls.quiet_of_same (CM _)))
        clear CM
        go_wp2
        go_quiet (fail)
        go_wp2
        go_ret
        exact ⟨rfl, BB.out _⟩
      · have CM := compare_quiet _ _ _ e0
        have E0 : Hid (cmpB (f k) (f (k + 1)) = 1) := e0
        have HE : Hid (r = ((k + 1 : Nat) : Int)) := HR.out.of hlt (by rw [E0.out]; omega) hl.out
        have HB : (r == (k : Int) + 1) = true := by rw [HE.out]; simp
        clear e0
        go_wp2
        go_quiet ((go_at_call 6; exact Calls.quiet_of_same (CM _)))
        clear CM
        go_wp2
        go_quiet (fail)
        go_wp2
        go_ret
        exact ⟨rfl, BB.out _⟩
    · have HE : Hid (r = -1) := HR.out.none (fun j hj => hl.out j (by omega))
      obtain rfl := HE.out
      go_wp2
      go_ret
      exact ⟨rfl, BB.out 0⟩

end Go.Proofs.Ytdmkkkfdigeinab
