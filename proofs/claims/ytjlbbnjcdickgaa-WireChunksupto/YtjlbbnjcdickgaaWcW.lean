/- The law WireChunks, walked. -/
import Derived.Test.YtjlbbnjcdickgaaWcB
namespace Go.Proofs.Ytjlbbnjcdickgaa
open Go.RowKit

theorem CRow.below {w w' : World} {x : Option Addr} {n : Nat} {f : Nat → Int} (h : CRow w x n f) (b : Below w.heap.size w w') : CRow w' x n f := by
  refine ⟨fun k hk => ?_⟩
  obtain ⟨g, o, h0, h1, h2, h3⟩ := h.cell k hk
  exact ⟨g, o, h0, Nat.lt_of_lt_of_le h1 b.size, (b.cell (p := ⟨g, _, none⟩) h1).trans h2, h3⟩

set_option maxHeartbeats 8000000 in
theorem chunks_walk (tl pl : List UInt8) (most : Int) (x : Option Addr) (n c : Nat) (f : Nat → Int) (w : World) (hX : CRow w x n f) (ht : tl.length ≤ 1048576) (hpl : pl.length ≤ 1048576) (hm : most ≤ 9223372036854775807) (hn : n ≤ 1048576) :
    Calls Try.prog 6 #[.agg #[.string (ba tl), .string (ba pl), .int .i64 most, .slice x n c]] w fun e w' => e = .returned (.bool true) ∧ Below w.heap.size w w' := by
  have HX : Hid (CRow w x n f) := hX
  have hol := stP_outs pl most.toNat tl false
  have FC : Hid (∀ w, CRow w x n f → Calls Try.prog 25 #[.string (ba tl), .string (ba pl), .int .i64 most, .slice x n c] w fun e w' => ∃ r, e = .returned (.tuple #[r, .agg #[.int .i64 ((stP pl most.toNat tl true).code : Int), .int .i64 ((stP pl most.toNat tl true).fat : Int)], .int .i64 ((stP pl most.toNat tl true).tk : Int)]) ∧ ItRow w' r (stP pl most.toNat tl false).out ∧ Below w.heap.size w w') := fun w h => by
    refine (fedIn_any tl pl most x n c f w h ht hpl hm hn).mono ?_
    rintro e w' ⟨r, rfl, O, b⟩
    exact ⟨r, rfl, O.row, b⟩
  have FN : Hid (∀ w, Calls Try.prog 25 #[.string (ba tl), .string (ba pl), .int .i64 most, .slice none 0 0] w fun e w' => ∃ r, e = .returned (.tuple #[r, .agg #[.int .i64 ((stP pl most.toNat tl true).code : Int), .int .i64 ((stP pl most.toNat tl true).fat : Int)], .int .i64 ((stP pl most.toNat tl true).tk : Int)]) ∧ ItRow w' r (stP pl most.toNat tl false).out ∧ Below w.heap.size w w') := fun w => by
    refine (fedIn_any tl pl most none 0 0 (fun _ => 0) w ⟨fun k hk => absurd hk (by omega)⟩ ht hpl hm (by omega)).mono ?_
    rintro e w' ⟨r, rfl, O, b⟩
    exact ⟨r, rfl, O.row, b⟩
  have SC : Hid (∀ w, Calls Try.prog 16 #[.string (ba tl), .string (ba pl), .int .i64 most] w fun e w' => ∃ r, e = .returned (.tuple #[r, .agg #[.int .i64 ((stP pl most.toNat tl true).code : Int), .int .i64 ((stP pl most.toNat tl true).fat : Int)]]) ∧ ((stP pl most.toNat tl true).code = 0 → ItRow w' r (stP pl most.toNat tl false).out) ∧ Below w.heap.size w w') := fun w => by
    refine (split_any tl pl most w (by omega) (by omega) hm).mono ?_
    rintro e w' ⟨r, L2, rfl, O2, hL2, -, b⟩
    refine ⟨r, rfl, fun h => ?_, b⟩
    have e2 := hL2 h
    rw [show (sp tl pl most.toNat).out = (stP pl most.toNat tl false).out from (stP_out pl most.toNat tl).1] at e2
    rw [← e2]
    exact O2.row
  have AC : Hid (∀ w r v, ItRow w r (stP pl most.toNat tl false).out → ItRow w v (stP pl most.toNat tl false).out → Calls Try.prog 26 #[r, v] w fun e w' => e = .returned (.bool true) ∧ Below w.heap.size w w') := fun w r v o1 o2 => alike_any r v _ w o1 o2 (by omega)
  clear hX ht hpl hm hn hol
  generalize stP pl most.toNat tl true = S at *
  generalize (stP pl most.toNat tl false).out = LL at *
  go_enter Try.func6, Try.ntmps6
  go_wp2_with fail
  refine (awake_any _).mono ?_
  rintro e w1 ⟨rfl, b1⟩
  have hz0 : (w.alloc (.cells #[.string (ba tl), .string (ba pl), .int .i64 most, .slice x n c] 59)).heap.size = w.heap.size + 1 := World.size_alloc _ _
  have hc : ∀ j, w1.cell? ⟨w.heap.size, j, none⟩ = #[Value.string (ba tl), .string (ba pl), .int .i64 most, .slice x n c][j]? := fun j => (b1.cell (p := ⟨w.heap.size, j, none⟩) (by rw [hz0]; show w.heap.size < _; omega)).trans (World.cell?_alloc_new w _ _ j)
  have c0 := (hc 0).trans rfl
  have c1 := (hc 1).trans rfl
  have c2 := (hc 2).trans rfl
  have c3 := (hc 3).trans rfl
  have B1 : Hid (Below w.heap.size w w1) := ((Below.refl w.heap.size w).alloc (Nat.le_refl _) _).trans (b1.mono (by omega))
  have HX1 : Hid (CRow w1 x n f) := HX.out.below B1.out
  have hW : w.heap.size < w1.heap.size := by have := b1.size; omega
  clear hc b1 hz0 HX
  go_wp2
  go_quiet (fail)
  have c0' : (w1.drewN nq).cell? ⟨w.heap.size, 3, none⟩ = some (.slice x n c) := c3
  have B2 : Hid (Below w.heap.size w (w1.drewN nq)) := bel_drewN B1.out _
  have HX2 : Hid (CRow (w1.drewN nq) x n f) := HX1.out.below ⟨rfl, rfl, rfl, Nat.le_refl _, fun _ _ => rfl⟩
  generalize w1.drewN nq = w2 at *
  clear HX1 B1 c0 c1 c2 c3 hW
  go_wp2_with fail
  refine (FC.out _ HX2.out).mono ?_
  rintro e w3 ⟨ra, rfl, Oa, b3⟩
  have B3 : Hid (Below w.heap.size w w3) := B2.out.trans (b3.mono B2.out.size)
  have HA3 : Hid (ItRow w3 ra LL) := Oa
  clear b3 Oa B2 HX2
  go_wp2_with fail
  refine (FN.out _).mono ?_
  rintro e w4 ⟨rb, rfl, Ob, b4⟩
  have hz3 : (w3.alloc (.cells #[.int .i64 (S.code : Int), .int .i64 (S.fat : Int)] 31)).heap.size = w3.heap.size + 1 := World.size_alloc _ _
  have f0 : w4.cell? ⟨w3.heap.size, 0, none⟩ = some (.int .i64 (S.code : Int)) := (b4.cell (p := ⟨w3.heap.size, 0, none⟩) (by rw [hz3]; show w3.heap.size < _; omega)).trans ((World.cell?_alloc_new w3 _ _ 0).trans rfl)
  have f1 : w4.cell? ⟨w3.heap.size, 1, none⟩ = some (.int .i64 (S.fat : Int)) := (b4.cell (p := ⟨w3.heap.size, 1, none⟩) (by rw [hz3]; show w3.heap.size < _; omega)).trans ((World.cell?_alloc_new w3 _ _ 1).trans rfl)
  have B4 : Hid (Below w.heap.size w w4) := (B3.out.alloc B3.out.size _).trans (b4.mono (by rw [hz3]; have := B3.out.size; omega))
  have HA4 : Hid (ItRow w4 ra LL) := (HA3.out.alloc _).below b4 (Nat.le_refl _)
  have HB4 : Hid (ItRow w4 rb LL) := Ob
  have h34 : w3.heap.size ≠ w4.heap.size := by have := b4.size; omega
  have h34' : w3.heap.size < w4.heap.size := by have := b4.size; omega
  clear b4 Ob B3 HA3 hz3
  go_wp2_with fail
  refine (AC.out _ _ _ (HA4.out.alloc _) (HB4.out.alloc _)).mono ?_
  rintro e w5 ⟨rfl, b5⟩
  have hz4 : (w4.alloc (.cells #[.int .i64 (S.code : Int), .int .i64 (S.fat : Int)] 31)).heap.size = w4.heap.size + 1 := World.size_alloc _ _
  have g0 : w5.cell? ⟨w4.heap.size, 0, none⟩ = some (.int .i64 (S.code : Int)) := (b5.cell (p := ⟨w4.heap.size, 0, none⟩) (by rw [hz4]; show w4.heap.size < _; omega)).trans ((World.cell?_alloc_new w4 _ _ 0).trans rfl)
  have g1 : w5.cell? ⟨w4.heap.size, 1, none⟩ = some (.int .i64 (S.fat : Int)) := (b5.cell (p := ⟨w4.heap.size, 1, none⟩) (by rw [hz4]; show w4.heap.size < _; omega)).trans ((World.cell?_alloc_new w4 _ _ 1).trans rfl)
  have B5 : Hid (Below w.heap.size w w5) := (B4.out.alloc B4.out.size _).trans (b5.mono (by rw [hz4]; have := B4.out.size; omega))
  have HB5 : Hid (ItRow w5 rb LL) := (HB4.out.alloc _).below b5 (Nat.le_refl _)
  have h45 : w4.heap.size < w5.heap.size := by have := b5.size; omega
  clear b5 HA4 HB4 B4 hz4 f0 f1 h34 h34'
  generalize w4.heap.size = F4 at *
  go_wp2_with fail
  refine (SC.out _).mono ?_
  rintro e w6 ⟨rc, rfl, Oc, b6⟩
  have g0' : w6.cell? ⟨F4, 0, none⟩ = some (.int .i64 (S.code : Int)) := (b6.cell (p := ⟨F4, 0, none⟩) h45).trans g0
  have g1' : w6.cell? ⟨F4, 1, none⟩ = some (.int .i64 (S.fat : Int)) := (b6.cell (p := ⟨F4, 1, none⟩) h45).trans g1
  have B6 : Hid (Below w.heap.size w w6) := B5.out.trans (b6.mono B5.out.size)
  have HB6 : Hid (ItRow w6 rb LL) := HB5.out.below b6 (Nat.le_refl _)
  have HC6 : Hid (S.code = 0 → ItRow w6 rc LL) := Oc
  have h46 : F4 ≠ w6.heap.size := by have := b6.size; omega
  have h46' : w6.heap.size ≠ F4 := fun h => h46 h.symm
  have h46'' : F4 < w6.heap.size := by have := b6.size; omega
  clear b6 Oc g0 g1 B5 HB5 h45
  by_cases h0 : S.code = 0
  · have HC7 : Hid (ItRow w6 rc LL) := HC6.out h0
    rw [h0] at g0' ⊢
    clear HC6
    go_wp2_with fail
    refine (AC.out _ _ _ (HC7.out.alloc _) (HB6.out.alloc _)).mono ?_
    rintro e w7 ⟨rfl, b7⟩
    have hz6 : ∀ o, (w6.alloc o).heap.size = w6.heap.size + 1 := fun o => World.size_alloc _ _
    have B7 : Hid (Below w.heap.size w w7) := (B6.out.alloc B6.out.size _).trans (b7.mono (by rw [hz6]; have := B6.out.size; omega))
    clear b7 hz6
    go_wp2
    go_ret
    exact ⟨rfl, B7.out⟩
  · have k0 : ((S.code : Int) == 0) = false := by simp; omega
    have k1 : (S.code : Int) ≠ 0 := by omega
    clear HC6
    go_wp2
    go_ret
    exact ⟨rfl, B6.out.alloc B6.out.size _⟩

end Go.Proofs.Ytjlbbnjcdickgaa
