/- A table's nodes (string keys): balanced, walked: the double turn to the right. -/
import Derived.Test.YtbdnniaajiiimaaTfS
namespace Go.Proofs.Ytbdnniaajiiimaa
namespace TS
open Go.RowKit

set_option maxHeartbeats 4000000 in
theorem bal_L2 (k : ByteArray) (v : Int) (s0 : Nat) (l0 r0 : BT ByteArray) (lk : ByteArray) (lv : Int) (ls : Nat) (ll : BT ByteArray) (ik : ByteArray) (iv : Int) (is : Nat) (il ir r : BT ByteArray) (p pl pr : Option Addr) (w : World) (h : Tr w (.N k v s0 l0 r0) p) (hl : Tr w (.N lk lv ls ll (.N ik iv is il ir)) pl) (hr : Tr w r pr) (hlo : ls = ll.cnt + 1 + is) (hio : is = il.cnt + 1 + ir.cnt) (hc : ls + 1 + r.cnt ≤ 1152921504606846976)
    (h1 : 3 * (r.cnt + 1) < ls + 1) (h2 : 2 * (ll.cnt + 1) ≤ is + 1) :
    Calls Try.prog 28 #[.pointer p, .pointer pl, .pointer pr] w fun e w' => (∃ q, e = .returned (.pointer q) ∧ Tr w' (BT.bet ik iv (BT.bet lk lv ll il) (BT.bet k v ir r)) q) ∧ Below w.heap.size w w' := by
  have HP : Hid (Tr w (.N k v s0 l0 r0) p) := h
  have HR : Hid (Tr w r pr) := hr
  have HL0 : Hid (Tr w (.N lk lv ls ll (.N ik iv is il ir)) pl) := hl
  have CR := weight_any r pr w hr (by omega)
  have CL := weight_any _ pl w hl (by show ls ≤ _; omega)
  obtain ⟨g, pll, pin, rfl, c0, c1, c2, c3, c4, hll, hin⟩ := hl
  have HLL : Hid (Tr w ll pll) := hll
  have HI : Hid (Tr w (.N ik iv is il ir) pin) := hin
  have bd : Below w.heap.size w w.drew := (Below.refl _ _).drew
  have CI := weight_any _ pin w.drew (hin.below bd (Nat.le_refl _)) (by show is ≤ _; omega)
  have CI2 := weight_any ll pll w.drew (hll.below bd (Nat.le_refl _)) (by omega)
  have h0' : ¬ 3 * ((ls : Int) + 1) < (r.cnt : Int) + 1 := by omega
  have h1' : 3 * ((r.cnt : Int) + 1) < (ls : Int) + 1 := by omega
  have hcl : ls ≤ 1152921504606846976 := by omega
  have hcr : r.cnt ≤ 1152921504606846976 := by omega
  have hcll : ll.cnt ≤ 1152921504606846976 := by omega
  have hwm : IntKind.i64.wrap (2 * ((ll.cnt : Int) + 1)) = 2 * ((ll.cnt : Int) + 1) := by rw [IntKind.wrap_i64]; omega
  obtain ⟨j, pil, pir, rfl, d0, d1, d2, d3, d4, hil, hir⟩ := hin
  have HIL : Hid (Tr w il pil) := hil
  have HIR : Hid (Tr w ir pir) := hir
  have h2' : 2 * ((ll.cnt : Int) + 1) ≤ (is : Int) + 1 := by omega
  have hclr : is ≤ 1152921504606846976 := by omega
  have HB1 : Hid (ll.cnt + 1 + il.cnt ≤ 1152921504606846976) := by unfold Hid; omega
  have HB2 : Hid (ir.cnt + 1 + r.cnt ≤ 1152921504606846976) := by unfold Hid; omega
  have HB3 : Hid ((BT.bet lk lv ll il).cnt + 1 + (BT.bet k v ir r).cnt ≤ 1152921504606846976) := by unfold Hid; rw [BT.bet_cnt, BT.bet_cnt]; omega
  clear h hr hll hil hir h1 h2 hc c0 c1 c2 hlo hio d0 d1 d2
  go_enter Try.func28, Try.ntmps28
  go_wp2_with fail
  refine CR.mono ?_
  rintro e w1 ⟨rfl, rfl⟩
  go_wp2_with fail
  refine CL.mono ?_
  rintro e w1 ⟨rfl, rfl⟩
  have hlsc : ((BT.N lk lv ls ll (.N ik iv is il ir)).cnt : Int) = (ls : Int) := rfl
  rw [hlsc]
  go_wp2_with fail
  refine CL.mono ?_
  rintro e w1 ⟨rfl, rfl⟩
  go_wp2_with fail
  refine CR.mono ?_
  rintro e w1 ⟨rfl, rfl⟩
  have hisc : ((BT.N ik iv is il ir).cnt : Int) = (is : Int) := rfl
  rw [hisc] at CI
  go_wp2
  go_region_held3 (fun W => W.cell? ⟨g, 3, none⟩ = some (.pointer pll))
    (first | go_keep | exact c3)
    (first
      | (go_at_call 33; refine CI.mono ?_; rintro e5 w5 ⟨rfl, rfl⟩)
      | (go_at_call 33; refine CI2.mono ?_; rintro e5 w5 ⟨rfl, rfl⟩))
  go_wp2
  have bd2 : Below w1.heap.size w1 w1.drew.drew := bd.drew
  have hgl : g < w1.heap.size := World.block_lt_of_cell? _ _ c3
  have hjl : j < w1.heap.size := World.block_lt_of_cell? _ _ d3
  have CA : ∀ W , Below w1.heap.size w1 W → Calls Try.prog 34 #[.pointer (some ⟨g, 0, none⟩), .pointer pll, .pointer pil] W fun e w' => (∃ q, e = .returned (.pointer q) ∧ Tr w' (BT.bet lk lv ll il) q) ∧ Below W.heap.size W w' := fun W  b  => between_from W b HL0.out (HLL.out.below b (Nat.le_refl _)) (HIL.out.below b (Nat.le_refl _)) HB1.out
  have CB : ∀ W , Below w1.heap.size w1 W → Calls Try.prog 34 #[.pointer p, .pointer pir, .pointer pr] W fun e w' => (∃ q, e = .returned (.pointer q) ∧ Tr w' (BT.bet k v ir r) q) ∧ Below W.heap.size W w' := fun W  b  => between_from W b HP.out (HIR.out.below b (Nat.le_refl _)) (HR.out.below b (Nat.le_refl _)) HB2.out
  have CC : ∀ W qa qb, Below w1.heap.size w1 W → Tr W (BT.bet lk lv ll il) qa → Tr W (BT.bet k v ir r) qb → Calls Try.prog 34 #[.pointer (some ⟨j, 0, none⟩), .pointer qa, .pointer qb] W fun e w' => (∃ q, e = .returned (.pointer q) ∧ Tr w' (BT.bet ik iv (BT.bet lk lv ll il) (BT.bet k v ir r)) q) ∧ Below W.heap.size W w' := fun W qa qb b ta tb => between_from W b HI.out ta tb HB3.out
  go_region_held3 (fun W => W.cell? ⟨g, 3, none⟩ = some (.pointer pll) ∧ W.cell? ⟨j, 3, none⟩ = some (.pointer pil) ∧ W.cell? ⟨j, 4, none⟩ = some (.pointer pir))
    (first | go_keep | exact ⟨c3, d3, d4⟩ | exact ⟨(bC.cell (p := ⟨g, 3, none⟩) hgl).trans c3, (bC.cell (p := ⟨j, 3, none⟩) hjl).trans d3, (bC.cell (p := ⟨j, 4, none⟩) hjl).trans d4⟩ | exact ⟨(bb.cell (p := ⟨g, 3, none⟩) hgl).trans c3, (bb.cell (p := ⟨j, 3, none⟩) hjl).trans d3, (bb.cell (p := ⟨j, 4, none⟩) hjl).trans d4⟩ | exact ⟨(bA.cell (p := ⟨g, 3, none⟩) hgl).trans c3, (bA.cell (p := ⟨j, 3, none⟩) hjl).trans d3, (bA.cell (p := ⟨j, 4, none⟩) hjl).trans d4⟩ | exact ⟨(bB.cell (p := ⟨g, 3, none⟩) hgl).trans c3, (bB.cell (p := ⟨j, 3, none⟩) hjl).trans d3, (bB.cell (p := ⟨j, 4, none⟩) hjl).trans d4⟩)
    (first
      | (have mk := tA; have mk2 := tB; go_at_call 34; refine (CC _ qA qB bb tAA tBB).mono ?_; rintro eC wC ⟨⟨qC, rfl, tC⟩, bC0⟩; have bC : Below w1.heap.size w1 wC := bb.trans (bC0.mono bb.size))
      | (have mk := tA; go_at_call 34; refine (CB wA bA).mono ?_; rintro eB wB ⟨⟨qB, rfl, tB⟩, bB0⟩; have bB : Below w1.heap.size w1 wB := bA.trans (bB0.mono bA.size); have bb := bB; have tBB := tB; have tAA := tA.below bB0 (Nat.le_refl _))
      | (have mk := tB; go_at_call 34; refine (CA wB bB).mono ?_; rintro eA wA ⟨⟨qA, rfl, tA⟩, bA0⟩; have bA : Below w1.heap.size w1 wA := bB.trans (bA0.mono bB.size); have bb := bA; have tAA := tA; have tBB := tB.below bA0 (Nat.le_refl _))
      | (go_at_call 34; refine (CA _ bd2).mono ?_; rintro eA wA ⟨⟨qA, rfl, tA⟩, bA0⟩; have bA : Below w1.heap.size w1 wA := bd2.trans (bA0.mono bd2.size))
      | (go_at_call 34; refine (CB _ bd2).mono ?_; rintro eB wB ⟨⟨qB, rfl, tB⟩, bB0⟩; have bB : Below w1.heap.size w1 wB := bd2.trans (bB0.mono bd2.size)))
  all_goals go_wp2
  all_goals go_ret
  all_goals exact ⟨⟨_, rfl, tC⟩, bC⟩

end TS
end Go.Proofs.Ytbdnniaajiiimaa
