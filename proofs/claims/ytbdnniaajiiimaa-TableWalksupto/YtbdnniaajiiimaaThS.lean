/- A table's nodes (string keys): balanced, walked: the turn to the right. -/
import Derived.Test.YtbdnniaajiiimaaTfS
namespace Go.Proofs.Ytbdnniaajiiimaa
namespace TS
open Go.RowKit

set_option maxHeartbeats 4000000 in
theorem bal_L1 (k : ByteArray) (v : Int) (s0 : Nat) (l0 r0 : BT ByteArray) (lk : ByteArray) (lv : Int) (ls : Nat) (ll lr r : BT ByteArray) (p pl pr : Option Addr) (w : World) (h : Tr w (.N k v s0 l0 r0) p) (hl : Tr w (.N lk lv ls ll lr) pl) (hr : Tr w r pr) (hlo : ls = ll.cnt + 1 + lr.cnt) (hc : ls + 1 + r.cnt ≤ 1152921504606846976)
    (h1 : 3 * (r.cnt + 1) < ls + 1) (h2 : ¬ 2 * (ll.cnt + 1) ≤ lr.cnt + 1) :
    Calls Try.prog 28 #[.pointer p, .pointer pl, .pointer pr] w fun e w' => (∃ q, e = .returned (.pointer q) ∧ Tr w' (BT.bet lk lv ll (BT.bet k v lr r)) q) ∧ Below w.heap.size w w' := by
  have HP : Hid (Tr w (.N k v s0 l0 r0) p) := h
  have HR : Hid (Tr w r pr) := hr
  have HL0 : Hid (Tr w (.N lk lv ls ll lr) pl) := hl
  have CR := weight_any r pr w hr (by omega)
  have CL := weight_any _ pl w hl (by show ls ≤ _; omega)
  obtain ⟨g, pll, pin, rfl, c0, c1, c2, c3, c4, hll, hin⟩ := hl
  have HLL : Hid (Tr w ll pll) := hll
  have HI : Hid (Tr w lr pin) := hin
  have bd : Below w.heap.size w w.drew := (Below.refl _ _).drew
  have CI := weight_any _ pin w.drew (hin.below bd (Nat.le_refl _)) (by show lr.cnt ≤ _; omega)
  have CI2 := weight_any ll pll w.drew (hll.below bd (Nat.le_refl _)) (by omega)
  have h0' : ¬ 3 * ((ls : Int) + 1) < (r.cnt : Int) + 1 := by omega
  have h1' : 3 * ((r.cnt : Int) + 1) < (ls : Int) + 1 := by omega
  have hcl : ls ≤ 1152921504606846976 := by omega
  have hcr : r.cnt ≤ 1152921504606846976 := by omega
  have hcll : ll.cnt ≤ 1152921504606846976 := by omega
  have hwm : IntKind.i64.wrap (2 * ((ll.cnt : Int) + 1)) = 2 * ((ll.cnt : Int) + 1) := by rw [IntKind.wrap_i64]; omega
  have h2' : ¬ 2 * ((ll.cnt : Int) + 1) ≤ (lr.cnt : Int) + 1 := by omega
  have hclr : lr.cnt ≤ 1152921504606846976 := by omega
  have HB1 : Hid (lr.cnt + 1 + r.cnt ≤ 1152921504606846976) := by unfold Hid; omega
  have HB2 : Hid (ll.cnt + 1 + (BT.bet k v lr r).cnt ≤ 1152921504606846976) := by unfold Hid; rw [BT.bet_cnt]; omega
  clear h hr hll hin h1 h2 hc c0 c1 c2 hlo
  go_enter Try.func28, Try.ntmps28
  go_wp2_with fail
  refine CR.mono ?_
  rintro e w1 ⟨rfl, rfl⟩
  go_wp2_with fail
  refine CL.mono ?_
  rintro e w1 ⟨rfl, rfl⟩
  have hlsc : ((BT.N lk lv ls ll lr).cnt : Int) = (ls : Int) := rfl
  rw [hlsc]
  go_wp2_with fail
  refine CL.mono ?_
  rintro e w1 ⟨rfl, rfl⟩
  go_wp2_with fail
  refine CR.mono ?_
  rintro e w1 ⟨rfl, rfl⟩
  go_wp2
  go_region_held3 (fun W => W.cell? ⟨g, 3, none⟩ = some (.pointer pll))
    (first | go_keep | exact c3)
    (first
      | (go_at_call 33; refine CI.mono ?_; rintro e5 w5 ⟨rfl, rfl⟩)
      | (go_at_call 33; refine CI2.mono ?_; rintro e5 w5 ⟨rfl, rfl⟩))
  go_wp2
  have bd2 : Below w1.heap.size w1 w1.drew.drew := bd.drew
  have hgl : g < w1.heap.size := World.block_lt_of_cell? _ _ c3
  have C1 : ∀ W , Below w1.heap.size w1 W → Calls Try.prog 34 #[.pointer p, .pointer pin, .pointer pr] W fun e w' => (∃ q, e = .returned (.pointer q) ∧ Tr w' (BT.bet k v lr r) q) ∧ Below W.heap.size W w' := fun W  b  => between_from W b HP.out (HI.out.below b (Nat.le_refl _)) (HR.out.below b (Nat.le_refl _)) HB1.out
  have C2 : ∀ W q, Below w1.heap.size w1 W → Tr W (BT.bet k v lr r) q → Calls Try.prog 34 #[.pointer (some ⟨g, 0, none⟩), .pointer pll, .pointer q] W fun e w' => (∃ q, e = .returned (.pointer q) ∧ Tr w' (BT.bet lk lv ll (BT.bet k v lr r)) q) ∧ Below W.heap.size W w' := fun W q b t => between_from W b HL0.out (HLL.out.below b (Nat.le_refl _)) t HB2.out
  go_region_held3 (fun W => W.cell? ⟨g, 3, none⟩ = some (.pointer pll) ∧ W.cell? ⟨g, 4, none⟩ = some (.pointer pin))
    (first | go_keep | exact ⟨c3, c4⟩ | exact ⟨(b5.cell (p := ⟨g, 3, none⟩) hgl).trans c3, (b5.cell (p := ⟨g, 4, none⟩) hgl).trans c4⟩ | exact ⟨(b6.cell (p := ⟨g, 3, none⟩) hgl).trans c3, (b6.cell (p := ⟨g, 4, none⟩) hgl).trans c4⟩)
    (first
      | (have mk := t5; go_at_call 34; refine (C2 w5 q5 b5 t5).mono ?_; rintro e6 w6 ⟨⟨q6, rfl, t6⟩, b60⟩; have b6 : Below w1.heap.size w1 w6 := b5.trans (b60.mono b5.size))
      | (go_at_call 34; refine (C1 _ bd2).mono ?_; rintro e5 w5 ⟨⟨q5, rfl, t5⟩, b50⟩; have b5 : Below w1.heap.size w1 w5 := bd2.trans (b50.mono bd2.size)))
  all_goals go_wp2
  all_goals go_ret
  all_goals exact ⟨⟨_, rfl, t6⟩, b6⟩

end TS
end Go.Proofs.Ytbdnniaajiiimaa
