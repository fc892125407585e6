/- A table's nodes (string keys): balanced, walked: no turn, and the right side too heavy. -/
import Derived.Test.YtbdnniaajiiimaaTeS
namespace Go.Proofs.Ytbdnniaajiiimaa
namespace TS
open Go.RowKit

/-- between, from a later world. -/
theorem between_from {k : ByteArray} {v : Int} {s0 : Nat} {l0 r0 l r : BT ByteArray} {p pl pr : Option Addr} {w : World} (W : World) (b : Below w.heap.size w W) (h : Tr w (.N k v s0 l0 r0) p) (hl : Tr W l pl) (hr : Tr W r pr) (hc : l.cnt + 1 + r.cnt ≤ 1152921504606846976) :
    Calls Try.prog 34 #[.pointer p, .pointer pl, .pointer pr] W fun e w' => (∃ q, e = .returned (.pointer q) ∧ Tr w' (BT.bet k v l r) q) ∧ Below W.heap.size W w' :=
  between_any k v s0 l0 r0 l r p pl pr W (h.below b (Nat.le_refl _)) hl hr hc

set_option maxHeartbeats 2000000 in
theorem bal_none (k : ByteArray) (v : Int) (s0 : Nat) (l0 r0 l r : BT ByteArray) (p pl pr : Option Addr) (w : World) (h : Tr w (.N k v s0 l0 r0) p) (hl : Tr w l pl) (hr : Tr w r pr) (hc : l.cnt + 1 + r.cnt ≤ 1152921504606846976)
    (h1 : ¬ 3 * (l.cnt + 1) < r.cnt + 1) (h2 : ¬ 3 * (r.cnt + 1) < l.cnt + 1) :
    Calls Try.prog 28 #[.pointer p, .pointer pl, .pointer pr] w fun e w' => (∃ q, e = .returned (.pointer q) ∧ Tr w' (BT.bet k v l r) q) ∧ Below w.heap.size w w' := by
  have HT := between_any k v s0 l0 r0 l r p pl pr w h hl hr hc
  have CL := weight_any l pl w hl (by omega)
  have CR := weight_any r pr w hr (by omega)
  have h1' : ¬ 3 * ((l.cnt : Int) + 1) < (r.cnt : Int) + 1 := by omega
  have h2' : ¬ 3 * ((r.cnt : Int) + 1) < (l.cnt : Int) + 1 := by omega
  have hcl : l.cnt ≤ 1152921504606846976 := by omega
  have hcr : r.cnt ≤ 1152921504606846976 := by omega
  clear h hl hr h1 h2 hc
  go_enter Try.func28, Try.ntmps28
  go_wp2_with fail
  refine CR.mono ?_
  rintro e w1 ⟨rfl, rfl⟩
  go_wp2_with fail
  refine CL.mono ?_
  rintro e w1 ⟨rfl, rfl⟩
  go_wp2_with fail
  refine CL.mono ?_
  rintro e w1 ⟨rfl, rfl⟩
  go_wp2_with fail
  refine CR.mono ?_
  rintro e w1 ⟨rfl, rfl⟩
  go_wp2_with fail
  refine HT.mono ?_
  rintro e w2 ⟨⟨q, rfl, tq⟩, b2⟩
  go_wp2
  go_ret
  exact ⟨⟨_, rfl, tq⟩, b2⟩

set_option maxHeartbeats 4000000 in
theorem bal_R1 (k : ByteArray) (v : Int) (s0 : Nat) (l0 r0 l : BT ByteArray) (rk : ByteArray) (rv : Int) (rs : Nat) (rl rr : BT ByteArray) (p pl pr : Option Addr) (w : World) (h : Tr w (.N k v s0 l0 r0) p) (hl : Tr w l pl) (hr : Tr w (.N rk rv rs rl rr) pr) (hro : rs = rl.cnt + 1 + rr.cnt) (hc : l.cnt + 1 + rs ≤ 1152921504606846976)
    (h1 : 3 * (l.cnt + 1) < rs + 1) (h2 : ¬ 2 * (rr.cnt + 1) ≤ rl.cnt + 1) :
    Calls Try.prog 28 #[.pointer p, .pointer pl, .pointer pr] w fun e w' => (∃ q, e = .returned (.pointer q) ∧ Tr w' (BT.bet rk rv (BT.bet k v l rl) rr) q) ∧ Below w.heap.size w w' := by
  have HP : Hid (Tr w (.N k v s0 l0 r0) p) := h
  have HL : Hid (Tr w l pl) := hl
  have HR0 : Hid (Tr w (.N rk rv rs rl rr) pr) := hr
  have CL := weight_any l pl w hl (by omega)
  have CR := weight_any _ pr w hr (by show rs ≤ _; omega)
  obtain ⟨g, pil, prr, rfl, c0, c1, c2, c3, c4, hrl, hrr⟩ := hr
  have HRL : Hid (Tr w rl pil) := hrl
  have HRR : Hid (Tr w rr prr) := hrr
  have bd : Below w.heap.size w w.drew := (Below.refl _ _).drew
  have CI := weight_any rl pil w.drew (hrl.below bd (Nat.le_refl _)) (by omega)
  have CI2 := weight_any rr prr w.drew (hrr.below bd (Nat.le_refl _)) (by omega)
  have h1' : 3 * ((l.cnt : Int) + 1) < (rs : Int) + 1 := by omega
  have h2' : ¬ 2 * ((rr.cnt : Int) + 1) ≤ (rl.cnt : Int) + 1 := by omega
  have hcl : l.cnt ≤ 1152921504606846976 := by omega
  have hcr : rs ≤ 1152921504606846976 := by omega
  have hcrl : rl.cnt ≤ 1152921504606846976 := by omega
  have hcrr : rr.cnt ≤ 1152921504606846976 := by omega
  have hwm : IntKind.i64.wrap (2 * ((rr.cnt : Int) + 1)) = 2 * ((rr.cnt : Int) + 1) := by rw [IntKind.wrap_i64]; omega
  have HB1 : Hid (l.cnt + 1 + rl.cnt ≤ 1152921504606846976) := by unfold Hid; omega
  have HB2 : Hid ((BT.bet k v l rl).cnt + 1 + rr.cnt ≤ 1152921504606846976) := by unfold Hid; rw [BT.bet_cnt]; omega
  clear h hl hrl hrr h1 h2 hc c0 c1 c2 hro
  go_enter Try.func28, Try.ntmps28
  go_wp2_with fail
  refine CR.mono ?_
  rintro e w1 ⟨rfl, rfl⟩
  go_wp2_with fail
  refine CL.mono ?_
  rintro e w1 ⟨rfl, rfl⟩
  have hrsc : ((BT.N rk rv rs rl rr).cnt : Int) = (rs : Int) := rfl
  rw [hrsc]
  go_wp2
  -- @1
  go_region_held3 (fun W => W.cell? ⟨g, 4, none⟩ = some (.pointer prr))
    (first | go_keep | exact c4)
    (first
      | (go_at_call 33; refine CI.mono ?_; rintro e5 w5 ⟨rfl, rfl⟩)
      | (go_at_call 33; refine CI2.mono ?_; rintro e5 w5 ⟨rfl, rfl⟩))
  go_wp2
  -- @2
  have HW : Hid (w1.drew = w1.drew) := rfl
  have b0 : Below w1.heap.size w1 w1.drew := bd
  have bd2 : Below w1.heap.size w1 w1.drew.drew := bd.drew
  have C1 : ∀ W, Below w1.heap.size w1 W → Calls Try.prog 34 #[.pointer p, .pointer pl, .pointer pil] W fun e w' => (∃ q, e = .returned (.pointer q) ∧ Tr w' (BT.bet k v l rl) q) ∧ Below W.heap.size W w' := fun W b => between_from W b HP.out (HL.out.below b (Nat.le_refl _)) (HRL.out.below b (Nat.le_refl _)) HB1.out
  have C2 : ∀ W q, Below w1.heap.size w1 W → Tr W (BT.bet k v l rl) q → Calls Try.prog 34 #[.pointer (some ⟨g, 0, none⟩), .pointer q, .pointer prr] W fun e w' => (∃ q, e = .returned (.pointer q) ∧ Tr w' (BT.bet rk rv (BT.bet k v l rl) rr) q) ∧ Below W.heap.size W w' := fun W q b t => between_from W b HR0.out t (HRR.out.below b (Nat.le_refl _)) HB2.out
  have hgl : g < w1.heap.size := World.block_lt_of_cell? _ _ c3
  go_region_held3 (fun W => W.cell? ⟨g, 3, none⟩ = some (.pointer pil) ∧ W.cell? ⟨g, 4, none⟩ = some (.pointer prr))
    (first | go_keep | exact ⟨c3, c4⟩ | exact ⟨(b5.cell (p := ⟨g, 3, none⟩) hgl).trans c3, (b5.cell (p := ⟨g, 4, none⟩) hgl).trans c4⟩ | exact ⟨(b6.cell (p := ⟨g, 3, none⟩) hgl).trans c3, (b6.cell (p := ⟨g, 4, none⟩) hgl).trans c4⟩)
    (first
      | (have mk := t5; go_at_call 34; refine (C2 w5 q5 b5 t5).mono ?_; rintro e6 w6 ⟨⟨q6, rfl, t6⟩, b60⟩; have b6 : Below w1.heap.size w1 w6 := b5.trans (b60.mono b5.size))
      | (go_at_call 34; refine (C1 _ bd2).mono ?_; rintro e5 w5 ⟨⟨q5, rfl, t5⟩, b50⟩; have b5 : Below w1.heap.size w1 w5 := bd2.trans (b50.mono bd2.size)))
  all_goals go_wp2
  all_goals go_ret
  all_goals exact ⟨⟨_, rfl, t6⟩, b6⟩

end TS
end Go.Proofs.Ytbdnniaajiiimaa
