/- A table's methods (string keys): New, Len, Put, Cut, Get, Rank, Fork; walked. -/
import Derived.Test.YtbdnniaajiiimaaTkS
namespace Go.Proofs.Ytbdnniaajiiimaa
namespace TS
open Go.RowKit

/-- Block T is a table that holds the tree t. -/
def Tab (w : World) (T : Nat) (t : BT ByteArray) : Prop := ∃ p, w.cell? ⟨T, 0, none⟩ = some (.pointer p) ∧ w.frozen? ⟨T, 0, none⟩ = false ∧ Tr w t p ∧ t.Ok
theorem Tr.set {w : World} {t : BT ByteArray} {p q : Option Addr} {T : Nat} (v : Value) (h : Tr w t p) (c : w.cell? ⟨T, 0, none⟩ = some (.pointer q)) : Tr (w.setCell ⟨T, 0, none⟩ v) t p := by
  induction t generalizing p with
  | E => exact h
  | N k x s l r il ir =>
    obtain ⟨g, pl, pr, e, c0, c1, c2, c3, c4, hl, hr⟩ := h
    have hg : g ≠ T := fun e => by rw [e, c] at c0; cases c0
    have o : ∀ i, (w.setCell ⟨T, 0, none⟩ v).cell? ⟨g, i, none⟩ = w.cell? ⟨g, i, none⟩ := fun i => World.cell?_setCell_other _ _ _ _ (fun e => hg (by injection e with e1 _ _; exact e1.symm))
    exact ⟨g, pl, pr, e, (o 0).trans c0, (o 1).trans c1, (o 2).trans c2, (o 3).trans c3, (o 4).trans c4, il hl, ir hr⟩
theorem Tab.below {w w' : World} {T : Nat} {t : BT ByteArray} {B : Nat} (h : Tab w T t) (b : Below B w w') (hB : w.heap.size ≤ B) : Tab w' T t := by
  obtain ⟨p, c, f, tr, ok⟩ := h
  have hT : T < B := Nat.lt_of_lt_of_le (World.block_lt_of_cell? _ _ c) hB
  exact ⟨p, (b.cell (p := ⟨T, 0, none⟩) hT).trans c, (b.frozen (p := ⟨T, 0, none⟩) hT).trans f, tr.below b hB, ok⟩

set_option maxHeartbeats 400000 in
theorem new_any (w : World) : Calls Try.prog 5 #[] w fun e w' => ∃ T, e = .returned (.pointer (some ⟨T, 0, none⟩)) ∧ w.heap.size ≤ T ∧ T < w'.heap.size ∧ Tab w' T .E ∧ Below w.heap.size w w' := by
  have c1 : Hid ((w.alloc (.cells #[.pointer none] 50)).cell? ⟨w.heap.size, 0, none⟩ = some (.pointer none)) := by unfold Hid; rw [World.cell?_alloc_new]; rfl
  have f1 : Hid ((w.alloc (.cells #[.pointer none] 50)).frozen? ⟨w.heap.size, 0, none⟩ = false) := World.frozen?_alloc_new w _ _ _
  have B1 : Hid (Below w.heap.size w (w.alloc (.cells #[.pointer none] 50))) := (Below.refl _ _).alloc (Nat.le_refl _) _
  go_enter Try.func5, Try.ntmps5
  go_wp2
  go_ret
  exact ⟨_, rfl, Nat.le_refl _, by rw [World.size_alloc]; omega, ⟨none, c1.out, f1.out, rfl, trivial⟩, B1.out⟩

set_option maxHeartbeats 400000 in
theorem len_any (T : Nat) (t : BT ByteArray) (w : World) (h : Tab w T t) : Calls Try.prog 7 #[.pointer (some ⟨T, 0, none⟩)] w fun e w' => e = .returned (.int .i64 (t.cnt : Int)) ∧ w' = w := by
  obtain ⟨p, c, f, tr, ok⟩ := h
  have C := count_any t p w tr
  clear tr ok
  go_enter Try.func7, Try.ntmps7
  go_wp2_with fail
  refine C.mono ?_
  rintro e w1 ⟨rfl, rfl⟩
  go_wp2
  go_ret
  exact ⟨rfl, rfl⟩

set_option maxHeartbeats 1000000 in
theorem put_any (T : Nat) (t : BT ByteArray) (k : ByteArray) (v : Int) (w : World) (h : Tab w T t) (hc : t.cnt + 1 ≤ 1152921504606846976) :
    Calls Try.prog 6 #[.pointer (some ⟨T, 0, none⟩), Value.string k, .int .i64 v] w fun e w' => e = .returned (.bool (decide ((t.cnt : Int) < ((BT.wth ltK k v t).cnt : Int)))) ∧ Tab w' T (BT.wth ltK k v t) ∧ w.heap.size ≤ w'.heap.size ∧ ∀ B, B ≤ T → Below B w w' := by
  have L1 := len_any T t w h
  obtain ⟨p, c, f, tr, ok⟩ := h
  have CW := with_any k v t p w tr ok hc
  obtain ⟨o1, _, _⟩ := BT.wth_ok ltK k v t ok
  have hT : T < w.heap.size := World.block_lt_of_cell? _ _ c
  clear tr ok
  generalize BT.wth ltK k v t = U at CW o1 ⊢
  go_enter Try.func6, Try.ntmps6
  go_wp2_with fail
  refine L1.mono ?_
  rintro e w1 ⟨rfl, rfl⟩
  go_wp2_with fail
  refine CW.mono ?_
  rintro e w2 ⟨⟨q, rfl, tq⟩, b2⟩
  have c2 := (b2.cell (p := ⟨T, 0, none⟩) hT).trans c
  have f2 := (b2.frozen (p := ⟨T, 0, none⟩) hT).trans f
  have T3 : Hid (Tab (w2.setCell ⟨T, 0, none⟩ (.pointer q)) T U) := ⟨q, World.cell?_setCell_same _ _ _ c2, by rw [World.frozen?_setCell]; exact f2, tq.set _ c2, o1⟩
  have B3 : Hid (∀ B, B ≤ T → Below B w1 (w2.setCell ⟨T, 0, none⟩ (.pointer q))) := fun B hB => (b2.mono (by omega)).setCell hB _
  have hsz : Hid (w1.heap.size ≤ (w2.setCell ⟨T, 0, none⟩ (.pointer q)).heap.size) := by unfold Hid; rw [World.size_setCell]; exact b2.size
  clear b2 tq o1 c f CW L1
  go_wp2_with fail
  generalize w2.setCell ⟨T, 0, none⟩ (.pointer q) = w3 at T3 B3 hsz ⊢
  refine (len_any T U w3 T3.out).mono ?_
  rintro e w4 ⟨rfl, rfl⟩
  go_wp2
  go_ret
  refine ⟨?_, T3.out, hsz.out, B3.out⟩
  first | rfl | (congr 2; simp) | (simp)

set_option maxHeartbeats 1000000 in
theorem cut_any (T : Nat) (t : BT ByteArray) (k : ByteArray) (w : World) (h : Tab w T t) (hc : t.cnt + 1 ≤ 1152921504606846976) :
    Calls Try.prog 8 #[.pointer (some ⟨T, 0, none⟩), Value.string k] w fun e w' => e = .returned (.bool (decide (((BT.wtout ltK t k).cnt : Int) < (t.cnt : Int)))) ∧ Tab w' T (BT.wtout ltK t k) ∧ w.heap.size ≤ w'.heap.size ∧ ∀ B, B ≤ T → Below B w w' := by
  have L1 := len_any T t w h
  obtain ⟨p, c, f, tr, ok⟩ := h
  have CW := without_any t k p w tr ok (by omega)
  obtain ⟨o1, _⟩ := BT.wtout_ok ltK t ok k
  have hT : T < w.heap.size := World.block_lt_of_cell? _ _ c
  clear tr ok
  generalize BT.wtout ltK t k = U at CW o1 ⊢
  go_enter Try.func8, Try.ntmps8
  go_wp2_with fail
  refine L1.mono ?_
  rintro e w1 ⟨rfl, rfl⟩
  go_wp2_with fail
  refine CW.mono ?_
  rintro e w2 ⟨⟨q, rfl, tq⟩, b2⟩
  have c2 := (b2.cell (p := ⟨T, 0, none⟩) hT).trans c
  have f2 := (b2.frozen (p := ⟨T, 0, none⟩) hT).trans f
  have T3 : Hid (Tab (w2.setCell ⟨T, 0, none⟩ (.pointer q)) T U) := ⟨q, World.cell?_setCell_same _ _ _ c2, by rw [World.frozen?_setCell]; exact f2, tq.set _ c2, o1⟩
  have B3 : Hid (∀ B, B ≤ T → Below B w1 (w2.setCell ⟨T, 0, none⟩ (.pointer q))) := fun B hB => (b2.mono (by omega)).setCell hB _
  have hsz : Hid (w1.heap.size ≤ (w2.setCell ⟨T, 0, none⟩ (.pointer q)).heap.size) := by unfold Hid; rw [World.size_setCell]; exact b2.size
  clear b2 tq o1 c f CW L1
  go_wp2_with fail
  generalize w2.setCell ⟨T, 0, none⟩ (.pointer q) = w3 at T3 B3 hsz ⊢
  refine (len_any T U w3 T3.out).mono ?_
  rintro e w4 ⟨rfl, rfl⟩
  go_wp2
  go_ret
  refine ⟨?_, T3.out, hsz.out, B3.out⟩
  first | rfl | (congr 2; simp) | (simp)

/-- The value of a found node, or nought; and whether there is one. -/
def gv : BT ByteArray → Int
  | .E => 0
  | .N _ v _ _ _ => v
def gb : BT ByteArray → Bool
  | .E => false
  | .N _ _ _ _ _ => true

set_option maxHeartbeats 1000000 in
theorem get_any (T : Nat) (t : BT ByteArray) (k : ByteArray) (w : World) (h : Tab w T t) :
    Calls Try.prog 14 #[.pointer (some ⟨T, 0, none⟩), Value.string k] w fun e w' => e = .returned (.tuple #[.int .i64 (gv (BT.fnd ltK k t)), .bool (gb (BT.fnd ltK k t))]) ∧ Below w.heap.size w w' := by
  obtain ⟨p, c, f, tr, ok⟩ := h
  have CF := find_any t p k w tr
  clear tr ok
  generalize BT.fnd ltK k t = U at CF ⊢
  go_enter Try.func14, Try.ntmps14
  go_wp2_with fail
  refine CF.mono ?_
  rintro e w1 ⟨⟨q, rfl, tq⟩, rfl⟩
  cases U with
  | E =>
    obtain rfl : q = none := tq
    go_wp2
    go_ret2
    exact ⟨rfl, by first | exact Below.refl _ _ | exact (Below.refl _ _).alloc (Nat.le_refl _) _⟩
  | N xk xv xs xl xr =>
    obtain ⟨g, q1, q2, rfl, d0, d1, d2, d3, d4, _, _⟩ := tq
    go_wp2
    go_ret2
    exact ⟨rfl, Below.refl _ _⟩

set_option maxHeartbeats 400000 in
theorem tRank_any (T : Nat) (t : BT ByteArray) (k : ByteArray) (w : World) (h : Tab w T t) (hc : t.cnt ≤ 1152921504606846976) :
    Calls Try.prog 21 #[.pointer (some ⟨T, 0, none⟩), Value.string k] w fun e w' => e = .returned (.int .i64 (BT.rnk ltK k t : Int)) ∧ w' = w := by
  obtain ⟨p, c, f, tr, ok⟩ := h
  have C := rank_any t p k w tr ok hc
  clear tr ok
  go_enter Try.func21, Try.ntmps21
  go_wp2_with fail
  refine C.mono ?_
  rintro e w1 ⟨rfl, rfl⟩
  go_wp2
  go_ret
  exact ⟨rfl, rfl⟩

end TS
end Go.Proofs.Ytbdnniaajiiimaa
