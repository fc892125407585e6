/- Put and Cut of a table (string keys), with what they leave alone; the order of texts. -/
import Derived.Test.YtbdnniaajiiimaaTsS
import Derived.Test.YtbdnniaajiiimaaTbR
namespace Go.Proofs.Ytbdnniaajiiimaa
namespace TS
open Go.RowKit

theorem less_irr (a : List UInt8) : Op.bytesLess a a = false := by
  induction a with
  | nil => rfl
  | cons x a ih => unfold Op.bytesLess; simp [ih]
theorem less_tra (a b c : List UInt8) (h : Op.bytesLess a b = true) (g : Op.bytesLess b c = true) : Op.bytesLess a c = true := by
  induction a generalizing b c with
  | nil => cases b with
    | nil => cases h
    | cons y b => cases c with
      | nil => cases g
      | cons z c => rfl
  | cons x a ih => cases b with
    | nil => cases h
    | cons y b => cases c with
      | nil => cases g
      | cons z c =>
        unfold Op.bytesLess at h g ⊢
        simp only [Bool.or_eq_true, Bool.and_eq_true, decide_eq_true_eq, beq_iff_eq] at h g ⊢
        rcases h with h | ⟨rfl, h⟩
        · rcases g with g | ⟨rfl, g⟩
          · left; rw [UInt8.lt_iff_toNat_lt] at *; omega
          · left; exact h
        · rcases g with g | ⟨rfl, g⟩
          · left; exact g
          · right; exact ⟨rfl, ih b c h g⟩
theorem less_tri (a b : List UInt8) (h : Op.bytesLess a b = false) (g : Op.bytesLess b a = false) : a = b := by
  induction a generalizing b with
  | nil => cases b with
    | nil => rfl
    | cons y b => cases h
  | cons x a ih => cases b with
    | nil => cases g
    | cons y b =>
      unfold Op.bytesLess at h g
      simp only [Bool.or_eq_false_iff, Bool.and_eq_false_iff, decide_eq_false_iff_not, beq_eq_false_iff_ne] at h g
      have e : x = y := by
        apply UInt8.toNat_inj.1
        have h1 := h.1
        have g1 := g.1
        rw [UInt8.lt_iff_toNat_lt] at h1 g1
        omega
      subst e
      rcases h.2 with q | h2
      · exact absurd rfl q
      · rcases g.2 with q | g2
        · exact absurd rfl q
        · rw [ih b h2 g2]
theorem ordS : BT.Ord ltK := ⟨fun _ => less_irr _, fun _ _ _ h g => less_tra _ _ _ h g, fun _ _ h g => of_toList _ _ (less_tri _ _ h g)⟩

theorem gb_set {w w2 : World} {T : Nat} {v : Value} (b : Below w.heap.size w w2) (_hT : T < w.heap.size) : w.grownBy (w2.setCell ⟨T, 0, none⟩ v) (some T) :=
  ⟨b.os, b.tape, b.output, by rw [World.size_setCell]; exact b.size, fun i hi hne => (Below.heap_setCell w2 ⟨T, 0, none⟩ v i (fun e => hne (by rw [e]))).trans (b.block i hi)⟩

set_option maxHeartbeats 1000000 in
theorem put2_any (T : Nat) (t : BT ByteArray) (k : ByteArray) (v : Int) (w : World) (h : Tab w T t) (hc : t.cnt + 1 ≤ 1152921504606846976) :
    Calls Try.prog 6 #[.pointer (some ⟨T, 0, none⟩), Value.string k, .int .i64 v] w fun e w' => e = .returned (.bool (decide ((t.cnt : Int) < ((BT.wth ltK k v t).cnt : Int)))) ∧ Tab w' T (BT.wth ltK k v t) ∧ w.grownBy w' (some T) := by
  have L1 := len_any T t w h
  obtain ⟨p, c, f, tr, ok⟩ := h
  have CW := with_any k v t p w tr ok hc
  obtain ⟨o1, _, _⟩ := BT.wth_ok ltK k v t ok
  have hT : T < w.heap.size := World.block_lt_of_cell? _ _ c
  clear tr ok
  generalize BT.wth ltK k v t = U at CW o1 ⊢
  go_enter Try.func6, Try.ntmps6
  go_wp2_with fail
  refine L1.mono ?_
  rintro e w1 ⟨rfl, rfl⟩
  go_wp2_with fail
  refine CW.mono ?_
  rintro e w2 ⟨⟨q, rfl, tq⟩, b2⟩
  have c2 := (b2.cell (p := ⟨T, 0, none⟩) hT).trans c
  have f2 := (b2.frozen (p := ⟨T, 0, none⟩) hT).trans f
  have T3 : Hid (Tab (w2.setCell ⟨T, 0, none⟩ (.pointer q)) T U) := ⟨q, World.cell?_setCell_same _ _ _ c2, by rw [World.frozen?_setCell]; exact f2, tq.set _ c2, o1⟩
  have B3 : Hid (w1.grownBy (w2.setCell ⟨T, 0, none⟩ (.pointer q)) (some T)) := gb_set b2 hT
  clear b2 tq o1 c f CW L1
  go_wp2_with fail
  generalize w2.setCell ⟨T, 0, none⟩ (.pointer q) = w3 at T3 B3 ⊢
  refine (len_any T U w3 T3.out).mono ?_
  rintro e w4 ⟨rfl, rfl⟩
  go_wp2
  go_ret
  refine ⟨?_, T3.out, B3.out⟩
  first | rfl | (congr 2; simp) | (simp)

set_option maxHeartbeats 1000000 in
theorem cut2_any (T : Nat) (t : BT ByteArray) (k : ByteArray) (w : World) (h : Tab w T t) (hc : t.cnt + 1 ≤ 1152921504606846976) :
    Calls Try.prog 8 #[.pointer (some ⟨T, 0, none⟩), Value.string k] w fun e w' => e = .returned (.bool (decide (((BT.wtout ltK t k).cnt : Int) < (t.cnt : Int)))) ∧ Tab w' T (BT.wtout ltK t k) ∧ w.grownBy w' (some T) := by
  have L1 := len_any T t w h
  obtain ⟨p, c, f, tr, ok⟩ := h
  have CW := without_any t k p w tr ok (by omega)
  obtain ⟨o1, _⟩ := BT.wtout_ok ltK t ok k
  have hT : T < w.heap.size := World.block_lt_of_cell? _ _ c
  clear tr ok
  generalize BT.wtout ltK t k = U at CW o1 ⊢
  go_enter Try.func8, Try.ntmps8
  go_wp2_with fail
  refine L1.mono ?_
  rintro e w1 ⟨rfl, rfl⟩
  go_wp2_with fail
  refine CW.mono ?_
  rintro e w2 ⟨⟨q, rfl, tq⟩, b2⟩
  have c2 := (b2.cell (p := ⟨T, 0, none⟩) hT).trans c
  have f2 := (b2.frozen (p := ⟨T, 0, none⟩) hT).trans f
  have T3 : Hid (Tab (w2.setCell ⟨T, 0, none⟩ (.pointer q)) T U) := ⟨q, World.cell?_setCell_same _ _ _ c2, by rw [World.frozen?_setCell]; exact f2, tq.set _ c2, o1⟩
  have B3 : Hid (w1.grownBy (w2.setCell ⟨T, 0, none⟩ (.pointer q)) (some T)) := gb_set b2 hT
  clear b2 tq o1 c f CW L1
  go_wp2_with fail
  generalize w2.setCell ⟨T, 0, none⟩ (.pointer q) = w3 at T3 B3 ⊢
  refine (len_any T U w3 T3.out).mono ?_
  rintro e w4 ⟨rfl, rfl⟩
  go_wp2
  go_ret
  refine ⟨?_, T3.out, B3.out⟩
  first | rfl | (congr 2; simp) | (simp)

end TS
end Go.Proofs.Ytbdnniaajiiimaa
