/- info.takeLine at the later lines; walked. -/
import Derived.Test.YtjhbfkckkinfjaaDoorIoA
namespace Go.Proofs.YtjhbfkckkinfjaaDoor
open Go.RowKit Go.Shelf

/-- What lies below B is as it was but for block g. -/
structure Kept (B g : Nat) (w w' : World) : Prop where
  os : w'.os = w.os
  tape : w'.tape = w.tape
  output : w'.output = w.output
  size : w.heap.size ≤ w'.heap.size
  block : ∀ k, k < B → k ≠ g → w'.heap[k]? = w.heap[k]?
theorem Kept.below {B g : Nat} {w w' : World} (h : Kept B g w w') (hg : g ≤ B) : Below g w w' := ⟨h.os, h.tape, h.output, h.size, fun k hk => h.block k (Nat.lt_of_lt_of_le hk hg) (Nat.ne_of_lt hk)⟩
theorem Kept.of_grown {B g : Nat} {w w1 : World} {r : Option Nat} (h : w.grownBy w1 r) (hr : ∀ k, r = some k → B ≤ k) (hB : B ≤ w.heap.size) : Kept B g w w1 :=
  ⟨h.os, h.tape, h.output, h.size, fun k hk _ => h.block k (Nat.lt_of_lt_of_le hk hB) (fun e => by have := hr k e.symm; omega)⟩
theorem Kept.set {B g : Nat} {w w1 : World} (h : Kept B g w w1) (i : Nat) (v : Value) : Kept B g w (w1.setCell ⟨g, i, none⟩ v) := by
  have b := (Below.refl 0 w1).setCell (p := ⟨g, i, none⟩) (Nat.zero_le _) v
  refine ⟨b.os.trans h.os, b.tape.trans h.tape, b.output.trans h.output, by rw [World.size_setCell]; exact h.size, fun k hk hne => ?_⟩
  rw [← h.block k hk hne]
  exact Below.heap_setCell w1 ⟨g, i, none⟩ v k hne

set_option maxRecDepth 100000 in
set_option maxHeartbeats 1000000 in
theorem tl3_any (g : Nat) (l : ByteArray) (w : World) (hl : l.size ≤ 140737488351232) {P : ByteArray} {D : Nat → Int} {z : Int} {vr : Value} {F : ByteArray} {vs : Value} (h : Inf w g P D z vr F vs) :
    Calls Tryd.prog 22 #[.pointer (some ⟨g, 0, none⟩), .int .i64 3, .string l] w fun e w' => e = .returned (.int .i64 (rrC l)) ∧ (rrC l = 0 → ∃ v, Inf w' g P D z v F vs ∧ OwnR w' w.heap.size v (rrL l)) ∧ Kept w.heap.size g w w' := by
  have C0 := rdR_any l w hl
  generalize rrC l = c at C0 ⊢
  generalize rrL l = R at C0 ⊢
  go_enter Tryd.func22, Tryd.ntmps22
  go_wp2_with fail
  refine C0.mono ?_
  rintro e w1 ⟨⟨v, rfl, hv0, hv⟩, b1⟩
  obtain ⟨x, n, m, rfl⟩ := OwnR.slice hv0 hv
  have I1 := h.below b1 h.lt
  have c0 := I1.refs
  have f0 := I1.free 34 (by omega)
  have hg := h.lt
  have I2 : Hid (Inf (w1.setCell ⟨g, 34, none⟩ (.slice x n m)) g P D z (.slice x n m) F vs) := I1.setRefs (.slice x n m)
  have K2 : Hid (Kept w.heap.size g w (w1.setCell ⟨g, 34, none⟩ (.slice x n m))) := (Kept.of_grown (grown_below none b1) (fun k hk => by cases hk) (Nat.le_refl _)).set 34 _
  have O2 : Hid (c = 0 → OwnR (w1.setCell ⟨g, 34, none⟩ (.slice x n m)) w.heap.size (.slice x n m) R) := fun hc => (hv hc).same (fun b hb => Below.heap_setCell w1 ⟨g, 34, none⟩ (.slice x n m) b (fun e => by have := (hv hc).ge hb; have e' : b = g := e; omega))
  clear b1 C0 I1 hv hv0
  go_wp2
  try rw [Exit.noGoto_ret]
  go_ret
  exact ⟨rfl, fun hc => ⟨_, I2.out, O2.out hc⟩, K2.out⟩

set_option maxRecDepth 100000 in
set_option maxHeartbeats 1000000 in
theorem tl4_any (g : Nat) (l : ByteArray) (w : World) (hp : hpQ l hdF = true) {P : ByteArray} {D : Nat → Int} {z : Int} {vr : Value} {F : ByteArray} {vs : Value} (h : Inf w g P D z vr F vs) :
    Calls Tryd.prog 22 #[.pointer (some ⟨g, 0, none⟩), .int .i64 4, .string l] w fun e w' => e = .returned (.int .i64 (rpC l hdF)) ∧ Inf w' g P D z vr (rpS l hdF) vs ∧ Kept w.heap.size g w w' := by
  have CH := fun W => hasPS_any l hdF W
  rw [hp] at CH
  have C0 := fun W => rdP_any l hdF W
  generalize rpC l hdF = c at C0 ⊢
  generalize rpS l hdF = s at C0 ⊢
  clear hp
  go_enter Tryd.func22, Tryd.ntmps22
  rw [show (⟨#[70, 114, 111, 109, 58, 32]⟩ : ByteArray) = hdF from rfl]
  go_wp2_with fail
  refine (CH _).mono ?_
  rintro e w0 ⟨rfl, rfl⟩
  go_wp2_with fail
  refine (C0 _).mono ?_
  rintro e w1 ⟨rfl, b1⟩
  have I1 := h.below b1 h.lt
  have c0 := I1.from_
  have f0 := I1.free 35 (by omega)
  have I2 : Hid (Inf (w1.setCell ⟨g, 35, none⟩ (.string s)) g P D z vr s vs) := I1.setFrom s
  have K2 : Hid (Kept w0.heap.size g w0 (w1.setCell ⟨g, 35, none⟩ (.string s))) := (Kept.of_grown (grown_below none b1) (fun k hk => by cases hk) (Nat.le_refl _)).set 35 _
  clear b1 C0 I1 CH
  go_wp2
  try rw [Exit.noGoto_ret]
  go_ret
  exact ⟨rfl, I2.out, K2.out⟩

set_option maxRecDepth 100000 in
set_option maxHeartbeats 2000000 in
theorem tlS_any (B g : Nat) (n : Nat) (L : List ByteArray) (l : ByteArray) (w : World) (hn : 5 ≤ n ∨ n = 4 ∧ hpQ l hdF = false) (hn2 : n ≤ 140737488355328) (hL : L.length ≤ 8796093022000) (hl : l.size ≤ 140737488351232) {P : ByteArray} {D : Nat → Int} {z : Int} {vr : Value} {F : ByteArray} {vs : Value} (h : Inf w g P D z vr F vs) (ho : OwnS w B vs L) (hg : g < B) (hB : B ≤ w.heap.size) :
    Calls Tryd.prog 22 #[.pointer (some ⟨g, 0, none⟩), .int .i64 n, .string l] w fun e w' => e = .returned (.int .i64 (rsC L l)) ∧ (rsC L l = 0 → ∃ v, Inf w' g P D z vr F v ∧ OwnS w' B v (L ++ [rsS l])) ∧ Kept B g w w' := by
  have C0 := rdS_any B vs L l w ho hB hL hl
  have hvr : ∀ k, vs.ownBlock = some k → B ≤ k := fun k hk => (ho.ge hk).1
  generalize rsC L l = c at C0 ⊢
  generalize L ++ [rsS l] = L' at C0 ⊢
  have c0 := h.signs
  have FIN : Hid (∀ (v' : Value) (w1 : World), (c = 0 → OwnS w1 B v' L') → w.grownBy w1 vs.ownBlock → Inf w1 g P D z vr F vs ∧ (c = 0 → ∃ v, Inf (w1.setCell ⟨g, 36, none⟩ v') g P D z vr F v ∧ OwnS (w1.setCell ⟨g, 36, none⟩ v') B v L') ∧ Kept B g w (w1.setCell ⟨g, 36, none⟩ v')) := by
    intro v' w1 hv G
    have I1 : Inf w1 g P D z vr F vs := h.same (G.block g h.lt (fun e => by have := hvr g e.symm; omega))
    refine ⟨I1, fun hc => ⟨v', I1.setSigns v', (hv hc).same (fun b hb => Below.heap_setCell w1 ⟨g, 36, none⟩ v' b (fun e => by have := (hv hc).ge hb; have e' : b = g := e; omega))⟩, (Kept.of_grown G hvr hB).set 36 _⟩
  rcases hn with hn | ⟨rfl, hp⟩
  · have n0 : ¬ (n : Int) = 0 := by omega
    have n1 : ¬ (n : Int) = 1 := by omega
    have n2 : ¬ (n : Int) = 2 := by omega
    have n3 : ¬ (n : Int) = 3 := by omega
    have n4 : ¬ (n : Int) = 4 := by omega
    go_enter Tryd.func22, Tryd.ntmps22
    go_wp2_with fail
    refine C0.mono ?_
    rintro e w1 ⟨⟨v, rfl, hv, hv0⟩, G⟩
    obtain ⟨y, m, o, rfl⟩ := OwnS.slice hv0 hv
    obtain ⟨I1, R1, K1⟩ := FIN.out _ w1 hv G
    have R2 : Hid (c = 0 → ∃ v_1, Inf (w1.setCell ⟨g, 36, none⟩ (.slice y m o)) g P D z vr F v_1 ∧ OwnS (w1.setCell ⟨g, 36, none⟩ (.slice y m o)) B v_1 L') := R1
    have c1 := I1.signs
    have f1 := I1.free 36 (by omega)
    clear C0 FIN R1 hv
    go_wp2
    try rw [Exit.noGoto_ret]
    go_ret
    exact ⟨rfl, R2.out, K1⟩
  · have CH := fun W => hasPS_any l hdF W
    rw [hp] at CH
    go_enter Tryd.func22, Tryd.ntmps22
    rw [show (⟨#[70, 114, 111, 109, 58, 32]⟩ : ByteArray) = hdF from rfl]
    go_wp2_with fail
    refine (CH _).mono ?_
    rintro e w0 ⟨rfl, rfl⟩
    go_wp2_with fail
    refine C0.mono ?_
    rintro e w1 ⟨⟨v, rfl, hv, hv0⟩, G⟩
    obtain ⟨y, m, o, rfl⟩ := OwnS.slice hv0 hv
    obtain ⟨I1, R1, K1⟩ := FIN.out _ w1 hv G
    have R2 : Hid (c = 0 → ∃ v_1, Inf (w1.setCell ⟨g, 36, none⟩ (.slice y m o)) g P D z vr F v_1 ∧ OwnS (w1.setCell ⟨g, 36, none⟩ (.slice y m o)) B v_1 L') := R1
    have c1 := I1.signs
    have f1 := I1.free 36 (by omega)
    clear C0 FIN R1 hv CH
    go_wp2
    try rw [Exit.noGoto_ret]
    go_ret
    exact ⟨rfl, R2.out, K1⟩

end Go.Proofs.YtjhbfkckkinfjaaDoor
