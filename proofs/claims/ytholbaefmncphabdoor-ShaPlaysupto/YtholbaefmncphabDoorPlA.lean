/- Three digests' States, their pointers and their texts in memory: what each call leaves. -/
import Derived.Test.YtholbaefmncphabDoorOfK
import Derived.Test.YtholbaefmncphabDoorVr
namespace Go.Proofs.YtholbaefmncphabDoor
open Go.RowKit
/-- f with x at place a. -/
def upd {α : Type} (f : Nat → α) (a : Nat) (x : α) (j : Nat) : α := if j = a then x else f j
theorem upd_same {α : Type} (f : Nat → α) (a : Nat) (x : α) : upd f a x a = x := if_pos rfl
theorem upd_other {α : Type} (f : Nat → α) (a : Nat) (x : α) (j : Nat) (h : j ≠ a) : upd f a x j = f j := if_neg h
theorem pos_of_row {w : World} {X : Nat} {f : Nat → Value} (k : KT w) (v : VRow w X 3 f) (hf : ∀ n, f 0 ≠ .int .u32 n) : 0 < X := by
  by_cases e : X = 0
  · subst e
    have h1 := k 0 (by omega)
    have h2 := v.cell 0 (by omega)
    rw [h1] at h2
    exact absurd (Option.some.inj h2).symm (hf _)
  · omega
/-- Blocks L and D hold the pointers to three States (blocks G) and three texts U; T: what has been written into each. -/
structure Tri (w0 w : World) (L D : Nat) (G : Nat → Nat) (T U : Nat → ByteArray) (m : Nat) : Prop where
  live : VRow w L 3 (fun j => .pointer (some ⟨G j, 0, none⟩))
  said : VRow w D 3 (fun j => .string (U j))
  st : ∀ j, j < 3 → Wrote w (G j) (T j)
  ne : ∀ i j, i < 3 → j < 3 → i ≠ j → G i ≠ G j
  big : ∀ j, j < 3 → L < G j ∧ D < G j
  sz : ∀ j, j < 3 → (T j).size ≤ m
  su : ∀ j, j < 3 → (U j).size ≤ m
  apart : w0.heap.size ≤ L ∧ w0.heap.size ≤ D ∧ L ≠ D
  kt : KT w
  bel : Below w0.heap.size w0 w
theorem Tri.below {w0 w w' : World} {L D m : Nat} {G : Nat → Nat} {T U : Nat → ByteArray} (h : Tri w0 w L D G T U m) (b : Below w.heap.size w w') : Tri w0 w' L D G T U m :=
  ⟨h.live.below b (h.live.lt (by omega)), h.said.below b (h.said.lt (by omega)), fun j hj => (h.st j hj).below b (h.st j hj).lt, h.ne, h.big, h.sz, h.su, h.apart, h.kt.below b, below_next h.bel b⟩
theorem Tri.drewN {w0 w : World} {L D m : Nat} {G : Nat → Nat} {T U : Nat → ByteArray} (h : Tri w0 w L D G T U m) (q : Nat) : Tri w0 (w.drewN q) L D G T U m :=
  h.below ⟨rfl, rfl, rfl, Nat.le_refl _, fun _ _ => rfl⟩
theorem Tri.mono {w0 w : World} {L D m m' : Nat} {G : Nat → Nat} {T U : Nat → ByteArray} (h : Tri w0 w L D G T U m) (hm : m ≤ m') : Tri w0 w L D G T U m' :=
  ⟨h.live, h.said, h.st, h.ne, h.big, fun j hj => Nat.le_trans (h.sz j hj) hm, fun j hj => Nat.le_trans (h.su j hj) hm, h.apart, h.kt, h.bel⟩
theorem Tri.pos {w0 w : World} {L D m : Nat} {G : Nat → Nat} {T U : Nat → ByteArray} (h : Tri w0 w L D G T U m) (j : Nat) (hj : j < 3) : 0 < G j ∧ w0.heap.size ≤ G j := by
  have := h.big j hj
  have := h.apart
  omega
/-- A call that wrote into State a alone. -/
theorem Tri.wrote {w0 w w' : World} {L D m : Nat} {G : Nat → Nat} {T U : Nat → ByteArray} (h : Tri w0 w L D G T U m) (a : Nat) (ha : a < 3) (t : ByteArray) (ht : t.size ≤ m) (H : Wrote w' (G a) t) (g : w.grownBy w' (some (G a))) : Tri w0 w' L D G (upd T a t) U m := by
  have hb := h.big a ha
  have hne : ∀ x : Nat, x ≠ G a → some x ≠ some (G a) := fun x hx e => hx (Option.some.inj e)
  refine ⟨h.live.same (g.block L (h.live.lt (by omega)) (by simp; omega)), h.said.same (g.block D (h.said.lt (by omega)) (by simp; omega)), fun j hj => ?_, h.ne, h.big, fun j hj => ?_, h.su, h.apart, h.kt.grown g (h.pos a ha).1, below_gb h.bel g (h.pos a ha).2⟩
  · by_cases e : j = a
    · subst e; rw [upd_same]; exact H
    · rw [upd_other _ _ _ _ e]; exact (h.st j hj).kept g (h.ne j a hj ha e)
  · by_cases e : j = a
    · subst e; rw [upd_same]; exact ht
    · rw [upd_other _ _ _ _ e]; exact h.sz j hj
/-- said[a] = t. -/
theorem Tri.say {w0 w : World} {L D m : Nat} {G : Nat → Nat} {T U : Nat → ByteArray} (h : Tri w0 w L D G T U m) (a : Nat) (ha : a < 3) (t : ByteArray) (ht : t.size ≤ m) : Tri w0 (w.setCell ⟨D, a, none⟩ (.string t)) L D G T (upd U a t) m := by
  have g := gb_set w D a (.string t)
  have hap := h.apart
  refine ⟨h.live.same (g.block L (h.live.lt (by omega)) (by simp; omega)), (h.said.set a (.string t) ha).congr (fun j hj => ?_), fun j hj => ?_, h.ne, h.big, h.sz, fun j hj => ?_, h.apart, ?_, h.bel.setCell hap.2.1 _⟩
  · by_cases e : j = a
    · subst e; rw [if_pos rfl, upd_same]
    · rw [if_neg e, upd_other _ _ _ _ e]
  · exact (h.st j hj).kept g (by have := h.big j hj; omega)
  · by_cases e : j = a
    · subst e; rw [upd_same]; exact ht
    · rw [upd_other _ _ _ _ e]; exact h.su j hj
  · have hD : 0 < D := pos_of_row h.kt h.said (fun n e => by cases e)
    exact h.kt.grown g hD
/-- live[a] = a new State of that text. -/
theorem Tri.lay {w0 w : World} {L D m : Nat} {G : Nat → Nat} {T U : Nat → ByteArray} (h : Tri w0 w L D G T U m) (a : Nat) (ha : a < 3) (g' : Nat) (t : ByteArray) (ht : t.size ≤ m) (H : Wrote w g' t) (hg : ∀ j, j < 3 → G j < g') : Tri w0 (w.setCell ⟨L, a, none⟩ (.pointer (some ⟨g', 0, none⟩))) L D (upd G a g') (upd T a t) U m := by
  have g := gb_set w L a (.pointer (some ⟨g', 0, none⟩))
  have hap := h.apart
  have hb0 := h.big 0 (by omega)
  have hg0 := hg 0 (by omega)
  refine ⟨(h.live.set a _ ha).congr (fun j hj => ?_), h.said.same (g.block D (h.said.lt (by omega)) (by simp; omega)), fun j hj => ?_, fun i j hi hj hij => ?_, fun j hj => ?_, fun j hj => ?_, h.su, h.apart, ?_, h.bel.setCell hap.1 _⟩
  · by_cases e : j = a
    · subst e; rw [if_pos rfl, upd_same]
    · rw [if_neg e, upd_other _ _ _ _ e]
  · by_cases e : j = a
    · subst e; rw [upd_same, upd_same]; exact H.kept g (by omega)
    · rw [upd_other _ _ _ _ e, upd_other _ _ _ _ e]; exact (h.st j hj).kept g (by have := h.big j hj; omega)
  · by_cases e : i = a
    · subst e; rw [upd_same, upd_other _ _ _ _ (fun x => hij x.symm)]; have := hg j hj; omega
    · rw [upd_other _ _ _ _ e]
      by_cases e2 : j = a
      · subst e2; rw [upd_same]; have := hg i hi; omega
      · rw [upd_other _ _ _ _ e2]; exact h.ne i j hi hj hij
  · by_cases e : j = a
    · subst e; rw [upd_same]; omega
    · rw [upd_other _ _ _ _ e]; exact h.big j hj
  · by_cases e : j = a
    · subst e; rw [upd_same]; exact ht
    · rw [upd_other _ _ _ _ e]; exact h.sz j hj
  · have hL : 0 < L := pos_of_row h.kt h.live (fun n e => by cases e)
    exact h.kt.grown g hL
end Go.Proofs.YtholbaefmncphabDoor
