/- The law NameJoins, walked. -/
import Derived.Test.YtdmkkkfdigeinaaDoorSpW
import Derived.Test.YtdmkkkfdigeinaaDoorJnR
namespace Go.Proofs.YtdmkkkfdigeinaaDoor
open Go.RowKit

theorem SIs.below {w w' : World} {x : Option Addr} {n B : Nat} {f : Nat → ByteArray} (h : SIs w x n f) (b : Below B w w') (hB : w.heap.size ≤ B) : SIs w' x n f := fun i hi => by
  obtain ⟨a, ha, hc⟩ := h i hi
  refine ⟨a, ha, ?_⟩
  have hl := World.block_lt_of_cell? _ _ hc
  rw [b.cell (p := a.add i) (by omega)]
  exact hc
theorem spot_none {w : World} {a : Addr} {v : Value} (h : w.cell? a = some v) : a.spot = none := by
  unfold World.cell? at h
  split at h
  · split at h
    · cases h
    · rename_i hs; simpa using hs
  · cases h
theorem SIs.slx {w : World} {x : Option Addr} {n c : Nat} {L : List ByteArray} (h : SIs w x n (nth L)) (hL : L.length = n) (hc : n ≤ c) : SLx w x n c L := by
  refine ⟨hL, hc, ?_⟩
  by_cases e : n = 0
  · exact Or.inl e
  · right
    obtain ⟨a, rfl, c0⟩ := h 0 (by omega)
    have hs : a.spot = none := spot_none (a := a) c0
    obtain ⟨g, o, s⟩ := a
    simp only at hs
    subst hs
    refine ⟨g, o, rfl, World.block_lt_of_cell? _ _ c0, fun j hj => ?_⟩
    obtain ⟨a', ha', cj⟩ := h j hj
    obtain rfl := Option.some.inj ha'
    have ej : (⟨g, o, none⟩ : Addr).add j = ⟨g, o + j, none⟩ := by unfold Addr.add; split <;> simp_all
    rw [ej] at cj
    exact cj
theorem cmp_ba : cmpB ⟨#[98]⟩ ⟨#[97]⟩ = 1 := by decide +kernel

set_option maxHeartbeats 2000000 in
theorem joins_walk (x : Option Addr) (n c : Nat) (L : List ByteArray) (w : World) (hn : n ≤ 140737488351232) (hL : L.length = n) (hc : n ≤ c) (hf : ∀ i, i < n → (nth L i).size ≤ 140737488351232) (h : SIs w x n (nth L)) :
    Calls Tryd.prog 4 #[.slice x n c] w fun e w' => e = .returned (.bool true) ∧ Below w.heap.size w w' := by
  have HS : Hid (SIs w x n (nth L)) := h
  have HL : Hid (L.length = n) := hL
  have HF : Hid (∀ i, i < n → (nth L i).size ≤ 140737488351232) := hf
  clear h hL hf
  have JN := fun (w : World) (h : SLx w x n c L) => join_any x n c L w hn h
  have RJ := fun (w : World) (h : SIs w x n (nth L)) => rjoin_any x n c L w hn HL.out h
  generalize jS L = S at *
  generalize (jF L).1 = C at *
  generalize (jF L).2 = A at *
  go_enter Tryd.func4, Tryd.ntmps4
  go_wp2_with fail
  refine (awake_any _).mono ?_
  rintro e w1 ⟨rfl, B1⟩
  have S1 : Hid (SIs w1 x n (nth L)) := HS.out.below B1 (Nat.le_refl _)
  clear HS
  go_wp2_with fail
  have T2 : SIs (w1.alloc (Obj.cells #[Value.string ⟨#[98]⟩, Value.string ⟨#[97]⟩] 9)) (some ⟨w1.heap.size, 0, none⟩) 2 (fun i => if i = 0 then ⟨#[98]⟩ else ⟨#[97]⟩) := fun i hi => by
    refine ⟨_, rfl, ?_⟩
    have : i = 0 ∨ i = 1 := by omega
    rcases this with rfl | rfl
    · show (w1.alloc (Obj.cells #[Value.string ⟨#[98]⟩, Value.string ⟨#[97]⟩] 9)).cell? ⟨w1.heap.size, 0, none⟩ = _
      rw [World.cell?_alloc_new]; rfl
    · show (w1.alloc (Obj.cells #[Value.string ⟨#[98]⟩, Value.string ⟨#[97]⟩] 9)).cell? ⟨w1.heap.size, 1, none⟩ = _
      rw [World.cell?_alloc_new]; rfl
  refine (sorted_any _ 2 2 _ _ (by decide) T2).mono ?_
  rintro e w2 ⟨⟨r, rfl, hr⟩, q, rfl⟩
  obtain rfl : r = 1 := hr.of (k := 0) (by decide) (by show 0 ≤ cmpB ⟨#[98]⟩ ⟨#[97]⟩; rw [cmp_ba]; decide) (fun j hj => absurd hj (by omega))
  have b2 : Below w1.heap.size w1 ((w1.alloc (Obj.cells #[Value.string ⟨#[98]⟩, Value.string ⟨#[97]⟩] 9)).drewN q) := bel_drewN ((Below.refl _ _).alloc (Nat.le_refl _) _) _
  clear hr T2
  generalize (w1.alloc (Obj.cells #[Value.string ⟨#[98]⟩, Value.string ⟨#[97]⟩] 9)).drewN q = w2 at *
  have S2 : Hid (SIs w2 x n (nth L)) := S1.out.below b2 (Nat.le_refl _)
  have B2 : Below w.heap.size w w2 := B1.trans (b2.mono B1.size)
  clear S1 B1 b2
  go_wp2_with fail
  refine (JN _ (S2.out.slx HL.out hc)).mono ?_
  rintro e w3 ⟨rfl, b3⟩
  have S3 : Hid (SIs w3 x n (nth L)) := S2.out.below b3 (Nat.le_refl _)
  have B3 : Below w.heap.size w w3 := B2.trans (b3.mono B2.size)
  clear S2 B2 b3 JN
  go_wp2_with fail
  have BA : Below w3.heap.size w3 (w3.alloc (Obj.cells #[Value.int IntKind.i64 C, Value.int IntKind.i64 A] 26)) := (Below.refl _ _).alloc (Nat.le_refl _) _
  have e0 : (w3.alloc (Obj.cells #[Value.int IntKind.i64 C, Value.int IntKind.i64 A] 26)).cell? ⟨w3.heap.size, 0, none⟩ = some (.int .i64 C) := by rw [World.cell?_alloc_new]; rfl
  have e1 : (w3.alloc (Obj.cells #[Value.int IntKind.i64 C, Value.int IntKind.i64 A] 26)).cell? ⟨w3.heap.size, 1, none⟩ = some (.int .i64 A) := by rw [World.cell?_alloc_new]; rfl
  have S4 : Hid (SIs (w3.alloc (Obj.cells #[Value.int IntKind.i64 C, Value.int IntKind.i64 A] 26)) x n (nth L)) := S3.out.below BA (Nat.le_refl _)
  have B4 : Below w.heap.size w (w3.alloc (Obj.cells #[Value.int IntKind.i64 C, Value.int IntKind.i64 A] 26)) := B3.trans (BA.mono B3.size)
  obtain ⟨k, hk⟩ : ∃ k, w3.heap.size = k := ⟨_, rfl⟩
  rw [hk] at e0 e1 ⊢
  clear S3 B3 BA hk
  generalize w3.alloc (Obj.cells #[Value.int IntKind.i64 C, Value.int IntKind.i64 A] 26) = w4 at *
  refine (RJ _ S4.out).mono ?_
  rintro e w5 ⟨rfl, rfl⟩
  clear RJ
  have q0 : (S.toList == S.toList) = true := by simp
  have q1 : (C == C) = true := by simp
  have q2 : (A == A) = true := by simp
  go_wp2_with fail
  refine (sorted_any x n c (nth L) _ hn S4.out).mono ?_
  rintro e w6 ⟨⟨r, rfl, hr⟩, q, rfl⟩
  go_wp2_with fail
  have S5 : SIs (w5.drewN q) x n (nth L) := fun i hi => S4.out i hi
  refine (rsorted_any x n c (nth L) _ hn HF.out S5).mono ?_
  rintro e w7 ⟨⟨r', rfl, hr'⟩, q', rfl⟩
  obtain rfl := hr.one hr'
  have q3 : (r == r) = true := by simp
  clear hr hr' S4 S5 e0 e1
  go_wp2
  go_ret
  exact ⟨rfl, bel_drewN B4 _⟩

theorem nth_range (f : Nat → ByteArray) (n i : Nat) (hi : i < n) : nth ((List.range n).map f) i = f i := by simp [nth, hi]
theorem joins_walkF (x : Option Addr) (n c : Nat) (f : Nat → ByteArray) (w : World) (hn : n ≤ 140737488351232) (h : SIs w x n f) (hf : ∀ i, i < n → (f i).size ≤ 140737488351232) (hc : n ≤ c) :
    Calls Tryd.prog 4 #[.slice x n c] w fun e w' => e = .returned (.bool true) ∧ Below w.heap.size w w' :=
  joins_walk x n c ((List.range n).map f) w hn (by simp) hc (fun i hi => by rw [nth_range f n i hi]; exact hf i hi) (fun i hi => by rw [nth_range f n i hi]; exact h i hi)

end Go.Proofs.YtdmkkkfdigeinaaDoor
