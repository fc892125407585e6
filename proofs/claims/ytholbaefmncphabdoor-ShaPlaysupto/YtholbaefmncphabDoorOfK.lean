/- Write, said by what has been written; calls made from worlds behind a given one; bytes made of a text. -/
import Derived.Test.YtholbaefmncphabDoorOfW
import Derived.Test.YtholbaefmncphabDoorSfW
import Derived.Test.YtholbaefmncphabDoorOfB
import Derived.Laws.IdiomStrings
namespace Go.Proofs.YtholbaefmncphabDoor
open Go.RowKit
theorem write_wrote (g : Nat) (s t : ByteArray) (x : Option Addr) (n c : Nat) (w : World) (H : Wrote w g s) (hX : BSl w g x n t) (hnc : n ≤ c) (hN : s.size + t.size ≤ 2305843009213693952) (hK : KT w) (hg : 0 < g) :
    Calls Tryd.prog 13 #[.pointer (some ⟨g, 0, none⟩), .slice x n c] w fun e w' => e = .returned (.tuple #[]) ∧ Wrote w' g (s ++ t) ∧ w.grownBy w' (some g) := by
  obtain ⟨f, S, F⟩ := H
  have e1 : hw (bt s) (s.size / 64) = hw (bt (s ++ t)) (s.size / 64) := hw_congr _ _ _ (fun i hi => (bt_left s t i (by omega)).symm)
  rw [e1] at S
  refine (write_any g s.size x n c t (bt (s ++ t)) f w hX hnc S (F.congr (fun i hi => (bt_left s t i hi).symm)) (fun i hi => bt_right s t i hi) hN hK hg).mono ?_
  rintro e w' ⟨rfl, ⟨f', S', F'⟩, G⟩
  refine ⟨rfl, ⟨f', ?_, ?_⟩, G⟩
  · rw [ByteArray.size_append]; exact S'
  · rw [ByteArray.size_append]; exact F'
theorem size_b (w3 : World) (g : Nat) (s : ByteArray) (v : Int) (hv : (s.size : Int) = v) (w : World) (b : Below w3.heap.size w3 w) (H : Wrote w3 g s) : Calls Tryd.prog 10 #[.pointer (some ⟨g, 0, none⟩)] w fun e w' => e = .returned (.int .i64 v) ∧ Below w3.heap.size w3 w' :=
  (size_wrote g s w (H.below b H.lt)).mono fun _ _ ⟨h1, h2⟩ => ⟨by rw [h1, hv], by rw [h2]; exact b⟩
theorem sum_b (w3 : World) (g : Nat) (s : ByteArray) (w : World) (b : Below w3.heap.size w3 w) (H : Wrote w3 g s) (hN : s.size ≤ 1152921504606846976) (hK : KT w3) (hg : 0 < g) : Calls Tryd.prog 11 #[.pointer (some ⟨g, 0, none⟩)] w fun e w' => e = .returned (.agg (dgs s)) ∧ Below w3.heap.size w3 w' :=
  (sum_wrote g s w (H.below b H.lt) hN (hK.below b) hg).mono fun _ _ ⟨h1, h2⟩ => ⟨h1, below_next b h2⟩
theorem of_b (w3 : World) (s : ByteArray) (w : World) (b : Below w3.heap.size w3 w) (hN : s.size ≤ 1152921504606846976) (hK : KT w3) : Calls Tryd.prog 12 #[.string s] w fun e w' => e = .returned (.agg (dgs s)) ∧ Below w3.heap.size w3 w' :=
  (of_wrote s w hN (hK.below b)).mono fun _ _ ⟨h1, h2⟩ => ⟨h1, below_next b h2⟩
theorem rof_b (w3 : World) (s : ByteArray) (w : World) (b : Below w3.heap.size w3 w) (hN : s.size ≤ 140737488351232) : Calls Tryd.prog 16 #[.string s] w fun e w' => e = .returned (.agg (dgs s)) ∧ Below w3.heap.size w3 w' :=
  (rof_any s w hN).mono fun _ _ ⟨h1, h2⟩ => ⟨h1, below_next b h2⟩
theorem conv_bytes (w : World) (s : ByteArray) (g : Nat) (hg : g < w.heap.size) : ∃ c w', (convert 9 40 (.string s)).run Tryd.prog w = .ok (.slice (some ⟨w.heap.size, 0, none⟩) s.size c) w' ∧ s.size ≤ c ∧ BSl w' g (some ⟨w.heap.size, 0, none⟩) s.size s ∧ Below w.heap.size w w' := by
  refine ⟨_, _, run_bytes_of_string (P := Tryd.prog) w 9 40 5 s Tryd.underlying9 Tryd.underlying40 Tryd.underlying5, ?_, ⟨rfl, ?_⟩, ?_⟩
  · exact grownCap_ge _ _ _ _
  · by_cases h : s.size = 0
    · exact .inl h
    · refine .inr ⟨_, 0, rfl, by omega, by rw [World.size_alloc]; show w.heap.size < w.heap.size + 1; omega, fun j hj => ?_⟩
      rw [Nat.zero_add]
      have h1 := World.cell?_alloc_mark w.drew (bytesRow s (grownCap w s.size 0 5)) 5 ((bytesRow s (grownCap w s.size 0 5)).size, (bytesRow s (grownCap w s.size 0 5)).size + 1) j
      refine h1.trans ?_
      rw [bytesRow_at s _ j hj]
      unfold bt
      rw [dif_pos hj]
      rfl
  · exact ((Below.refl _ _).drew).alloc (Nat.le_refl _) _
/-- A slice of numbers that came in: n of them, f k the k-th. -/
structure IRow (kd : IntKind) (lo hi : Int) (w : World) (x : Option Addr) (n c : Nat) (f : Nat → Int) : Prop where
  len : n ≤ c
  cell : ∀ k, k < n → ∃ a : Addr, x = some a ∧ a.block < w.heap.size ∧ w.cell? (a.add k) = some (.int kd (f k))
  bd : ∀ k, k < n → lo ≤ f k ∧ f k ≤ hi
#print axioms conv_bytes
end Go.Proofs.YtholbaefmncphabDoor
