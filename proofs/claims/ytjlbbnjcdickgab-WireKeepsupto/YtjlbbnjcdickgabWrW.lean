/- awake; items read again. -/
import Derived.Test.YtjlbbnjcdickgabWrS
namespace Go.Proofs.Ytjlbbnjcdickgab
open Go.RowKit

theorem OwnI.open {w : World} {B : Nat} {v : Value} {L : List It} (h : OwnI w B v L) : (v = .slice none 0 0 ∧ L = []) ∨ ∃ g cap, v = .slice (some ⟨g, 0, none⟩) L.length cap ∧ B ≤ g ∧ g < w.heap.size ∧ L.length ≤ cap ∧ ∀ (j : Nat) (hj : j < L.length), w.cell? ⟨g, 3 * j, none⟩ = some (.bool (L[j]).isInt) ∧ w.cell? ⟨g, 3 * j + 1, none⟩ = some (.int .u64 ((L[j]).num : Int)) ∧ w.cell? ⟨g, 3 * j + 2, none⟩ = some (.string (ba (L[j]).text)) := by
  obtain ⟨hl, h | ⟨g, cap, cur, hv, hb, hg, hnc, _, hcs, htake⟩⟩ := h
  · left
    exact ⟨h.1, List.eq_nil_of_length_eq_zero h.2⟩
  · right
    refine ⟨g, cap, hv, hb, (Array.getElem?_eq_some_iff.1 hg).1, hnc, fun j hj => ?_⟩
    have key : ∀ (L : List It) (j i : Nat) (hj : j < L.length), i < 3 → (L.flatMap itC)[3 * j + i]? = (itC (L[j]))[i]? := by
      intro L
      induction L with
      | nil => intro j i hj; simp at hj
      | cons a L ih =>
        intro j i hj hi
        rw [List.flatMap_cons]
        cases j with
        | zero =>
          rw [List.getElem?_append_left (by show _ < 3; omega)]
          simp
        | succ j =>
          rw [List.getElem?_append_right (by show 3 ≤ _; omega), show 3 * (j + 1) + i - (itC a).length = 3 * j + i by show 3 * (j + 1) + i - 3 = _; omega]
          exact ih j i (by simpa using hj) hi
    have cell : ∀ i, i < 3 → w.cell? ⟨g, 3 * j + i, none⟩ = (itC (L[j]))[i]? := fun i hi => by
      rw [cell_of_row w g (3 * j + i) cur 41 (0, 0) hg, ← key L j i hj hi, ← htake, List.getElem?_take, if_pos (by omega)]
      simp
    exact ⟨cell 0 (by omega), cell 1 (by omega), cell 2 (by omega)⟩

/-- The bytes that awake reads. -/
def awL : List UInt8 := [7, 0, 0, 0, 0, 0, 0, 0, 1, 0, 0, 0, 0, 0, 0, 0, 97, 0, 0, 0, 0, 0, 0, 0]
theorem aw_int : strFn 8 (w8 (7 : Int)) = ba [7, 0, 0, 0, 0, 0, 0, 0] := by decide +kernel
theorem aw_txt : txt ⟨#[97]⟩ = ba [1, 0, 0, 0, 0, 0, 0, 0, 97, 0, 0, 0, 0, 0, 0, 0] := by decide +kernel
theorem aw_258 : strFn 8 (w8 (258 : Int)) = ⟨#[2, 1, 0, 0, 0, 0, 0, 0]⟩ := by decide +kernel
theorem aw_run : sp awL [105, 116] 1 = ⟨24, 0, 0, [], 1, true, 4, 8, 0, [], [⟨true, 7, []⟩, ⟨false, 0, [97]⟩]⟩ := by rfl

set_option maxHeartbeats 2000000 in
theorem awake_any (w : World) : Calls Try.prog 6 #[] w fun e w' => e = .returned (.bool true) ∧ Below w.heap.size w w' := by
  go_enter Try.func6, Try.ntmps6
  go_wp2_with fail
  refine (text_any ⟨#[97]⟩ _ (by decide)).mono ?_
  rintro e w1 ⟨rfl, b1⟩
  rw [aw_txt, show ba [1, 0, 0, 0, 0, 0, 0, 0, 97, 0, 0, 0, 0, 0, 0, 0] = ⟨#[1, 0, 0, 0, 0, 0, 0, 0, 97, 0, 0, 0, 0, 0, 0, 0]⟩ from rfl]
  go_wp2_with fail
  refine (int_any 258 _ (by decide) (by decide)).mono ?_
  rintro e w2 ⟨rfl, b2⟩
  rw [aw_258]
  go_wp2_with fail
  refine (int_any 7 _ (by decide) (by decide)).mono ?_
  rintro e w3 ⟨rfl, b3⟩
  go_wp2_with fail
  refine (text_any ⟨#[97]⟩ _ (by decide)).mono ?_
  rintro e w4 ⟨rfl, b4⟩
  go_wp2_with fail
  rw [aw_int, aw_txt, ← ba_append, show ([7, 0, 0, 0, 0, 0, 0, 0] ++ [1, 0, 0, 0, 0, 0, 0, 0, 97, 0, 0, 0, 0, 0, 0, 0] : List UInt8) = awL from rfl, show ({ data := #[105, 116] } : ByteArray) = ba [105, 116] from rfl]
  refine (split_any awL [105, 116] 1 _ (by decide) (by decide) (by decide)).mono ?_
  rintro e w5 ⟨r, L, rfl, O, hL, -, b5⟩
  rw [show (1 : Int).toNat = 1 from rfl, aw_run] at hL ⊢
  have hL' := hL rfl
  clear hL
  subst hL'
  have B : Hid (Below w.heap.size w w5) := ((((b1.trans (b2.mono b1.size)).trans (b3.mono (by have := b1.size; have := b2.size; omega))).trans (b4.mono (by have := b1.size; have := b2.size; have := b3.size; omega))).trans (b5.mono (by have := b1.size; have := b2.size; have := b3.size; have := b4.size; omega)))
  rcases O.open with ⟨_, h⟩ | ⟨g, cap, rfl, -, hg, hc, hcell⟩
  · cases h
  have h0 := (hcell 0 (by decide))
  have h1 := (hcell 1 (by decide))
  obtain ⟨x0, x1, -⟩ := h0
  obtain ⟨-, -, y2⟩ := h1
  have x0' : w5.cell? ⟨g, 0, none⟩ = some (.bool true) := x0
  have x1' : w5.cell? ⟨g, 1, none⟩ = some (.int .u64 7) := x1
  have y2' : w5.cell? ⟨g, 5, none⟩ = some (.string ⟨#[97]⟩) := y2
  have hgn : g ≠ w5.heap.size := by omega
  clear x0 x1 y2 hcell b1 b2 b3 b4 b5 O
  go_wp2
  go_ret
  exact ⟨rfl, B.out.alloc B.out.size _⟩

end Go.Proofs.Ytjlbbnjcdickgab
