/- What is read of lists in memory; the printer's comma and quoted, walked. -/
import Derived.Test.YtbfhfejdmhjccaaRpK
namespace Go.Proofs.Ytbfhfejdmhjccaa
open Go.RowKit

/-- v is a slice of these texts, in blocks below B. -/
def RT (w : World) (B : Nat) (v : Value) (L : List (List UInt8)) : Prop := ∃ x c, v = .slice x L.length c ∧ ∀ i t, L[i]? = some t → ∃ b o, x = some ⟨b, o, none⟩ ∧ b < B ∧ w.cell? ⟨b, o + i, none⟩ = some (.string (ba t))
/-- v is a slice of these steps, in blocks below B. -/
def RS (w : World) (B : Nat) (v : Value) (L : List Stp) : Prop := ∃ x c, v = .slice x L.length c ∧ ∀ i t, L[i]? = some t → ∃ b o y, x = some ⟨b, o, none⟩ ∧ b < B ∧ w.cell? ⟨b, o + i * 2, none⟩ = some (.string (ba t.1)) ∧ w.cell? ⟨b, o + i * 2 + 1, none⟩ = some y ∧ RT w B y t.2
theorem cell_keep {w w' : World} {B : Nat} {a : Addr} {v : Value} (b : Below B w w') (hB : a.block < B) (h : w.cell? a = some v) : w'.cell? a = some v := by
  rw [World.cell?_of_block (b.block a.block hB)]
  exact h
theorem RT.below {w w' : World} {B C : Nat} {v : Value} {L : List (List UInt8)} (h : RT w B v L) (b : Below C w w') (hB : B ≤ C) : RT w' B v L := by
  obtain ⟨x, c, e, h⟩ := h
  refine ⟨x, c, e, fun i t hi => ?_⟩
  obtain ⟨k, o, e1, e0, e2⟩ := h i t hi
  exact ⟨k, o, e1, e0, cell_keep b (by show k < C; omega) e2⟩
theorem RS.below {w w' : World} {B C : Nat} {v : Value} {L : List Stp} (h : RS w B v L) (b : Below C w w') (hB : B ≤ C) : RS w' B v L := by
  obtain ⟨x, c, e, h⟩ := h
  refine ⟨x, c, e, fun i t hi => ?_⟩
  obtain ⟨k, o, y, e1, e0, e2, e3, e4⟩ := h i t hi
  exact ⟨k, o, y, e1, e0, cell_keep b (by show k < C; omega) e2, cell_keep b (by show k < C; omega) e3, e4.below b hB⟩
theorem TxS.read {w : World} {B : Nat} {v : Value} {L : List (List UInt8)} (h : TxS w B v L) : RT w w.heap.size v L := by
  rcases h.2 with ⟨rfl, e⟩ | ⟨g, cap, cur, rfl, hb, hg, r⟩
  · exact ⟨none, 0, by rw [e], fun i t hi => by rw [List.eq_nil_of_length_eq_zero e] at hi; simp at hi⟩
  · refine ⟨some ⟨g, 0, none⟩, cap, rfl, fun i t hi => ⟨g, 0, rfl, (Array.getElem?_eq_some_iff.1 hg).1, ?_⟩⟩
    have hi' : i < L.length := (List.getElem?_eq_some_iff.1 hi).1
    rw [Nat.zero_add, World.ownsRow.cellAt h i (by omega), List.getElem?_map, hi]
    rfl
theorem flat_at (P : List (Stp × Value)) : ∀ i p, P[i]? = some p → (P.flatMap stC)[i * 2]? = some (.string (ba p.1.1)) ∧ (P.flatMap stC)[i * 2 + 1]? = some p.2 := by
  induction P with
  | nil => intro i p h; simp at h
  | cons a P ih =>
    intro i p h
    cases i with
    | zero => simp at h; subst h; exact ⟨rfl, rfl⟩
    | succ i =>
      have := ih i p (by simpa using h)
      rw [List.flatMap_cons, show (i + 1) * 2 = i * 2 + 2 by omega]
      exact this
theorem StS.read {w : World} {B : Nat} {v : Value} {L : List Stp} (h : StS w B v L) : RS w w.heap.size v L := by
  obtain ⟨P, h1, h2, h3⟩ := h
  have hPl : P.length = L.length := by rw [← h1, List.length_map]
  rcases h2.2 with ⟨rfl, e⟩ | ⟨g, cap, cur, rfl, hb, hg, r⟩
  · have e' : L = [] := List.eq_nil_of_length_eq_zero (by omega)
    subst e'
    exact ⟨none, 0, rfl, fun i t hi => by simp at hi⟩
  · refine ⟨some ⟨g, 0, none⟩, cap, by rw [hPl], fun i t hi => ?_⟩
    have hi' : i < L.length := (List.getElem?_eq_some_iff.1 hi).1
    obtain ⟨p, hp⟩ : ∃ p, P[i]? = some p := ⟨P[i]'(by omega), List.getElem?_eq_getElem _⟩
    have hpt : p.1 = t := by
      rw [← h1, List.getElem?_map, hp] at hi
      injection hi
    have hf := flat_at P i p hp
    refine ⟨g, 0, p.2, rfl, (Array.getElem?_eq_some_iff.1 hg).1, ?_, ?_, ?_⟩
    · rw [Nat.zero_add, World.ownsRow.cellAt h2 _ (by omega), hf.1, hpt]
    · rw [Nat.zero_add, World.ownsRow.cellAt h2 _ (by omega), hf.2]
    · rw [← hpt]
      exact (h3 p (List.mem_of_getElem? hp)).1.read

theorem esc_cases (x : UInt8) : (∃ (k : Nat) (y : UInt8), k < 4 ∧ Lib.indexByte [34, 92, 10, 9] x = (k : Int) ∧ esc x = [92, y] ∧ bt ⟨#[34, 92, 110, 116]⟩ k = (y.toNat : Int)) ∨ (Lib.indexByte [34, 92, 10, 9] x = -1 ∧ esc x = [x]) := by
  by_cases h1 : x = 34
  · subst h1; exact .inl ⟨0, 34, by decide, by decide, rfl, by decide⟩
  · by_cases h2 : x = 92
    · subst h2; exact .inl ⟨1, 92, by decide, by decide, rfl, by decide⟩
    · by_cases h3 : x = 10
      · subst h3; exact .inl ⟨2, 110, by decide, by decide, rfl, by decide⟩
      · by_cases h4 : x = 9
        · subst h4; exact .inl ⟨3, 116, by decide, by decide, rfl, by decide⟩
        · refine .inr ⟨esc_out h2 (fun c => by rcases c with c | c | c <;> contradiction), ?_⟩
          unfold esc
          rw [if_neg h1, if_neg h2, if_neg h3, if_neg h4]

set_option maxHeartbeats 1000000 in
theorem comma_any (g : Nat) (l : List UInt8) (i : Nat) (w : World) (h : Bd 70 w g l) (hl : l.length ≤ 1073741824) (hi : i ≤ 1073741824) :
    Calls Try.prog 26 #[.pointer (some ⟨g, 0, none⟩), .int .i64 (i : Int)] w fun e w' => e = .returned (.tuple #[]) ∧ Bd 70 w' g (l ++ if i = 0 then [] else [44]) ∧ Below g w w' ∧ Bk g w w' := by
  have h44 : ((44 : UInt8).toNat : Int) = 44 := rfl
  by_cases h0 : i = 0
  · subst h0
    rw [if_pos rfl, List.append_nil]
    go_enter Try.func26, Try.ntmps26
    go_wp2
    go_end0
    exact ⟨rfl, h, Below.refl _ _, Bk.refl _ _⟩
  · rw [if_neg h0]
    have WC := wbyteK_any 70 (.inr rfl) g l 44 w h hl
    rw [h44] at WC
    have hp : (0 : Int) < (i : Int) := by omega
    go_enter Try.func26, Try.ntmps26
    go_wp2_with fail
    refine WC.mono ?_
    rintro e w1 ⟨rfl, B1, L1⟩
    go_wp2
    go_end0
    exact ⟨rfl, B1, L1⟩

end Go.Proofs.Ytbfhfejdmhjccaa
