/- depotref14's Found, walked (own text of the verifier). -/
import Derived.Test.YtojefckhefanhabSaF
namespace Go.Proofs.Ytojefckhefanhab
open Go.RowKit
namespace Sc

def cand (O : List (List UInt8)) (T h : List UInt8) : Prop := (∀ o ∈ O, o < h) ∧ occ h T
/-- The least candidate among the first i. -/
def IL (O : List (List UInt8)) (T : List UInt8) (H : List (List UInt8)) (i : Nat) (l : List UInt8) : Prop :=
  (l = [] ∧ ∀ j h, j < i → H[j]? = some h → ¬ cand O T h) ∨ (l ≠ [] ∧ l ∈ H ∧ cand O T l ∧ ∀ j h, j < i → H[j]? = some h → cand O T h → ¬ h < l)
theorem IL.start (O : List (List UInt8)) (T : List UInt8) (H : List (List UInt8)) : IL O T H 0 [] := .inl ⟨rfl, fun j h hj => absurd hj (by omega)⟩
theorem IL.skip {O : List (List UInt8)} {T : List UInt8} {H : List (List UInt8)} {i : Nat} {l h : List UInt8} (I : IL O T H i l) (hi : H[i]? = some h) (hn : ¬ cand O T h ∨ (l ≠ [] ∧ ¬ h < l)) : IL O T H (i + 1) l := by
  rcases I with ⟨h1, h2⟩ | ⟨h0, h1, h2, h3⟩
  · refine .inl ⟨h1, fun j g hj hg => ?_⟩
    by_cases e : j = i
    · subst e; rw [hi] at hg; injection hg with hg; subst hg
      rcases hn with hn | hn
      · exact hn
      · exact absurd h1 hn.1
    · exact h2 j g (by omega) hg
  · refine .inr ⟨h0, h1, h2, fun j g hj hg hc => ?_⟩
    by_cases e : j = i
    · subst e; rw [hi] at hg; injection hg with hg; subst hg
      rcases hn with hn | hn
      · exact absurd hc hn
      · exact hn.2
    · exact h3 j g (by omega) hg hc
theorem IL.take {O : List (List UInt8)} {T : List UInt8} {H : List (List UInt8)} {i : Nat} {l h : List UInt8} (I : IL O T H i l) (hi : H[i]? = some h) (hh : h ≠ []) (hc : cand O T h) (hl : l = [] ∨ h < l) : IL O T H (i + 1) h := by
  refine .inr ⟨hh, List.mem_of_getElem? hi, hc, fun j g hj hg hcg => ?_⟩
  by_cases e : j = i
  · subst e; rw [hi] at hg; injection hg with hg; subst hg; exact List.lt_irrefl _
  · rcases I with ⟨h1, h2⟩ | ⟨h0, h1, h2, h3⟩
    · exact absurd hcg (h2 j g (by omega) hg)
    · intro hlt
      rcases hl with hl | hl
      · exact h0 hl
      · exact h3 j g (by omega) hg hcg (List.lt_trans hlt hl)
/-- What was gathered so far. -/
structure OI (O : List (List UInt8)) (T : List UInt8) (H : List (List UInt8)) : Prop where
  up : O.Pairwise (fun a b => a < b)
  mem : ∀ o ∈ O, o ∈ H ∧ occ o T
  rest : ∀ h ∈ H, occ h T → h ∈ O ∨ ∀ o ∈ O, o < h
theorem OI.start (T : List UInt8) (H : List (List UInt8)) : OI [] T H := ⟨List.Pairwise.nil, fun o h => (by cases h), fun h _ _ => .inr (fun o ho => by cases ho)⟩
theorem OI.more {O : List (List UInt8)} {T : List UInt8} {H : List (List UInt8)} {l : List UInt8} (I : OI O T H) (J : IL O T H H.length l) (hl : l ≠ []) : OI (O ++ [l]) T H := by
  rcases J with ⟨h1, _⟩ | ⟨_, h1, h2, h3⟩
  · exact absurd h1 hl
  refine ⟨List.pairwise_append.2 ⟨I.up, List.pairwise_singleton _ _, fun a ha b hb => by rw [List.mem_singleton] at hb; subst hb; exact h2.1 a ha⟩, fun o ho => ?_, fun h hh hc => ?_⟩
  · rcases List.mem_append.1 ho with ho | ho
    · exact I.mem o ho
    · rw [List.mem_singleton] at ho; subst ho; exact ⟨h1, h2.2⟩
  · rcases I.rest h hh hc with r | r
    · exact .inl (List.mem_append.2 (.inl r))
    · obtain ⟨j, hj, e⟩ := List.getElem_of_mem hh
      have h4 := h3 j h hj (by rw [List.getElem?_eq_getElem hj, e]) ⟨r, hc⟩
      rcases List.le_iff_lt_or_eq.1 (List.not_lt.1 h4) with r2 | r2
      · refine .inr (fun o ho => ?_)
        rcases List.mem_append.1 ho with ho | ho
        · exact r o ho
        · rw [List.mem_singleton] at ho; subst ho; exact r2
      · exact .inl (List.mem_append.2 (.inr (by rw [r2]; simp)))
theorem OI.done {O : List (List UInt8)} {T : List UInt8} {H : List (List UInt8)} (I : OI O T H) (J : IL O T H H.length []) (h : List UInt8) : h ∈ O ↔ h ∈ H ∧ occ h T := by
  refine ⟨I.mem h, fun ⟨h1, h2⟩ => ?_⟩
  rcases J with ⟨_, h3⟩ | ⟨h0, _⟩
  · rcases I.rest h h1 h2 with r | r
    · exact r
    · obtain ⟨j, hj, e⟩ := List.getElem_of_mem h1
      exact absurd ⟨r, h2⟩ (h3 j h hj (by rw [List.getElem?_eq_getElem hj, e]))
  · exact absurd rfl h0
theorem nodup_sub : ∀ (O H : List (List UInt8)), O.Nodup → (∀ o ∈ O, o ∈ H) → O.length ≤ H.length := by
  intro O
  induction O with
  | nil => intro H _ _; exact Nat.zero_le _
  | cons a l ih =>
    intro H nd hs
    have ha := hs a (by simp)
    have h1 := ih (H.erase a) (List.nodup_cons.1 nd).2 (fun o ho => (List.mem_erase_of_ne (fun e => by subst e; exact (List.nodup_cons.1 nd).1 ho)).2 (hs o (by simp [ho])))
    rw [List.length_erase_of_mem ha] at h1
    have := List.length_pos_of_mem ha
    rw [List.length_cons]
    omega
theorem OI.len {O : List (List UInt8)} {T : List UInt8} {H : List (List UInt8)} (I : OI O T H) : O.length ≤ H.length :=
  nodup_sub O H (I.up.imp (fun {a b} h e => by subst e; exact List.lt_irrefl _ h)) (fun o ho => (I.mem o ho).1)
/-- Behind the last one is behind all. -/
theorem OI.last {O : List (List UInt8)} {T : List UInt8} {H : List (List UInt8)} (I : OI O T H) {m : Nat} {l : List UInt8} (hm : O.length = m + 1) (hl : O[m]? = some l) (h : List UInt8) : (∀ o ∈ O, o < h) ↔ l < h := by
  refine ⟨fun q => q l (List.mem_of_getElem? hl), fun q o ho => ?_⟩
  obtain ⟨j, hj, e⟩ := List.getElem_of_mem ho
  have hmm : O[m]'(by omega) = l := by rw [List.getElem?_eq_getElem (by omega)] at hl; injection hl
  by_cases hjm : j = m
  · subst hjm; rw [← e, hmm]; exact q
  · have := List.pairwise_iff_getElem.1 I.up j m hj (by omega) (by omega)
    rw [e, hmm] at this
    exact List.lt_trans this q
theorem app_text (W : World) (B : Nat) (v : Value) (F : List (List UInt8)) (l : List UInt8) (hr : W.ownsRow B 9 1 v F.length (tv_ F)) (hB : B ≤ W.heap.size) (hl : F.length ≤ 268435456) :
    ∃ v' W2, (Builtin.append_ #[23, 23] 23 #[v, .slice (some ⟨W.heap.size, 0, none⟩) 1 1]).run Try.prog (W.alloc (.cells #[.string (ba l)] 9)) = .ok v' W2 ∧ W2.ownsRow B 9 1 v' (F ++ [l]).length (tv_ (F ++ [l])) ∧ W.grownBy W2 v.ownBlock := by
  obtain ⟨i0, hi, hz0, hz1, hz2⟩ := info_parts info9
  obtain ⟨v', w2, h1, h2, h3, _, _⟩ := run_append_own_at (P := Try.prog) (W.alloc (.cells #[.string (ba l)] 9)) B 23 23 9 i0 (.string ⟨#[]⟩) 1 16 und22 hi hz0 hz1 hz2 rfl (by decide) v F.length (tv_ F) (hr.alloc _) ⟨W.heap.size, 0, none⟩ 1 1 [.string (ba l)] rfl (fun j u hj =>
      match j, hj with
      | 0, hj => by simp at hj; subst hj; exact (World.cell?_alloc_new W _ _ 0).trans rfl) (by intro u hu; simp at hu; subst hu; rfl) (by unfold maxLen; omega) (by omega) (by rw [World.size_alloc]; omega)
  refine ⟨v', w2, h1, ?_, (World.grownBy_alloc W _ _).trans h3⟩
  rw [List.length_append, show tv_ (F ++ [l]) = tv_ F ++ [.string (ba l)] by unfold tv_; simp]
  exact h2
theorem tv_cell {W : World} {B : Nat} {v : Value} {O : List (List UInt8)} (hr : W.ownsRow B 9 1 v O.length (tv_ O)) {m : Nat} {l : List UInt8} (hl : O[m]? = some l) : ∃ b c, v = .slice (some ⟨b, 0, none⟩) O.length c ∧ W.cell? ⟨b, m, none⟩ = some (.string (ba l)) := by
  have h0 := hr
  rcases hr.2 with ⟨rfl, e0⟩ | ⟨b, cap, cur, rfl, hBb, hb, h1, _, h3, h4⟩
  · have := (List.getElem?_eq_some_iff.1 hl).1
    omega
  · refine ⟨b, cap, rfl, ?_⟩
    have := World.ownsRow.cells (g := b) h0 rfl m (.string (ba l)) (by unfold tv_; rw [List.getElem?_map, hl]; rfl)
    rw [Addr.add_lit, Nat.zero_add] at this
    exact this
theorem le_last (s l : List UInt8) : (Op.bytesLess s l || s == l) = !decide (l < s) := by
  rw [bytesLess_eq]
  by_cases h : l < s
  · have h1 : ¬ s < l := fun q => List.lt_irrefl _ (List.lt_trans h q)
    have h2 : s ≠ l := fun q => by subst q; exact List.lt_irrefl _ h
    simp [h, h1, h2]
  · rcases List.le_iff_lt_or_eq.1 (List.not_lt.1 h) with r | r
    · simp [h, r]
    · subst r; simp [h]

end Sc
end Go.Proofs.Ytojefckhefanhab
