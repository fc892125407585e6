/- Scan, plain: rising lists (own text of the verifier). -/
import Derived.Test.YtojefckhefanhabScQ
namespace Go.Proofs.Ytojefckhefanhab
namespace Sc

/-- Two rising lists with the same members are one. -/
theorem rising_one {α : Type} {lt : α → α → Prop} (irr : ∀ a, ¬ lt a a) (tra : ∀ a b c, lt a b → lt b c → lt a c) : ∀ (l m : List α), l.Pairwise lt → m.Pairwise lt → (∀ x, x ∈ l ↔ x ∈ m) → l = m
  | [], [], _, _, _ => rfl
  | [], b :: m, _, _, h => absurd ((h b).2 (List.mem_cons_self ..)) (by simp)
  | a :: l, [], _, _, h => absurd ((h a).1 (List.mem_cons_self ..)) (by simp)
  | a :: l, b :: m, hl, hm, h => by
    obtain ⟨ha, hl'⟩ := List.pairwise_cons.1 hl
    obtain ⟨hb, hm'⟩ := List.pairwise_cons.1 hm
    have e : a = b := by
      rcases List.mem_cons.1 ((h a).1 (List.mem_cons_self ..)) with e | h1
      · exact e
      · rcases List.mem_cons.1 ((h b).2 (List.mem_cons_self ..)) with e | h2
        · exact e.symm
        · exact absurd (tra _ _ _ (hb a h1) (ha b h2)) (irr b)
    subst e
    rw [rising_one irr tra l m hl' hm' fun x => ?_]
    constructor
    · intro hx
      rcases List.mem_cons.1 ((h x).1 (List.mem_cons_of_mem _ hx)) with e | h1
      · subst e; exact absurd (ha x hx) (irr x)
      · exact h1
    · intro hx
      rcases List.mem_cons.1 ((h x).2 (List.mem_cons_of_mem _ hx)) with e | h1
      · subst e; exact absurd (hb x hx) (irr x)
      · exact h1
/-- What a scanner has found: each sought hash that stands in the text, once. -/
structure FS (H : List (List UInt8)) (A : List UInt8) (F : List (List UInt8)) : Prop where
  nd : F.Nodup
  mem : ∀ h, h ∈ F ↔ h ∈ H ∧ occ h A
/-- In the midst of a text: found before a place, and still sought. -/
structure FB (H : List (List UInt8)) (A : List UInt8) (P : Nat) (F S : List (List UInt8)) : Prop where
  nd : F.Nodup
  mem : ∀ h, h ∈ F ↔ h ∈ H ∧ occB h A P
  sgt : ∀ h, h ∈ S ↔ h ∈ H ∧ ¬ occB h A P
theorem FB.step_no {H : List (List UInt8)} {A : List UInt8} {P : Nat} {F S : List (List UInt8)} (h : FB H A P F S) (hn : win A P ∉ S) : FB H A (P + 1) F S := by
  have key : ∀ g, g ∈ H → (occB g A (P + 1) ↔ occB g A P) := fun g hg => by
    rw [occB_succ]
    constructor
    · rintro (h1 | h1)
      · exact h1
      · by_cases h2 : occB g A P
        · exact h2
        · exact absurd ((h.sgt g).2 ⟨hg, h2⟩) (by rw [← h1]; exact hn)
    · exact .inl
  exact ⟨h.nd, fun g => (h.mem g).trans ⟨fun ⟨a, b⟩ => ⟨a, (key g a).2 b⟩, fun ⟨a, b⟩ => ⟨a, (key g a).1 b⟩⟩, fun g => (h.sgt g).trans ⟨fun ⟨a, b⟩ => ⟨a, fun c => b ((key g a).1 c)⟩, fun ⟨a, b⟩ => ⟨a, fun c => b ((key g a).2 c)⟩⟩⟩
theorem FB.step_yes {H : List (List UInt8)} {A : List UInt8} {P : Nat} {F S S' : List (List UInt8)} (h : FB H A P F S) (hn : win A P ∈ S) (hS : ∀ g, g ∈ S' ↔ g ∈ S ∧ g ≠ win A P) : FB H A (P + 1) (F ++ [win A P]) S' := by
  have h0 := (h.sgt _).1 hn
  refine ⟨?_, fun g => ?_, fun g => ?_⟩
  · rw [List.nodup_append]
    refine ⟨h.nd, by simp, fun a ha b hb e => ?_⟩
    rw [List.mem_singleton] at hb
    subst e; subst hb
    exact h0.2 ((h.mem _).1 ha).2
  · rw [List.mem_append, List.mem_singleton, h.mem g, occB_succ]
    constructor
    · rintro (⟨a, b⟩ | e)
      · exact ⟨a, .inl b⟩
      · exact ⟨by rw [e]; exact h0.1, .inr e.symm⟩
    · rintro ⟨a, b | b⟩
      · exact .inl ⟨a, b⟩
      · exact .inr b.symm
  · rw [hS g, h.sgt g, occB_succ]
    constructor
    · rintro ⟨⟨a, b⟩, c⟩
      exact ⟨a, fun d => d.elim b fun e => c e.symm⟩
    · rintro ⟨a, b⟩
      exact ⟨⟨a, fun d => b (.inl d)⟩, fun e => b (.inr e.symm)⟩
theorem FB.step_bad {L : UInt8 → Prop} {H : List (List UInt8)} {A : List UInt8} {P : Nat} {F S : List (List UInt8)} (h : FB H A P F S) (hH : ∀ g ∈ H, isH L g) (hb : bad L A P) : FB H A (P + 1) F S :=
  h.step_no fun hm => bad_not hb (hH _ ((h.sgt _).1 hm).1) rfl

end Sc
end Go.Proofs.Ytojefckhefanhab
