/- Rewriting, plain: what stands between the places (own text of the verifier). -/
import Derived.Test.YtojefckhefanhabSaE
namespace Go.Proofs.Ytojefckhefanhab
namespace Sc

theorem pl_nil_rw {f : List UInt8} (t : List UInt8) (hf : f.length = 32) : ∀ (n : Nat) (l : List UInt8), l.length ≤ n → ∀ o, pl f o l = [] → rw' f t l = l ∧ ¬ occ f l := by
  intro n
  induction n with
  | zero =>
    intro l hl o _
    obtain rfl : l = [] := List.eq_nil_of_length_eq_zero (by omega)
    refine ⟨rw_short (by simp), fun ⟨p, hp⟩ => ?_⟩
    have := win_full (l := ([] : List UInt8)) (p := p) (by rw [hp]; exact hf)
    simp at this
  | succ n ih =>
    intro l hl o h
    by_cases h0 : l.length < 32
    · refine ⟨rw_short h0, fun ⟨p, hp⟩ => ?_⟩
      have := win_full (l := l) (p := p) (by rw [hp]; exact hf)
      omega
    · by_cases hw : l.take 32 = f
      · rw [pl_hit hw (by omega)] at h
        cases h
      · rw [pl_miss hw hf (by omega)] at h
        obtain ⟨h1, h2⟩ := ih (l.drop 1) (by rw [List.length_drop]; omega) (o + 1) h
        refine ⟨by rw [rw_miss hw hf (by omega), h1, List.take_append_drop], ?_⟩
        rintro ⟨p, hp⟩
        match p, hp with
        | 0, hp => exact hw (by rw [← hp]; unfold win; rw [List.drop_zero])
        | p + 1, hp => exact h2 ⟨p, by rw [win_drop, Nat.add_comm]; exact hp⟩
theorem pl_cons_rw {f : List UInt8} (t : List UInt8) (hf : f.length = 32) : ∀ (n : Nat) (l : List UInt8), l.length ≤ n → ∀ o p rest, pl f o l = p :: rest → ∃ q, p = o + q ∧ q + 32 ≤ l.length ∧ win l q = f ∧ rw' f t l = l.take q ++ (t ++ rw' f t (l.drop (q + 32))) ∧ pl f (p + 32) (l.drop (q + 32)) = rest := by
  intro n
  induction n with
  | zero =>
    intro l hl o p rest h
    rw [pl_short (by omega)] at h
    cases h
  | succ n ih =>
    intro l hl o p rest h
    by_cases h0 : l.length < 32
    · rw [pl_short h0] at h
      cases h
    · by_cases hw : l.take 32 = f
      · rw [pl_hit hw (by omega)] at h
        injection h with e1 e2
        refine ⟨0, e1.symm, by omega, by unfold win; rw [List.drop_zero]; exact hw, ?_, by rw [← e1, Nat.zero_add]; exact e2⟩
        rw [rw_hit hw (by omega), List.take_zero, List.nil_append, Nat.zero_add]
      · rw [pl_miss hw hf (by omega)] at h
        obtain ⟨q, h1, h2, h3, h4, h5⟩ := ih (l.drop 1) (by rw [List.length_drop]; omega) (o + 1) p rest h
        rw [List.length_drop] at h2
        refine ⟨q + 1, by omega, by omega, by rw [win_drop, Nat.add_comm] at h3; exact h3, ?_, ?_⟩
        · rw [rw_miss hw hf (by omega), h4, List.drop_drop, show 1 + (q + 32) = q + 1 + 32 by omega, ← List.append_assoc, Nat.add_comm q 1, List.take_add]
        · rw [List.drop_drop, show 1 + (q + 32) = q + 1 + 32 by omega] at h5
          exact h5
theorem pl_occ {f : List UInt8} (hf : f.length = 32) (l : List UInt8) (o : Nat) : pl f o l ≠ [] ↔ occ f l := by
  constructor
  · intro h
    match hp : pl f o l, h with
    | p :: rest, _ =>
      obtain ⟨q, _, _, h3, _⟩ := pl_cons_rw [] hf _ l (Nat.le_refl _) o p rest hp
      exact ⟨q, h3⟩
  · intro h e
    exact (pl_nil_rw [] hf _ l (Nat.le_refl _) o e).2 h
/-- Between the places: the texts as slices. -/
theorem between {l g t f : List UInt8} {A q : Nat} (_hA : A ≤ l.length) (hq : q + 32 ≤ l.length - A) (ht : t.length = 32) (hg : g.drop A = (l.drop A).take q ++ (t ++ rw' f t (l.drop (A + (q + 32))))) :
    (g.take (A + q)).drop A = (l.take (A + q)).drop A ∧ win g (A + q) = t ∧ g.drop (A + q + 32) = rw' f t (l.drop (A + q + 32)) := by
  have hlq : ((l.drop A).take q).length = q := by rw [List.length_take, List.length_drop]; omega
  refine ⟨?_, ?_, ?_⟩
  · rw [List.drop_take, List.drop_take, hg, Nat.add_sub_cancel_left, List.take_append_of_le_length (by omega), List.take_of_length_le (by omega)]
  · unfold win
    rw [← List.drop_drop, hg, List.drop_append_of_le_length (by omega), List.drop_of_length_le (by omega), List.nil_append, List.take_append_of_le_length (by omega), List.take_of_length_le (by omega)]
  · rw [Nat.add_assoc, ← List.drop_drop, hg, ← List.append_assoc, List.drop_append_of_le_length (by rw [List.length_append]; omega), List.drop_of_length_le (by rw [List.length_append]; omega), List.nil_append]
end Sc
end Go.Proofs.Ytojefckhefanhab
