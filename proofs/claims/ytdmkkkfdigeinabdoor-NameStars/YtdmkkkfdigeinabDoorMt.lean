/- What a pattern fits, by lists. -/
import Derived.WalkKit
namespace Go.Proofs.YtdmkkkfdigeinabDoor

/-- Does the whole of the second list fit the first, in which 42 fits anything and 63 any one byte? -/
def mt : List UInt8 → List UInt8 → Bool
  | [], s => s.isEmpty
  | c :: p, [] => c == 42 && mt p []
  | c :: p, d :: t => if c == 42 then mt p (d :: t) || mt (c :: p) t else (c == 63 || c == d) && mt p t
termination_by p s => p.length + s.length

theorem mt_nil (s : List UInt8) : mt [] s = s.isEmpty := by rw [mt]
theorem mt_star_nil (p : List UInt8) : mt (42 :: p) [] = mt p [] := by rw [mt]; simp
theorem mt_star_cons (p t : List UInt8) (d : UInt8) : mt (42 :: p) (d :: t) = (mt p (d :: t) || mt (42 :: p) t) := by rw [mt]; simp
theorem mt_char_nil (c : UInt8) (p : List UInt8) (h : c ≠ 42) : mt (c :: p) [] = false := by rw [mt]; simp [h]
theorem mt_char_cons (c d : UInt8) (p t : List UInt8) (h : c ≠ 42) : mt (c :: p) (d :: t) = ((c == 63 || c == d) && mt p t) := by rw [mt]; simp [h]

/-- A star fits any beginning. -/
theorem mt_star (p s : List UInt8) : mt (42 :: p) s = true ↔ ∃ k, k ≤ s.length ∧ mt p (s.drop k) = true := by
  induction s with
  | nil => rw [mt_star_nil]; constructor
           · intro h; exact ⟨0, Nat.le_refl _, h⟩
           · rintro ⟨k, hk, h⟩; simpa using h
  | cons d t ih =>
    rw [mt_star_cons, Bool.or_eq_true, ih]
    constructor
    · rintro (h | ⟨k, hk, h⟩)
      · exact ⟨0, Nat.zero_le _, h⟩
      · exact ⟨k + 1, by simp; omega, by simpa using h⟩
    · rintro ⟨k, hk, h⟩
      cases k with
      | zero => left; simpa using h
      | succ k => right; exact ⟨k, by simp at hk; omega, by simpa using h⟩

/-- Two patterns one behind the other. -/
theorem mt_append (p q s : List UInt8) : mt (p ++ q) s = true ↔ ∃ k, k ≤ s.length ∧ mt p (s.take k) = true ∧ mt q (s.drop k) = true := by
  induction p generalizing s with
  | nil =>
    rw [List.nil_append]
    constructor
    · intro h; exact ⟨0, Nat.zero_le _, by simp [mt_nil], by simpa using h⟩
    · rintro ⟨k, hk, h1, h2⟩
      rw [mt_nil] at h1
      have : k = 0 ∨ s = [] := by
        cases s with
        | nil => right; rfl
        | cons a t => left; cases k with
          | zero => rfl
          | succ k => simp at h1
      rcases this with rfl | rfl
      · simpa using h2
      · simpa using h2
  | cons c p ih =>
    rw [List.cons_append]
    by_cases hc : c = 42
    · subst hc
      rw [mt_star]
      constructor
      · rintro ⟨j, hj, h⟩
        obtain ⟨k, hk, h1, h2⟩ := (ih _).1 h
        rw [List.length_drop] at hk
        refine ⟨j + k, by omega, (mt_star _ _).2 ⟨j, by rw [List.length_take]; omega, ?_⟩, ?_⟩
        · rw [List.drop_take, show j + k - j = k by omega]; exact h1
        · rw [List.drop_drop] at h2; exact h2
      · rintro ⟨k, hk, h1, h2⟩
        obtain ⟨j, hj, h1⟩ := (mt_star _ _).1 h1
        rw [List.length_take] at hj
        refine ⟨j, by omega, (ih _).2 ⟨k - j, by rw [List.length_drop]; omega, ?_, ?_⟩⟩
        · rw [List.drop_take] at h1; exact h1
        · rw [List.drop_drop, show j + (k - j) = k by omega]; exact h2
    · cases s with
      | nil =>
        rw [mt_char_nil _ _ hc]
        constructor
        · intro h; cases h
        · rintro ⟨k, hk, h1, h2⟩; rw [List.take_nil, mt_char_nil _ _ hc] at h1; exact h1
      | cons d t =>
        rw [mt_char_cons _ _ _ _ hc, Bool.and_eq_true, ih]
        constructor
        · rintro ⟨h0, k, hk, h1, h2⟩
          exact ⟨k + 1, by simp; omega, by rw [List.take_succ_cons, mt_char_cons _ _ _ _ hc, h0, h1]; rfl, by simpa using h2⟩
        · rintro ⟨k, hk, h1, h2⟩
          cases k with
          | zero => rw [List.take_zero, mt_char_nil _ _ hc] at h1; cases h1
          | succ k =>
            rw [List.take_succ_cons, mt_char_cons _ _ _ _ hc, Bool.and_eq_true] at h1
            exact ⟨h1.1, k, by simp at hk; omega, h1.2, by simpa using h2⟩

/-- One byte more of the pattern. -/
theorem mt_one (c : UInt8) (s : List UInt8) (hc : c ≠ 42) : mt [c] s = true ↔ ∃ d, s = [d] ∧ (c == 63 || c == d) = true := by
  cases s with
  | nil => rw [mt_char_nil _ _ hc]; simp
  | cons d t =>
    rw [mt_char_cons _ _ _ _ hc, mt_nil, Bool.and_eq_true]
    constructor
    · rintro ⟨h, h2⟩; cases t with
      | nil => exact ⟨d, rfl, h⟩
      | cons _ _ => simp at h2
    · rintro ⟨x, hx, h⟩
      simp at hx
      obtain ⟨rfl, rfl⟩ := hx
      exact ⟨h, rfl⟩
theorem mt_any (s : List UInt8) : mt [42] s = true := (mt_star _ _).2 ⟨s.length, Nat.le_refl _, by simp [mt_nil]⟩
theorem mt_quest (s : List UInt8) : mt [63] s = decide (s.length = 1) := by
  rw [Bool.eq_iff_iff, mt_one _ _ (by decide)]
  simp
  constructor
  · rintro ⟨d, rfl⟩; rfl
  · intro h; cases s with
    | nil => simp at h
    | cons a t => cases t with
      | nil => exact ⟨a, rfl⟩
      | cons _ _ => simp at h
theorem mt_stars (p : List UInt8) : mt p [] = p.all (· == 42) := by
  induction p with
  | nil => rw [mt_nil]; rfl
  | cons c p ih => rw [mt, ih, List.all_cons]

/-- The bytes between the last star and here. -/
theorem mt_seg (g q s : List UInt8) (hg : ∀ c ∈ g, c ≠ 42) (h : mt (g ++ q) s = true) : g.length ≤ s.length ∧ mt q (s.drop g.length) = true := by
  induction g generalizing s with
  | nil => exact ⟨Nat.zero_le _, by simpa using h⟩
  | cons c g ih =>
    have hc : c ≠ 42 := hg c (by simp)
    cases s with
    | nil => rw [List.cons_append, mt_char_nil _ _ hc] at h; cases h
    | cons d t =>
      rw [List.cons_append, mt_char_cons _ _ _ _ hc, Bool.and_eq_true] at h
      obtain ⟨a, b⟩ := ih t (fun x hx => hg x (by simp [hx])) h.2
      exact ⟨by simp; omega, by simpa using b⟩

/-- What a search that has come to at, fr, whose last star stands ahead of be and fits up to en, still may find. -/
def may (p s : List UInt8) (a f b e : Nat) : Prop := mt (p.drop a) (s.drop f) = true ∨ (∃ k, e < k ∧ k ≤ s.length ∧ mt (p.drop b) (s.drop k) = true)

theorem drop_eq (l : List UInt8) (a b : Nat) (h : b ≤ a) : l.drop b = (l.drop b).take (a - b) ++ l.drop a := by
  rw [show l.drop a = (l.drop b).drop (a - b) by rw [List.drop_drop]; congr 1; omega, List.take_append_drop]

theorem may_star (p s : List UInt8) (a f b e : Nat) (hb : b ≤ a) (he : f = e + (a - b)) (hf : f ≤ s.length) (hg : ∀ c ∈ (p.drop b).take (a - b), c ≠ 42) (ha : a < p.length) (hc : p[a] = 42) :
    may p s a f b e ↔ may p s (a + 1) f (a + 1) f := by
  have hd : p.drop a = 42 :: p.drop (a + 1) := by rw [List.drop_eq_getElem_cons ha, hc]
  have key : mt (p.drop a) (s.drop f) = true ↔ may p s (a + 1) f (a + 1) f := by
    unfold may
    rw [hd, mt_star]
    constructor
    · rintro ⟨k, hk, h⟩
      rw [List.length_drop] at hk
      rw [List.drop_drop] at h
      by_cases h0 : k = 0
      · subst h0; left; exact h
      · right; exact ⟨f + k, by omega, by omega, h⟩
    · rintro (h | ⟨k, h1, h2, h⟩)
      · exact ⟨0, Nat.zero_le _, by simpa using h⟩
      · exact ⟨k - f, by rw [List.length_drop]; omega, by rw [List.drop_drop, show f + (k - f) = k by omega]; exact h⟩
  rw [← key]
  constructor
  · rintro (h | ⟨k, h1, h2, h⟩)
    · exact h
    · rw [drop_eq p a b hb] at h
      obtain ⟨g1, g2⟩ := mt_seg _ _ _ hg h
      rw [List.length_take, List.length_drop, Nat.min_eq_left (by omega), List.length_drop] at g1
      rw [List.length_take, List.length_drop, Nat.min_eq_left (by omega), List.drop_drop, hd, mt_star] at g2
      obtain ⟨j, j1, j2⟩ := g2
      rw [List.length_drop] at j1
      rw [List.drop_drop] at j2
      rw [hd, mt_star]
      exact ⟨k + (a - b) + j - f, by rw [List.length_drop]; omega, by rw [List.drop_drop, show f + (k + (a - b) + j - f) = k + (a - b) + j by omega]; exact j2⟩
  · intro h; exact Or.inl h

theorem may_end (p s : List UInt8) (a f b e : Nat) (hb : b ≤ a) (hap : a ≤ p.length) (he : f = e + (a - b)) (hf : f = s.length) (hg : ∀ c ∈ (p.drop b).take (a - b), c ≠ 42) :
    may p s a f b e ↔ (p.drop a).all (· == 42) = true := by
  unfold may
  rw [← mt_stars, show s.drop f = [] by rw [hf]; exact List.drop_length]
  constructor
  · rintro (h | ⟨k, h1, h2, h⟩)
    · exact h
    · rw [drop_eq p a b hb] at h
      obtain ⟨g1, g2⟩ := mt_seg _ _ _ hg h
      rw [List.length_take, List.length_drop, Nat.min_eq_left (by omega), List.length_drop] at g1
      omega
  · intro h; exact Or.inl h

theorem may_char (p s : List UInt8) (a f b e : Nat) (ha : a < p.length) (hf : f < s.length) (hc : p[a] ≠ 42) (h : (p[a] == 63 || p[a] == s[f]) = true) :
    may p s a f b e ↔ may p s (a + 1) (f + 1) b e := by
  unfold may
  rw [List.drop_eq_getElem_cons ha, List.drop_eq_getElem_cons hf, mt_char_cons _ _ _ _ hc, h, Bool.true_and]

theorem may_miss (p s : List UInt8) (a f b e : Nat) (hf : f < s.length) (he : e < s.length) (h : a = p.length ∨ ∃ ha : a < p.length, p[a] ≠ 42 ∧ (p[a] == 63 || p[a] == s[f]) = false) :
    may p s a f b e ↔ may p s b (e + 1) b (e + 1) := by
  have h0 : mt (p.drop a) (s.drop f) = false := by
    rw [List.drop_eq_getElem_cons hf]
    rcases h with rfl | ⟨ha, hc, h⟩
    · rw [List.drop_length, mt_nil]; rfl
    · rw [List.drop_eq_getElem_cons ha, mt_char_cons _ _ _ _ hc, h]; rfl
  unfold may
  rw [h0]
  constructor
  · rintro (h | ⟨k, h1, h2, h⟩)
    · cases h
    · by_cases hk : k = e + 1
      · subst hk; left; exact h
      · right; exact ⟨k, by omega, h2, h⟩
  · rintro (h | ⟨k, h1, h2, h⟩)
    · right; exact ⟨e + 1, by omega, by omega, h⟩
    · right; exact ⟨k, by omega, h2, h⟩

theorem mt_miss (p s : List UInt8) (a f : Nat) (hf : f < s.length) (h : a = p.length ∨ ∃ ha : a < p.length, p[a] ≠ 42 ∧ (p[a] == 63 || p[a] == s[f]) = false) : mt (p.drop a) (s.drop f) = false := by
  rw [List.drop_eq_getElem_cons hf]
  rcases h with rfl | ⟨ha, hc, h⟩
  · rw [List.drop_length, mt_nil]; rfl
  · rw [List.drop_eq_getElem_cons ha, mt_char_cons _ _ _ _ hc, h]; rfl
theorem mt_hit (p s : List UInt8) (a f : Nat) (ha : a < p.length) (hf : f < s.length) (hc : p[a] ≠ 42) (h : (p[a] == 63 || p[a] == s[f]) = true) : mt (p.drop a) (s.drop f) = mt (p.drop (a + 1)) (s.drop (f + 1)) := by
  rw [List.drop_eq_getElem_cons ha, List.drop_eq_getElem_cons hf, mt_char_cons _ _ _ _ hc, h, Bool.true_and]
theorem mt_first (p s : List UInt8) (a f : Nat) (hf : f ≤ s.length) (ha : a < p.length) (hc : p[a] = 42) : mt (p.drop a) (s.drop f) = true ↔ may p s (a + 1) f (a + 1) f := by
  have := may_star p s a f a f (Nat.le_refl _) (by omega) hf (by simp) ha hc
  rw [← this]
  unfold may
  constructor
  · exact Or.inl
  · rintro (h | ⟨k, h1, h2, h⟩)
    · exact h
    · have hd : p.drop a = 42 :: p.drop (a + 1) := by rw [List.drop_eq_getElem_cons ha, hc]
      rw [hd, mt_star] at h ⊢
      obtain ⟨j, j1, j2⟩ := h
      rw [List.length_drop] at j1
      rw [List.drop_drop] at j2
      exact ⟨k + j - f, by rw [List.length_drop]; omega, by rw [List.drop_drop, show f + (k + j - f) = k + j by omega]; exact j2⟩
theorem mt_ex1 : mt [97, 42, 63] [97, 98, 99] = true := by simp [mt]
theorem mt_ex2 : mt [97, 42, 63] [97] = false := by simp [mt]
#print axioms may_end
end Go.Proofs.YtdmkkkfdigeinabDoor
