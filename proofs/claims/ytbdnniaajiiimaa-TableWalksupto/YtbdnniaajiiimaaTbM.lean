/- Looking up in rising lists of pairs, pure. -/
import Derived.Test.YtbdnniaajiiimaaTbL
namespace Go.Proofs.Ytbdnniaajiiimaa
namespace BT
variable {K : Type} [DecidableEq K]
/-- What lies under k. -/
def look (k : K) : List (K × Int) → Option Int
  | [] => none
  | (a, b) :: r => if a = k then some b else look k r
theorem look_none {k : K} (A : List (K × Int)) (h : ∀ a ∈ A, a.1 ≠ k) : look k A = none := by
  induction A with
  | nil => rfl
  | cons a A ih =>
    obtain ⟨a, b⟩ := a
    rw [look, if_neg (h (a, b) (List.mem_cons_self ..)), ih (fun x hx => h x (List.mem_cons_of_mem _ hx))]
theorem look_pass {k : K} (A B : List (K × Int)) (h : ∀ a ∈ A, a.1 ≠ k) : look k (A ++ B) = look k B := by
  induction A with
  | nil => rfl
  | cons a A ih =>
    obtain ⟨a, b⟩ := a
    rw [List.cons_append, look, if_neg (h (a, b) (List.mem_cons_self ..)), ih (fun x hx => h x (List.mem_cons_of_mem _ hx))]
theorem look_left {k : K} (A B : List (K × Int)) (h : ∀ a ∈ B, a.1 ≠ k) : look k (A ++ B) = look k A := by
  induction A with
  | nil => exact look_none B h
  | cons a A ih =>
    obtain ⟨a, b⟩ := a
    rw [List.cons_append, look, look, ih]

variable {lt : K → K → Bool}
omit [DecidableEq K] in
theorem ne_of_lt (O : Ord lt) {a b : K} (h : lt a b = true) : a ≠ b := fun e => by rw [e, O.irr] at h; exact Bool.noConfusion h

theorem look_ins (O : Ord lt) (k x : K) (v : Int) (L : List (K × Int)) : look x (insL lt k v L) = if k = x then some v else look x L := by
  induction L with
  | nil => rfl
  | cons a L ih =>
    obtain ⟨a, b⟩ := a
    rw [insL]
    by_cases g1 : lt k a = true
    · rw [if_pos g1, look]
    · rw [if_neg g1]
      by_cases g2 : lt a k = true
      · rw [if_pos g2, look, ih, look]
        have := ne_of_lt O g2
        by_cases e : a = x
        · rw [if_pos e, if_pos e, if_neg (fun h => this (e.trans h.symm))]
        · rw [if_neg e, if_neg e]
      · rw [if_neg g2]
        have e := O.tri a k (by simpa using g2) (by simpa using g1)
        subst e
        rw [look, look]
        by_cases e : a = x
        · rw [if_pos e, if_pos e]
        · rw [if_neg e, if_neg e, if_neg e]
theorem look_del (O : Ord lt) (k x : K) (L : List (K × Int)) (h : Srt lt L) : look x (delL lt k L) = if k = x then none else look x L := by
  induction L with
  | nil => unfold delL look; split <;> rfl
  | cons a L ih =>
    obtain ⟨a, b⟩ := a
    unfold Srt at h
    rw [List.pairwise_cons] at h
    obtain ⟨h1, h2⟩ := h
    rw [delL]
    by_cases g1 : lt k a = true
    · rw [if_pos g1]
      by_cases e : k = x
      · rw [if_pos e]
        subst e
        refine look_none _ (fun y hy => ?_)
        rcases List.mem_cons.1 hy with rfl | hy
        · exact fun e => ne_of_lt O g1 e.symm
        · exact fun e => ne_of_lt O (O.tra _ _ _ g1 (h1 y hy)) e.symm
      · rw [if_neg e]
    · rw [if_neg g1]
      by_cases g2 : lt a k = true
      · rw [if_pos g2, look, ih h2, look]
        have := ne_of_lt O g2
        by_cases e : a = x
        · rw [if_pos e, if_pos e, if_neg (fun h => this (e.trans h.symm))]
        · rw [if_neg e, if_neg e]
      · rw [if_neg g2]
        have e := O.tri a k (by simpa using g2) (by simpa using g1)
        subst e
        rw [look]
        by_cases e : a = x
        · rw [if_pos e]
          subst e
          exact look_none _ (fun y hy e => ne_of_lt O (h1 y hy) e.symm)
        · rw [if_neg e, if_neg e]
theorem fnd_look (O : Ord lt) (k : K) (t : BT K) (h : Srt lt t.toL) : (pr (fnd lt k t)).map (·.2) = look k t.toL := by
  induction t with
  | E => rfl
  | N nk nv s l r il ir =>
    obtain ⟨s1, s2, s3, s4⟩ := Srt.parts (show Srt lt (l.toL ++ (nk, nv) :: r.toL) from h)
    rw [fnd]
    show _ = look k (l.toL ++ (nk, nv) :: r.toL)
    by_cases e : nk = k
    · rw [if_pos e]
      subst e
      rw [look_pass _ _ (fun a ha => ne_of_lt O (s3 a ha)), look, if_pos rfl]
      rfl
    · rw [if_neg e]
      by_cases g : lt k nk = true
      · rw [if_pos g, il s1, look_left _ _ (fun a ha => ?_)]
        rcases List.mem_cons.1 ha with rfl | ha
        · exact e
        · exact fun q => ne_of_lt O (O.tra _ _ _ g (s4 a ha)) q.symm
      · rw [if_neg g, ir s2]
        have g2 : lt nk k = true := by
          cases q : lt nk k
          · exact absurd (O.tri nk k q (by simpa using g)) e
          · rfl
        rw [look_pass _ _ (fun a ha => ne_of_lt O (O.tra _ _ _ (s3 a ha) g2)), look, if_neg e]
omit [DecidableEq K] in
theorem mem_ins {k : K} {v : Int} {L : List (K × Int)} {x : K × Int} (h : x ∈ insL lt k v L) : x = (k, v) ∨ x ∈ L := by
  induction L with
  | nil => left; simpa [insL] using h
  | cons a L ih =>
    obtain ⟨a, b⟩ := a
    rw [insL] at h
    by_cases g1 : lt k a = true
    · rw [if_pos g1] at h; simpa using h
    · rw [if_neg g1] at h
      by_cases g2 : lt a k = true
      · rw [if_pos g2] at h
        rcases List.mem_cons.1 h with rfl | h
        · right; exact List.mem_cons_self ..
        · rcases ih h with h | h
          · left; exact h
          · right; exact List.mem_cons_of_mem _ h
      · rw [if_neg g2] at h
        rcases List.mem_cons.1 h with h | h
        · left; exact h
        · right; exact List.mem_cons_of_mem _ h
omit [DecidableEq K] in
theorem ins_srt (O : Ord lt) (k : K) (v : Int) (L : List (K × Int)) (h : Srt lt L) : Srt lt (insL lt k v L) := by
  induction L with
  | nil => unfold insL Srt; simp
  | cons a L ih =>
    obtain ⟨a, b⟩ := a
    have h0 := h
    unfold Srt at h
    rw [List.pairwise_cons] at h
    obtain ⟨h1, h2⟩ := h
    rw [insL]
    by_cases g1 : lt k a = true
    · rw [if_pos g1]
      refine List.pairwise_cons.2 ⟨fun y hy => ?_, h0⟩
      rcases List.mem_cons.1 hy with rfl | hy
      · exact g1
      · exact O.tra _ _ _ g1 (h1 y hy)
    · rw [if_neg g1]
      by_cases g2 : lt a k = true
      · rw [if_pos g2]
        refine List.pairwise_cons.2 ⟨fun y hy => ?_, ih h2⟩
        rcases mem_ins hy with rfl | hy
        · exact g2
        · exact h1 y hy
      · rw [if_neg g2]
        have e := O.tri a k (by simpa using g2) (by simpa using g1)
        subst e
        exact List.pairwise_cons.2 ⟨fun y hy => h1 y hy, h2⟩
omit [DecidableEq K] in
theorem del_sub (k : K) (L : List (K × Int)) : (delL lt k L).Sublist L := by
  induction L with
  | nil => exact List.Sublist.refl _
  | cons a L ih =>
    obtain ⟨a, b⟩ := a
    rw [delL]
    split
    · exact List.Sublist.refl _
    · split
      · exact ih.cons_cons _
      · exact List.sublist_cons_self ..
omit [DecidableEq K] in
theorem del_srt (k : K) (L : List (K × Int)) (h : Srt lt L) : Srt lt (delL lt k L) := List.Pairwise.sublist (del_sub k L) h
theorem look_at (O : Ord lt) {L : List (K × Int)} (h : Srt lt L) : ∀ {i : Nat} {k : K} {v : Int}, L[i]? = some (k, v) → look k L = some v ∧ (L.filter (fun a => lt a.1 k)).length = i := by
  induction L with
  | nil => intro i k v e; cases e
  | cons a L ih =>
    intro i k v e
    obtain ⟨a, b⟩ := a
    unfold Srt at h
    rw [List.pairwise_cons] at h
    obtain ⟨h1, h2⟩ := h
    cases i with
    | zero =>
      obtain ⟨rfl, rfl⟩ : a = k ∧ b = v := by simpa using e
      refine ⟨by rw [look, if_pos rfl], ?_⟩
      rw [List.filter_cons, if_neg (by show ¬ lt a a = true; rw [O.irr]; decide)]
      rw [List.filter_eq_nil_iff.2 (fun y hy q => by
        have := O.asy (h1 y hy)
        simp only at this q
        rw [this] at q; exact Bool.noConfusion q)]
      rfl
    | succ i =>
      rw [List.getElem?_cons_succ] at e
      obtain ⟨i1, i2⟩ := ih h2 e
      have hk := h1 (k, v) (List.mem_of_getElem? e)
      refine ⟨by rw [look, if_neg (ne_of_lt O hk), i1], ?_⟩
      rw [List.filter_cons, if_pos hk, List.length_cons, i2]
end BT
end Go.Proofs.Ytbdnniaajiiimaa
