/- A table's trees as rising lists of pairs, pure. -/
import Derived.Test.YtbdnniaajiiimaaTbQ
namespace Go.Proofs.Ytbdnniaajiiimaa
namespace BT
variable {K : Type} (lt : K → K → Bool)

/-- A strict order in which two keys that don't stand ahead of each other are one. -/
structure Ord : Prop where
  irr : ∀ a, lt a a = false
  tra : ∀ a b c, lt a b = true → lt b c = true → lt a c = true
  tri : ∀ a b, lt a b = false → lt b a = false → a = b
theorem Ord.asy {lt : K → K → Bool} (h : Ord lt) {a b : K} (g : lt a b = true) : lt b a = false := by
  cases e : lt b a
  · rfl
  · have := h.tra a b a g e; rw [h.irr] at this; exact this.symm ▸ rfl

/-- The list rises. -/
def Srt (L : List (K × Int)) : Prop := L.Pairwise (fun a b => lt a.1 b.1 = true)
/-- v under k, in a list. -/
def insL (k : K) (v : Int) : List (K × Int) → List (K × Int)
  | [] => [(k, v)]
  | (a, b) :: r => if lt k a = true then (k, v) :: (a, b) :: r else if lt a k = true then (a, b) :: insL k v r else (k, v) :: r
/-- Nothing under k, in a list. -/
def delL (k : K) : List (K × Int) → List (K × Int)
  | [] => []
  | (a, b) :: r => if lt k a = true then (a, b) :: r else if lt a k = true then (a, b) :: delL k r else r

theorem insL_left {k nk : K} {v nv : Int} (h : lt k nk = true) (A B : List (K × Int)) : insL lt k v (A ++ (nk, nv) :: B) = insL lt k v A ++ (nk, nv) :: B := by
  induction A with
  | nil => simp [insL, h]
  | cons a A ih =>
    obtain ⟨a, b⟩ := a
    simp only [List.cons_append, insL]
    by_cases g1 : lt k a = true
    · simp [g1]
    · by_cases g2 : lt a k = true
      · simp [g1, g2, ih]
      · simp [g1, g2]
theorem insL_pass {k : K} {v : Int} (A B : List (K × Int)) (h : ∀ a ∈ A, lt a.1 k = true ∧ lt k a.1 = false) : insL lt k v (A ++ B) = A ++ insL lt k v B := by
  induction A with
  | nil => rfl
  | cons a A ih =>
    obtain ⟨a, b⟩ := a
    obtain ⟨g1, g2⟩ := h (a, b) (List.mem_cons_self ..)
    simp only at g1 g2
    simp only [List.cons_append, insL]
    rw [if_neg (by rw [g2]; decide), if_pos g1, ih (fun x hx => h x (List.mem_cons_of_mem _ hx))]
theorem delL_left {k nk : K} {nv : Int} (h : lt k nk = true) (A B : List (K × Int)) : delL lt k (A ++ (nk, nv) :: B) = delL lt k A ++ (nk, nv) :: B := by
  induction A with
  | nil => simp [delL, h]
  | cons a A ih =>
    obtain ⟨a, b⟩ := a
    simp only [List.cons_append, delL]
    by_cases g1 : lt k a = true
    · simp [g1]
    · by_cases g2 : lt a k = true
      · simp [g1, g2, ih]
      · simp [g1, g2]
theorem delL_pass {k : K} (A B : List (K × Int)) (h : ∀ a ∈ A, lt a.1 k = true ∧ lt k a.1 = false) : delL lt k (A ++ B) = A ++ delL lt k B := by
  induction A with
  | nil => rfl
  | cons a A ih =>
    obtain ⟨a, b⟩ := a
    obtain ⟨g1, g2⟩ := h (a, b) (List.mem_cons_self ..)
    simp only at g1 g2
    simp only [List.cons_append, delL]
    rw [if_neg (by rw [g2]; decide), if_pos g1, ih (fun x hx => h x (List.mem_cons_of_mem _ hx))]

theorem Srt.parts {lt : K → K → Bool} {A B : List (K × Int)} {x : K × Int} (h : Srt lt (A ++ x :: B)) : Srt lt A ∧ Srt lt B ∧ (∀ a ∈ A, lt a.1 x.1 = true) ∧ (∀ b ∈ B, lt x.1 b.1 = true) := by
  unfold Srt at h
  rw [List.pairwise_append] at h
  obtain ⟨h1, h2, h3⟩ := h
  rw [List.pairwise_cons] at h2
  exact ⟨h1, h2.2, fun a ha => h3 a ha x (List.mem_cons_self ..), fun b hb => h2.1 b hb⟩

theorem wth_toL (O : Ord lt) (k : K) (v : Int) (t : BT K) (h : Srt lt t.toL) : (wth lt k v t).toL = insL lt k v t.toL := by
  induction t with
  | E => rfl
  | N nk nv s l r il ir =>
    obtain ⟨s1, s2, s3, s4⟩ := Srt.parts (show Srt lt (l.toL ++ (nk, nv) :: r.toL) from h)
    rw [wth]
    show _ = insL lt k v (l.toL ++ (nk, nv) :: r.toL)
    by_cases g1 : lt k nk = true
    · rw [if_pos g1, bal_toL, il s1, insL_left lt g1]
    · rw [if_neg g1]
      have g1' : lt k nk = false := by simpa using g1
      by_cases g2 : lt nk k = true
      · rw [if_pos g2, bal_toL, ir s2]
        rw [insL_pass lt l.toL _ (fun a ha => ⟨O.tra _ _ _ (s3 a ha) g2, O.asy (O.tra _ _ _ (s3 a ha) g2)⟩)]
        rw [insL, if_neg g1, if_pos g2]
      · rw [if_neg g2]
        have g2' : lt nk k = false := by simpa using g2
        have e := O.tri nk k g2' g1'
        subst e
        rw [insL_pass lt l.toL _ (fun a ha => ⟨s3 a ha, O.asy (s3 a ha)⟩), insL, if_neg g1, if_neg g2]
        rfl

/-- The pair of a node. -/
def pr : BT K → Option (K × Int)
  | E => none
  | N k v _ _ _ => some (k, v)
theorem atT_get (t : BT K) (ho : t.Ok) : ∀ i, i < t.cnt → t.toL[i]? = pr (atT i t) := by
  induction t with
  | E => intro i h; exact absurd h (Nat.not_lt_zero _)
  | N nk nv s l r il ir =>
    intro i h
    obtain ⟨h1, h2, h3⟩ := ho
    have h' : i < s := h
    have hl := cnt_toL l h2
    rw [atT]
    show (l.toL ++ (nk, nv) :: r.toL)[i]? = _
    by_cases g1 : i < l.cnt
    · rw [if_pos g1, List.getElem?_append_left (by omega)]; exact il h2 i g1
    · rw [if_neg g1, List.getElem?_append_right (by omega)]
      by_cases g2 : l.cnt < i
      · rw [if_pos g2, ← ir h3 _ (by omega), ← hl, show i - l.cnt = (i - (l.cnt + 1)) + 1 from by omega, List.getElem?_cons_succ]
      · rw [if_neg g2, ← hl, show i - l.cnt = 0 from by omega]; rfl

theorem wtout_toL (O : Ord lt) (t : BT K) (ho : t.Ok) (h : Srt lt t.toL) : ∀ k, (wtout lt t k).toL = delL lt k t.toL := by
  induction t with
  | E => intro k; rfl
  | N nk nv s l r il ir =>
    intro k
    obtain ⟨o1, o2, o3⟩ := ho
    obtain ⟨s1, s2, s3, s4⟩ := Srt.parts (show Srt lt (l.toL ++ (nk, nv) :: r.toL) from h)
    rw [wtout]
    show _ = delL lt k (l.toL ++ (nk, nv) :: r.toL)
    by_cases g1 : lt k nk = true
    · rw [if_pos g1, bal_toL, il o2 s1, delL_left lt g1]
    · rw [if_neg g1]
      have g1' : lt k nk = false := by simpa using g1
      by_cases g2 : lt nk k = true
      · rw [if_pos g2, bal_toL, ir o3 s2]
        rw [delL_pass lt l.toL _ (fun a ha => ⟨O.tra _ _ _ (s3 a ha) g2, O.asy (O.tra _ _ _ (s3 a ha) g2)⟩)]
        rw [delL, if_neg g1, if_pos g2]
      · rw [if_neg g2]
        have g2' : lt nk k = false := by simpa using g2
        have e := O.tri nk k g2' g1'
        subst e
        rw [delL_pass lt l.toL _ (fun a ha => ⟨s3 a ha, O.asy (s3 a ha)⟩), delL, if_neg g1, if_neg g2]
        cases hr : r with
        | E => show l.toL = l.toL ++ []; simp
        | N a b c d e =>
          have hc : 0 < (N a b c d e).cnt := by rw [hr] at o3; obtain ⟨q, _, _⟩ := o3; show 0 < c; omega
          have hg := atT_get (N a b c d e) (hr ▸ o3) 0 hc
          show (match atT 0 (N a b c d e) with | E => E | N xk xv _ _ _ => bal xk xv l (wtout lt (N a b c d e) xk)).toL = l.toL ++ (N a b c d e).toL
          cases hx : atT 0 (N a b c d e) with
          | E =>
            exfalso
            rw [hx] at hg
            have hl := cnt_toL _ (hr ▸ o3 : (N a b c d e).Ok)
            rw [List.getElem?_eq_getElem (by omega)] at hg
            exact absurd hg (by simp [pr])
          | N xk xv xs xl xr =>
            show (bal xk xv l (wtout lt (N a b c d e) xk)).toL = _
            rw [hx] at hg
            rw [bal_toL, ← hr, ir o3 s2, hr]
            have hg' : (N a b c d e).toL[0]? = some (xk, xv) := hg
            cases hL : (N a b c d e).toL with
            | nil => rw [hL] at hg'; cases hg'
            | cons y Y =>
              rw [hL] at hg'
              obtain rfl : y = (xk, xv) := by simpa using hg'
              rw [delL, if_neg (by rw [O.irr]; decide), if_neg (by rw [O.irr]; decide)]

theorem rnk_toL (O : Ord lt) (k : K) (t : BT K) (ho : t.Ok) (h : Srt lt t.toL) : rnk lt k t = (t.toL.filter (fun a => lt a.1 k)).length := by
  induction t with
  | E => rfl
  | N nk nv s l r il ir =>
    obtain ⟨o1, o2, o3⟩ := ho
    obtain ⟨s1, s2, s3, s4⟩ := Srt.parts (show Srt lt (l.toL ++ (nk, nv) :: r.toL) from h)
    rw [rnk]
    show _ = ((l.toL ++ (nk, nv) :: r.toL).filter (fun a => lt a.1 k)).length
    rw [List.filter_append, List.length_append]
    by_cases g : lt nk k = true
    · rw [if_pos g, List.filter_cons, if_pos (show lt (nk, nv).1 k = true from g), List.length_cons, ir o3 s2]
      have : l.toL.filter (fun a => lt a.1 k) = l.toL := List.filter_eq_self.2 (fun a ha => O.tra _ _ _ (s3 a ha) g)
      rw [this, ← cnt_toL l o2]; omega
    · rw [if_neg g, List.filter_cons, if_neg (show ¬ lt (nk, nv).1 k = true from g), il o2 s1]
      have g' : lt nk k = false := by simpa using g
      have : r.toL.filter (fun a => lt a.1 k) = [] := List.filter_eq_nil_iff.2 (fun a ha hk => by
        have := O.tra _ _ _ (s4 a ha) hk
        simp only at this
        rw [g'] at this; exact Bool.noConfusion this)
      rw [this]; rfl
end BT
end Go.Proofs.Ytbdnniaajiiimaa
