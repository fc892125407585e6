/- Recipes as texts: plain (own text of the verifier). -/
import Derived.Test.YthodlcmmagjboaaDoorMem
namespace Go.Proofs.YthodlcmmagjboaaDoor

/-- What reading answers: what was read and what is left; or what is left where it broke. -/
inductive Rs (α : Type) where
  | ok (v : α) (l : List UInt8)
  | bad (l : List UInt8)
def Rs.bind {α β : Type} : Rs α → (α → List UInt8 → Rs β) → Rs β
  | .ok v l, f => f v l
  | .bad l, _ => .bad l
/-- What is left. -/
def Rs.rem {α : Type} : Rs α → List UInt8
  | .ok _ l => l
  | .bad l => l
/-- These bytes. -/
def ex : List UInt8 → List UInt8 → Rs Unit
  | [], l => .ok () l
  | _ :: _, [] => .bad []
  | c :: f, x :: l => if x = c then ex f l else .bad (x :: l)
/-- What stands behind a backslash. -/
def une (y : UInt8) : Option UInt8 := if y = 34 then some 34 else if y = 92 then some 92 else if y = 110 then some 10 else if y = 116 then some 9 else none
def Rs.cons {α : Type} (b : α) : Rs (List α) → Rs (List α)
  | .ok v l => .ok (b :: v) l
  | .bad l => .bad l
/-- What stands between quotes, the first one read. -/
def qt : List UInt8 → Rs (List UInt8)
  | [] => .bad []
  | x :: l =>
    if x = 34 then .ok [] l
    else if x = 92 then
      match l with
      | [] => .bad []
      | y :: l' => match une y with
        | some b => (qt l').cons b
        | none => .bad (y :: l')
    else if x = 10 ∨ x = 9 then .bad (x :: l)
    else (qt l).cons x
def quo (l : List UInt8) : Rs (List UInt8) := (ex [34] l).bind fun _ l => qt l
/-- Items up to a closing byte; first: the comma ahead of the next is left out. -/
def lst {α : Type} (cl : UInt8) (item : List UInt8 → Rs α) : Nat → Bool → List UInt8 → Rs (List α)
  | 0, _, l => .bad l
  | f + 1, first, l =>
    if l.head? = some cl then .ok [] (l.drop 1)
    else (ex (if first then [] else [44]) l).bind fun _ l => (item l).bind fun v l => (lst cl item f false l).cons v
/-- A step: its word and its arguments. -/
abbrev Stp := List UInt8 × List (List UInt8)
def stp (n : Nat) (l : List UInt8) : Rs Stp := (ex [40] l).bind fun _ l => (quo l).bind fun op l => (lst 41 quo n false l).bind fun ar l => .ok (op, ar) l
/-- A recipe. -/
structure Rec where
  nm : List UInt8
  ds : List (List UInt8)
  ss : List Stp
def opn : List UInt8 := [82, 101, 99, 105, 112, 101, 40]
def rcp (n : Nat) (l : List UInt8) : Rs Rec :=
  (ex opn l).bind fun _ l => (quo l).bind fun nm l => (ex [44, 91] l).bind fun _ l => (lst 93 quo n true l).bind fun ds l => (ex [44, 91] l).bind fun _ l => (lst 93 (stp n) n true l).bind fun ss l => (ex [41] l).bind fun _ l => .ok ⟨nm, ds, ss⟩ l
/-- The whole text. -/
def prs (s : List UInt8) : Rs Rec := (rcp (s.length + 1) s).bind fun r l => if l = [] then .ok r l else .bad l

/-- A byte between quotes. -/
def esc (c : UInt8) : List UInt8 := if c = 34 then [92, 34] else if c = 92 then [92, 92] else if c = 10 then [92, 110] else if c = 9 then [92, 116] else [c]
def qT (t : List UInt8) : List UInt8 := 34 :: (t.flatMap esc ++ [34])
/-- Items with commas ahead. -/
def cms {α : Type} (g : α → List UInt8) (L : List α) : List UInt8 := L.flatMap fun t => 44 :: g t
def seq {α : Type} (g : α → List UInt8) : List α → List UInt8
  | [] => []
  | t :: L => g t ++ cms g L
def sT (s : Stp) : List UInt8 := 40 :: (qT s.1 ++ (cms qT s.2 ++ [41]))
/-- A recipe's text. -/
def rT (r : Rec) : List UInt8 := opn ++ (qT r.nm ++ ([44, 91] ++ (seq qT r.ds ++ ([93, 44, 91] ++ (seq sT r.ss ++ [93, 41])))))

/-- Reading something gives what its text is. -/
def One {α : Type} (P : List UInt8 → Rs α) (g : α → List UInt8) : Prop := ∀ l v r, P l = .ok v r → l = g v ++ r
theorem bind_ok {α β : Type} {x : Rs α} {f : α → List UInt8 → Rs β} {v : β} {r : List UInt8} (h : x.bind f = .ok v r) : ∃ u m, x = .ok u m ∧ f u m = .ok v r := by
  cases x with
  | ok u m => exact ⟨u, m, rfl, h⟩
  | bad m => cases h
theorem cons_ok {α : Type} {x : Rs (List α)} {b : α} {v : List α} {r : List UInt8} (h : x.cons b = .ok v r) : ∃ u, x = .ok u r ∧ v = b :: u := by
  cases x with
  | ok u m => cases h; exact ⟨u, rfl, rfl⟩
  | bad m => cases h
theorem ex_one : ∀ (f l : List UInt8) (r : List UInt8) (u : Unit), ex f l = .ok u r → l = f ++ r := by
  intro f
  induction f with
  | nil => intro l r u h; cases h; rfl
  | cons c f ih =>
    intro l r u h
    cases l with
    | nil => cases h
    | cons x l =>
      unfold ex at h
      by_cases e : x = c
      · rw [if_pos e] at h
        rw [ih l r u h, e]
        rfl
      · rw [if_neg e] at h; cases h
theorem une_esc {y b : UInt8} (h : une y = some b) : esc b = [92, y] := by
  unfold une at h
  by_cases h1 : y = 34
  · rw [if_pos h1] at h; cases h; subst h1; rfl
  · rw [if_neg h1] at h
    by_cases h2 : y = 92
    · rw [if_pos h2] at h; cases h; subst h2; rfl
    · rw [if_neg h2] at h
      by_cases h3 : y = 110
      · rw [if_pos h3] at h; cases h; subst h3; rfl
      · rw [if_neg h3] at h
        by_cases h4 : y = 116
        · rw [if_pos h4] at h; cases h; subst h4; rfl
        · rw [if_neg h4] at h; cases h
theorem qt_one : ∀ (n : Nat) (l v r : List UInt8), l.length ≤ n → qt l = .ok v r → l = v.flatMap esc ++ (34 :: r) := by
  intro n
  induction n with
  | zero =>
    intro l v r hn h
    obtain rfl : l = [] := List.eq_nil_of_length_eq_zero (by omega)
    cases h
  | succ n ih =>
    intro l v r hn h
    cases l with
    | nil => cases h
    | cons x l =>
      unfold qt at h
      by_cases e1 : x = 34
      · rw [if_pos e1] at h; cases h; subst e1; rfl
      · rw [if_neg e1] at h
        by_cases e2 : x = 92
        · rw [if_pos e2] at h
          cases l with
          | nil => cases h
          | cons y l =>
            dsimp only at h
            cases hu : une y with
            | none => rw [hu] at h; cases h
            | some b =>
              rw [hu] at h
              obtain ⟨u, h1, rfl⟩ := cons_ok h
              have := ih l u r (by simp at hn; omega) h1
              rw [List.flatMap_cons, une_esc hu, this, e2]
              rfl
        · rw [if_neg e2] at h
          by_cases e3 : x = 10 ∨ x = 9
          · rw [if_pos e3] at h; cases h
          · rw [if_neg e3] at h
            obtain ⟨u, h1, rfl⟩ := cons_ok h
            have := ih l u r (by simp at hn; omega) h1
            have ee : esc x = [x] := by unfold esc; rw [if_neg e1, if_neg e2, if_neg (fun c => e3 (.inl c)), if_neg (fun c => e3 (.inr c))]
            rw [List.flatMap_cons, ee, this]
            rfl
theorem quo_one : One quo qT := by
  intro l v r h
  obtain ⟨u, m, h1, h2⟩ := bind_ok h
  have a := ex_one _ _ _ _ h1
  have b := qt_one _ _ _ _ (Nat.le_refl _) h2
  rw [a, b]
  unfold qT
  simp
theorem lst_one {α : Type} {cl : UInt8} {item : List UInt8 → Rs α} {g : α → List UInt8} (hi : One item g) : ∀ (n : Nat) (first : Bool) (l : List UInt8) (v : List α) (r : List UInt8), lst cl item n first l = .ok v r → l = (if first then seq g v else cms g v) ++ (cl :: r) := by
  intro n
  induction n with
  | zero => intro first l v r h; cases h
  | succ n ih =>
    intro first l v r h
    unfold lst at h
    by_cases hc : l.head? = some cl
    · rw [if_pos hc] at h
      cases h
      cases l with
      | nil => cases hc
      | cons x l =>
        injection hc with hc
        subst hc
        cases first <;> rfl
    · rw [if_neg hc] at h
      obtain ⟨u, m, h1, h2⟩ := bind_ok h
      obtain ⟨t, m2, h3, h4⟩ := bind_ok h2
      obtain ⟨L, h5, rfl⟩ := cons_ok h4
      have a := ex_one _ _ _ _ h1
      have b := hi _ _ _ h3
      have c := ih false m2 L r h5
      rw [a, b, c]
      cases first <;> simp [seq, cms]
theorem stp_one (n : Nat) : One (stp n) sT := by
  intro l v r h
  obtain ⟨u, m, h1, h2⟩ := bind_ok h
  obtain ⟨op, m2, h3, h4⟩ := bind_ok h2
  obtain ⟨ar, m3, h5, h6⟩ := bind_ok h4
  cases h6
  have a := ex_one _ _ _ _ h1
  have b := quo_one _ _ _ h3
  have c := lst_one quo_one _ _ _ _ _ h5
  rw [a, b, c]
  unfold sT
  simp
theorem prs_one {s : List UInt8} {v : Rec} {r : List UInt8} (h : prs s = .ok v r) : s = rT v := by
  obtain ⟨u, m, h1, h2⟩ := bind_ok h
  by_cases e : m = []
  · rw [if_pos e] at h2
    cases h2
    subst e
    obtain ⟨u, m1, h0, h3⟩ := bind_ok h1
    obtain ⟨nm, m2, h4, h5⟩ := bind_ok h3
    obtain ⟨u, m3, h6, h7⟩ := bind_ok h5
    obtain ⟨ds, m4, h8, h9⟩ := bind_ok h7
    obtain ⟨u, m5, h10, h11⟩ := bind_ok h9
    obtain ⟨ss, m6, h12, h13⟩ := bind_ok h11
    obtain ⟨u, m7, h14, h15⟩ := bind_ok h13
    cases h15
    have a1 := ex_one _ _ _ _ h0
    have a2 := quo_one _ _ _ h4
    have a3 := ex_one _ _ _ _ h6
    have a4 := lst_one quo_one _ _ _ _ _ h8
    have a5 := ex_one _ _ _ _ h10
    have a6 := lst_one (stp_one _) _ _ _ _ _ h12
    have a7 := ex_one _ _ _ _ h14
    rw [a1, a2, a3, a4, a5, a6, a7]
    unfold rT
    simp
  · rw [if_neg e] at h2; cases h2

end Go.Proofs.YthodlcmmagjboaaDoor
