/- Reading hangs on what was read alone: plain. -/
import Derived.Test.YtbfhfejdmhjccaaReW
namespace Go.Proofs.Ytbfhfejdmhjccaa

/-- What was read is read again whatever follows; where it broke, what stands ahead is cut short. -/
structure Nice {α : Type} (P : List UInt8 → Rs α) : Prop where
  ok : ∀ l v r, P l = .ok v r → ∃ c, l = c ++ r ∧ ∀ r', P (c ++ r') = .ok v r'
  bad : ∀ l b, P l = .bad b → ∃ a, l = a ++ b ∧ P a = .bad []
theorem Nice.bind {α β : Type} {P : List UInt8 → Rs α} {Q : α → List UInt8 → Rs β} (hP : Nice P) (hQ : ∀ v, Nice (Q v)) : Nice (fun l => (P l).bind Q) := by
  refine ⟨fun l v r h => ?_, fun l b h => ?_⟩
  · obtain ⟨u, m, h1, h2⟩ := bind_ok h
    obtain ⟨c, rfl, hc⟩ := hP.ok _ _ _ h1
    obtain ⟨d, rfl, hd⟩ := (hQ u).ok _ _ _ h2
    refine ⟨c ++ d, by rw [List.append_assoc], fun r' => ?_⟩
    try dsimp only
    rw [List.append_assoc, hc (d ++ r')]
    exact hd r'
  · try dsimp only at h
    cases hp : P l with
    | bad m =>
      rw [hp] at h
      cases h
      obtain ⟨a, e, ha⟩ := hP.bad _ _ hp
      exact ⟨a, e, by (try dsimp only); rw [ha]; rfl⟩
    | ok u m =>
      rw [hp] at h
      obtain ⟨c, rfl, hc⟩ := hP.ok _ _ _ hp
      obtain ⟨a, rfl, ha⟩ := (hQ u).bad _ _ h
      refine ⟨c ++ a, by rw [List.append_assoc], ?_⟩
      try dsimp only
      rw [hc a]
      exact ha
theorem Nice.cons {α : Type} {P : List UInt8 → Rs (List α)} (hP : Nice P) (x : α) : Nice (fun l => (P l).cons x) := by
  refine ⟨fun l v r h => ?_, fun l b h => ?_⟩
  · obtain ⟨u, h1, rfl⟩ := cons_ok h
    obtain ⟨c, e, hc⟩ := hP.ok _ _ _ h1
    exact ⟨c, e, fun r' => by (try dsimp only); rw [hc r']; rfl⟩
  · try dsimp only at h
    cases hp : P l with
    | ok u m => rw [hp] at h; cases h
    | bad m =>
      rw [hp] at h
      cases h
      obtain ⟨a, e, ha⟩ := hP.bad _ _ hp
      exact ⟨a, e, by (try dsimp only); rw [ha]; rfl⟩
theorem Nice.ret {α : Type} (v : α) : Nice (fun l => Rs.ok v l) :=
  ⟨fun l u r h => (by cases h; exact ⟨[], rfl, fun _ => rfl⟩), fun l b h => (by cases h)⟩
theorem nice_ex (f : List UInt8) : Nice (ex f) := by
  induction f with
  | nil => exact Nice.ret ()
  | cons c f ih =>
    refine ⟨fun l v r h => ?_, fun l b h => ?_⟩
    · cases l with
      | nil => cases h
      | cons x l =>
        rw [ex_cons] at h
        by_cases e : x = c
        · rw [if_pos e] at h
          obtain ⟨d, rfl, hd⟩ := ih.ok _ _ _ h
          exact ⟨x :: d, rfl, fun r' => by rw [List.cons_append, ex_cons, if_pos e]; exact hd r'⟩
        · rw [if_neg e] at h; cases h
    · cases l with
      | nil => cases h; exact ⟨[], rfl, rfl⟩
      | cons x l =>
        rw [ex_cons] at h
        by_cases e : x = c
        · rw [if_pos e] at h
          obtain ⟨d, rfl, hd⟩ := ih.bad _ _ h
          exact ⟨x :: d, rfl, by rw [ex_cons, if_pos e]; exact hd⟩
        · rw [if_neg e] at h; cases h; exact ⟨[], rfl, rfl⟩
theorem nice_wth : Nice wth := by
  refine ⟨fun l v r h => ?_, fun l b h => ?_⟩
  · cases l with
    | nil => cases h
    | cons x l =>
      by_cases e : x = 92
      · subst e
        cases l with
        | nil => rw [wth_one] at h; cases h
        | cons y l =>
          rw [wth_esc] at h
          cases hu : une y with
          | none => rw [hu] at h; cases h
          | some z =>
            rw [hu] at h
            cases h
            exact ⟨[92, y], rfl, fun r' => by show wth (92 :: y :: r') = _; rw [wth_esc, hu]⟩
      · rw [wth_pl x l e] at h
        by_cases e3 : x = 34 ∨ x = 10 ∨ x = 9
        · rw [if_pos e3] at h; cases h
        · rw [if_neg e3] at h
          cases h
          exact ⟨[v], rfl, fun r' => by show wth (v :: r') = _; rw [wth_pl v r' e, if_neg e3]⟩
  · cases l with
    | nil => cases h; exact ⟨[], rfl, rfl⟩
    | cons x l =>
      by_cases e : x = 92
      · subst e
        cases l with
        | nil => rw [wth_one] at h; cases h; exact ⟨[92], rfl, wth_one⟩
        | cons y l =>
          rw [wth_esc] at h
          cases hu : une y with
          | none => rw [hu] at h; cases h; exact ⟨[92], rfl, wth_one⟩
          | some z => rw [hu] at h; cases h
      · rw [wth_pl x l e] at h
        by_cases e3 : x = 34 ∨ x = 10 ∨ x = 9
        · rw [if_pos e3] at h; cases h; exact ⟨[], rfl, rfl⟩
        · rw [if_neg e3] at h; cases h
theorem wth_lt {l m : List UInt8} {b : UInt8} (h : wth l = .ok b m) : m.length < l.length := by
  cases l with
  | nil => cases h
  | cons x l =>
    by_cases e : x = 92
    · subst e
      cases l with
      | nil => rw [wth_one] at h; cases h
      | cons y l =>
        rw [wth_esc] at h
        cases hu : une y with
        | none => rw [hu] at h; cases h
        | some z => rw [hu] at h; cases h; simp; omega
    · rw [wth_pl x l e] at h
      by_cases e3 : x = 34 ∨ x = 10 ∨ x = 9
      · rw [if_pos e3] at h; cases h
      · rw [if_neg e3] at h; cases h; simp
/-- A loop up to a closing byte. -/
theorem nice_close {α : Type} (cl : UInt8) (E P : List UInt8 → Rs (List α)) (hE : Nice E) (hlt : ∀ l v r, E l = .ok v r → r.length < l.length) (h1 : ∀ l, P (cl :: l) = .ok [] l) (h2 : ∀ l, l.head? ≠ some cl → P l = E l) : Nice P := by
  have hh : ∀ l : List UInt8, l.head? = some cl → ∃ m, l = cl :: m := fun l h => by
    cases l with
    | nil => cases h
    | cons y m => injection h with h; exact ⟨m, by rw [h]⟩
  refine ⟨fun l v r h => ?_, fun l b h => ?_⟩
  · by_cases hc : l.head? = some cl
    · obtain ⟨m, rfl⟩ := hh l hc
      rw [h1] at h
      cases h
      exact ⟨[cl], rfl, fun r' => h1 r'⟩
    · rw [h2 l hc] at h
      have hl := hlt _ _ _ h
      obtain ⟨c, rfl, hcc⟩ := hE.ok _ _ _ h
      cases c with
      | nil => simp at hl
      | cons x c => exact ⟨x :: c, rfl, fun r' => (h2 (x :: (c ++ r')) hc).trans (hcc r')⟩
  · by_cases hc : l.head? = some cl
    · obtain ⟨m, rfl⟩ := hh l hc
      rw [h1] at h
      cases h
    · rw [h2 l hc] at h
      obtain ⟨a, rfl, ha⟩ := hE.bad _ _ h
      refine ⟨a, rfl, ?_⟩
      cases a with
      | nil => rw [h2 [] (by intro c; cases c)]; exact ha
      | cons x a => exact (h2 (x :: a) hc).trans ha
/-- Reading between quotes, with fuel. -/
def qtN : Nat → List UInt8 → Rs (List UInt8)
  | 0, l => .bad l
  | n + 1, l => if l.head? = some 34 then .ok [] (l.drop 1) else (wth l).bind fun b m => (qtN n m).cons b
theorem qt_N : ∀ (n : Nat) (l : List UInt8), l.length < n → qt l = qtN n l := by
  intro n
  induction n with
  | zero => intro l h; omega
  | succ n ih =>
    intro l h
    unfold qtN
    by_cases hc : l.head? = some 34
    · rw [if_pos hc]
      cases l with
      | nil => cases hc
      | cons y m => injection hc with hc; subst hc; exact qt_end m
    · rw [if_neg hc, qt_step l hc]
      cases hw : wth l with
      | bad m => rfl
      | ok b m =>
        show (qt m).cons b = (qtN n m).cons b
        rw [ih m (by have := wth_lt hw; omega)]
theorem qt_lt {l t m : List UInt8} (h : qt l = .ok t m) : m.length < l.length := by
  have := congrArg List.length (qt_one _ _ _ _ (Nat.le_refl _) h)
  rw [List.length_append, List.length_cons] at this
  omega
theorem qtN_lt : ∀ (n : Nat) (l t m : List UInt8), qtN n l = .ok t m → m.length < l.length := by
  intro n
  induction n with
  | zero => intro l t m h; cases h
  | succ n ih =>
    intro l t m h
    unfold qtN at h
    by_cases hc : l.head? = some 34
    · rw [if_pos hc] at h
      cases h
      cases l with
      | nil => cases hc
      | cons y k => simp
    · rw [if_neg hc] at h
      obtain ⟨b, k, h1, h2⟩ := bind_ok h
      obtain ⟨u, h3, rfl⟩ := cons_ok h2
      have := wth_lt h1
      have := ih _ _ _ h3
      omega
theorem nice_qtN : ∀ n, Nice (qtN n) := by
  intro n
  induction n with
  | zero => exact ⟨fun l v r h => (by cases h), fun l b h => (by cases h; exact ⟨[], rfl, rfl⟩)⟩
  | succ n ih =>
    refine nice_close 34 (fun l => (wth l).bind fun b m => (qtN n m).cons b) _ (nice_wth.bind fun b => ih.cons b) (fun l v r h => ?_) (fun l => ?_) (fun l h => ?_)
    · obtain ⟨b, k, h1, h2⟩ := bind_ok h
      obtain ⟨u, h3, rfl⟩ := cons_ok h2
      have := wth_lt h1
      have := qtN_lt _ _ _ _ h3
      omega
    · rw [qtN, if_pos (show (34 :: l).head? = some 34 from rfl)]; rfl
    · rw [qtN, if_neg h]
theorem nice_qt : Nice qt := by
  refine ⟨fun l v r h => ?_, fun l b h => ?_⟩
  · have h' := h
    rw [qt_N (l.length + 1) l (by omega)] at h
    obtain ⟨c, e, hc⟩ := (nice_qtN _).ok _ _ _ h
    have hv : c = v.flatMap esc ++ [34] := by
      have := qt_one _ _ _ _ (Nat.le_refl _) h'
      rw [e] at this
      have h2 : v.flatMap esc ++ (34 :: r) = (v.flatMap esc ++ [34]) ++ r := by simp
      rw [h2] at this
      exact List.append_cancel_right this
    refine ⟨c, e, fun r' => ?_⟩
    obtain ⟨c2, e2, hc2⟩ := (nice_qtN (l.length + r'.length + 1)).ok l v r (by rw [← qt_N _ l (by omega)]; exact h')
    have : c2 = c := List.append_cancel_right (by rw [← e2, e])
    subst this
    rw [qt_N (l.length + r'.length + 1) _ (by rw [List.length_append]; have := congrArg List.length e; rw [List.length_append] at this; omega)]
    exact hc2 r'
  · have h' := h
    rw [qt_N (l.length + 1) l (by omega)] at h
    obtain ⟨a, e, ha⟩ := (nice_qtN _).bad _ _ h
    exact ⟨a, e, by rw [qt_N (l.length + 1) a (by have := congrArg List.length e; rw [List.length_append] at this; omega)]; exact ha⟩
theorem nice_quo : Nice quo := (nice_ex [34]).bind fun _ => nice_qt
theorem nice_lst {α : Type} (cl : UInt8) (item : List UInt8 → Rs α) (hi : Nice item) (hlt : ∀ l v r, item l = .ok v r → r.length < l.length) : ∀ (n : Nat), ∀ b, Nice (lst cl item n b) ∧ ∀ l v r, lst cl item n b l = .ok v r → r.length < l.length := by
  intro n
  induction n with
  | zero => intro b; exact ⟨⟨fun l v r h => (by cases h), fun l c h => (by cases h; exact ⟨[], rfl, rfl⟩)⟩, fun l v r h => (by cases h)⟩
  | succ n ih =>
    intro b
    have hE : ∀ l v r, ((ex (if b then [] else [44]) l).bind fun _ l => (item l).bind fun v l => (lst cl item n false l).cons v) = .ok v r → r.length < l.length := fun l v r h => by
      obtain ⟨u, m, h1, h2⟩ := bind_ok h
      obtain ⟨t, m2, h3, h4⟩ := bind_ok h2
      obtain ⟨k, h5, rfl⟩ := cons_ok h4
      have q1 := ex_le h1
      have q2 := hlt _ _ _ h3
      have q3 := (ih false).2 _ _ _ h5
      omega
    refine ⟨nice_close cl _ _ ((nice_ex _).bind fun _ => hi.bind fun v => (ih false).1.cons v) hE (fun l => lst_end cl item n b l) (fun l h => lst_step cl item n b l h), fun l v r h => ?_⟩
    by_cases hc : l.head? = some cl
    · cases l with
      | nil => cases hc
      | cons y k =>
        injection hc with hc
        subst hc
        rw [lst_end] at h
        cases h
        simp
    · rw [lst_step cl item n b l hc] at h
      exact hE l v r h
theorem nice_stp (n : Nat) : Nice (stp n) :=
  (nice_ex [40]).bind fun _ => nice_quo.bind fun op => (nice_lst 41 quo nice_quo (fun _ _ _ h => quo_lt h) n false).1.bind fun ar => Nice.ret (op, ar)
theorem nice_rcp (n : Nat) : Nice (rcp n) :=
  (nice_ex opn).bind fun _ => nice_quo.bind fun nm => (nice_ex [44, 91]).bind fun _ => (nice_lst 93 quo nice_quo (fun _ _ _ h => quo_lt h) n true).1.bind fun ds => (nice_ex [44, 91]).bind fun _ => (nice_lst 93 (stp n) (nice_stp n) (fun _ _ _ h => stp_lt h) n true).1.bind fun ss => (nice_ex [41]).bind fun _ => Nice.ret (Rec.mk nm ds ss)
/-- More fuel changes nothing. -/
theorem lst_fuel {α : Type} (cl : UInt8) (item item' : List UInt8 → Rs α) (M : Nat) (hi : ∀ l, l.length ≤ M → item l = item' l) (hlt : ∀ l v r, item l = .ok v r → r.length < l.length) : ∀ (n n' : Nat) (b : Bool) (l : List UInt8), l.length < n → l.length < n' → l.length ≤ M → lst cl item n b l = lst cl item' n' b l := by
  intro n
  induction n with
  | zero => intro n' b l h; omega
  | succ n ih =>
    intro n' b l h1 h2 h3
    obtain ⟨n', rfl⟩ : ∃ k, n' = k + 1 := ⟨n' - 1, by omega⟩
    by_cases hc : l.head? = some cl
    · cases l with
      | nil => cases hc
      | cons y k => injection hc with hc; subst hc; rw [lst_end, lst_end]
    · rw [lst_step cl item n b l hc, lst_step cl item' n' b l hc]
      cases hx : ex (if b then [] else [44]) l with
      | bad m => rfl
      | ok u m =>
        have q1 := ex_le hx
        show ((item m).bind fun v l => (lst cl item n false l).cons v) = ((item' m).bind fun v l => (lst cl item' n' false l).cons v)
        rw [← hi m (by omega)]
        cases hy : item m with
        | bad k => rfl
        | ok t k =>
          have q2 := hlt _ _ _ hy
          show (lst cl item n false k).cons t = (lst cl item' n' false k).cons t
          rw [ih n' false k (by omega) (by omega) (by omega)]
theorem stp_fuel (n n' : Nat) (l : List UInt8) (h1 : l.length < n) (h2 : l.length < n') : stp n l = stp n' l := by
  unfold stp
  cases hx : ex [40] l with
  | bad m => rfl
  | ok u m =>
    have q1 := ex_le hx
    show ((quo m).bind fun op l => (lst 41 quo n false l).bind fun ar l => Rs.ok (op, ar) l) = ((quo m).bind fun op l => (lst 41 quo n' false l).bind fun ar l => Rs.ok (op, ar) l)
    cases hy : quo m with
    | bad k => rfl
    | ok t k =>
      have q2 := quo_lt hy
      show ((lst 41 quo n false k).bind fun ar l => Rs.ok (t, ar) l) = ((lst 41 quo n' false k).bind fun ar l => Rs.ok (t, ar) l)
      rw [lst_fuel 41 quo quo k.length (fun _ _ => rfl) (fun _ _ _ h => quo_lt h) n n' false k (by omega) (by omega) (Nat.le_refl _)]
theorem rcp_fuel (n n' : Nat) (l : List UInt8) (h1 : l.length < n) (h2 : l.length < n') : rcp n l = rcp n' l := by
  have bindc : ∀ {α β : Type} (x : Rs α) (f f' : α → List UInt8 → Rs β), (∀ v m, x = .ok v m → f v m = f' v m) → x.bind f = x.bind f' := fun x f f' h => by
    cases x with
    | bad m => rfl
    | ok v m => exact h v m rfl
  unfold rcp
  refine bindc _ _ _ fun _ m1 e1 => ?_
  have q1 := ex_le e1
  refine bindc _ _ _ fun nm m2 e2 => ?_
  have q2 := quo_lt e2
  refine bindc _ _ _ fun _ m3 e3 => ?_
  have q3 := ex_le e3
  rw [lst_fuel 93 quo quo m3.length (fun _ _ => rfl) (fun _ _ _ h => quo_lt h) n n' true m3 (by omega) (by omega) (Nat.le_refl _)]
  refine bindc _ _ _ fun ds m4 e4 => ?_
  have q4 := lst_le quo_one e4
  refine bindc _ _ _ fun _ m5 e5 => ?_
  have q5 := ex_le e5
  rw [lst_fuel 93 (stp n) (stp n') m5.length (fun l hl => stp_fuel n n' l (by omega) (by omega)) (fun _ _ _ h => stp_lt h) n n' true m5 (by omega) (by omega) (Nat.le_refl _)]
/-- Where a text is broken, all that stands ahead goes on. -/
theorem prs_first {s b : List UInt8} (h : prs s = .bad b) : ∃ a, s = a ++ b ∧ (prs a = .bad [] ∨ ∃ r, prs a = .ok r []) := by
  unfold prs at h
  cases hr : rcp (s.length + 1) s with
  | bad m =>
    rw [hr] at h
    cases h
    obtain ⟨a, e, ha⟩ := (nice_rcp _).bad _ _ hr
    refine ⟨a, e, .inl ?_⟩
    unfold prs
    have hl := congrArg List.length e
    rw [List.length_append] at hl
    rw [rcp_fuel (a.length + 1) (s.length + 1) a (by omega) (by omega), ha]
    rfl
  | ok r m =>
    rw [hr] at h
    change (if m = [] then Rs.ok r m else Rs.bad m) = .bad b at h
    by_cases e : m = []
    · rw [if_pos e] at h; cases h
    · rw [if_neg e] at h
      cases h
      obtain ⟨c, e2, hc⟩ := (nice_rcp _).ok _ _ _ hr
      refine ⟨c, e2, .inr ⟨r, ?_⟩⟩
      have hl := congrArg List.length e2
      rw [List.length_append] at hl
      have h0 := hc []
      rw [List.append_nil] at h0
      unfold prs
      rw [rcp_fuel (c.length + 1) (s.length + 1) c (by omega) (by omega), h0]
      rfl
theorem prs_ok {s : List UInt8} {r : Rec} {m : List UInt8} (h : prs s = .ok r m) : m = [] := by
  unfold prs at h
  obtain ⟨u, k, h1, h2⟩ := bind_ok h
  by_cases e : k = []
  · rw [if_pos e] at h2; cases h2; exact e
  · rw [if_neg e] at h2; cases h2

end Go.Proofs.Ytbfhfejdmhjccaa
