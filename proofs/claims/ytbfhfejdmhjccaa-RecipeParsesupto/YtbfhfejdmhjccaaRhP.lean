/- What is printed is read again; cut short it ends too early: plain. -/
import Derived.Test.YtbfhfejdmhjccaaRfP
namespace Go.Proofs.Ytbfhfejdmhjccaa

/-- Cut ahead of where reading ended, it ends too early. -/
def Short {α : Type} (P : List UInt8 → Rs α) : Prop := ∀ a b v r, P (a ++ b) = .ok v r → r.length < b.length → P a = .bad []
theorem Short.bind {α β : Type} {P : List UInt8 → Rs α} {Q : α → List UInt8 → Rs β} (nP : Nice P) (hP : Short P) (hQ : ∀ v, Short (Q v)) : Short (fun l => (P l).bind Q) := by
  intro a b v r h hr
  obtain ⟨u, m, h1, h2⟩ := bind_ok h
  by_cases hm : m.length < b.length
  · have := hP a b u m h1 hm
    show (P a).bind Q = _
    rw [this]
    rfl
  · obtain ⟨c, e, hc⟩ := nP.ok _ _ _ h1
    have hl := congrArg List.length e
    rw [List.length_append, List.length_append] at hl
    have hca : c.length ≤ a.length := by omega
    have e1 : a = c ++ a.drop c.length := by
      have := congrArg (List.take c.length) e
      rw [List.take_append_of_le_length hca, List.take_left] at this
      have h9 := List.take_append_drop c.length a
      rw [this] at h9
      exact h9.symm
    have e2 : m = a.drop c.length ++ b := by
      have := congrArg (List.drop c.length) e
      rw [List.drop_append_of_le_length hca, List.drop_left] at this
      exact this.symm
    have h3 := hc (a.drop c.length)
    rw [← e1] at h3
    rw [e2] at h2
    show (P a).bind Q = _
    rw [h3]
    exact hQ u _ _ _ _ h2 hr
theorem Short.cons {α : Type} {P : List UInt8 → Rs (List α)} (hP : Short P) (x : α) : Short (fun l => (P l).cons x) := by
  intro a b v r h hr
  obtain ⟨u, h1, rfl⟩ := cons_ok h
  show (P a).cons x = _
  rw [hP a b u r h1 hr]
  rfl
theorem Short.ret {α : Type} (v : α) : Short (fun l => Rs.ok v l) := by
  intro a b u r h hr
  cases h
  rw [List.length_append] at hr
  omega
theorem short_ex (f : List UInt8) : Short (ex f) := by
  induction f with
  | nil => exact Short.ret ()
  | cons c f ih =>
    intro a b v r h hr
    cases a with
    | nil => rfl
    | cons x a =>
      rw [List.cons_append, ex_cons] at h
      by_cases e : x = c
      · rw [if_pos e] at h
        rw [ex_cons, if_pos e]
        exact ih a b v r h hr
      · rw [if_neg e] at h; cases h
theorem short_wth : Short wth := by
  intro a b v r h hr
  cases a with
  | nil => rfl
  | cons x a =>
    by_cases e : x = 92
    · subst e
      cases a with
      | nil => exact wth_one
      | cons y a =>
        rw [List.cons_append, List.cons_append, wth_esc] at h
        cases hu : une y with
        | none => rw [hu] at h; cases h
        | some z =>
          rw [hu] at h
          cases h
          rw [List.length_append] at hr
          omega
    · rw [List.cons_append, wth_pl x _ e] at h
      by_cases e3 : x = 34 ∨ x = 10 ∨ x = 9
      · rw [if_pos e3] at h; cases h
      · rw [if_neg e3] at h
        cases h
        rw [List.length_append] at hr
        omega
theorem short_close {α : Type} (cl : UInt8) (E P : List UInt8 → Rs (List α)) (hE : Short E) (h0 : E [] = .bad []) (h1 : ∀ l, P (cl :: l) = .ok [] l) (h2 : ∀ l, l.head? ≠ some cl → P l = E l) : Short P := by
  intro a b v r h hr
  cases a with
  | nil => rw [h2 [] (by intro c; cases c)]; exact h0
  | cons x a =>
    by_cases e : x = cl
    · subst e
      rw [List.cons_append, h1] at h
      cases h
      rw [List.length_append] at hr
      omega
    · have hne : ∀ m : List UInt8, (x :: m).head? ≠ some cl := fun m c => e (by injection c)
      rw [List.cons_append, h2 _ (hne _)] at h
      rw [h2 _ (hne _)]
      exact hE (x :: a) b v r h hr
theorem short_qtN : ∀ n, Short (qtN n) := by
  intro n
  induction n with
  | zero => intro a b v r h; cases h
  | succ n ih =>
    refine short_close 34 (fun l => (wth l).bind fun b m => (qtN n m).cons b) _ (Short.bind nice_wth short_wth fun b => ih.cons b) rfl (fun l => ?_) (fun l h => ?_)
    · rw [qtN, if_pos (show (34 :: l).head? = some 34 from rfl)]; rfl
    · rw [qtN, if_neg h]
theorem short_qt : Short qt := by
  intro a b v r h hr
  rw [qt_N ((a ++ b).length + 1) _ (by omega)] at h
  rw [qt_N ((a ++ b).length + 1) a (by rw [List.length_append]; omega)]
  exact short_qtN _ a b v r h hr
theorem short_quo : Short quo := Short.bind (nice_ex [34]) (short_ex [34]) fun _ => short_qt
theorem short_lst {α : Type} (cl : UInt8) (item : List UInt8 → Rs α) (hi : Nice item) (hs : Short item) (h0 : item [] = .bad []) : ∀ (n : Nat) b, Short (lst cl item n b) := by
  intro n
  induction n with
  | zero => intro b x y v r h; cases h
  | succ n ih =>
    intro b
    refine short_close cl (fun l => (ex (if b then [] else [44]) l).bind fun _ l => (item l).bind fun v l => (lst cl item n false l).cons v) _ (Short.bind (nice_ex _) (short_ex _) fun _ => Short.bind hi hs fun v => (ih false).cons v) ?_ (fun l => lst_end cl item n b l) (fun l h => lst_step cl item n b l h)
    cases b
    · rfl
    · show ((item []).bind fun v l => (lst cl item n false l).cons v) = _
      rw [h0]
      rfl
theorem short_stp (n : Nat) : Short (stp n) :=
  Short.bind (nice_ex [40]) (short_ex [40]) fun _ => Short.bind nice_quo short_quo fun op => Short.bind (nice_lst 41 quo nice_quo (fun _ _ _ h => quo_lt h) n false).1 (short_lst 41 quo nice_quo short_quo rfl n false) fun ar => Short.ret (op, ar)
theorem short_rcp (n : Nat) : Short (rcp n) :=
  Short.bind (nice_ex opn) (short_ex opn) fun _ => Short.bind nice_quo short_quo fun nm => Short.bind (nice_ex [44, 91]) (short_ex [44, 91]) fun _ => Short.bind (nice_lst 93 quo nice_quo (fun _ _ _ h => quo_lt h) n true).1 (short_lst 93 quo nice_quo short_quo rfl n true) fun ds => Short.bind (nice_ex [44, 91]) (short_ex [44, 91]) fun _ => Short.bind (nice_lst 93 (stp n) (nice_stp n) (fun _ _ _ h => stp_lt h) n true).1 (short_lst 93 (stp n) (nice_stp n) (short_stp n) rfl n true) fun ss => Short.bind (nice_ex [41]) (short_ex [41]) fun _ => Short.ret (Rec.mk nm ds ss)

theorem ex_back (f r : List UInt8) : ex f (f ++ r) = .ok () r := by
  induction f with
  | nil => rfl
  | cons c f ih => rw [List.cons_append, ex_cons, if_pos rfl]; exact ih
theorem wth_back (x : UInt8) (r : List UInt8) : wth (esc x ++ r) = .ok x r ∧ (esc x ++ r).head? ≠ some 34 := by
  unfold esc
  by_cases h1 : x = 34
  · subst h1; exact ⟨by rw [if_pos rfl]; show wth (92 :: 34 :: r) = _; rw [wth_esc]; rfl, by rw [if_pos rfl]; show some (92 : UInt8) ≠ some 34; decide⟩
  · rw [if_neg h1]
    by_cases h2 : x = 92
    · subst h2; exact ⟨by rw [if_pos rfl]; show wth (92 :: 92 :: r) = _; rw [wth_esc]; rfl, by rw [if_pos rfl]; show some (92 : UInt8) ≠ some 34; decide⟩
    · rw [if_neg h2]
      by_cases h3 : x = 10
      · subst h3; exact ⟨by rw [if_pos rfl]; show wth (92 :: 110 :: r) = _; rw [wth_esc]; rfl, by rw [if_pos rfl]; show some (92 : UInt8) ≠ some 34; decide⟩
      · rw [if_neg h3]
        by_cases h4 : x = 9
        · subst h4; exact ⟨by rw [if_pos rfl]; show wth (92 :: 116 :: r) = _; rw [wth_esc]; rfl, by rw [if_pos rfl]; show some (92 : UInt8) ≠ some 34; decide⟩
        · rw [if_neg h4]
          refine ⟨?_, fun c => h1 (by injection c)⟩
          show wth (x :: r) = _
          rw [wth_pl x r h2, if_neg (fun c => by rcases c with c | c | c <;> contradiction)]
theorem qt_back (t r : List UInt8) : qt (t.flatMap esc ++ (34 :: r)) = .ok t r := by
  induction t with
  | nil => exact qt_end r
  | cons x t ih =>
    rw [List.flatMap_cons, List.append_assoc]
    obtain ⟨h1, h2⟩ := wth_back x (t.flatMap esc ++ (34 :: r))
    rw [qt_step _ h2, h1]
    show (qt (t.flatMap esc ++ (34 :: r))).cons x = _
    rw [ih]
    rfl
theorem quo_back (t r : List UInt8) : quo (qT t ++ r) = .ok t r := by
  have e : qT t ++ r = [34] ++ (t.flatMap esc ++ (34 :: r)) := by unfold qT; simp
  unfold quo
  rw [e, ex_back]
  exact qt_back t r
theorem lst_back {α : Type} (cl : UInt8) (item : List UInt8 → Rs α) (g : α → List UInt8) (hcl : cl ≠ 44) : ∀ (n : Nat) (L : List α), (∀ x ∈ L, ∀ r, item (g x ++ r) = .ok x r ∧ (g x ++ r).head? ≠ some cl) → L.length < n → ∀ r, lst cl item n false (cms g L ++ (cl :: r)) = .ok L r ∧ lst cl item n true (seq g L ++ (cl :: r)) = .ok L r := by
  intro n
  induction n with
  | zero => intro L _ h; omega
  | succ n ih =>
    intro L hi hn r
    cases L with
    | nil => exact ⟨lst_end cl item n false r, lst_end cl item n true r⟩
    | cons x L =>
      have hx := hi x (List.mem_cons_self ..)
      obtain ⟨k1, -⟩ := ih L (fun y hy => hi y (List.mem_cons_of_mem _ hy)) (by simp at hn; omega) r
      refine ⟨?_, ?_⟩
      · have e : cms g (x :: L) ++ (cl :: r) = [44] ++ (g x ++ (cms g L ++ (cl :: r))) := by unfold cms; simp
        rw [e, lst_step cl item n false _ (by show some (44 : UInt8) ≠ some cl; intro c; injection c with c; exact hcl c.symm)]
        show ((ex [44] ([44] ++ (g x ++ (cms g L ++ (cl :: r))))).bind fun _ l => (item l).bind fun v l => (lst cl item n false l).cons v) = _
        rw [ex_back]
        show ((item (g x ++ (cms g L ++ (cl :: r)))).bind fun v l => (lst cl item n false l).cons v) = _
        rw [(hx _).1]
        show (lst cl item n false (cms g L ++ (cl :: r))).cons x = _
        rw [k1]
        rfl
      · have e : seq g (x :: L) ++ (cl :: r) = g x ++ (cms g L ++ (cl :: r)) := by show (g x ++ cms g L) ++ (cl :: r) = _; rw [List.append_assoc]
        rw [e, lst_step cl item n true _ (hx _).2]
        show ((item (g x ++ (cms g L ++ (cl :: r)))).bind fun v l => (lst cl item n false l).cons v) = _
        rw [(hx _).1]
        show (lst cl item n false (cms g L ++ (cl :: r))).cons x = _
        rw [k1]
        rfl
theorem stp_back (n : Nat) (s : Stp) (h : s.2.length < n) (r : List UInt8) : stp n (sT s ++ r) = .ok s r := by
  obtain ⟨op, L⟩ := s
  have e : sT (op, L) ++ r = [40] ++ (qT op ++ (cms qT L ++ (41 :: r))) := by unfold sT; simp
  unfold stp
  rw [e, ex_back]
  show ((quo (qT op ++ (cms qT L ++ (41 :: r)))).bind fun op l => (lst 41 quo n false l).bind fun ar l => Rs.ok (op, ar) l) = _
  rw [quo_back]
  show ((lst 41 quo n false (cms qT L ++ (41 :: r))).bind fun ar l => Rs.ok (op, ar) l) = _
  rw [(lst_back 41 quo qT (by decide) n L (fun x _ r => ⟨quo_back x r, by show some (34 : UInt8) ≠ some 41; decide⟩) h r).1]
  rfl
theorem cms_lenA {α : Type} (f : α → List UInt8) (L : List α) : L.length ≤ (cms f L).length := by
  unfold cms
  induction L with
  | nil => simp
  | cons t L ih =>
    rw [List.flatMap_cons, List.length_append, List.length_cons, List.length_cons]
    omega
theorem seq_lenA {α : Type} (f : α → List UInt8) (hf : ∀ x, 1 ≤ (f x).length) (L : List α) : L.length ≤ (seq f L).length := by
  cases L with
  | nil => exact Nat.zero_le _
  | cons a L =>
    show _ ≤ (f a ++ cms f L).length
    rw [List.length_append, List.length_cons]
    have := cms_lenA f L
    have := hf a
    omega
theorem seq_in {α : Type} (f : α → List UInt8) (L : List α) (x : α) (h : x ∈ L) : (f x).length ≤ (seq f L).length := by
  have hc : ∀ L : List α, x ∈ L → (f x).length ≤ (cms f L).length := by
    intro L
    induction L with
    | nil => intro h; cases h
    | cons a L ih =>
      intro h
      show _ ≤ ((44 :: f a) ++ cms f L).length
      rw [List.length_append, List.length_cons]
      rcases List.mem_cons.1 h with rfl | h
      · omega
      · have := ih h; omega
  cases L with
  | nil => cases h
  | cons a L =>
    show _ ≤ (f a ++ cms f L).length
    rw [List.length_append]
    rcases List.mem_cons.1 h with rfl | h
    · omega
    · have := hc L h; omega
theorem rcp_back (n : Nat) (r : Rec) (h : (rT r).length < n) (m : List UInt8) : rcp n (rT r ++ m) = .ok r m := by
  obtain ⟨nm, ds, ss⟩ := r
  have e : rT ⟨nm, ds, ss⟩ ++ m = opn ++ (qT nm ++ ([44, 91] ++ (seq qT ds ++ (93 :: ([44, 91] ++ (seq sT ss ++ (93 :: ([41] ++ m)))))))) := by unfold rT; simp
  have hl : (seq qT ds).length + (seq sT ss).length ≤ (rT ⟨nm, ds, ss⟩).length := by
    unfold rT
    simp only [List.length_append]
    omega
  have h1 := seq_lenA qT (fun x => by unfold qT; rw [List.length_cons]; omega) ds
  have h2 := seq_lenA sT (fun x => by unfold sT; rw [List.length_cons]; omega) ss
  have h3 : ∀ s ∈ ss, s.2.length < n := fun s hs => by
    have q1 := seq_in sT ss s hs
    have q2 := cms_lenA qT s.2
    have q3 : (cms qT s.2).length ≤ (sT s).length := by unfold sT; simp only [List.length_cons, List.length_append]; omega
    omega
  unfold rcp
  rw [e, ex_back]
  dsimp only [Rs.bind]
  rw [quo_back]
  dsimp only [Rs.bind]
  rw [ex_back]
  dsimp only [Rs.bind]
  rw [(lst_back 93 quo qT (by decide) n ds (fun x _ r => ⟨quo_back x r, by show some (34 : UInt8) ≠ some 93; decide⟩) (by omega) _).2]
  dsimp only [Rs.bind]
  rw [ex_back]
  dsimp only [Rs.bind]
  rw [(lst_back 93 (stp n) sT (by decide) n ss (fun x hx r => ⟨stp_back n x (h3 x hx) r, by show some (40 : UInt8) ≠ some 93; decide⟩) (by omega) _).2]
  dsimp only [Rs.bind]
  rw [ex_back]
theorem prs_back (r : Rec) : prs (rT r) = .ok r [] := by
  unfold prs
  have := rcp_back ((rT r).length + 1) r (by omega) []
  rw [List.append_nil] at this
  rw [this]
  rfl
theorem prs_more (r : Rec) (m : List UInt8) (hm : m ≠ []) : prs (rT r ++ m) = .bad m := by
  unfold prs
  rw [rcp_back ((rT r ++ m).length + 1) r (by rw [List.length_append]; omega) m]
  show (if m = [] then Rs.ok r m else Rs.bad m) = _
  rw [if_neg hm]
theorem prs_cut (r : Rec) (a b : List UInt8) (h : rT r = a ++ b) (hb : b ≠ []) : prs a = .bad [] := by
  have h1 := rcp_back ((rT r).length + 1) r (by omega) []
  rw [List.append_nil, h] at h1
  have h2 := short_rcp _ a b r [] h1 (by cases b with | nil => exact absurd rfl hb | cons _ _ => simp)
  unfold prs
  rw [rcp_fuel (a.length + 1) ((a ++ b).length + 1) a (by omega) (by rw [List.length_append]; omega), h2]
  rfl

end Go.Proofs.Ytbfhfejdmhjccaa
