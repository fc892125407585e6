/- tree.Build as a pure function over rows, and: the rows of a well-formed tree build it. -/
import Derived.Test.YtljcbibcdajhiaaTvG
namespace Go.Proofs.Ytljcbibcdajhiaa
open Go.RowKit

/-- A node that may still get entries. -/
structure OE where
  nm : ByteArray
  k : Int
  e : Bool
  t : ByteArray
  nms : List ByteArray
  ks : List Tr
def OE.tr (o : OE) : Tr := .mk o.k o.e o.t o.nms o.ks
def OE.push (h : OE) (s : ByteArray) (T : Tr) : OE := { h with nms := h.nms ++ [s], ks := h.ks ++ [T] }
/-- closeTo: the last node first. -/
def clo (c : Nat) : List OE → List OE
  | o :: h :: r => if c < r.length + 2 then clo c (h.push o.nm o.tr :: r) else o :: h :: r
  | S => S
termination_by S => S.length
theorem clo_step (c : Nat) (o h : OE) (r : List OE) (hc : c < r.length + 2) : clo c (o :: h :: r) = clo c (h.push o.nm o.tr :: r) := by rw [clo, if_pos hc]
theorem clo_stop (c : Nat) (S : List OE) (hc : S.length ≤ c) : clo c S = S := by
  match S with
  | [] => rw [clo]; simp
  | [o] => rw [clo]; simp
  | o :: h :: r => rw [clo, if_neg (by simp at hc; omega)]
theorem clo_clo (a b : Nat) (hab : a ≤ b) : ∀ (n : Nat) (S : List OE), S.length ≤ n → clo a (clo b S) = clo a S := by
  intro n
  induction n with
  | zero =>
    intro S h
    have e : S = [] := List.eq_nil_of_length_eq_zero (by omega)
    subst e
    rw [clo_stop b [] (Nat.zero_le _)]
  | succ n ih =>
    intro S h
    match S, h with
    | [], _ => rw [clo_stop b [] (Nat.zero_le _)]
    | [o], _ =>
      have e : clo b [o] = [o] := by rw [clo]; simp
      rw [e]
    | o :: h' :: r, h =>
      by_cases hb : b < r.length + 2
      · rw [clo_step b o h' r hb, ih _ (by simp at h ⊢; omega), clo_step a o h' r (by omega)]
      · rw [clo_stop b (o :: h' :: r) (by simp; omega)]
/-- The names on the way from the root. -/
def way (S : List OE) : List ByteArray := (S.reverse.drop 1).map OE.nm
theorem way_one (o : OE) : way [o] = [] := rfl
theorem way_cons (o : OE) (S : List OE) (h : S ≠ []) : way (o :: S) = way S ++ [o.nm] := by
  unfold way
  rw [List.reverse_cons, List.drop_append_of_le_length (by rw [List.length_reverse]; cases S with | nil => exact absurd rfl h | cons _ _ => simp), List.map_append]
  rfl
theorem way_len (S : List OE) : (way S).length = S.length - 1 := by unfold way; simp
theorem way_push (h : OE) (s : ByteArray) (T : Tr) (R : List OE) : way (h.push s T :: R) = way (h :: R) := by
  cases R with
  | nil => rfl
  | cons r R => rw [way_cons (h.push s T) (r :: R) (by simp), way_cons h (r :: R) (by simp)]; rfl
theorem way_clo (c : Nat) (hc : 1 ≤ c) : ∀ (n : Nat) (S : List OE), S.length ≤ n → way (clo c S) = (way S).take (c - 1) := by
  intro n
  induction n with
  | zero =>
    intro S h
    have e : S = [] := List.eq_nil_of_length_eq_zero (by omega)
    subst e
    rw [clo_stop c [] (Nat.zero_le _)]
    simp [way]
  | succ n ih =>
    intro S h
    by_cases hS : S.length ≤ c
    · rw [clo_stop c S hS, List.take_of_length_le (by rw [way_len]; omega)]
    · match S, h, hS with
      | [], _, hS => simp at hS
      | [o], _, hS => simp at hS; omega
      | o :: h' :: r, h, hS =>
        simp at hS
        rw [clo_step c o h' r (by omega), ih _ (by simp at h ⊢; omega), way_push, way_cons o (h' :: r) (by simp), List.take_append_of_le_length (by rw [way_len]; simp; omega)]
theorem clo_len (c : Nat) (hc : 1 ≤ c) (S : List OE) (h : c ≤ S.length) : (clo c S).length = c := by
  have key : ∀ (n : Nat) (S : List OE), S.length ≤ n → c ≤ S.length → (clo c S).length = c := by
    intro n
    induction n with
    | zero => intro S h1 h2; omega
    | succ n ih =>
      intro S h1 h2
      by_cases hS : S.length ≤ c
      · rw [clo_stop c S hS]; omega
      · match S, h1, hS with
        | [], _, hS => simp at hS
        | [o], _, hS => simp at hS; omega
        | o :: h' :: r, h1, hS =>
          simp at hS
          rw [clo_step c o h' r (by omega)]
          exact ih _ (by simp at h1 ⊢; omega) (by simp; omega)
  exact key S.length S (Nat.le_refl _) h

/-- The last of the names does not stand ahead of s. -/
def late (nms : List ByteArray) (s : ByteArray) : Bool := match nms.getLast? with
  | none => false
  | some s' => decide (0 ≤ cmpB s' s)
/-- add: a row more, by the names sp of its path; none: it can't stand there. -/
def addR (sp : ByteArray → Option (List ByteArray)) (r : RW) (S : List OE) (b : Int) : Option (List OE × Int) :=
  match sp r.1 with
  | none => none
  | some ns =>
    if cfP r.2.1 r.2.2.1 r.2.2.2 0 ≠ 0 then none
    else match S, ns.getLast? with
      | [], none => if b + nbP r.2.1 r.2.2.1 r.2.2.2 ≤ 1048576 then some ([⟨⟨#[]⟩, r.2.1, r.2.2.1, r.2.2.2, [], []⟩], b + nbP r.2.1 r.2.2.1 r.2.2.2) else none
      | [], some _ => none
      | _ :: _, none => none
      | _ :: _, some s =>
        if S.length < ns.length then none
        else if (way S).take (ns.length - 1) ≠ ns.dropLast then none
        else match clo ns.length S with
          | [] => none
          | h :: R => if h.k ≠ 3 then none else if late h.nms s = true then none
            else if b + nbP r.2.1 r.2.2.1 r.2.2.2 + ebP s ≤ 1048576 then some (⟨s, r.2.1, r.2.2.1, r.2.2.2, [], []⟩ :: h :: R, b + nbP r.2.1 r.2.2.1 r.2.2.2 + ebP s) else none
def runR (sp : ByteArray → Option (List ByteArray)) : List RW → List OE × Int → Option (List OE × Int)
  | [], s => some s
  | r :: L, s => (addR sp r s.1 s.2).bind (runR sp L)
theorem runR_app (sp : ByteArray → Option (List ByteArray)) (L M : List RW) : ∀ s, runR sp (L ++ M) s = (runR sp L s).bind (runR sp M) := by
  induction L with
  | nil => intro s; rfl
  | cons r L ih =>
    intro s
    show (addR sp r s.1 s.2).bind (runR sp (L ++ M)) = ((addR sp r s.1 s.2).bind (runR sp L)).bind (runR sp M)
    cases addR sp r s.1 s.2 with
    | none => rfl
    | some s' => exact ih s'
/-- sp finds the names that joinB put together, where each is a name and there are not too many. -/
def SpOk (sp : ByteArray → Option (List ByteArray)) : Prop := ∀ ns : List ByteArray, ns.length ≤ 31 → (∀ s ∈ ns, chk s = 0) → sp (joinB ns) = some ns

theorem addR_in {sp : ByteArray → Option (List ByteArray)} {r : RW} {S : List OE} {b : Int} {ns : List ByteArray} {s : ByteArray} {h : OE} {R : List OE} (hsp : sp r.1 = some (ns ++ [s])) (hcf : cfP r.2.1 r.2.2.1 r.2.2.2 0 = 0) (hc : clo (ns.length + 1) S = h :: R) (hl : ns.length + 1 ≤ S.length) (hw : way (h :: R) = ns) (hk : h.k = 3) (ho : ∀ s', h.nms.getLast? = some s' → cmpB s' s < 0) (hb : b + nbP r.2.1 r.2.2.1 r.2.2.2 + ebP s ≤ 1048576) :
    addR sp r S b = some (⟨s, r.2.1, r.2.2.1, r.2.2.2, [], []⟩ :: h :: R, b + nbP r.2.1 r.2.2.1 r.2.2.2 + ebP s) := by
  have hln : (ns ++ [s]).length = ns.length + 1 := by simp
  have hgl : (ns ++ [s]).getLast? = some s := by simp
  have hdl : (ns ++ [s]).dropLast = ns := by simp
  have hwy : (way S).take ns.length = ns := by
    have := way_clo (ns.length + 1) (by omega) S.length S (Nat.le_refl _)
    rw [hc, hw, Nat.add_sub_cancel] at this
    exact this.symm
  unfold addR
  rw [hsp]
  dsimp only
  rw [if_neg (by rw [hcf]; decide), hgl]
  match S, hl with
  | o :: S', hl =>
    dsimp only
    rw [if_neg (by rw [hln]; omega), hdl, hln, Nat.add_sub_cancel, if_neg (by rw [hwy]; exact fun h => h rfl), hc]
    dsimp only
    rw [if_neg (by rw [hk]; decide), if_neg (by
      unfold late
      cases hg : h.nms.getLast? with
      | none => simp
      | some s' => have := ho s' hg; simp; omega), if_pos hb]
theorem entO_parts {prev : Option ByteArray} {s : ByteArray} {b : Int} (h : entO prev s b = 0) : chk s = 0 ∧ (∀ s', prev = some s' → cmpB s' s < 0) ∧ b + ebP s ≤ 1048576 := by
  cases prev with
  | none =>
    have := entC_ok h
    exact ⟨this.1, (fun s' e => by cases e), this.2.2⟩
  | some p =>
    have := entC_ok h
    refine ⟨this.1, fun s' e => ?_, this.2.2⟩
    injection e with e
    subst e
    have h2 := this.2.1
    omega
theorem cfP_kids {k : Int} {e : Bool} {t : ByteArray} {n : Nat} (h : cfP k e t n = 0) : cfP k e t 0 = 0 ∧ (k ≠ 3 → n = 0) := by
  unfold cfP at h ⊢
  by_cases h1 : k = 1
  · rw [if_pos h1] at h ⊢
    by_cases hn : 0 < n
    · rw [if_pos hn] at h; exact absurd h (by decide)
    · exact ⟨by simp, fun _ => by omega⟩
  · rw [if_neg h1] at h ⊢
    by_cases h2 : k = 2
    · rw [if_pos h2] at h ⊢
      by_cases hn : e = true ∨ 0 < n
      · rw [if_pos hn] at h; exact absurd h (by decide)
      · rw [if_neg hn] at h
        rw [if_neg (by intro hh; rcases hh with hh | hh; exact hn (Or.inl hh); omega)]
        exact ⟨h, fun _ => by omega⟩
    · rw [if_neg h2] at h ⊢
      by_cases h3 : k = 3
      · rw [if_pos h3] at h ⊢
        exact ⟨h, fun hh => absurd h3 hh⟩
      · rw [if_neg h3] at h; exact absurd h (by decide)
mutual
/-- A tree's lists of kids are as long as their names. -/
def wfT : Tr → Prop
  | .mk _ _ _ ns ks => wfL ns ks
def wfL : List ByteArray → List Tr → Prop
  | [], [] => True
  | _ :: ns, T :: ks => wfT T ∧ wfL ns ks
  | _, _ => False
end
mutual
theorem run_tree (sp : ByteArray → Option (List ByteArray)) (SO : SpOk sp) : ∀ (T : Tr) (ns : List ByteArray) (s : ByteArray) (b : Int) (h : OE) (R S : List OE), wfT T → (vT (ns ++ [s]) (b + ebP s) T).off = none → (∀ z ∈ ns ++ [s], chk z = 0) → clo (ns.length + 1) S = h :: R → ns.length + 1 ≤ S.length → way (h :: R) = ns → h.k = 3 → (∀ s', h.nms.getLast? = some s' → cmpB s' s < 0) →
    ∃ S', runR sp (rwT (ns ++ [s]) T) (S, b) = some (S', (vT (ns ++ [s]) (b + ebP s) T).bytes) ∧ clo (ns.length + 1) S' = h.push s T :: R ∧ ns.length + 1 ≤ S'.length
  | .mk k e t nms ks => fun ns s b h R S hwf hv hck hc hl hw hk ho => by
    rw [wfT] at hwf
    rw [vT] at hv ⊢
    split at hv
    · cases hv
    rename_i h1
    rw [if_neg h1]
    split at hv
    · cases hv
    rename_i h2
    rw [if_neg h2]
    split at hv
    · cases hv
    rename_i h3
    rw [if_neg h3]
    obtain ⟨c1, c2⟩ := cfP_kids (show cfP k e t nms.length = 0 by omega)
    have hln : (ns ++ [s]).length = ns.length + 1 := by simp
    have hR : R.length = ns.length := by
      have := clo_len (ns.length + 1) (by omega) S hl
      rw [hc] at this
      simpa using this
    have hsp : sp (joinB (ns ++ [s])) = some (ns ++ [s]) := SO _ (by rw [hln] at h1 ⊢; omega) hck
    have ha := addR_in (sp := sp) (r := (joinB (ns ++ [s]), k, e, t)) (S := S) (b := b) hsp c1 hc hl hw hk ho (by show b + nbP k e t + ebP s ≤ _; omega)
    have hbe : b + nbP k e t + ebP s = b + ebP s + nbP k e t := by omega
    obtain ⟨S', hr, hcl, hll⟩ := run_kids sp SO nms ks (ns ++ [s]) (b + ebP s + nbP k e t) ⟨s, k, e, t, [], []⟩ (h :: R) (⟨s, k, e, t, [], []⟩ :: h :: R) none hwf hv hck (by rw [hln]; exact clo_stop _ _ (by simp; omega)) (by rw [hln]; simp; omega) (by rw [way_cons _ _ (by simp), hw]) (fun hn => by
      by_cases h3 : k = 3
      · exact h3
      · have := c2 h3
        cases nms with
        | nil => exact absurd rfl hn
        | cons _ _ => simp at this) rfl
    refine ⟨S', ?_, ?_, by rw [hln] at hll; omega⟩
    · rw [rwT]
      show (addR sp (joinB (ns ++ [s]), k, e, t) S b).bind (runR sp (rwL (ns ++ [s]) nms ks)) = _
      rw [ha]
      show runR sp (rwL (ns ++ [s]) nms ks) (_, b + nbP k e t + ebP s) = _
      rw [hbe]
      exact hr
    · rw [hln] at hcl
      rw [← clo_clo (ns.length + 1) (ns.length + 1 + 1) (by omega) S'.length S' (Nat.le_refl _), hcl, clo_step _ _ _ _ (by omega), clo_stop _ _ (by simp; omega)]
      rfl
theorem run_kids (sp : ByteArray → Option (List ByteArray)) (SO : SpOk sp) : ∀ (nms : List ByteArray) (ks : List Tr) (ns : List ByteArray) (b : Int) (o : OE) (R S : List OE) (prev : Option ByteArray), wfL nms ks → (vL ns b prev nms ks).off = none → (∀ z ∈ ns, chk z = 0) → clo (ns.length + 1) S = o :: R → ns.length + 1 ≤ S.length → way (o :: R) = ns → (nms ≠ [] → o.k = 3) → o.nms.getLast? = prev →
    ∃ S', runR sp (rwL ns nms ks) (S, b) = some (S', (vL ns b prev nms ks).bytes) ∧ clo (ns.length + 1) S' = { o with nms := o.nms ++ nms, ks := o.ks ++ ks } :: R ∧ ns.length + 1 ≤ S'.length
  | s :: nms, T :: ks => fun ns b o R S prev hwf hv hck hc hl hw hk hp => by
    rw [wfL] at hwf
    rw [vL] at hv ⊢
    split at hv
    · cases hv
    rename_i h2
    rw [if_neg h2]
    obtain ⟨e1, e2, e3⟩ := entO_parts (show entO prev s b = 0 by omega)
    cases hX : (vT (ns ++ [s]) (b + ebP s) T).off with
    | some oo => rw [hX] at hv; cases hv
    | none =>
      rw [hX] at hv
      have hck2 : ∀ z ∈ ns ++ [s], chk z = 0 := fun z hz => by
        rcases List.mem_append.1 hz with hz | hz
        · exact hck z hz
        · simp at hz; subst hz; exact e1
      obtain ⟨S1, hr1, hc1, hl1⟩ := run_tree sp SO T ns s b o R S hwf.1 hX hck2 hc hl hw (hk (by simp)) (fun s' hs' => e2 s' (by rw [← hp]; exact hs'))
      obtain ⟨S2, hr2, hc2, hl2⟩ := run_kids sp SO nms ks ns (vT (ns ++ [s]) (b + ebP s) T).bytes (o.push s T) R S1 (some s) hwf.2 hv hck hc1 hl1 (by rw [way_push]; exact hw) (fun _ => hk (by simp)) (by show (o.nms ++ [s]).getLast? = _; simp)
      refine ⟨S2, ?_, ?_, hl2⟩
      · rw [rwL, runR_app, hr1]
        exact hr2
      · rw [hc2]
        show ({ o with nms := (o.nms ++ [s]) ++ nms, ks := (o.ks ++ [T]) ++ ks } : OE) :: R = _
        rw [List.append_assoc, List.append_assoc]
        rfl
  | [], [] => fun ns b o R S prev _ _ _ hc hl _ _ _ => by
    refine ⟨S, ?_, ?_, hl⟩
    · rw [rwL, vL_end] <;> simp [runR]
    · rw [hc, List.append_nil, List.append_nil]
  | [], _ :: _ => fun ns b o R S prev hwf => by simp [wfL] at hwf
  | _ :: _, [] => fun ns b o R S prev hwf => by simp [wfL] at hwf
end

end Go.Proofs.Ytljcbibcdajhiaa
