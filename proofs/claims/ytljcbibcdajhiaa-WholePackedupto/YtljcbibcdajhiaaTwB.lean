/- tree.Build, pure: rows that build a tree are its rows, and it is well-formed. -/
import Derived.Test.YtljcbibcdajhiaaTwA
namespace Go.Proofs.Ytljcbibcdajhiaa
open Go.RowKit

/-- sp is right: the names it finds are names, not too many, and make the path. -/
def SpRight (sp : ByteArray → Option (List ByteArray)) : Prop := ∀ p ns, sp p = some ns → joinB ns = p ∧ (∀ s ∈ ns, chk s = 0) ∧ ns.length ≤ 31
theorem run_root (sp : ByteArray → Option (List ByteArray)) (SO : SpOk sp) (k : Int) (e : Bool) (t : ByteArray) (nms : List ByteArray) (ks : List Tr) (hwf : wfL nms ks) (hv : (vT [] 24 (.mk k e t nms ks)).off = none) :
    ∃ S', runR sp (rwT [] (.mk k e t nms ks)) ([], 24) = some (S', (vT [] 24 (.mk k e t nms ks)).bytes) ∧ clo 1 S' = [⟨⟨#[]⟩, k, e, t, nms, ks⟩] := by
  rw [vT] at hv ⊢
  split at hv
  · cases hv
  rename_i h1
  rw [if_neg h1]
  split at hv
  · cases hv
  rename_i h2
  rw [if_neg h2]
  split at hv
  · cases hv
  rename_i h3
  rw [if_neg h3]
  obtain ⟨c1, c2⟩ := cfP_kids (show cfP k e t nms.length = 0 by omega)
  have hsp : sp (joinB []) = some [] := SO [] (by decide) (by intro s hs; cases hs)
  have ha : addR sp (joinB [], k, e, t) [] 24 = some ([⟨⟨#[]⟩, k, e, t, [], []⟩], 24 + nbP k e t) := by
    unfold addR
    rw [hsp]
    dsimp only
    rw [if_neg (by rw [c1]; decide)]
    show (if 24 + nbP k e t ≤ 1048576 then _ else _) = _
    rw [if_pos (by omega)]
  obtain ⟨S', hr, hcl, hll⟩ := run_kids sp SO nms ks [] (24 + nbP k e t) ⟨⟨#[]⟩, k, e, t, [], []⟩ [] [⟨⟨#[]⟩, k, e, t, [], []⟩] none hwf hv (by intro s hs; cases hs) (clo_stop _ _ (by simp)) (by simp) rfl (fun hn => by
      by_cases h3 : k = 3
      · exact h3
      · have := c2 h3
        cases nms with
        | nil => exact absurd rfl hn
        | cons _ _ => simp at this) rfl
  refine ⟨S', ?_, hcl⟩
  rw [rwT]
  show (addR sp (joinB [], k, e, t) [] 24).bind (runR sp (rwL [] nms ks)) = _
  rw [ha]
  exact hr

/-- The rows of what is open, the last node first. -/
def rowsS : List OE → List RW
  | [] => []
  | o :: R => rowsS R ++ ((joinB (way (o :: R)), o.k, o.e, o.t) :: rwL (way (o :: R)) o.nms o.ks)
/-- The lists of kids are as long as their names. -/
def lenS (S : List OE) : Prop := ∀ o ∈ S, wfL o.nms o.ks
theorem wfL_len : ∀ (ns : List ByteArray) (ks : List Tr), wfL ns ks → ns.length = ks.length
  | [], [], _ => rfl
  | _ :: ns, _ :: ks, h => by rw [wfL] at h; simp [wfL_len ns ks h.2]
  | [], _ :: _, h => by simp [wfL] at h
  | _ :: _, [], h => by simp [wfL] at h
theorem wfL_snoc : ∀ (ns : List ByteArray) (ks : List Tr) (s : ByteArray) (T : Tr), wfL ns ks → wfT T → wfL (ns ++ [s]) (ks ++ [T])
  | [], [], s, T, _, h2 => by simp [wfL, h2]
  | a :: ns, K :: ks, s, T, h, h2 => by
    rw [wfL] at h
    show wfL (a :: (ns ++ [s])) (K :: (ks ++ [T]))
    rw [wfL]
    exact ⟨h.1, wfL_snoc ns ks s T h.2 h2⟩
  | [], _ :: _, _, _, h, _ => by simp [wfL] at h
  | _ :: _, [], _, _, h, _ => by simp [wfL] at h
theorem rwL_snoc (ns : List ByteArray) : ∀ (nms : List ByteArray) (ks : List Tr) (s : ByteArray) (T : Tr), wfL nms ks → rwL ns (nms ++ [s]) (ks ++ [T]) = rwL ns nms ks ++ rwT (ns ++ [s]) T
  | [], [], s, T, _ => by simp [rwL]
  | a :: nms, K :: ks, s, T, h => by
    rw [wfL] at h
    show rwL ns (a :: (nms ++ [s])) (K :: (ks ++ [T])) = _
    rw [rwL, rwL, rwL_snoc ns nms ks s T h.2, List.append_assoc]
  | [], _ :: _, _, _, h => by simp [wfL] at h
  | _ :: _, [], _, _, h => by simp [wfL] at h
theorem rowsS_close (o h : OE) (R : List OE) (hl : wfL h.nms h.ks) : rowsS (h.push o.nm o.tr :: R) = rowsS (o :: h :: R) := by
  rw [rowsS, way_push]
  show rowsS R ++ ((joinB (way (h :: R)), h.k, h.e, h.t) :: rwL (way (h :: R)) (h.nms ++ [o.nm]) (h.ks ++ [o.tr])) = _
  rw [rwL_snoc _ _ _ _ _ hl, rowsS, way_cons o (h :: R) (by simp), rowsS]
  unfold OE.tr
  rw [rwT]
  simp
theorem lenS_close {o h : OE} {R : List OE} (hl : lenS (o :: h :: R)) : lenS (h.push o.nm o.tr :: R) := fun z hz => by
  rcases List.mem_cons.1 hz with rfl | hz
  · exact wfL_snoc _ _ _ _ (hl h (by simp)) (by unfold OE.tr; rw [wfT]; exact hl o (by simp))
  · exact hl z (by simp [hz])

theorem vL_snoc (ns : List ByteArray) : ∀ (nms : List ByteArray) (ks : List Tr) (s : ByteArray) (T : Tr) (b : Int) (prev : Option ByteArray) (b0 b1 : Int), wfL nms ks → vL ns b prev nms ks = ⟨b0, none⟩ → entO ((nms.getLast?).or prev) s b0 = 0 → vT (ns ++ [s]) (b0 + ebP s) T = ⟨b1, none⟩ → vL ns b prev (nms ++ [s]) (ks ++ [T]) = ⟨b1, none⟩
  | [], [], s, T, b, prev, b0, b1, _, h1, h2, h3 => by
    rw [vL_end] at h1
    injection h1 with h1
    subst h1
    show vL ns b prev (s :: []) (T :: []) = _
    have h2' : entO prev s b = 0 := h2
    rw [vL, if_neg (by rw [h2']; decide), h3]
    show vL ns b1 (some s) [] [] = _
    rw [vL_end]
  | a :: nms, K :: ks, s, T, b, prev, b0, b1, hw, h1, h2, h3 => by
    rw [wfL] at hw
    show vL ns b prev (a :: (nms ++ [s])) (K :: (ks ++ [T])) = _
    rw [vL] at h1 ⊢
    by_cases he : entO prev a b ≠ 0
    · rw [if_pos he] at h1; injection h1 with _ h1; cases h1
    · rw [if_neg he] at h1 ⊢
      cases hX : (vT (ns ++ [a]) (b + ebP a) K).off with
      | some oo => rw [hX] at h1; injection h1 with _ h1; cases h1
      | none =>
        rw [hX] at h1
        exact vL_snoc ns nms ks s T _ (some a) b0 b1 hw.2 h1 (by
          have e : ((a :: nms).getLast?).or prev = (nms.getLast?).or (some a) := by
            cases nms with
            | nil => rfl
            | cons x nms =>
              rw [List.getLast?_cons_cons]
              cases hg : (x :: nms).getLast? with
              | none => simp at hg
              | some v => rfl
          rw [← e]; exact h2) h3
  | [], _ :: _, _, _, _, _, _, _, h, _, _, _ => by simp [wfL] at h
  | _ :: _, [], _, _, _, _, _, _, h, _, _, _ => by simp [wfL] at h

/-- What is open keeps the rules, and has taken b bytes. -/
def okS : List OE → Int → Prop
  | [], _ => False
  | [o], b => cfP o.k o.e o.t 0 = 0 ∧ (o.nms ≠ [] → o.k = 3) ∧ 24 + nbP o.k o.e o.t ≤ 1048576 ∧ vL [] (24 + nbP o.k o.e o.t) none o.nms o.ks = ⟨b, none⟩
  | o :: h :: R, b => ∃ b0, okS (h :: R) b0 ∧ h.k = 3 ∧ entO h.nms.getLast? o.nm b0 = 0 ∧ R.length + 2 ≤ 32 ∧ cfP o.k o.e o.t 0 = 0 ∧ (o.nms ≠ [] → o.k = 3) ∧ b0 + ebP o.nm + nbP o.k o.e o.t ≤ 1048576 ∧ vL (way (o :: h :: R)) (b0 + ebP o.nm + nbP o.k o.e o.t) none o.nms o.ks = ⟨b, none⟩
theorem cfP_more {k : Int} {e : Bool} {t : ByteArray} {n : Nat} (h : cfP k e t 0 = 0) (hk : n ≠ 0 → k = 3) : cfP k e t n = 0 := by
  by_cases hn : n = 0
  · rw [hn]; exact h
  · have h3 := hk hn
    subst h3
    exact h
theorem okS_close {o h : OE} {R : List OE} {b : Int} (hl : lenS (o :: h :: R)) (H : okS (o :: h :: R) b) : okS (h.push o.nm o.tr :: R) b := by
  rw [okS] at H
  obtain ⟨b0, H0, hk, he, hd, hcf, hkk, hbb, hv⟩ := H
  have hlo : wfL o.nms o.ks := hl o (by simp)
  have hlh : wfL h.nms h.ks := hl h (by simp)
  have hwl : (way (h :: R)).length = R.length := by rw [way_len]; simp
  have hvT : vT (way (h :: R) ++ [o.nm]) (b0 + ebP o.nm) o.tr = ⟨b, none⟩ := by
    unfold OE.tr
    rw [vT, if_neg (by simp [hwl]; omega), if_neg (by rw [cfP_more hcf (fun hn => hkk (fun e => hn (by rw [e]; rfl)))]; decide), if_neg (by omega)]
    rw [way_cons o (h :: R) (by simp)] at hv
    exact hv
  cases R with
  | nil =>
    rw [okS] at H0 ⊢
    obtain ⟨a1, a2, a3, a4⟩ := H0
    refine ⟨a1, fun _ => hk, a3, ?_⟩
    exact vL_snoc [] h.nms h.ks o.nm o.tr _ none b0 b hlh a4 (by simpa using he) hvT
  | cons r R =>
    rw [okS] at H0 ⊢
    obtain ⟨b2, c0, c1, c2, c3, c4, c5, c6, c7⟩ := H0
    refine ⟨b2, c0, c1, c2, c3, c4, fun _ => hk, c6, ?_⟩
    rw [way_push]
    exact vL_snoc _ h.nms h.ks o.nm o.tr _ none b0 b hlh c7 (by simpa using he) hvT
theorem clo_keeps (c : Nat) : ∀ (n : Nat) (S : List OE) (b : Int), S.length ≤ n → lenS S → okS S b → lenS (clo c S) ∧ okS (clo c S) b ∧ rowsS (clo c S) = rowsS S := by
  intro n
  induction n with
  | zero =>
    intro S b h _ ho
    have e : S = [] := List.eq_nil_of_length_eq_zero (by omega)
    subst e
    rw [okS] at ho
    exact ho.elim
  | succ n ih =>
    intro S b h hl ho
    match S, h, hl, ho with
    | [], _, _, ho => rw [okS] at ho; exact ho.elim
    | [o], _, hl, ho =>
      have e : clo c [o] = [o] := by rw [clo]; simp
      rw [e]
      exact ⟨hl, ho, rfl⟩
    | o :: h' :: r, h, hl, ho =>
      by_cases hc : c < r.length + 2
      · rw [clo_step c o h' r hc]
        have := ih (h'.push o.nm o.tr :: r) b (by simp at h ⊢; omega) (lenS_close hl) (okS_close hl ho)
        exact ⟨this.1, this.2.1, this.2.2.trans (rowsS_close o h' r (hl h' (by simp)))⟩
      · rw [clo_stop c _ (by simp; omega)]
        exact ⟨hl, ho, rfl⟩

/-- Behind a row that can stand there. -/
theorem addR_keeps {sp : ByteArray → Option (List ByteArray)} (SR : SpRight sp) {r : RW} {S S' : List OE} {b b' : Int} (h : addR sp r S b = some (S', b')) (H : (S = [] ∧ b = 24) ∨ (lenS S ∧ okS S b)) : lenS S' ∧ okS S' b' ∧ rowsS S' = rowsS S ++ [r] := by
  unfold addR at h
  cases hsp : sp r.1 with
  | none => rw [hsp] at h; cases h
  | some ns =>
    rw [hsp] at h
    dsimp only at h
    obtain ⟨q1, q2, q3⟩ := SR _ _ hsp
    by_cases hcf : cfP r.2.1 r.2.2.1 r.2.2.2 0 ≠ 0
    · rw [if_pos hcf] at h; cases h
    rw [if_neg hcf] at h
    have hcf0 : cfP r.2.1 r.2.2.1 r.2.2.2 0 = 0 := by omega
    match S, hg : ns.getLast? with
    | [], none =>
      rw [hg] at h
      dsimp only at h
      have hb : b = 24 := by
        rcases H with ⟨_, hb⟩ | ⟨_, ho⟩
        · exact hb
        · rw [okS] at ho; exact ho.elim
      subst hb
      split at h
      · rename_i hle
        injection h with h
        injection h with h1 h2
        subst h1 h2
        have hns : ns = [] := by simpa using hg
        subst hns
        refine ⟨fun o ho => ?_, ?_, ?_⟩
        · simp at ho; subst ho; simp [wfL]
        · rw [okS]
          exact ⟨hcf0, fun hn => absurd rfl hn, hle, vL_end _ _ _ _⟩
        · show [] ++ ((joinB [], r.2.1, r.2.2.1, r.2.2.2) :: rwL [] [] []) = [] ++ [r]
          rw [q1]
          simp [rwL]
      · cases h
    | [], some s => rw [hg] at h; cases h
    | o :: S1, none => rw [hg] at h; cases h
    | o :: S1, some s =>
      rw [hg] at h
      dsimp only at h
      split at h
      · cases h
      rename_i hl
      split at h
      · cases h
      rename_i hw
      have hns : ns = ns.dropLast ++ [s] := by
        obtain ⟨ys, hy⟩ := List.getLast?_eq_some_iff.1 hg
        rw [hy]; simp
      have hnl : 1 ≤ ns.length := by rw [hns]; simp
      rcases H with ⟨e, _⟩ | ⟨hlen, hok⟩
      · cases e
      obtain ⟨k1, k2, k3⟩ := clo_keeps ns.length (o :: S1).length (o :: S1) b (Nat.le_refl _) hlen hok
      have kl : (clo ns.length (o :: S1)).length = ns.length := clo_len ns.length hnl (o :: S1) (by omega)
      have kw : way (clo ns.length (o :: S1)) = ns.dropLast := by
        rw [way_clo ns.length hnl (o :: S1).length (o :: S1) (Nat.le_refl _)]
        exact Classical.byContradiction hw
      cases hcl : clo ns.length (o :: S1) with
      | nil => rw [hcl] at h; cases h
      | cons hh R =>
        rw [hcl] at h k1 k2 k3 kl kw
        dsimp only at h
        by_cases h3 : hh.k ≠ 3
        · rw [if_pos h3] at h; cases h
        rw [if_neg h3] at h
        by_cases h4 : late hh.nms s = true
        · rw [if_pos h4] at h; cases h
        rw [if_neg h4] at h
        by_cases h5 : b + nbP r.2.1 r.2.2.1 r.2.2.2 + ebP s ≤ 1048576
        · rw [if_pos h5] at h
          injection h with h
          injection h with e1 e2
          subst e1 e2
          have hck : chk s = 0 := q2 s (by rw [hns]; simp)
          have hent : entO hh.nms.getLast? s b = 0 := by
            have hb5 : b + ebP s ≤ 1048576 := by have := nbP_bd r.2.1 r.2.2.1 r.2.2.2; omega
            cases hgl : hh.nms.getLast? with
            | none =>
              show entC 1 s s b = 0
              unfold entC
              rw [if_neg (by rw [hck]; decide), if_neg (by omega), if_neg (by omega)]
            | some s' =>
              unfold late at h4
              rw [hgl] at h4
              simp at h4
              show entC 2 s' s b = 0
              unfold entC
              rw [if_neg (by rw [hck]; decide), if_neg (by omega), if_neg (by omega)]
          have hway : way (⟨s, r.2.1, r.2.2.1, r.2.2.2, [], []⟩ :: hh :: R) = ns := by
            rw [way_cons _ _ (by simp), kw]
            exact hns.symm
          simp at kl
          refine ⟨fun z hz => ?_, ?_, ?_⟩
          · rcases List.mem_cons.1 hz with rfl | hz
            · simp [wfL]
            · exact k1 z hz
          · rw [okS]
            refine ⟨b, k2, Classical.byContradiction h3, hent, by omega, hcf0, fun hn => absurd rfl hn, by show b + ebP s + nbP r.2.1 r.2.2.1 r.2.2.2 ≤ _; omega, ?_⟩
            rw [vL_end]
            show (⟨b + ebP s + nbP r.2.1 r.2.2.1 r.2.2.2, none⟩ : VR) = _
            rw [show b + ebP s + nbP r.2.1 r.2.2.1 r.2.2.2 = b + nbP r.2.1 r.2.2.1 r.2.2.2 + ebP s by omega]
          · rw [rowsS, hway, k3, q1]
            simp [rwL]
        · rw [if_neg h5] at h; cases h
theorem runR_keeps {sp : ByteArray → Option (List ByteArray)} (SR : SpRight sp) : ∀ (L : List RW) (S S' : List OE) (b b' : Int), runR sp L (S, b) = some (S', b') → lenS S → okS S b → lenS S' ∧ okS S' b' ∧ rowsS S' = rowsS S ++ L
  | [], S, S', b, b', h, h1, h2 => by
    injection h with h
    injection h with e1 e2
    subst e1 e2
    exact ⟨h1, h2, by simp⟩
  | r :: L, S, S', b, b', h, h1, h2 => by
    have h : (addR sp r S b).bind (runR sp L) = some (S', b') := h
    cases ha : addR sp r S b with
    | none => rw [ha] at h; cases h
    | some s =>
      obtain ⟨S1, b1⟩ := s
      rw [ha] at h
      obtain ⟨k1, k2, k3⟩ := addR_keeps SR ha (Or.inr ⟨h1, h2⟩)
      obtain ⟨m1, m2, m3⟩ := runR_keeps SR L S1 S' b1 b' h k1 k2
      exact ⟨m1, m2, by rw [m3, k3]; simp⟩
/-- Rows that build a tree are its rows; it is well-formed. -/
theorem built_rows {sp : ByteArray → Option (List ByteArray)} (SR : SpRight sp) {L : List RW} {S : List OE} {b : Int} (hL : L ≠ []) (h : runR sp L ([], 24) = some (S, b)) : ∃ o, clo 1 S = [o] ∧ rwT [] o.tr = L ∧ vT [] 24 o.tr = ⟨b, none⟩ ∧ wfT o.tr := by
  cases L with
  | nil => exact absurd rfl hL
  | cons r L =>
    have h : (addR sp r [] 24).bind (runR sp L) = some (S, b) := h
    cases ha : addR sp r [] 24 with
    | none => rw [ha] at h; cases h
    | some s =>
      obtain ⟨S1, b1⟩ := s
      rw [ha] at h
      obtain ⟨k1, k2, k3⟩ := addR_keeps SR ha (Or.inl ⟨rfl, rfl⟩)
      obtain ⟨m1, m2, m3⟩ := runR_keeps SR L S1 S b1 b h k1 k2
      obtain ⟨n1, n2, n3⟩ := clo_keeps 1 S.length S b (Nat.le_refl _) m1 m2
      have hSl : 1 ≤ S.length := by
        cases S with
        | nil => rw [okS] at m2; exact m2.elim
        | cons _ _ => simp
      have hcl := clo_len 1 (Nat.le_refl _) S hSl
      match hc : clo 1 S, hcl with
      | [o], _ =>
        rw [hc] at n1 n2 n3
        refine ⟨o, rfl, ?_, ?_, ?_⟩
        · have e : rowsS [o] = rwT [] o.tr := by
            unfold OE.tr
            rw [rwT]
            rfl
          rw [← e, n3, m3, k3]
          rfl
        · rw [okS] at n2
          obtain ⟨c1, c2, c3, c4⟩ := n2
          unfold OE.tr
          rw [vT, if_neg (by simp), if_neg (by rw [cfP_more c1 (fun hn => c2 (fun e => hn (by rw [e]; rfl)))]; decide), if_neg (by omega)]
          exact c4
        · unfold OE.tr
          rw [wfT]
          exact n1 o (by simp)

end Go.Proofs.Ytljcbibcdajhiaa
