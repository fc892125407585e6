/- UgK UgL UiK, gathered (own text of the verifier). -/
import Derived.Test.YtnggbemnblcnaaaDoorXF
import Derived.Test.YtnggbemnblcnaaaDoorXD
import Derived.Test.YtnggbemnblcnaaaDoorXE
import Derived.Test.YtnggbemnblcnaaaDoorXK
import Derived.Test.YtnggbemnblcnaaaDoorXO
import Derived.Test.YtnggbemnblcnaaaDoorXN
import Derived.Test.YtnggbemnblcnaaaDoorTqR
import Derived.Test.YtnggbemnblcnaaaDoorXB
namespace Go.Proofs.YtnggbemnblcnaaaDoor
open Go.RowKit

/-- The rows of a well-formed tree build it. -/
theorem bld_tree {K : Tr} (hw : wfT K) (hv : (vT [] 24 K).off = none) : bldT (rwT [] K) = (K, 0, 0) := by
  obtain ⟨k, e, t, nms, ks⟩ := K
  have hvp := vT_parts hv
  rw [wfT] at hw
  obtain ⟨c1, c2⟩ := cfP_kids hvp.2.1
  have hft := ft_root pathN pathN_ok k e t nms ks hw hv
  have hbd := vT_bd [] 24 _ hv (by decide) (by decide)
  have hq : (if k = 3 then gth spN ((joinB [], k, e, t) :: rwL [] nms ks).length [] [] [] (rwL [] nms ks) else (([], [], rwL [] nms ks) : List ByteArray × List Tr × List RW)) = (nms, ks, []) := by
    by_cases h3 : k = 3
    · rw [if_pos h3]
      have := gth_wf spN spN_ok nms ks [] (24 + nbP k e t) none ((joinB [], k, e, t) :: rwL [] nms ks).length [] [] [] hw hvp.2.2.2 (by intro z hz; cases hz) rfl (by rw [List.append_nil]; simp) (fun r rs h => by cases h)
      rw [List.append_nil] at this
      exact this
    · rw [if_neg h3]
      have h0 := c2 h3
      have hn0 : nms = [] := List.length_eq_zero_iff.1 h0
      subst hn0
      cases ks with
      | nil => rfl
      | cons T ks => exact absurd (wfL_len _ _ hw) (by simp)
  rw [rwT] at hft ⊢
  unfold bldT
  dsimp only
  rw [if_neg (by
    intro h
    rcases h with h | h
    · exact h rfl
    · exact h c1), hq]
  dsimp only
  rw [List.length_nil, Nat.sub_zero, List.take_length, ftG_all _ _ (by rw [hft]; exact hbd.2), if_neg (Nat.lt_irrefl _)]

theorem rch_fail : ∀ (L M : List ByteArray) (T : Tr), (rch L T).1 ≠ 0 → (rch (L ++ M) T).1 = (rch L T).1
  | [], M, T, h => absurd rfl h
  | s :: l, M, T, h => by
    show (rch (s :: (l ++ M)) T).1 = _
    rw [rch, rch] at *
    split
    · rfl
    · rename_i hk
      rw [if_neg hk] at h
      cases hs : sub s T.nms T.ks with
      | none => rfl
      | some K =>
        rw [hs] at h
        exact rch_fail l M K h
theorem lk_app : ∀ (L M : List ByteArray) (T : Tr), lk (L ++ M) T = (lk L T).bind (lk M)
  | [], M, T => rfl
  | s :: l, M, T => by
    show lk (s :: (l ++ M)) T = _
    rw [lk, lk]
    cases sub s T.nms T.ks with
    | none => rfl
    | some K => exact lk_app l M K
theorem rchH_zero {L : List ByteArray} {T : Tr} (h : (rchH L T).1 = 0) : (rch L T).1 = 0 ∧ (rch L T).2.k = 3 := by
  unfold rchH at h
  by_cases h1 : (rch L T).1 ≠ 0
  · rw [if_pos h1] at h; exact absurd h h1
  · rw [if_neg h1] at h
    by_cases h2 : (rch L T).2.k ≠ 3
    · rw [if_pos h2] at h; exact absurd (show (65 : Int) = 0 from h) (by decide)
    · exact ⟨by omega, by omega⟩
/-- The way's code is that of reaching the path. -/
theorem way_rch2 {N : List ByteArray} {T : Tr} (h : wayC T N ≠ 0) : (rch N T).1 = wayC T N := by
  by_cases hne : N = []
  · subst hne; exact absurd rfl h
  have en := (List.dropLast_concat_getLast hne).symm
  rw [en] at h ⊢
  rw [wayC_snoc] at h ⊢
  generalize N.dropLast = L at h ⊢
  generalize N.getLast hne = s
  unfold rchH at h ⊢
  by_cases h1 : (rch L T).1 ≠ 0
  · rw [if_pos h1]; exact rch_fail L [s] T h1
  · rw [if_neg h1] at h ⊢
    by_cases h2 : (rch L T).2.k ≠ 3
    · rw [if_pos h2, rch_app L [s] T (by omega), rch, if_pos h2]
    · rw [if_neg h2] at h; exact absurd h h1
theorem way_lk {N : List ByteArray} {T : Tr} (h : wayC T N = 0) : (lk N T = none → (rch N T).1 = 3) ∧ ∀ K, lk N T = some K → rch N T = (0, K) := by
  by_cases hne : N = []
  · subst hne
    exact ⟨fun h => (by cases h), fun K hK => by injection hK with hK; rw [← hK]; rfl⟩
  have en := (List.dropLast_concat_getLast hne).symm
  rw [en] at h ⊢
  rw [wayC_snoc] at h
  generalize N.dropLast = L at h ⊢
  generalize N.getLast hne = s
  obtain ⟨h1, h2⟩ := rchH_zero h
  rw [lk_app, lk_rch L T h1, rch_app L [s] T h1]
  show (lk [s] (rch L T).2 = none → _) ∧ ∀ K, lk [s] (rch L T).2 = some K → _
  rw [lk, rch, if_neg (by omega)]
  cases sub s (rch L T).2.nms (rch L T).2.ks with
  | none => exact ⟨fun _ => rfl, fun K hK => by cases hK⟩
  | some K0 => exact ⟨fun h => (by cases h), fun K hK => by injection hK with hK; rw [← hK]; rfl⟩
theorem get_bad {T : Tr} {p : ByteArray} (h : nmO [T] p = 0) (hw : wayC T (pathN p) ≠ 0) : getT T p = (wayC T (pathN p), zT) := getT_bad h (way_rch2 hw) hw
theorem get_none {T : Tr} {p : ByteArray} (h : nmO [T] p = 0) (hw : wayC T (pathN p) = 0) (hk : lk (pathN p) T = none) : getT T p = (3, zT) := getT_bad h ((way_lk hw).1 hk) (by decide)
theorem get_some {T K : Tr} {p : ByteArray} (h : nmO [T] p = 0) (hw : wayC T (pathN p) = 0) (hk : lk (pathN p) T = some K) : getT T p = (0, K) := getT_of h ((way_lk hw).2 K hk)
/-- The rows at a path, their paths shortened. -/
theorem rw_shift (M : List ByteArray) (K : Tr) : (rnT M K).map (fun p => ((joinB (p.1.drop M.length), p.2.k, p.2.e, p.2.t) : RW)) = rwT [] K := by
  have h := rnT_shift M K []
  rw [List.append_nil] at h
  rw [rwT_rn, ← h, List.map_map]
  rfl
theorem run_filter {nm : ByteArray → List ByteArray} {M : List ByteArray} {L : List RW} {a c : Nat} (h : Run nm M L a c) : L.take a ++ L.drop c = L.filter (fun r => decide (¬ (M <+: nm r.1))) := by
  have e : L = L.take a ++ ((L.drop a).take (c - a) ++ L.drop c) := by
    rw [show L.drop c = (L.drop a).drop (c - a) by rw [List.drop_drop]; congr 1; have := h.le; omega, List.take_append_drop, List.take_append_drop]
  have h1 : (L.take a).filter (fun r => decide (¬ (M <+: nm r.1))) = L.take a := by
    rw [List.filter_eq_self]
    intro r hr
    obtain ⟨i, hi, rfl⟩ := List.getElem_of_mem hr
    rw [List.length_take] at hi
    refine decide_eq_true (h.lo i _ (by omega) ?_)
    rw [List.getElem_take]
    exact List.getElem?_eq_getElem _
  have h2 : ((L.drop a).take (c - a)).filter (fun r => decide (¬ (M <+: nm r.1))) = [] := by
    rw [List.filter_eq_nil_iff]
    intro r hr
    obtain ⟨i, hi, rfl⟩ := List.getElem_of_mem hr
    rw [List.length_take, List.length_drop] at hi
    simp only [decide_eq_true_eq, Decidable.not_not]
    refine h.mid (a + i) _ (by omega) (by omega) ?_
    rw [List.getElem_take, List.getElem_drop]
    exact List.getElem?_eq_getElem _
  have h3 : (L.drop c).filter (fun r => decide (¬ (M <+: nm r.1))) = L.drop c := by
    rw [List.filter_eq_self]
    intro r hr
    obtain ⟨i, hi, rfl⟩ := List.getElem_of_mem hr
    rw [List.length_drop] at hi
    refine decide_eq_true (h.hi (c + i) _ (by omega) ?_)
    rw [List.getElem_drop]
    exact List.getElem?_eq_getElem _
  conv => rhs; rw [e]
  rw [List.filter_append, List.filter_append, h1, h2, h3, List.nil_append]
theorem cut_bad {T : Tr} {p : ByteArray} (h : nmO [T] p = 0) (hw : wayC T (pathN p) ≠ 0) : cutT T p = (wayC T (pathN p), zT) := by
  by_cases hne : pathN p = []
  · rw [hne] at hw; exact absurd rfl hw
  have en := (List.dropLast_concat_getLast hne).symm
  rw [en] at hw ⊢
  rw [wayC_snoc] at hw ⊢
  rw [cutT_snoc h en]
  unfold cutN
  rw [if_pos hw]
theorem cut_root {T : Tr} {p : ByteArray} (h : nmO [T] p = 0) (hN : pathN p = []) : cutT T p = (66, zT) := by
  unfold cutT
  rw [if_neg (by omega), hN]
  rfl
theorem lk_snoc {L : List ByteArray} {s : ByteArray} {T : Tr} (h : (rchH L T).1 = 0) : lk (L ++ [s]) T = sub s (rch L T).2.nms (rch L T).2.ks := by
  rw [lk_app, lk_rch L T (rchH_zero h).1]
  show lk [s] (rch L T).2 = _
  rw [lk]
  cases sub s (rch L T).2.nms (rch L T).2.ks with
  | none => rfl
  | some K => rfl
theorem cut_none {T : Tr} {p : ByteArray} (hwf : wfT T) (h : nmO [T] p = 0) (hne : pathN p ≠ []) (hw : wayC T (pathN p) = 0) (hk : lk (pathN p) T = none) : cutT T p = (3, zT) := by
  have en := (List.dropLast_concat_getLast hne).symm
  rw [en] at hw hk
  rw [wayC_snoc] at hw
  rw [cutT_snoc h en]
  unfold cutN
  rw [if_neg (by omega)]
  rw [lk_snoc hw, sub_find] at hk
  cases hf : (rch (pathN p).dropLast T).2.nms.findIdx? (fun n => decide (n = (pathN p).getLast hne)) with
  | none => rfl
  | some i =>
    rw [hf] at hk
    exfalso
    obtain ⟨h1, _⟩ := List.findIdx?_eq_some_iff_getElem.1 hf
    have hl := wfT_len (wfT_rch (pathN p).dropLast hwf)
    have : (rch (pathN p).dropLast T).2.ks[i]? = none := hk
    rw [List.getElem?_eq_none_iff] at this
    omega
theorem wfT_rep2 {T X : Tr} (L : List ByteArray) (h : wfT T) (hX : wfT X) : wfT (repT L T X) := rep_keeps wfT wfT_kid (fun k e t nms ks h i K hK => by
  rw [wfT, wfL_iff] at h ⊢
  refine ⟨by rw [List.length_set]; exact h.1, fun T hT => ?_⟩
  rcases List.mem_or_eq_of_mem_set hT with hT | rfl
  · exact h.2 T hT
  · exact hK) X hX L T h
theorem wfT_del2 {P : Tr} (i : Nat) (h : wfT P) : wfT (delK P i) := by
  obtain ⟨k, e, t, nms, ks⟩ := P
  rw [wfT, wfL_iff] at h
  show wfT (.mk k e t (nms.eraseIdx i) (ks.eraseIdx i))
  rw [wfT, wfL_iff]
  refine ⟨?_, fun T hT => h.2 T (List.mem_of_mem_eraseIdx hT)⟩
  rw [List.length_eraseIdx, List.length_eraseIdx, h.1]
/-- Cut: the rows without those at the path are those of the tree that Cut answers. -/
theorem cut_some {T K : Tr} {p : ByteArray} {a c : Nat} (hwf : wfT T) (hv : (vT [] 24 T).off = none) (ha : ascT T) (h : nmO [T] p = 0) (hne : pathN p ≠ []) (hw : wayC T (pathN p) = 0) (hk : lk (pathN p) T = some K) (hr : Run pathN (pathN p) (rwT [] T) a c) :
    ∃ D, cutT T p = (0, D) ∧ wfT D ∧ (vT [] 24 D).off = none ∧ (rwT [] T).take a ++ (rwT [] T).drop c = rwT [] D := by
  have en := (List.dropLast_concat_getLast hne).symm
  have hw' := hw
  have hk' := hk
  rw [en] at hw' hk'
  rw [wayC_snoc] at hw'
  obtain ⟨h1, h2⟩ := rchH_zero hw'
  rw [lk_snoc hw', sub_find] at hk'
  cases hf : (rch (pathN p).dropLast T).2.nms.findIdx? (fun n => decide (n = (pathN p).getLast hne)) with
  | none => rw [hf] at hk'; cases hk'
  | some i =>
    rw [hf] at hk'
    have hki : (rch (pathN p).dropLast T).2.ks[i]? = some K := hk'
    obtain ⟨g1, g2, _⟩ := List.findIdx?_eq_some_iff_getElem.1 hf
    have g3 : (rch (pathN p).dropLast T).2.nms[i] = (pathN p).getLast hne := by simpa using g2
    have hP := wfT_rch (pathN p).dropLast hwf
    refine ⟨repT (pathN p).dropLast T (delK (rch (pathN p).dropLast T).2 i), ?_, wfT_rep2 _ hwf (wfT_del2 _ hP), cut_off hP hv h1 g1, ?_⟩
    · rw [cutT_snoc h en]
      unfold cutN
      rw [if_neg (by omega), hf]
    · obtain ⟨A, B, K', e1, hA, hB, e2⟩ := rn_cut (pathN p).dropLast [] ((pathN p).getLast hne) T i ha h1 (by rw [List.getElem?_eq_getElem g1, g3]) (List.getElem?_eq_some_iff.1 hki).1
      rw [List.nil_append, ← en] at e1 hA hB
      rw [run_filter hr, rwT_rn T, e1, List.map_append, List.map_append, List.filter_append, List.filter_append]
      have hnm := rn_nm pathN_ok hv
      rw [e1] at hnm
      have f1 : (A.map rnR).filter (fun r => decide (¬ (pathN p <+: pathN r.1))) = A.map rnR := by
        rw [List.filter_eq_self]
        intro r hr
        obtain ⟨q, hq, rfl⟩ := List.mem_map.1 hr
        rw [hnm q (by simp [hq])]
        exact decide_eq_true (hA q hq)
      have f2 : ((rnT (pathN p) K').map rnR).filter (fun r => decide (¬ (pathN p <+: pathN r.1))) = [] := by
        rw [List.filter_eq_nil_iff]
        intro r hr
        obtain ⟨q, hq, rfl⟩ := List.mem_map.1 hr
        rw [hnm q (by simp [hq])]
        simp only [decide_eq_true_eq, Decidable.not_not]
        exact rnT_pre K' _ q hq
      have f3 : (B.map rnR).filter (fun r => decide (¬ (pathN p <+: pathN r.1))) = B.map rnR := by
        rw [List.filter_eq_self]
        intro r hr
        obtain ⟨q, hq, rfl⟩ := List.mem_map.1 hr
        rw [hnm q (by simp [hq])]
        exact decide_eq_true (hB q hq)
      rw [f1, f2, f3, List.append_nil, ← List.map_append, rwT_rn]
      have hrf : ∀ l : List (List ByteArray × Tr), l.map rnR = (l.map rf).map (fun z => ((joinB z.1, z.2.1, z.2.2.1, z.2.2.2) : RW)) := fun l => by rw [List.map_map]; rfl
      rw [hrf, hrf, e2]
end Go.Proofs.YtnggbemnblcnaaaDoor
namespace Go.Proofs.YtnggbemnblcnaaaDoor
open Go.RowKit

/-- add without the count of bytes. -/
def addS (r : RW) (S : List OE) : Option (List OE) :=
  match spN r.1 with
  | none => none
  | some ns =>
    if cfP r.2.1 r.2.2.1 r.2.2.2 0 ≠ 0 then none
    else match S, ns.getLast? with
      | [], none => some [⟨⟨#[]⟩, r.2.1, r.2.2.1, r.2.2.2, [], []⟩]
      | [], some _ => none
      | _ :: _, none => none
      | _ :: _, some s =>
        if S.length < ns.length then none
        else if (way S).take (ns.length - 1) ≠ ns.dropLast then none
        else match clo ns.length S with
          | [] => none
          | h :: R => if h.k ≠ 3 then none else if late h.nms s = true then none
            else some (⟨s, r.2.1, r.2.2.1, r.2.2.2, [], []⟩ :: h :: R)
theorem addR_S (r : RW) (S : List OE) (b : Int) : addR spN r S b = match addS r S with
    | none => none
    | some S' => if addB pathN b r ≤ 1048576 then some (S', addB pathN b r) else none := by
  unfold addR addS
  cases hs : spN r.1 with
  | none => rfl
  | some ns =>
    have hp : pathN r.1 = ns := by
      unfold spN at hs
      split at hs
      · injection hs
      · cases hs
    dsimp only
    by_cases hc : cfP r.2.1 r.2.2.1 r.2.2.2 0 ≠ 0
    · rw [if_pos hc, if_pos hc]
    · rw [if_neg hc, if_neg hc]
      have hob : ownB r.2.1 r.2.2.1 r.2.2.2 0 = nbP r.2.1 r.2.2.1 r.2.2.2 := by unfold ownB; rw [if_pos (by omega)]
      have hadd : addB pathN b r = b + nbP r.2.1 r.2.2.1 r.2.2.2 + (match ns.getLast? with | none => 0 | some s => ebP s) := by
        rw [addB_split, hob, hp]
        cases ns.getLast? <;> rfl
      cases S with
      | nil =>
        cases hg : ns.getLast? with
        | none => rw [hg] at hadd; dsimp only at hadd ⊢; rw [hadd, Int.add_zero]
        | some s => rfl
      | cons o S =>
        cases hg : ns.getLast? with
        | none => rfl
        | some s =>
          rw [hg] at hadd
          dsimp only at hadd ⊢
          rw [hadd]
          split
          · rfl
          · split
            · rfl
            · cases clo ns.length (o :: S) with
              | nil => rfl
              | cons h R =>
                dsimp only
                split
                · rfl
                · split
                  · rfl
                  · rfl
/-- How many rows are taken, but for the bytes. -/
def tkS : List OE → List RW → Nat
  | _, [] => 0
  | S, r :: rs => match addS r S with
    | none => 0
    | some S' => 1 + tkS S' rs
theorem bAt_tk : ∀ (L : List RW) (S : List OE) (b : Int) (i : Nat), bAt L (S, b) i = if ftG (L.take (tkS S L)) b < L.length then some (i + ftG (L.take (tkS S L)) b) else none
  | [], S, b, i => by simp [bAt, ftG]
  | r :: rs, S, b, i => by
    rw [bAt]
    show (match addR spN r S b with | none => some i | some s' => bAt rs s' (i + 1)) = _
    rw [addR_S]
    cases hS : addS r S with
    | none =>
      have ht : ftG ((r :: rs).take (tkS S (r :: rs))) b = 0 := by
        rw [tkS, hS]
        rfl
      rw [ht, if_pos (by simp)]
      rfl
    | some S' =>
      have htk : tkS S (r :: rs) = tkS S' rs + 1 := by rw [tkS, hS]; exact Nat.add_comm _ _
      dsimp only
      by_cases hb : addB pathN b r ≤ 1048576
      · have ht : ftG ((r :: rs).take (tkS S (r :: rs))) b = 1 + ftG (rs.take (tkS S' rs)) (addB pathN b r) := by rw [htk, List.take_succ_cons, ftG, if_neg (by omega)]
        rw [if_pos hb, ht]
        dsimp only
        rw [bAt_tk rs S' _ (i + 1)]
        simp only [List.length_cons]
        by_cases hl : ftG (rs.take (tkS S' rs)) (addB pathN b r) < rs.length
        · rw [if_pos hl, if_pos (by omega)]
          congr 1; omega
        · rw [if_neg hl, if_neg (by omega)]
      · have ht : ftG ((r :: rs).take (tkS S (r :: rs))) b = 0 := by rw [htk, List.take_succ_cons, ftG, if_pos (by omega)]
        rw [if_neg hb, ht]
        dsimp only
        rw [if_pos (by simp)]
        rfl
/-- More fuel changes nothing. -/
theorem gth_more (sp : ByteArray → Option (List ByteArray)) : ∀ (f : Nat) (dir ns : List ByteArray) (ks : List Tr) (X : List RW), X.length ≤ f → gth sp (f + 1) dir ns ks X = gth sp f dir ns ks X
  | 0, dir, ns, ks, X, h => by
    have : X = [] := List.length_eq_zero_iff.1 (by omega)
    subst this
    rw [gth_nil, gth_nil]
  | f + 1, dir, ns, ks, [], h => by rw [gth_nil, gth_nil]
  | f + 1, dir, ns, ks, r :: rs, h => by
    have hrs : rs.length ≤ f := by simpa using h
    cases hm : sp r.1 with
    | none => rw [gth_bad hm, gth_bad hm]
    | some m =>
      by_cases hf : fitR dir ns m r
      · have hne : m ≠ [] := fun e => by have := hf.1; rw [e] at this; simp at this
        obtain ⟨s, hs⟩ : ∃ s, m.getLast? = some s := ⟨_, List.getLast?_eq_some_getLast hne⟩
        have hq : (if r.2.1 = 3 then gth sp (f + 1) m [] [] rs else (([], [], rs) : List ByteArray × List Tr × List RW)) = (if r.2.1 = 3 then gth sp f m [] [] rs else ([], [], rs)) := by
          split
          · exact gth_more sp f m [] [] rs hrs
          · rfl
        rw [gth_yes hm hs hf (f + 1) ks rs hq, gth_yes hm hs hf f ks rs rfl]
        refine gth_more sp f _ _ _ _ ?_
        split
        · exact Nat.le_trans (gth_suf sp f m [] [] rs).1.length_le hrs
        · exact hrs
      · rw [gth_no hm hf, gth_no hm hf]
theorem gth_fuel (sp : ByteArray → Option (List ByteArray)) {f g : Nat} (dir ns : List ByteArray) (ks : List Tr) (X : List RW) (hf : X.length ≤ f) (hg : f ≤ g) : gth sp g dir ns ks X = gth sp f dir ns ks X := by
  obtain ⟨d, rfl⟩ : ∃ d, g = f + d := ⟨g - f, by omega⟩
  induction d with
  | zero => rfl
  | succ d ih => rw [← Nat.add_assoc, gth_more sp (f + d) dir ns ks X (by omega)]; exact ih (by omega)
noncomputable def gq (f : Nat) (dir : List ByteArray) (o : OE) (X : List RW) : List ByteArray × List Tr × List RW := if o.k = 3 then gth spN f dir o.nms o.ks X else (o.nms, o.ks, X)
/-- What is left when all open directories have gathered. -/
noncomputable def unw (f : Nat) : OE → List OE → List RW → List RW
  | o, [], X => (gq f [] o X).2.2
  | o, h :: R, X => unw f (h.push o.nm (.mk o.k o.e o.t (gq f (way (o :: h :: R)) o X).1 (gq f (way (o :: h :: R)) o X).2.1)) R (gq f (way (o :: h :: R)) o X).2.2
theorem gq_no {f : Nat} {dir : List ByteArray} {o : OE} {r : RW} {rs : List RW} (h : ∀ m, spN r.1 = some m → o.k = 3 → ¬ fitR dir o.nms m r) : gq (f + 1) dir o (r :: rs) = (o.nms, o.ks, r :: rs) := by
  unfold gq
  by_cases h3 : o.k = 3
  · rw [if_pos h3]
    cases hm : spN r.1 with
    | none => exact gth_bad hm _ _ _ _ _
    | some m => exact gth_no hm (h m hm h3) _ _ _
  · rw [if_neg h3]
theorem nxt_late (ns : List ByteArray) (s : ByteArray) : nxt ns s = !(late ns s) := by
  unfold nxt late
  cases ns.getLast? with
  | none => rfl
  | some s' =>
    dsimp only
    by_cases h : cmpB s' s < 0
    · rw [decide_eq_true h, decide_eq_false (by omega)]; rfl
    · rw [decide_eq_false h, decide_eq_true (by omega)]; rfl
theorem pre_drop {dir m : List ByteArray} (hl : m.length = dir.length + 1) : dir <+: m ↔ dir = m.dropLast := by
  constructor
  · rintro ⟨t, rfl⟩
    have ht : t.length = 1 := by rw [List.length_append] at hl; omega
    obtain ⟨a, rfl⟩ := List.length_eq_one_iff.1 ht
    simp
  · intro h
    rw [h]
    exact List.dropLast_prefix m
theorem clo_at {o : OE} {S : List OE} {c : Nat} (h : (o :: S).length ≤ c) : clo c (o :: S) = o :: S := clo_stop c _ h
theorem addS_far {r : RW} {o : OE} {R : List OE} {m : List ByteArray} (hm : spN r.1 = some m) (h : R.length + 1 < m.length) : addS r (o :: R) = none := by
  unfold addS
  rw [hm]
  dsimp only
  split
  · rfl
  · cases m.getLast? with
    | none => rfl
    | some s =>
      dsimp only
      rw [if_pos (by simpa using h)]
theorem addS_down {r : RW} {o h : OE} {R : List OE} (hm : ∀ m, spN r.1 = some m → m.length ≤ R.length + 1) : addS r (o :: h :: R) = addS r (h.push o.nm o.tr :: R) := by
  unfold addS
  cases hs : spN r.1 with
  | none => rfl
  | some m =>
    have hl := hm m hs
    dsimp only
    split
    · rfl
    · cases hg : m.getLast? with
      | none => rfl
      | some s =>
        have hpos : 0 < m.length := by
          cases m with
          | nil => cases hg
          | cons _ _ => simp
        have hw : (way (o :: h :: R)).take (m.length - 1) = (way (h.push o.nm o.tr :: R)).take (m.length - 1) := by
          rw [way_push, way_cons o (h :: R) (by simp), List.take_append_of_le_length (by rw [way_len]; simp; omega)]
        dsimp only
        have h1 : ¬ (o :: h :: R).length < m.length := by simp; omega
        have h2 : ¬ (h.push o.nm o.tr :: R).length < m.length := by simp; omega
        rw [if_neg h1, if_neg h2, hw, clo_step m.length o h R (by omega)]
/-- A row that can't be added is taken by no directory. -/
theorem unw_no (f : Nat) (r : RW) (rs : List RW) : ∀ (R : List OE) (o : OE), addS r (o :: R) = none → unw (f + 1) o R (r :: rs) = r :: rs := by
  intro R
  induction R with
  | nil =>
    intro o h
    rw [unw, gq_no]
    intro m hm h3 hf
    obtain ⟨s, hs⟩ : ∃ s, m.getLast? = some s := ⟨_, List.getLast?_eq_some_getLast (fun e => by have := hf.1; rw [e] at this; simp at this)⟩
    have hml : m.length = 1 := hf.1
    unfold addS at h
    rw [hm] at h
    dsimp only at h
    rw [if_neg (by rw [hf.2.2.2]; decide), hs] at h
    dsimp only at h
    rw [if_neg (by rw [hml]; simp), if_neg (by
      rw [hml]
      have : m.dropLast = [] := List.length_eq_zero_iff.1 (by rw [List.length_dropLast]; omega)
      rw [this]; simp), hml, clo_at (by simp)] at h
    dsimp only at h
    have hx := hf.2.2.1
    rw [hs] at hx
    change nxt o.nms s = true at hx
    rw [nxt_late] at hx
    rw [if_neg (by omega), if_neg (by intro hl; rw [hl] at hx; cases hx)] at h
    cases h
  | cons h R ih =>
    intro o ha
    have hno : gq (f + 1) (way (o :: h :: R)) o (r :: rs) = (o.nms, o.ks, r :: rs) := by
      refine gq_no (fun m hm h3 hf => ?_)
      obtain ⟨s, hs⟩ : ∃ s, m.getLast? = some s := ⟨_, List.getLast?_eq_some_getLast (fun e => by have := hf.1; rw [e] at this; simp at this)⟩
      have hml := hf.1
      have hwl := way_len (o :: h :: R)
      unfold addS at ha
      rw [hm] at ha
      dsimp only at ha
      rw [if_neg (by rw [hf.2.2.2]; decide), hs] at ha
      dsimp only at ha
      have hlen : m.length = (o :: h :: R).length := by rw [hml, hwl]; simp
      rw [if_neg (by omega), if_neg (by
        rw [List.take_of_length_le (by omega), ← (pre_drop hml).1 hf.2.1]
        exact fun h => h rfl), hlen, clo_at (Nat.le_refl _)] at ha
      dsimp only at ha
      have hx := hf.2.2.1
      rw [hs] at hx
      change nxt o.nms s = true at hx
      rw [nxt_late] at hx
      rw [if_neg (by omega), if_neg (by intro hl; rw [hl] at hx; cases hx)] at ha
      cases ha
    rw [unw, hno]
    refine ih _ ?_
    show addS r (h.push o.nm o.tr :: R) = none
    cases hs : spN r.1 with
    | none => unfold addS; rw [hs]
    | some m =>
      by_cases hl : m.length ≤ R.length + 1
      · rw [← addS_down (o := o) (h := h) (R := R) (fun m' h' => by rw [hs] at h'; injection h' with h'; rw [← h']; exact hl)]
        exact ha
      · exact addS_far hs (by omega)
theorem gq_suf (f : Nat) (dir : List ByteArray) (o : OE) (X : List RW) : (gq f dir o X).2.2.length ≤ X.length := by
  unfold gq
  split
  · exact (gth_suf spN f dir o.nms o.ks X).1.length_le
  · exact Nat.le_refl _
theorem gq_fuel {f : Nat} (dir : List ByteArray) (o : OE) (X : List RW) (h : X.length ≤ f) : gq (f + 1) dir o X = gq f dir o X := by
  unfold gq
  split
  · exact gth_more spN f dir o.nms o.ks X h
  · rfl
theorem unw_fuel (f : Nat) : ∀ (R : List OE) (o : OE) (X : List RW), X.length ≤ f → unw (f + 1) o R X = unw f o R X := by
  intro R
  induction R with
  | nil => intro o X h; rw [unw, unw, gq_fuel _ _ _ h]
  | cons h R ih =>
    intro o X hx
    rw [unw, unw, gq_fuel _ _ _ hx]
    exact ih _ _ (Nat.le_trans (gq_suf _ _ _ _) hx)
theorem unw_nil (f : Nat) : ∀ (R : List OE) (o : OE), unw f o R [] = [] := by
  intro R
  induction R with
  | nil =>
    intro o
    rw [unw]
    exact List.length_eq_zero_iff.1 (Nat.le_zero.1 (gq_suf f [] o []))
  | cons h R ih =>
    intro o
    rw [unw, List.length_eq_zero_iff.1 (Nat.le_zero.1 (gq_suf f (way (o :: h :: R)) o []))]
    exact ih _
/-- What add asks for, where the last open node is the holder. -/
theorem addS_top {r : RW} {o x : OE} {R T1 : List OE} {m : List ByteArray} (hm : spN r.1 = some m) (hl : m.length = R.length + 1) (h : addS r (o :: R) = some (x :: T1)) :
    ∃ s, m.getLast? = some s ∧ o.k = 3 ∧ fitR (way (o :: R)) o.nms m r ∧ x = ⟨s, r.2.1, r.2.2.1, r.2.2.2, [], []⟩ ∧ T1 = o :: R ∧ way (x :: T1) = m := by
  have hwl := way_len (o :: R)
  have hne : m ≠ [] := fun e => by rw [e] at hl; simp at hl
  have hgl := List.getLast?_eq_some_getLast hne
  have hdl := List.dropLast_concat_getLast hne
  unfold addS at h
  rw [hm] at h
  dsimp only at h
  by_cases hc : cfP r.2.1 r.2.2.1 r.2.2.2 0 ≠ 0
  · rw [if_pos hc] at h; cases h
  rw [if_neg hc, hgl] at h
  dsimp only at h
  rw [if_neg (by simp; omega)] at h
  by_cases hw : (way (o :: R)).take (m.length - 1) ≠ m.dropLast
  · rw [if_pos hw] at h; cases h
  rw [if_neg hw, clo_at (by simp; omega)] at h
  dsimp only at h
  have hw' : way (o :: R) = m.dropLast := by
    have := Decidable.not_not.1 hw
    rw [List.take_of_length_le (by rw [hwl, hl]; simp)] at this
    exact this
  by_cases h3 : o.k ≠ 3
  · rw [if_pos h3] at h; cases h
  rw [if_neg h3] at h
  by_cases hlt : late o.nms (m.getLast hne) = true
  · rw [if_pos hlt] at h; cases h
  rw [if_neg hlt] at h
  injection h with h
  injection h with e1 e2
  refine ⟨m.getLast hne, hgl, by omega, ⟨by rw [hwl, hl]; simp, by rw [hw']; exact List.dropLast_prefix m, ?_, by omega⟩, e1.symm, e2.symm, ?_⟩
  · rw [hgl]
    show nxt o.nms (m.getLast hne) = true
    rw [nxt_late]
    cases hb : late o.nms (m.getLast hne) with
    | true => exact absurd hb hlt
    | false => rfl
  · rw [← e2, ← e1, way_cons _ (o :: R) (by simp), hw']
    exact hdl
theorem unw_top (f : Nat) (r : RW) (rs : List RW) (hrs : rs.length ≤ f) (R : List OE) (o x : OE) (T1 : List OE) (m : List ByteArray) (hm : spN r.1 = some m) (hl : m.length = R.length + 1) (h : addS r (o :: R) = some (x :: T1)) : unw (f + 1) o R (r :: rs) = unw f x T1 rs := by
  obtain ⟨s, hs, h3, hf, rfl, rfl, hwx⟩ := addS_top hm hl h
  obtain ⟨q, hq⟩ : ∃ q, (if r.2.1 = 3 then gth spN f m [] [] rs else (([], [], rs) : List ByteArray × List Tr × List RW)) = q := ⟨_, rfl⟩
  have hqx : gq f (way (⟨s, r.2.1, r.2.2.1, r.2.2.2, [], []⟩ :: o :: R)) ⟨s, r.2.1, r.2.2.1, r.2.2.2, [], []⟩ rs = q := by
    rw [hwx, ← hq]
    rfl
  have hg : gq (f + 1) (way (o :: R)) o (r :: rs) = gq f (way (o :: R)) (o.push s (.mk r.2.1 r.2.2.1 r.2.2.2 q.1 q.2.1)) q.2.2 := by
    unfold gq
    rw [if_pos h3, if_pos (show (o.push s _).k = 3 from h3)]
    exact gth_yes hm hs hf f o.ks rs hq
  have hqs : q.2.2.length ≤ f := by
    rw [← hq]
    split
    · exact Nat.le_trans (gth_suf spN f m [] [] rs).1.length_le hrs
    · exact hrs
  have hR : unw f ⟨s, r.2.1, r.2.2.1, r.2.2.2, [], []⟩ (o :: R) rs = unw f (o.push s (.mk r.2.1 r.2.2.1 r.2.2.2 q.1 q.2.1)) R q.2.2 := by
    rw [unw, hqx]
  rw [hR]
  cases R with
  | nil =>
    rw [unw, unw]
    rw [way_one] at hg
    rw [hg]
  | cons h2 R2 =>
    rw [unw, unw, way_push, hg]
    exact unw_fuel f R2 _ _ (Nat.le_trans (gq_suf _ _ _ _) hqs)
/-- A row that is added is taken where it is added. -/
theorem unw_yes (f : Nat) (r : RW) (rs : List RW) (hrs : rs.length ≤ f) : ∀ (R : List OE) (o x : OE) (T1 : List OE), addS r (o :: R) = some (x :: T1) → unw (f + 1) o R (r :: rs) = unw f x T1 rs := by
  intro R
  induction R with
  | nil =>
    intro o x T1 h
    cases hm : spN r.1 with
    | none => unfold addS at h; rw [hm] at h; cases h
    | some m =>
      refine unw_top f r rs hrs [] o x T1 m hm ?_ h
      have h1 : ¬ (0 + 1 < m.length) := fun hl => by rw [addS_far hm (by exact hl)] at h; cases h
      have h2 : m ≠ [] := fun e => by
        unfold addS at h
        rw [hm, e] at h
        dsimp only at h
        split at h
        · cases h
        · cases h
      have := List.length_pos_iff.2 h2
      simp
      omega
  | cons h0 R ih =>
    intro o x T1 h
    cases hm : spN r.1 with
    | none => unfold addS at h; rw [hm] at h; cases h
    | some m =>
      by_cases hl : m.length = (h0 :: R).length + 1
      · exact unw_top f r rs hrs (h0 :: R) o x T1 m hm hl h
      · have hle : m.length ≤ R.length + 1 := by
          have h1 : ¬ ((h0 :: R).length + 1 < m.length) := fun hl => by rw [addS_far hm hl] at h; cases h
          simp at h1 hl
          omega
        have hno : gq (f + 1) (way (o :: h0 :: R)) o (r :: rs) = (o.nms, o.ks, r :: rs) := by
          refine gq_no (fun m' hm' h3 hf => ?_)
          rw [hm] at hm'
          injection hm' with hm'
          have := hf.1
          rw [← hm', way_len] at this
          simp at this
          omega
        rw [unw, hno]
        refine ih _ x T1 ?_
        rw [← h]
        exact (addS_down (fun m' h' => by rw [hm] at h'; injection h' with h'; rw [← h']; exact hle)).symm
theorem addS_shape {r : RW} {o : OE} {R S' : List OE} (h : addS r (o :: R) = some S') : ∃ x T1, S' = x :: T1 := by
  cases S' with
  | cons x T1 => exact ⟨x, T1, rfl⟩
  | nil =>
    exfalso
    unfold addS at h
    cases hs : spN r.1 with
    | none => rw [hs] at h; cases h
    | some m =>
      rw [hs] at h
      dsimp only at h
      split at h
      · cases h
      · cases hg : m.getLast? with
        | none => rw [hg] at h; cases h
        | some s =>
          rw [hg] at h
          dsimp only at h
          split at h
          · cases h
          · split at h
            · cases h
            · cases hc : clo m.length (o :: R) with
              | nil => rw [hc] at h; cases h
              | cons a b =>
                rw [hc] at h
                dsimp only at h
                split at h
                · cases h
                · split at h
                  · cases h
                  · cases h
theorem unw_tk : ∀ (L : List RW) (o : OE) (R : List OE) (f : Nat), L.length ≤ f → unw f o R L = L.drop (tkS (o :: R) L) ∧ tkS (o :: R) L ≤ L.length
  | [], o, R, f, _ => ⟨by rw [unw_nil]; rfl, Nat.le_refl _⟩
  | r :: rs, o, R, 0, h => by simp at h
  | r :: rs, o, R, f + 1, h => by
    have hrs : rs.length ≤ f := by simpa using h
    cases hS : addS r (o :: R) with
    | none =>
      have htk : tkS (o :: R) (r :: rs) = 0 := by rw [tkS, hS]
      rw [htk]
      exact ⟨unw_no f r rs R o hS, Nat.zero_le _⟩
    | some S' =>
      obtain ⟨x, T1, rfl⟩ := addS_shape hS
      have htk : tkS (o :: R) (r :: rs) = tkS (x :: T1) rs + 1 := by rw [tkS, hS]; exact Nat.add_comm _ _
      obtain ⟨i1, i2⟩ := unw_tk rs x T1 f hrs
      rw [htk, unw_yes f r rs hrs R o x T1 hS]
      exact ⟨i1, by simp; exact i2⟩
/-- Both find the same fault at the same place. -/
theorem bF_bld (L : List RW) : bF L = ((bldT L).2.1, (bldT L).2.2) := by
  cases L with
  | nil => rfl
  | cons r rs =>
    unfold bF
    rw [if_neg (by simp), bAt_tk]
    by_cases hb : r.1.size ≠ 0 ∨ cfP r.2.1 r.2.2.1 r.2.2.2 0 ≠ 0
    · have hS : addS r [] = none := by
        unfold addS
        cases hs : spN r.1 with
        | none => rfl
        | some ns =>
          dsimp only
          rcases hb with hb | hb
          · split
            · rfl
            · have hne : ns ≠ [] := fun e => by
                unfold spN at hs
                split at hs
                · rename_i h0
                  injection hs with hs
                  exact hb ((path_nil h0).1 (hs.trans e))
                · cases hs
              rw [List.getLast?_eq_some_getLast hne]
          · rw [if_pos hb]
      have ht : ftG ((r :: rs).take (tkS [] (r :: rs))) 24 = 0 := by
        rw [tkS, hS]
        rfl
      rw [ht, if_pos (by simp)]
      unfold bldT
      dsimp only
      rw [if_pos hb]
      rfl
    · have h0 : r.1.size = 0 := by
        by_cases h : r.1.size = 0
        · exact h
        · exact absurd (Or.inl h) hb
      have hc : cfP r.2.1 r.2.2.1 r.2.2.2 0 = 0 := by
        by_cases h : cfP r.2.1 r.2.2.1 r.2.2.2 0 = 0
        · exact h
        · exact absurd (Or.inr h) hb
      have hpf : (pathF r.1).1 = 0 := by unfold pathF; rw [if_pos h0]
      have hsp : spN r.1 = some [] := by rw [spN_some hpf, (path_nil hpf).2 h0]
      have hS : addS r [] = some [⟨⟨#[]⟩, r.2.1, r.2.2.1, r.2.2.2, [], []⟩] := by
        unfold addS
        rw [hsp]
        dsimp only
        rw [if_neg (by omega)]
        rfl
      obtain ⟨u1, u2⟩ := unw_tk rs ⟨⟨#[]⟩, r.2.1, r.2.2.1, r.2.2.2, [], []⟩ [] (r :: rs).length (by simp)
      have htk : tkS [] (r :: rs) = tkS [⟨⟨#[]⟩, r.2.1, r.2.2.1, r.2.2.2, [], []⟩] rs + 1 := by rw [tkS, hS]; exact Nat.add_comm _ _
      obtain ⟨q, hq⟩ : ∃ q, (if r.2.1 = 3 then gth spN (r :: rs).length [] [] [] rs else (([], [], rs) : List ByteArray × List Tr × List RW)) = q := ⟨_, rfl⟩
      have hq2 : q.2.2 = rs.drop (tkS [⟨⟨#[]⟩, r.2.1, r.2.2.1, r.2.2.2, [], []⟩] rs) := by
        rw [← u1, unw, ← hq]
        rfl
      have hgd : (r :: rs).length - q.2.2.length = tkS [] (r :: rs) := by
        rw [hq2, List.length_drop, htk]
        simp only [List.length_cons]
        omega
      unfold bldT
      dsimp only
      rw [if_neg hb, hq, hgd]
      by_cases hl : ftG ((r :: rs).take (tkS [] (r :: rs))) 24 < (r :: rs).length
      · rw [if_pos hl, if_pos hl, Nat.zero_add]
      · rw [if_neg hl, if_neg hl]
end Go.Proofs.YtnggbemnblcnaaaDoor
namespace Go.Proofs.YtnggbemnblcnaaaDoor
open Go.RowKit

theorem Rws.capB {ty : TypeId} {w : World} {B : Nat} {x : Option Addr} {n c : Nat} {L : List RW} (h : Rws ty w B (.slice x n c) L) : n = L.length ∧ n ≤ c := by
  rcases h.2 with ⟨hv, h0⟩ | ⟨g, cap, cur, hv, _, _, hc, _⟩
  · injection hv with e1 e2 e3
    subst e2 e3
    exact ⟨h0.symm, Nat.le_refl _⟩
  · injection hv with e1 e2 e3
    subst e2 e3
    exact ⟨rfl, hc⟩
theorem bld_zero {L : List RW} (h : (bldT L).2.1 ≠ 0) : (bldT L).1 = zT := by
  cases L with
  | nil => rfl
  | cons r rs =>
    unfold bldT at h ⊢
    dsimp only at h ⊢
    by_cases hb : r.1.size ≠ 0 ∨ cfP r.2.1 r.2.2.1 r.2.2.2 0 ≠ 0
    · rw [if_pos hb]
    · rw [if_neg hb] at h ⊢
      generalize (if r.2.1 = 3 then gth spN (r :: rs).length [] [] [] rs else (([], [], rs) : List ByteArray × List Tr × List RW)) = q at h ⊢
      by_cases hl : ftG ((r :: rs).take ((r :: rs).length - q.2.2.length)) 24 < (r :: rs).length
      · rw [if_pos hl]
      · rw [if_neg hl] at h; exact absurd rfl h
theorem bld_ln {L : List RW} {S : List OE} {b : Int} {o : OE} (hL : L ≠ []) (hr : runR spN L ([], 24) = some (S, b)) (ho : clo 1 S = [o]) : bldT L = (o.tr, 0, 0) ∧ lnT o.tr := by
  obtain ⟨o', h1, h2, h3, h4⟩ := built_rows spN_right hL hr
  rw [ho] at h1
  injection h1 with h1 _
  subst h1
  have hoff : (vT [] 24 o.tr).off = none := by rw [h3]
  have hwf : wfT o.tr := h4
  exact ⟨by rw [← h2]; exact bld_tree hwf hoff, lnB_ln (by decide) _ (ck_ln hwf hoff)⟩

set_option maxHeartbeats 8000000 in
set_option maxRecDepth 10000 in
theorem builds_walk (x : Option Addr) (n c : Nat) (L : List RW) (w : World) (hX : RIs w x L) (hl : L.length = n) (hn : n ≤ 1048576) (hsm : smR L) :
    Calls Tryd.prog 3 #[.slice x n c] w fun en w' => en = .returned (.bool true) ∧ Below w.heap.size w w' := by
  have HX : Hid (RIs w x L ∧ L.length = n ∧ smR L) := ⟨hX, hl, hsm⟩
  clear hX hl hsm
  go_enter Tryd.func3, Tryd.ntmps3
  go_wp2_with fail
  refine (awake_any w).mono ?_
  rintro e1 w1 ⟨rfl, b1⟩
  have HB1 : Hid (Below w.heap.size w w1) := b1
  clear b1
  go_wp2
  go_loopw [3, 15] (fun xo xi wr => ∃ (i : Nat) (Lo : List RW) (po : Option Addr) (co : Nat), i ≤ n ∧ xi = .int .i64 i ∧ xo = .slice po Lo.length co ∧ Hid (Lo = L.take i ∧ Lo.length = i) ∧ Hid (Rws 29 wr w.heap.size (.slice po Lo.length co) Lo ∧ Below w.heap.size w wr)) (fun _ i _ => n - (intOf i).toNat)
  case atStart => exact ⟨0, [], none, 0, Nat.zero_le _, rfl, rfl, ⟨by rw [List.take_zero], rfl⟩, ⟨rfl, .inl ⟨rfl, rfl⟩⟩, HB1.out⟩
  case round =>
    obtain ⟨i, Lo, po, co, hi, rfl, rfl, HL, HO⟩ := hrel
    by_cases hlt : i < n
    · obtain ⟨r, hr⟩ : ∃ r, L[i]? = some r := ⟨_, List.getElem?_eq_getElem (by rw [HX.out.2.1]; exact hlt)⟩
      obtain ⟨g, o, rfl, hg, c0, c1, c2, c3⟩ := HX.out.1.below HO.out.2 (Nat.le_refl _) i r hr
      have HLN : Hid (Lo ++ [r] = L.take (i + 1) ∧ (Lo ++ [r]).length = i + 1) := by
        refine ⟨by rw [List.take_add_one, hr, ← HL.out.1]; rfl, by rw [List.length_append, HL.out.2]; rfl⟩
      have bA : Below wr.heap.size wr (wr.alloc (Obj.cells #[Value.string r.1, Value.int IntKind.i64 r.2.1, Value.bool r.2.2.1, Value.string r.2.2.2] 27)) := (Below.refl _ _).alloc (Nat.le_refl _) _
      have HOA : Hid (Rws 29 (wr.alloc (Obj.cells #[Value.string r.1, Value.int IntKind.i64 r.2.1, Value.bool r.2.2.1, Value.string r.2.2.2] 27)) w.heap.size (.slice po Lo.length co) Lo ∧ Below w.heap.size w (wr.alloc (Obj.cells #[Value.string r.1, Value.int IntKind.i64 r.2.1, Value.bool r.2.2.1, Value.string r.2.2.2] 27))) := ⟨HO.out.1.below bA, HO.out.2.trans (bA.mono HO.out.2.size)⟩
      have HE : Hid ((wr.alloc (Obj.cells #[Value.string r.1, Value.int IntKind.i64 r.2.1, Value.bool r.2.2.1, Value.string r.2.2.2] 27)).heap[wr.heap.size]? = some (.cells #[Value.string r.1, Value.int IntKind.i64 r.2.1, Value.bool r.2.2.1, Value.string r.2.2.2] 27 (0, 0))) := heap_alloc_new _ _
      clear hr bA
      go_upto_region 7 with fail
      clear c0 c1 c2 c3 hg HO
      obtain ⟨E, hE⟩ : ∃ E, wr.heap.size = E := ⟨_, rfl⟩
      generalize (wr.alloc (Obj.cells #[Value.string r.1, Value.int IntKind.i64 r.2.1, Value.bool r.2.2.1, Value.string r.2.2.2] 27)) = wa at *
      rw [hE] at HE ⊢
      clear hE
      obtain ⟨a0, a1, a2, a3, _⟩ := cell4 HE.out
      obtain ⟨p2, c2', w8, hra, hR8, hF8⟩ := Rws.app (lty := 24) HOA.out.1 infoRROW undLRROW r HOA.out.2.size (by have := HL.out.2; omega)
      have HO8 : Hid (Rws 29 w8 w.heap.size (.slice p2 (Lo ++ [r]).length c2') (Lo ++ [r]) ∧ Below w.heap.size w w8) := ⟨by rw [List.length_append]; exact hR8, HOA.out.2.trans hF8.below⟩
      clear hR8 hF8
      go_wp2_with (first | (refine wpList_app_is (by rfl) 24 24 (.tmp 19) (.tmp 29) (by rfl) _ _ _ _ (by rfl) (by rfl) hra ?_))
      go_roundw
      case rel => exact ⟨i + 1, Lo ++ [r], p2, c2', by omega, by go_num, by simp, HLN, HO8⟩
      case measure => simp [intOf]; omega
    · obtain rfl : i = n := by omega
      have hLL : Lo = L := by rw [HL.out.1, List.take_of_length_le (by rw [HX.out.2.1]; exact Nat.le_refl _)]
      have HRR : Hid (Rws 29 wr w.heap.size (.slice po i co) L) := by
        have h := HO.out.1
        rw [HL.out.2, hLL] at h
        exact h
      have HB : Hid (Below w.heap.size w wr) := HO.out.2
      have hLi := HL.out.2
      rw [hLi]
      clear hLL HO HL hLi HB1
      have CB := build_any L x c wr (HX.out.1.below HB.out (Nat.le_refl _)) (by rw [HX.out.2.1]; exact hn) HX.out.2.2
      rw [HX.out.2.1] at CB
      go_wp2_with fail
      refine CB.mono ?_
      rintro e4 w4 ⟨⟨k1, e1, t1, x1, n1, c1, rfl, hok, hno⟩, b4⟩
      obtain ⟨fc, hfc⟩ : ∃ fc, (bF L).1 = fc := ⟨_, rfl⟩
      obtain ⟨fa, hfa⟩ : ∃ fa, (bF L).2 = fa := ⟨_, rfl⟩
      rw [hfc] at hok hno ⊢
      rw [hfa]
      have HF : Hid ((bldT L).2.1 = fc ∧ (bldT L).2.2 = fa) := by
        have h := bF_bld L
        rw [← hfc, ← hfa, h]
        exact ⟨rfl, rfl⟩
      have HLE : Hid (fc = 0 → L ≠ []) := fun h0 hL => by rw [hL] at hfc; change (50 : Int) = fc at hfc; omega
      have HD : Hid (lnT (bldT L).1 ∧ ∃ f1, At w4 f1 (.agg #[Value.int IntKind.i64 k1, Value.bool e1, Value.string t1, Value.slice x1 n1 c1]) (bldT L).1) := by
        by_cases h0 : fc = 0
        · obtain ⟨S, b, o, fp, h1, h2, rfl, rfl, rfl, hV⟩ := hok h0
          obtain ⟨q1, q2⟩ := bld_ln (HLE.out h0) h1 h2
          rw [q1]
          obtain ⟨f1, hA⟩ := TrV.at _ _ _ hV q2
          exact ⟨q2, f1, hA⟩
        · obtain ⟨rfl, rfl, rfl, rfl, rfl, rfl⟩ := hno h0
          have hz : (bldT L).1 = zT := bld_zero (by rw [HF.out.1]; exact h0)
          rw [hz]
          exact ⟨zT_all.1, 1, zT_at _⟩
      have HB4 : Hid (Below w.heap.size w w4) := HB.out.trans (b4.mono HB.out.size)
      have HR4 : Hid (Rws 29 w4 w.heap.size (.slice po i co) L) := HRR.out.below b4
      clear hok hno b4 CB HB HRR hfc hfa
      have hs1 : (w4.alloc (Obj.cells #[Value.int IntKind.i64 k1, Value.bool e1, Value.string t1, Value.slice x1 n1 c1] 32)).heap.size = w4.heap.size + 1 := World.size_alloc _ _
      have bA : Below w4.heap.size w4 ((w4.alloc (Obj.cells #[Value.int IntKind.i64 k1, Value.bool e1, Value.string t1, Value.slice x1 n1 c1] 32)).alloc (Obj.cells #[Value.int IntKind.i64 fc, Value.int IntKind.i64 fa] 35)) := ((Below.refl _ _).alloc (Nat.le_refl _) _).alloc (by rw [hs1]; omega) _
      have HB5 : Hid (Below w.heap.size w ((w4.alloc (Obj.cells #[Value.int IntKind.i64 k1, Value.bool e1, Value.string t1, Value.slice x1 n1 c1] 32)).alloc (Obj.cells #[Value.int IntKind.i64 fc, Value.int IntKind.i64 fa] 35))) := HB4.out.trans (bA.mono HB4.out.size)
      have HR5 : Hid (Rws 29 ((w4.alloc (Obj.cells #[Value.int IntKind.i64 k1, Value.bool e1, Value.string t1, Value.slice x1 n1 c1] 32)).alloc (Obj.cells #[Value.int IntKind.i64 fc, Value.int IntKind.i64 fa] 35)) w.heap.size (.slice po i co) L) := HR4.out.below bA
      have HD5 : Hid (lnT (bldT L).1 ∧ ∃ f1, At ((w4.alloc (Obj.cells #[Value.int IntKind.i64 k1, Value.bool e1, Value.string t1, Value.slice x1 n1 c1] 32)).alloc (Obj.cells #[Value.int IntKind.i64 fc, Value.int IntKind.i64 fa] 35)) f1 (.agg #[Value.int IntKind.i64 k1, Value.bool e1, Value.string t1, Value.slice x1 n1 c1]) (bldT L).1) := ⟨HD.out.1, by obtain ⟨f1, hA⟩ := HD.out.2; exact ⟨f1, hA.below bA⟩⟩
      have HE5 : Hid (((w4.alloc (Obj.cells #[Value.int IntKind.i64 k1, Value.bool e1, Value.string t1, Value.slice x1 n1 c1] 32)).alloc (Obj.cells #[Value.int IntKind.i64 fc, Value.int IntKind.i64 fa] 35)).heap[w4.heap.size]? = some (.cells #[Value.int IntKind.i64 k1, Value.bool e1, Value.string t1, Value.slice x1 n1 c1] 32 (0, 0)) ∧ ((w4.alloc (Obj.cells #[Value.int IntKind.i64 k1, Value.bool e1, Value.string t1, Value.slice x1 n1 c1] 32)).alloc (Obj.cells #[Value.int IntKind.i64 fc, Value.int IntKind.i64 fa] 35)).heap[w4.heap.size + 1]? = some (.cells #[Value.int IntKind.i64 fc, Value.int IntKind.i64 fa] 35 (0, 0))) := ⟨by rw [Below.heap_alloc _ _ _ (by rw [hs1]; omega)]; exact heap_alloc_new _ _, by rw [← hs1]; exact heap_alloc_new _ _⟩
      clear hs1 bA HB4 HR4 HD
      go_upto_region 10 with fail
      obtain ⟨E, hE⟩ : ∃ E, w4.heap.size = E := ⟨_, rfl⟩
      generalize ((w4.alloc (Obj.cells #[Value.int IntKind.i64 k1, Value.bool e1, Value.string t1, Value.slice x1 n1 c1] 32)).alloc (Obj.cells #[Value.int IntKind.i64 fc, Value.int IntKind.i64 fa] 35)) = w5 at *
      rw [hE] at HE5 ⊢
      clear hE
      obtain ⟨hcn, hcc⟩ := HR5.out.capB
      have CR := rbuild_any po i co L w5 HR5.out.ris HX.out.2.1 hn hcc HX.out.2.2
      obtain ⟨D, hD⟩ : ∃ D, (bldT L).1 = D := ⟨_, rfl⟩
      unfold BuP at CR
      rw [hD, HF.out.1, HF.out.2] at CR
      rw [hD] at HD5
      clear hcn hcc hD HR5
      go_wp2_with fail
      refine CR.mono ?_
      rintro e6 w6 ⟨⟨v6, fp6, rfl, hV6, hn6⟩, b6⟩
      obtain ⟨x2, c2, rfl⟩ := hV6.shape
      have HB6 : Hid (Below w.heap.size w w6) := HB5.out.trans (b6.mono HB5.out.size)
      have HV6 : Hid (TrV w6 w5.heap.size D (.slice x2 D.nms.length c2) fp6) := hV6
      have HD6 : Hid (lnT D ∧ ∃ f1, At w6 f1 (.agg #[Value.int IntKind.i64 k1, Value.bool e1, Value.string t1, Value.slice x1 n1 c1]) D) := ⟨HD5.out.1, by obtain ⟨f1, hA⟩ := HD5.out.2; exact ⟨f1, hA.below b6⟩⟩
      have HE6 : Hid (w6.heap[E]? = some (.cells #[Value.int IntKind.i64 k1, Value.bool e1, Value.string t1, Value.slice x1 n1 c1] 32 (0, 0)) ∧ w6.heap[E + 1]? = some (.cells #[Value.int IntKind.i64 fc, Value.int IntKind.i64 fa] 35 (0, 0))) := ⟨(b6.block _ (heap_lt HE5.out.1)).trans HE5.out.1, (b6.block _ (heap_lt HE5.out.2)).trans HE5.out.2⟩
      clear hV6 hn6 b6 CR HB5 HD5 HE5
      have bA : Below w6.heap.size w6 (w6.alloc (Obj.cells #[Value.int IntKind.i64 D.k, Value.bool D.e, Value.string D.t, Value.slice x2 D.nms.length c2] 32)) := (Below.refl _ _).alloc (Nat.le_refl _) _
      have HB7 : Hid (Below w.heap.size w (w6.alloc (Obj.cells #[Value.int IntKind.i64 D.k, Value.bool D.e, Value.string D.t, Value.slice x2 D.nms.length c2] 32))) := HB6.out.trans (bA.mono HB6.out.size)
      have HV7 : Hid (TrV (w6.alloc (Obj.cells #[Value.int IntKind.i64 D.k, Value.bool D.e, Value.string D.t, Value.slice x2 D.nms.length c2] 32)) w5.heap.size D (.slice x2 D.nms.length c2) fp6) := TrV.same _ _ _ HV6.out (fun b hb => bA.block b (TrV.lt _ _ _ HV6.out b hb).2)
      have HD7 : Hid (lnT D ∧ ∃ f1, At (w6.alloc (Obj.cells #[Value.int IntKind.i64 D.k, Value.bool D.e, Value.string D.t, Value.slice x2 D.nms.length c2] 32)) f1 (.agg #[Value.int IntKind.i64 k1, Value.bool e1, Value.string t1, Value.slice x1 n1 c1]) D) := ⟨HD6.out.1, by obtain ⟨f1, hA⟩ := HD6.out.2; exact ⟨f1, hA.below bA⟩⟩
      have HE7 : Hid ((w6.alloc (Obj.cells #[Value.int IntKind.i64 D.k, Value.bool D.e, Value.string D.t, Value.slice x2 D.nms.length c2] 32)).heap[E]? = some (.cells #[Value.int IntKind.i64 k1, Value.bool e1, Value.string t1, Value.slice x1 n1 c1] 32 (0, 0)) ∧ (w6.alloc (Obj.cells #[Value.int IntKind.i64 D.k, Value.bool D.e, Value.string D.t, Value.slice x2 D.nms.length c2] 32)).heap[E + 1]? = some (.cells #[Value.int IntKind.i64 fc, Value.int IntKind.i64 fa] 35 (0, 0)) ∧ (w6.alloc (Obj.cells #[Value.int IntKind.i64 D.k, Value.bool D.e, Value.string D.t, Value.slice x2 D.nms.length c2] 32)).heap[w6.heap.size]? = some (.cells #[Value.int IntKind.i64 D.k, Value.bool D.e, Value.string D.t, Value.slice x2 D.nms.length c2] 32 (0, 0))) := ⟨(bA.block _ (heap_lt HE6.out.1)).trans HE6.out.1, (bA.block _ (heap_lt HE6.out.2)).trans HE6.out.2, heap_alloc_new _ _⟩
      clear bA HB6 HV6 HD6 HE6
      go_upto_region 11 with fail
      obtain ⟨g7, h7⟩ : ∃ g7, w6.heap.size = g7 := ⟨_, rfl⟩
      generalize (w6.alloc (Obj.cells #[Value.int IntKind.i64 D.k, Value.bool D.e, Value.string D.t, Value.slice x2 D.nms.length c2] 32)) = w7 at *
      rw [h7] at HE7 ⊢
      clear h7
      obtain ⟨fA, hA⟩ := HD7.out.2
      obtain ⟨fB, hB⟩ := TrV.at D _ _ HV7.out HD7.out.1
      have CE := requal_any (fA + fB) _ _ _ _ w7 (hA.upto (by omega)) (hB.upto (by omega))
      obtain ⟨a0, a1, a2, a3, _⟩ := cell4 HE7.out.1
      obtain ⟨i0, i1, i2, i3, _⟩ := cell4 HE7.out.2.2
      have f0 : w7.cell? ⟨E + 1, 0, none⟩ = some (.int .i64 fc) := by rw [Lib.cell_of_heap HE7.out.2.1]; rfl
      have f1 : w7.cell? ⟨E + 1, 1, none⟩ = some (.int .i64 fa) := by rw [Lib.cell_of_heap HE7.out.2.1]; rfl
      clear hA hB
      have hcc : (fc == fc) = true := by simp
      have hca : (fa == fa) = true := by simp
      go_wp2_with fail
      refine CE.mono ?_
      rintro e8 w8 ⟨⟨r8, rfl, hr8⟩, b8⟩
      obtain rfl : r8 = true := hr8.2 trivial
      have HB8 : Hid (Below w.heap.size w w8) := HB7.out.trans (b8.mono HB7.out.size)
      clear hr8 b8 CE a0 a1 a2 a3 i0 i1 i2 i3 f0 f1
      go_wp2
      go_ret
      exact ⟨rfl, HB8.out⟩
theorem builds_walkC (x : Option Addr) (c : Nat) (L : List RW) (w : World) (hX : RIs w x L) (hn : L.length ≤ 1048576) (hsm : smR L) (_ : L.length ≤ c) :
    Calls Tryd.prog 3 #[.slice x L.length c] w fun e w' => e = .returned (.bool true) ∧ Below w.heap.size w w' := builds_walk x L.length c L w hX rfl hn hsm
end Go.Proofs.YtnggbemnblcnaaaDoor
