/- TyP TyQ, gathered (own text of the verifier; made by joint.py). -/
import Derived.Test.YtmknnblogfpifaaDoorYB
namespace Go.Proofs.YtmknnblogfpifaaDoor
open Go.RowKit

theorem sub_find (s : ByteArray) : ∀ (ns : List ByteArray) (ks : List Tr), sub s ns ks = (ns.findIdx? (fun n => decide (n = s))).bind (fun i => ks[i]?)
  | [], ks => by rw [sub] <;> simp
  | n :: ns, [] => by rw [sub] <;> simp
  | n :: ns, K :: ks => by
    rw [sub, List.findIdx?_cons]
    by_cases h : n = s
    · simp [h]
    · rw [if_neg h, sub_find s ns ks]
      simp [h]
      cases ns.findIdx? (fun n => decide (n = s)) <;> simp

theorem rch_cons {s : ByteArray} {l : List ByteArray} {k : Int} {e : Bool} {t : ByteArray} {nms : List ByteArray} {ks : List Tr} (h : (rch (s :: l) (.mk k e t nms ks)).1 = 0) :
    k = 3 ∧ ∃ i K0, nms.findIdx? (fun n => decide (n = s)) = some i ∧ ks[i]? = some K0 ∧ (rch l K0).1 = 0 ∧ rch (s :: l) (.mk k e t nms ks) = rch l K0 ∧ ∀ K, repT (s :: l) (.mk k e t nms ks) K = .mk k e t nms (ks.set i (repT l K0 K)) := by
  have e0 : rch (s :: l) (.mk k e t nms ks) = if k ≠ 3 then (65, .mk k e t nms ks) else match sub s nms ks with
    | none => (3, .mk k e t nms ks)
    | some K => rch l K := rfl
  rw [e0] at h
  by_cases hk : k ≠ 3
  · rw [if_pos hk] at h; exact absurd (show (65 : Int) = 0 from h) (by decide)
  · rw [if_neg hk] at h
    rw [sub_find] at h
    cases hf : nms.findIdx? (fun n => decide (n = s)) with
    | none => rw [hf] at h; exact absurd (show (3 : Int) = 0 from h) (by decide)
    | some i =>
      rw [hf] at h
      cases hK : ks[i]? with
      | none => simp only [Option.bind_some, hK] at h; exact absurd (show (3 : Int) = 0 from h) (by decide)
      | some K0 =>
        simp only [Option.bind_some, hK] at h
        refine ⟨by omega, i, K0, rfl, hK, h, ?_, fun K => ?_⟩
        · rw [e0, if_neg hk, sub_find, hf]; simp only [Option.bind_some, hK]
        · rw [repT, hf]; simp only [hK]
theorem rch_of {s : ByteArray} {l : List ByteArray} {k : Int} {e : Bool} {t : ByteArray} {nms : List ByteArray} {ks : List Tr} {i : Nat} {K0 : Tr} (hk : k = 3) (hf : nms.findIdx? (fun n => decide (n = s)) = some i) (hK : ks[i]? = some K0) : rch (s :: l) (.mk k e t nms ks) = rch l K0 := by
  show (if k ≠ 3 then _ else match sub s nms ks with
    | none => (3, Tr.mk k e t nms ks)
    | some K => rch l K) = _
  rw [if_neg (by omega), sub_find, hf]
  simp only [Option.bind_some, hK]
theorem rep_of {s : ByteArray} {l : List ByteArray} {k : Int} {e : Bool} {t : ByteArray} {nms : List ByteArray} {ks : List Tr} {i : Nat} {K0 : Tr} (hf : nms.findIdx? (fun n => decide (n = s)) = some i) (hK : ks[i]? = some K0) (K : Tr) : repT (s :: l) (.mk k e t nms ks) K = .mk k e t nms (ks.set i (repT l K0 K)) := by
  rw [repT, hf]; simp only [hK]
theorem set_at {ks : List Tr} {i : Nat} {K0 X : Tr} (h : ks[i]? = some K0) : (ks.set i X)[i]? = some X := by
  have := (List.getElem?_eq_some_iff.1 h).1
  rw [List.getElem?_set]; simp [this]

theorem rch_app : ∀ (L M : List ByteArray) (T : Tr), (rch L T).1 = 0 → rch (L ++ M) T = rch M (rch L T).2
  | [], M, T, _ => rfl
  | s :: l, M, .mk k e t nms ks, h => by
    obtain ⟨hk, i, K0, hf, hK, h1, h2, _⟩ := rch_cons h
    rw [h2]
    show rch (s :: (l ++ M)) (.mk k e t nms ks) = _
    rw [rch_of hk hf hK]
    exact rch_app l M K0 h1
theorem rch_rep : ∀ (L : List ByteArray) (T K : Tr), (rch L T).1 = 0 → rch L (repT L T K) = (0, K)
  | [], T, K, _ => rfl
  | s :: l, .mk k e t nms ks, K, h => by
    obtain ⟨hk, i, K0, hf, hK, h1, _, h3⟩ := rch_cons h
    rw [h3, rch_of hk hf (set_at hK)]
    exact rch_rep l K0 K h1
theorem rep_rep : ∀ (L : List ByteArray) (T K K' : Tr), (rch L T).1 = 0 → repT L (repT L T K) K' = repT L T K'
  | [], T, K, K', _ => rfl
  | s :: l, .mk k e t nms ks, K, K', h => by
    obtain ⟨hk, i, K0, hf, hK, h1, _, h3⟩ := rch_cons h
    rw [h3, rep_of hf (set_at hK), List.set_set, rep_rep l K0 K K' h1, h3]

theorem cb_swap : ∀ a b : List UInt8, Lib.compareBytes a b = - Lib.compareBytes b a
  | [], [] => rfl
  | [], _ :: _ => by simp [Lib.compareBytes]
  | _ :: _, [] => by simp [Lib.compareBytes]
  | x :: a, y :: b => by
    rw [Lib.compareBytes, Lib.compareBytes]
    by_cases h1 : x < y
    · have h2 : ¬ y < x := by rw [UInt8.lt_iff_toNat_lt] at h1 ⊢; omega
      rw [if_pos h1, if_neg h2, if_pos h1]
    · rw [if_neg h1]
      by_cases h2 : y < x
      · rw [if_pos h2, if_pos h2]; rfl
      · rw [if_neg h2, if_neg h2, if_neg h1]; exact cb_swap a b
theorem cmpB_swap (a b : ByteArray) : cmpB a b = - cmpB b a := cb_swap _ _

/-- The place at which a name would stand. -/
def pos (ns : List ByteArray) (s : ByteArray) : Nat := ns.findIdx (fun n => decide (0 ≤ cmpB n s))
theorem BS.pos {ns : List ByteArray} {s : ByteArray} {i : Nat} (B : BS ns s i) : pos ns s = i := by
  unfold Go.Proofs.YtmknnblogfpifaaDoor.pos
  by_cases h : i < ns.length
  · rw [List.findIdx_eq h]
    refine ⟨?_, fun j hj => ?_⟩
    · have := B.hi i (Nat.le_refl _) h
      rw [nmA_of (List.getElem?_eq_getElem h)] at this
      exact decide_eq_true this
    · have := B.lo j hj
      rw [nmA_of (List.getElem?_eq_getElem (by omega : j < ns.length))] at this
      exact decide_eq_false (by omega)
  · have hl : i = ns.length := by have := B.le; omega
    rw [hl, List.findIdx_eq_length]
    intro x hx
    obtain ⟨j, hj, rfl⟩ := List.getElem_of_mem hx
    have := B.lo j (by omega)
    rw [nmA_of (List.getElem?_eq_getElem hj)] at this
    exact decide_eq_false (by omega)
/-- A directory with one kid more, with another kid. -/
def insK (T : Tr) (i : Nat) (s : ByteArray) (K : Tr) : Tr := .mk T.k T.e T.t (T.nms.take i ++ s :: T.nms.drop i) (T.ks.take i ++ K :: T.ks.drop i)
def setK (T : Tr) (i : Nat) (K : Tr) : Tr := .mk T.k T.e T.t T.nms (T.ks.set i K)
def putK (T : Tr) (s : ByteArray) (K : Tr) : Tr := match T.nms.findIdx? (fun n => decide (n = s)) with
  | some i => setK T i K
  | none => insK T (pos T.nms s) s K

theorem pos_lo {ns : List ByteArray} {s : ByteArray} {j : Nat} {n : ByteArray} (h : ns[j]? = some n) (hj : j < pos ns s) : cmpB n s < 0 := by
  obtain ⟨h1, rfl⟩ := List.getElem?_eq_some_iff.1 h
  have := List.not_of_lt_findIdx hj
  simp at this
  omega
theorem pos_hi {ns : List ByteArray} {s : ByteArray} (U : Up ns) {j : Nat} {n : ByteArray} (h : ns[j]? = some n) (hj : pos ns s ≤ j) (hne : n ≠ s) : cmpB s n < 0 := by
  obtain ⟨h1, rfl⟩ := List.getElem?_eq_some_iff.1 h
  have hp : pos ns s < ns.length := by omega
  have h2' : decide (0 ≤ cmpB ns[pos ns s] s) = true := List.findIdx_getElem (xs := ns) (p := fun n => decide (0 ≤ cmpB n s)) (w := hp)
  have h2 : 0 ≤ cmpB ns[pos ns s] s := of_decide_eq_true h2'
  have h3 : 0 ≤ cmpB ns[j] s := by
    by_cases he : pos ns s = j
    · subst he; exact h2
    · have h4 := U.at (a := pos ns s) (b := j) (by omega) h1
      rw [nmA_of (List.getElem?_eq_getElem hp), nmA_of (List.getElem?_eq_getElem h1)] at h4
      by_cases h5 : cmpB ns[j] s < 0
      · have h7 : cmpB ns[pos ns s] s < 0 := cmpB_trans h4 (Int.le_of_lt h5)
        omega
      · omega
  have h6 : cmpB ns[j] s ≠ 0 := fun hh => hne (cmpB_eq hh)
  have := cmpB_swap s ns[j]
  omega
theorem find_none_ne {ns : List ByteArray} {s : ByteArray} (h : ns.findIdx? (fun n => decide (n = s)) = none) {n : ByteArray} (hn : n ∈ ns) : n ≠ s := by
  rw [List.findIdx?_eq_none_iff] at h
  have := h n hn
  simpa using this
theorem Up.ins {ns : List ByteArray} (U : Up ns) {s : ByteArray} (h : ns.findIdx? (fun n => decide (n = s)) = none) : Up (ns.take (pos ns s) ++ s :: ns.drop (pos ns s)) := by
  unfold Up at U ⊢
  have U' := U
  rw [← List.take_append_drop (pos ns s) ns, List.pairwise_append] at U'
  obtain ⟨u1, u2, u3⟩ := U'
  have lo : ∀ a ∈ ns.take (pos ns s), cmpB a s < 0 := fun a ha => by
    obtain ⟨j, hj, rfl⟩ := List.getElem_of_mem ha
    rw [List.length_take] at hj
    rw [List.getElem_take]
    exact pos_lo (List.getElem?_eq_getElem (by omega)) (by omega)
  have hi : ∀ b ∈ ns.drop (pos ns s), cmpB s b < 0 := fun b hb => by
    obtain ⟨j, hj, rfl⟩ := List.getElem_of_mem hb
    rw [List.length_drop] at hj
    rw [List.getElem_drop]
    exact pos_hi U (List.getElem?_eq_getElem (by omega)) (by omega) (find_none_ne h (List.getElem_mem _))
  rw [List.pairwise_append]
  refine ⟨u1, List.pairwise_cons.2 ⟨hi, u2⟩, fun a ha b hb => ?_⟩
  rcases List.mem_cons.1 hb with rfl | hb
  · exact lo a ha
  · exact u3 a ha b hb

/-- What putK leaves: the name, and the kid, at one place; the names rise. -/
theorem putK_at {T : Tr} (U : Up T.nms) (hl : T.nms.length = T.ks.length) (s : ByteArray) (K : Tr) : ∃ i : Nat, (putK T s K).nms[i]? = some s ∧ (putK T s K).ks[i]? = some K ∧ Up (putK T s K).nms ∧ (putK T s K).nms.length = (putK T s K).ks.length ∧ (putK T s K).k = T.k := by
  unfold putK
  cases hf : T.nms.findIdx? (fun n => decide (n = s)) with
  | some i =>
    have := List.findIdx?_eq_some_iff_getElem.1 hf
    obtain ⟨h1, h2, _⟩ := this
    have h2' : T.nms[i] = s := by simpa using h2
    exact ⟨i, by show T.nms[i]? = _; rw [List.getElem?_eq_getElem h1, h2'], by show (T.ks.set i K)[i]? = _; rw [List.getElem?_set]; simp; omega, U, by show T.nms.length = (T.ks.set i K).length; rw [List.length_set]; exact hl, rfl⟩
  | none =>
    have hp : pos T.nms s ≤ T.nms.length := List.findIdx_le_length
    refine ⟨pos T.nms s, ?_, ?_, Up.ins U hf, ?_, rfl⟩
    · show (T.nms.take (pos T.nms s) ++ s :: T.nms.drop (pos T.nms s))[pos T.nms s]? = _
      rw [List.getElem?_append_right (by rw [List.length_take]; omega), List.length_take, Nat.min_eq_left hp, Nat.sub_self]; rfl
    · show (T.ks.take (pos T.nms s) ++ K :: T.ks.drop (pos T.nms s))[pos T.nms s]? = _
      rw [List.getElem?_append_right (by rw [List.length_take]; omega), List.length_take, Nat.min_eq_left (by omega), Nat.sub_self]; rfl
    · show (T.nms.take (pos T.nms s) ++ s :: T.nms.drop (pos T.nms s)).length = (T.ks.take (pos T.nms s) ++ K :: T.ks.drop (pos T.nms s)).length
      simp; omega

theorem sub_app (s : ByteArray) : ∀ (a : List ByteArray) (c : List Tr) (b : List ByteArray) (d : List Tr), a.length = c.length → sub s (a ++ b) (c ++ d) = (sub s a c).or (sub s b d)
  | [], [], b, d, _ => by
    have : sub s [] [] = none := by rw [sub]; intros; simp_all
    rw [this]; rfl
  | n :: a, K :: c, b, d, h => by
    rw [List.cons_append, List.cons_append, sub, sub]
    by_cases hn : n = s
    · rw [if_pos hn, if_pos hn]; rfl
    · rw [if_neg hn, if_neg hn]; exact sub_app s a c b d (by simpa using h)
  | [], _ :: _, _, _, h => by simp at h
  | _ :: _, [], _, _, h => by simp at h
/-- The other kids are as they were. -/
theorem putK_other {T : Tr} (hl : T.nms.length = T.ks.length) {s s2 : ByteArray} (K : Tr) (hne : s2 ≠ s) : sub s2 (putK T s K).nms (putK T s K).ks = sub s2 T.nms T.ks := by
  unfold putK
  cases hf : T.nms.findIdx? (fun n => decide (n = s)) with
  | some i =>
    show sub s2 T.nms (T.ks.set i K) = _
    rw [sub_find, sub_find]
    cases hg : T.nms.findIdx? (fun n => decide (n = s2)) with
    | none => rfl
    | some j =>
      obtain ⟨h1, h2, _⟩ := List.findIdx?_eq_some_iff_getElem.1 hf
      obtain ⟨h3, h4, _⟩ := List.findIdx?_eq_some_iff_getElem.1 hg
      have hij : i ≠ j := fun e => by
        subst e
        simp at h2 h4
        exact hne (h4.symm.trans h2)
      simp only [Option.bind_some]
      rw [List.getElem?_set_ne hij]
  | none =>
    show sub s2 (T.nms.take (pos T.nms s) ++ s :: T.nms.drop (pos T.nms s)) (T.ks.take (pos T.nms s) ++ K :: T.ks.drop (pos T.nms s)) = _
    have e1 : (T.nms.take (pos T.nms s)).length = (T.ks.take (pos T.nms s)).length := by simp; omega
    rw [sub_app _ _ _ _ _ e1, sub, if_neg (fun h => hne h.symm), ← sub_app _ _ _ _ _ e1, List.take_append_drop, List.take_append_drop]

theorem Up.erase {ns : List ByteArray} (U : Up ns) (i : Nat) : Up (ns.eraseIdx i) := List.Pairwise.sublist (List.eraseIdx_sublist _ _) U
theorem erase_none {ns : List ByteArray} (U : Up ns) {i : Nat} {s : ByteArray} (h : ns[i]? = some s) : (ns.eraseIdx i).findIdx? (fun n => decide (n = s)) = none := by
  rw [List.findIdx?_eq_none_iff]
  intro x hx
  simp only [decide_eq_false_iff_not]
  rintro rfl
  obtain ⟨hi, he⟩ := List.getElem?_eq_some_iff.1 h
  unfold Up at U
  rw [List.eraseIdx_eq_take_drop_succ] at hx
  rcases List.mem_append.1 hx with hx | hx
  · obtain ⟨j, hj, e⟩ := List.getElem_of_mem hx
    rw [List.length_take] at hj
    rw [List.getElem_take] at e
    have := Up.at U (a := j) (b := i) (by omega) hi
    rw [nmA_of (List.getElem?_eq_getElem (by omega : j < ns.length)), nmA_of h, e, cmpB_refl] at this
    omega
  · obtain ⟨j, hj, e⟩ := List.getElem_of_mem hx
    rw [List.length_drop] at hj
    rw [List.getElem_drop] at e
    have := Up.at U (a := i) (b := i + 1 + j) (by omega) (by omega)
    rw [nmA_of (List.getElem?_eq_getElem (by omega : i + 1 + j < ns.length)), nmA_of h, e, cmpB_refl] at this
    omega
theorem erase_pos {ns : List ByteArray} (U : Up ns) {i : Nat} {s : ByteArray} (h : ns[i]? = some s) : pos (ns.eraseIdx i) s = i := by
  obtain ⟨hi, he⟩ := List.getElem?_eq_some_iff.1 h
  have hl : (ns.eraseIdx i).length = ns.length - 1 := by rw [List.length_eraseIdx, if_pos hi]
  refine BS.pos ⟨by omega, fun j hj => ?_, fun j hj hj2 => ?_⟩
  · have e : (ns.eraseIdx i)[j]? = ns[j]? := by rw [List.getElem?_eraseIdx, if_pos hj]
    have := U.at (a := j) (b := i) hj hi
    rw [nmA_of h] at this
    unfold nmA; rw [e]; exact this
  · have e : (ns.eraseIdx i)[j]? = ns[j + 1]? := by rw [List.getElem?_eraseIdx, if_neg (by omega)]
    have := U.at (a := i) (b := j + 1) (by omega) (by omega)
    rw [nmA_of h] at this
    have h2 : nmA (ns.eraseIdx i) j = nmA ns (j + 1) := by unfold nmA; rw [e]
    rw [h2]
    have := cmpB_swap s (nmA ns (j + 1))
    omega
theorem erase_back {α : Type} {l : List α} {i : Nat} {a : α} (h : l[i]? = some a) : (l.eraseIdx i).take i ++ a :: (l.eraseIdx i).drop i = l := by
  obtain ⟨hi, he⟩ := List.getElem?_eq_some_iff.1 h
  rw [List.eraseIdx_eq_take_drop_succ]
  have e0 : (l.take i).length = i := by rw [List.length_take]; omega
  rw [List.take_append_of_le_length (by omega), List.take_of_length_le (by omega), List.drop_append_of_le_length (by omega), List.drop_of_length_le (by omega), List.nil_append]
  subst he
  rw [← List.drop_eq_getElem_cons hi]
  exact List.take_append_drop _ _
/-- Cut, then put again. -/
theorem putK_back {P : Tr} (U : Up P.nms) {i : Nat} {s : ByteArray} {K : Tr} (h1 : P.nms[i]? = some s) (h2 : P.ks[i]? = some K) : putK (delK P i) s K = P := by
  obtain ⟨k, e, t, nms, ks⟩ := P
  change nms[i]? = some s at h1
  change ks[i]? = some K at h2
  unfold putK
  show (match (nms.eraseIdx i).findIdx? (fun n => decide (n = s)) with
    | some j => setK (delK (.mk k e t nms ks) i) j K
    | none => insK (delK (.mk k e t nms ks) i) (pos (nms.eraseIdx i) s) s K) = _
  rw [erase_none (ns := nms) U h1]
  show insK (delK (.mk k e t nms ks) i) (pos (nms.eraseIdx i) s) s K = _
  rw [erase_pos (ns := nms) U h1]
  show Tr.mk k e t ((nms.eraseIdx i).take i ++ s :: (nms.eraseIdx i).drop i) ((ks.eraseIdx i).take i ++ K :: (ks.eraseIdx i).drop i) = _
  rw [erase_back h1, erase_back h2]

theorem wfL_at : ∀ (ns : List ByteArray) (ks : List Tr), wfL ns ks → ∀ (i : Nat) (T : Tr), ks[i]? = some T → wfT T
  | [], [], _, i, T, h => by simp at h
  | _ :: ns, K :: ks, hw, 0, T, h => by
    rw [wfL] at hw
    simp at h
    rw [← h]; exact hw.1
  | _ :: ns, K :: ks, hw, i + 1, T, h => by
    rw [wfL] at hw
    exact wfL_at ns ks hw.2 i T (by simpa using h)
  | [], _ :: _, hw, _, _, _ => by simp [wfL] at hw
  | _ :: _, [], hw, _, _, _ => by simp [wfL] at hw
/-- Paths of which none begins with the other lead past each other. -/
theorem rch_apart {s : ByteArray} {X : Tr} : ∀ (L M : List ByteArray) (T : Tr), wfT T → (rch L T).1 = 0 → ¬ (M <+: L ++ [s]) → ¬ (L ++ [s] <+: M) →
    (rch M (repT L T (putK (rch L T).2 s X))).1 = (rch M T).1 ∧ ((rch M T).1 = 0 → (rch M (repT L T (putK (rch L T).2 s X))).2 = (rch M T).2)
  | [], [], T, _, _, h1, _ => absurd (List.nil_prefix) h1
  | [], m :: M, .mk k e t nms ks, hw, _, _, h2 => by
    have hne : m ≠ s := fun he => h2 (by rw [he]; exact ⟨M, rfl⟩)
    have hl : nms.length = ks.length := by rw [wfT] at hw; exact wfL_len _ _ hw
    have hs := putK_other (T := .mk k e t nms ks) hl X hne
    have hk : (putK (.mk k e t nms ks) s X).k = k := by
      unfold putK
      split <;> rfl
    show (rch (m :: M) (putK (.mk k e t nms ks) s X)).1 = _ ∧ (_ → (rch (m :: M) (putK (.mk k e t nms ks) s X)).2 = _)
    generalize putK (.mk k e t nms ks) s X = P at hs hk
    change sub m P.nms P.ks = sub m nms ks at hs
    have e1 : rch (m :: M) P = if P.k ≠ 3 then (65, P) else match sub m P.nms P.ks with
      | none => (3, P)
      | some K => rch M K := rfl
    have e2 : rch (m :: M) (.mk k e t nms ks) = if k ≠ 3 then (65, .mk k e t nms ks) else match sub m nms ks with
      | none => (3, .mk k e t nms ks)
      | some K => rch M K := rfl
    rw [e1, e2, hs, hk]
    by_cases h3 : k ≠ 3
    · rw [if_pos h3, if_pos h3]
      exact ⟨rfl, fun h => absurd (show (65 : Int) = 0 from h) (by decide)⟩
    · rw [if_neg h3, if_neg h3]
      cases sub m nms ks with
      | none => exact ⟨rfl, fun h => absurd (show (3 : Int) = 0 from h) (by decide)⟩
      | some K => exact ⟨rfl, fun _ => rfl⟩
  | a :: L, [], T, _, _, h1, _ => absurd (List.nil_prefix) h1
  | a :: L, m :: M, .mk k e t nms ks, hw, hr, h1, h2 => by
    obtain ⟨hk, i, K0, hf, hK, g1, g2, g3⟩ := rch_cons hr
    rw [g2, g3]
    have e2 : rch (m :: M) (.mk k e t nms ks) = if k ≠ 3 then (65, .mk k e t nms ks) else match sub m nms ks with
      | none => (3, .mk k e t nms ks)
      | some K => rch M K := rfl
    by_cases hm : m = a
    · subst hm
      rw [rch_of hk hf (set_at hK), rch_of hk hf hK]
      refine rch_apart L M K0 ?_ g1 (fun hp => h1 ?_) (fun hp => h2 ?_)
      · rw [wfT] at hw
        exact wfL_at _ _ hw _ _ hK
      · exact List.cons_prefix_cons.2 ⟨rfl, hp⟩
      · exact List.cons_prefix_cons.2 ⟨rfl, hp⟩
    · have hs : sub m nms (ks.set i (repT L K0 (putK (rch L K0).2 s X))) = sub m nms ks := by
        rw [sub_find, sub_find]
        cases hg : nms.findIdx? (fun n => decide (n = m)) with
        | none => rfl
        | some j =>
          obtain ⟨q1, q2, _⟩ := List.findIdx?_eq_some_iff_getElem.1 hf
          obtain ⟨q3, q4, _⟩ := List.findIdx?_eq_some_iff_getElem.1 hg
          have hij : i ≠ j := fun e => by
            subst e
            simp at q2 q4
            exact hm (q4.symm.trans q2)
          simp only [Option.bind_some]
          rw [List.getElem?_set_ne hij]
      have e1 : rch (m :: M) (.mk k e t nms (ks.set i (repT L K0 (putK (rch L K0).2 s X)))) = if k ≠ 3 then (65, .mk k e t nms (ks.set i (repT L K0 (putK (rch L K0).2 s X)))) else match sub m nms (ks.set i (repT L K0 (putK (rch L K0).2 s X))) with
        | none => (3, .mk k e t nms (ks.set i (repT L K0 (putK (rch L K0).2 s X))))
        | some K => rch M K := rfl
      rw [e1, e2, hs, if_neg (by omega), if_neg (by omega)]
      cases sub m nms ks with
      | none => exact ⟨rfl, fun h => absurd (show (3 : Int) = 0 from h) (by decide)⟩
      | some K => exact ⟨rfl, fun _ => rfl⟩

mutual
theorem tbT_ge : ∀ T : Tr, 0 ≤ tbT T
  | .mk k e t nms ks => by
    rw [tbT]
    have h1 := (nbP_bd k e t).1
    have h2 := tbL_ge nms ks
    omega
theorem tbL_ge : ∀ (nms : List ByteArray) (ks : List Tr), 0 ≤ tbL nms ks
  | [], _ => by rw [tbL] <;> simp
  | _ :: _, [] => by rw [tbL] <;> simp
  | s :: nms, T :: ks => by
    rw [tbL]
    have h1 := (ebP_bd s).1
    have h2 := tbT_ge T
    have h3 := tbL_ge nms ks
    omega
end
theorem entO_of {prev : Option ByteArray} {s : ByteArray} {b : Int} (h1 : chk s = 0) (h2 : ∀ s', prev = some s' → cmpB s' s < 0) (h3 : b + ebP s ≤ 1048576) : entO prev s b = 0 := by
  cases prev with
  | none =>
    show entC _ _ s b = 0
    unfold entC
    rw [if_neg (by omega), if_neg (by omega), if_neg (by omega)]
  | some p =>
    have := h2 p rfl
    show entC _ _ s b = 0
    unfold entC
    rw [if_neg (by omega), if_neg (by omega), if_neg (by omega)]
theorem vT_parts {ns : List ByteArray} {b : Int} {k : Int} {e : Bool} {t : ByteArray} {nms : List ByteArray} {ks : List Tr} (h : (vT ns b (.mk k e t nms ks)).off = none) : 1 + ns.length ≤ 32 ∧ cfP k e t nms.length = 0 ∧ b + nbP k e t ≤ 1048576 ∧ (vL ns (b + nbP k e t) none nms ks).off = none := by
  rw [vT] at h
  by_cases h1 : 32 < 1 + ns.length
  · rw [if_pos h1] at h; cases h
  · rw [if_neg h1] at h
    by_cases h2 : cfP k e t nms.length ≠ 0
    · rw [if_pos h2] at h; cases h
    · rw [if_neg h2] at h
      by_cases h3 : 1048576 < b + nbP k e t
      · rw [if_pos h3] at h; cases h
      · rw [if_neg h3] at h
        exact ⟨by omega, by omega, by omega, h⟩
theorem vT_of {ns : List ByteArray} {b : Int} {k : Int} {e : Bool} {t : ByteArray} {nms : List ByteArray} {ks : List Tr} (h1 : 1 + ns.length ≤ 32) (h2 : cfP k e t nms.length = 0) (h3 : b + nbP k e t ≤ 1048576) (h4 : (vL ns (b + nbP k e t) none nms ks).off = none) : (vT ns b (.mk k e t nms ks)).off = none := by
  rw [vT, if_neg (by omega), if_neg (by omega), if_neg (by omega)]; exact h4
theorem vL_parts {ns : List ByteArray} {b : Int} {prev : Option ByteArray} {s : ByteArray} {T : Tr} {nms : List ByteArray} {ks : List Tr} (h : (vL ns b prev (s :: nms) (T :: ks)).off = none) : chk s = 0 ∧ (∀ s', prev = some s' → cmpB s' s < 0) ∧ b + ebP s ≤ 1048576 ∧ (vT (ns ++ [s]) (b + ebP s) T).off = none ∧ (vL ns (b + ebP s + tbT T) (some s) nms ks).off = none := by
  rw [vL] at h
  by_cases h1 : entO prev s b ≠ 0
  · rw [if_pos h1] at h; cases h
  · rw [if_neg h1] at h
    obtain ⟨p1, p2, p3⟩ := entO_parts (by omega : entO prev s b = 0)
    cases hv : (vT (ns ++ [s]) (b + ebP s) T).off with
    | some o => rw [hv] at h; cases h
    | none =>
      rw [hv] at h
      have := vT_bytes _ _ T hv
      rw [this] at h
      exact ⟨p1, p2, p3, rfl, h⟩
theorem vL_of {ns : List ByteArray} {b : Int} {prev : Option ByteArray} {s : ByteArray} {T : Tr} {nms : List ByteArray} {ks : List Tr} (h1 : chk s = 0) (h2 : ∀ s', prev = some s' → cmpB s' s < 0) (h3 : b + ebP s ≤ 1048576) (h4 : (vT (ns ++ [s]) (b + ebP s) T).off = none) (h5 : (vL ns (b + ebP s + tbT T) (some s) nms ks).off = none) : (vL ns b prev (s :: nms) (T :: ks)).off = none := by
  rw [vL, if_neg (by rw [entO_of h1 h2 h3]; decide), h4]
  show (vL ns (vT (ns ++ [s]) (b + ebP s) T).bytes (some s) nms ks).off = none
  rw [vT_bytes _ _ T h4]; exact h5

/-- A name may follow another. -/
def Nx (prev : Option ByteArray) : List ByteArray → List Tr → Prop
  | s :: _, _ :: _ => ∀ s', prev = some s' → cmpB s' s < 0
  | _, _ => True
theorem vL_nx {ns : List ByteArray} {b : Int} {prev : Option ByteArray} : ∀ {nms : List ByteArray} {ks : List Tr}, (vL ns b prev nms ks).off = none → Nx prev nms ks
  | [], _, _ => trivial
  | _ :: _, [], _ => trivial
  | _ :: _, _ :: _, h => (vL_parts h).2.1
mutual
theorem vT_weak : ∀ (T : Tr) (ns : List ByteArray) (b b' : Int), (vT ns b T).off = none → b' ≤ b → (vT ns b' T).off = none
  | .mk k e t nms ks, ns, b, b', h, hb => by
    obtain ⟨h1, h2, h3, h4⟩ := vT_parts h
    exact vT_of h1 h2 (by omega) (vL_weak nms ks ns _ _ none none h4 (by omega) (vL_nx h4))
theorem vL_weak : ∀ (nms : List ByteArray) (ks : List Tr) (ns : List ByteArray) (b b' : Int) (prev prev' : Option ByteArray), (vL ns b prev nms ks).off = none → b' ≤ b → Nx prev' nms ks → (vL ns b' prev' nms ks).off = none
  | [], ks, ns, b, b', prev, prev', _, _, _ => by rw [vL_end]
  | _ :: _, [], ns, b, b', prev, prev', _, _, _ => by rw [vL]; simp
  | s :: nms, T :: ks, ns, b, b', prev, prev', h, hb, hn => by
    obtain ⟨h1, h2, h3, h4, h5⟩ := vL_parts h
    exact vL_of h1 hn (by omega) (vT_weak T _ _ _ h4 (by omega)) (vL_weak nms ks ns _ _ _ _ h5 (by omega) (vL_nx h5))
end

/-- One tree passes where another does, and is no longer. -/
def Lgt (K' K : Tr) : Prop := tbT K' ≤ tbT K ∧ ∀ ns b, (vT ns b K).off = none → (vT ns b K').off = none
theorem tbL_set {K K' : Tr} (h : tbT K' ≤ tbT K) : ∀ (nms : List ByteArray) (ks : List Tr) (i : Nat), ks[i]? = some K → tbL nms (ks.set i K') ≤ tbL nms ks
  | [], ks, i, _ => by rw [tbL, tbL] <;> simp
  | _ :: _, [], i, _ => by simp
  | s :: nms, T :: ks, 0, hk => by
    simp at hk
    subst hk
    rw [List.set_cons_zero, tbL, tbL]; omega
  | s :: nms, T :: ks, i + 1, hk => by
    rw [List.set_cons_succ, tbL, tbL]
    have := tbL_set h nms ks i (by simpa using hk)
    omega
theorem vL_set {K K' : Tr} (hK : Lgt K' K) : ∀ (nms : List ByteArray) (ks : List Tr) (i : Nat) (ns : List ByteArray) (b b' : Int) (prev : Option ByteArray), ks[i]? = some K → (vL ns b prev nms ks).off = none → b' ≤ b → (vL ns b' prev nms (ks.set i K')).off = none
  | [], ks, i, ns, b, b', prev, _, _, _ => by rw [vL_end]
  | _ :: _, [], i, ns, b, b', prev, hk, _, _ => by simp at hk
  | s :: nms, T :: ks, 0, ns, b, b', prev, hk, h, hb => by
    simp at hk
    subst hk
    obtain ⟨h1, h2, h3, h4, h5⟩ := vL_parts h
    rw [List.set_cons_zero]
    have := hK.1
    exact vL_of h1 h2 (by omega) (vT_weak K' _ _ _ (hK.2 _ _ h4) (by omega)) (vL_weak nms ks ns _ _ _ _ h5 (by omega) (vL_nx h5))
  | s :: nms, T :: ks, i + 1, ns, b, b', prev, hk, h, hb => by
    obtain ⟨h1, h2, h3, h4, h5⟩ := vL_parts h
    rw [List.set_cons_succ]
    exact vL_of h1 h2 (by omega) (vT_weak T _ _ _ h4 (by omega)) (vL_set hK nms ks i ns _ _ _ (by simpa using hk) h5 (by omega))
theorem Lgt.rep {K K' : Tr} (hK : Lgt K' K) : ∀ (L : List ByteArray) (T : Tr), (rch L T).1 = 0 → Lgt (repT L T K') (repT L T K)
  | [], T, _ => hK
  | s :: l, .mk k e t nms ks, h => by
    obtain ⟨hk, i, K0, hf, hK0, h1, _, h3⟩ := rch_cons h
    have ih := Lgt.rep hK l K0 h1
    rw [h3, h3]
    have e1 : (ks.set i (repT l K0 K)).set i (repT l K0 K') = ks.set i (repT l K0 K') := List.set_set ..
    have e2 := set_at (X := repT l K0 K) hK0
    refine ⟨?_, fun ns b hv => ?_⟩
    · rw [tbT, tbT, ← e1]
      have := tbL_set ih.1 nms _ i e2
      omega
    · obtain ⟨g1, g2, g3, g4⟩ := vT_parts hv
      refine vT_of g1 g2 g3 ?_
      rw [← e1]
      exact vL_set ih nms _ i ns _ _ none e2 g4 (Int.le_refl _)
theorem tbL_del : ∀ (nms : List ByteArray) (ks : List Tr) (i : Nat), wfL nms ks → tbL (nms.eraseIdx i) (ks.eraseIdx i) ≤ tbL nms ks
  | [], [], i, _ => by simp
  | s :: nms, T :: ks, 0, _ => by
    rw [List.eraseIdx_cons_zero, List.eraseIdx_cons_zero, tbL]
    have := (ebP_bd s).1
    have := tbT_ge T
    omega
  | s :: nms, T :: ks, i + 1, h => by
    rw [wfL] at h
    rw [List.eraseIdx_cons_succ, List.eraseIdx_cons_succ, tbL, tbL]
    have := tbL_del nms ks i h.2
    omega
  | [], _ :: _, i, h => by simp [wfL] at h
  | _ :: _, [], i, h => by simp [wfL] at h
theorem vL_del : ∀ (nms : List ByteArray) (ks : List Tr) (i : Nat) (ns : List ByteArray) (b b' : Int) (prev : Option ByteArray), wfL nms ks → (vL ns b prev nms ks).off = none → b' ≤ b → (vL ns b' prev (nms.eraseIdx i) (ks.eraseIdx i)).off = none
  | [], [], i, ns, b, b', prev, _, _, _ => by simp [vL_end]
  | s :: nms, T :: ks, 0, ns, b, b', prev, hw, h, hb => by
    obtain ⟨h1, h2, h3, h4, h5⟩ := vL_parts h
    rw [List.eraseIdx_cons_zero, List.eraseIdx_cons_zero]
    have g1 := (ebP_bd s).1
    have g2 := tbT_ge T
    refine vL_weak nms ks ns _ _ _ _ h5 (by omega) ?_
    have hx := vL_nx h5
    cases nms with
    | nil => trivial
    | cons s2 nms =>
      cases ks with
      | nil => trivial
      | cons T2 ks => exact fun s' he => cmpB_trans (h2 s' he) (by have := hx s rfl; omega)
  | s :: nms, T :: ks, i + 1, ns, b, b', prev, hw, h, hb => by
    rw [wfL] at hw
    obtain ⟨h1, h2, h3, h4, h5⟩ := vL_parts h
    rw [List.eraseIdx_cons_succ, List.eraseIdx_cons_succ]
    exact vL_of h1 h2 (by omega) (vT_weak T _ _ _ h4 (by omega)) (vL_del nms ks i ns _ _ _ hw.2 h5 (by omega))
  | [], _ :: _, i, _, _, _, _, h, _, _ => by simp [wfL] at h
  | _ :: _, [], i, _, _, _, _, h, _, _ => by simp [wfL] at h
theorem Lgt.del {P : Tr} (hw : wfT P) {i : Nat} (hi : i < P.nms.length) : Lgt (delK P i) P := by
  obtain ⟨k, e, t, nms, ks⟩ := P
  rw [wfT] at hw
  change i < nms.length at hi
  show Lgt (.mk k e t (nms.eraseIdx i) (ks.eraseIdx i)) (.mk k e t nms ks)
  refine ⟨?_, fun ns b hv => ?_⟩
  · rw [tbT, tbT]
    have := tbL_del nms ks i hw
    omega
  · obtain ⟨g1, g2, g3, g4⟩ := vT_parts hv
    refine vT_of g1 ?_ g3 (vL_del nms ks i ns _ _ none hw g4 (Int.le_refl _))
    have := cfP_kids g2
    exact cfP_more this.1 (fun _ => by by_cases h3 : k = 3; exact h3; have := this.2 h3; omega)

mutual
/-- No list of kids is longer than c. -/
def lnB (c : Nat) : Tr → Prop
  | .mk _ _ _ nms ks => nms.length ≤ c ∧ lnBL c ks
def lnBL (c : Nat) : List Tr → Prop
  | [] => True
  | T :: ks => lnB c T ∧ lnBL c ks
end
theorem lnBL_iff {c : Nat} : ∀ {ks : List Tr}, lnBL c ks ↔ ∀ T ∈ ks, lnB c T
  | [] => by simp [lnBL]
  | T :: ks => by rw [lnBL, lnBL_iff (ks := ks)]; simp
mutual
theorem lnB_ln {c : Nat} (hc : c ≤ 1073741824) : ∀ T : Tr, lnB c T → lnT T
  | .mk _ _ _ nms ks, h => by
    rw [lnB] at h
    rw [lnT]
    exact ⟨by omega, lnBL_ln hc ks h.2⟩
theorem lnBL_ln {c : Nat} (hc : c ≤ 1073741824) : ∀ ks : List Tr, lnBL c ks → lnL ks
  | [], _ => by rw [lnL]; trivial
  | T :: ks, h => by
    rw [lnBL] at h
    rw [lnL]
    exact ⟨lnB_ln hc T h.1, lnBL_ln hc ks h.2⟩
end
mutual
theorem lnB_mono {c d : Nat} (hc : c ≤ d) : ∀ T : Tr, lnB c T → lnB d T
  | .mk _ _ _ nms ks, h => by
    rw [lnB] at h ⊢
    exact ⟨by omega, lnBL_mono hc ks h.2⟩
theorem lnBL_mono {c d : Nat} (hc : c ≤ d) : ∀ ks : List Tr, lnBL c ks → lnBL d ks
  | [], _ => by rw [lnBL]; trivial
  | T :: ks, h => by
    rw [lnBL] at h ⊢
    exact ⟨lnB_mono hc T h.1, lnBL_mono hc ks h.2⟩
end
theorem ebP_one (s : ByteArray) : 1 ≤ ebP s := by
  unfold ebP
  have := (fr_bd s.size).1
  omega
theorem tbL_len : ∀ (nms : List ByteArray) (ks : List Tr), wfL nms ks → (nms.length : Int) ≤ tbL nms ks
  | [], [], _ => by rw [tbL] <;> simp
  | s :: nms, T :: ks, h => by
    rw [wfL] at h
    rw [tbL]
    have := tbL_len nms ks h.2
    have := ebP_one s
    have := tbT_ge T
    simp only [List.length_cons]
    omega
  | [], _ :: _, h => by simp [wfL] at h
  | _ :: _, [], h => by simp [wfL] at h
mutual
theorem vT_ln : ∀ (T : Tr) (ns : List ByteArray) (b : Int), wfT T → (vT ns b T).off = none → 0 ≤ b → lnB 1048576 T
  | .mk k e t nms ks, ns, b, hw, h, hb => by
    rw [wfT] at hw
    obtain ⟨h1, h2, h3, h4⟩ := vT_parts h
    have g := (nbP_bd k e t).1
    have q1 := (vL_bd ns _ none nms ks h4 (by omega) (by omega)).2
    rw [vL_bytes _ _ _ _ _ h4] at q1
    have q2 := tbL_len nms ks hw
    rw [lnB]
    exact ⟨by omega, vL_ln nms ks ns _ none hw h4 (by omega)⟩
theorem vL_ln : ∀ (nms : List ByteArray) (ks : List Tr) (ns : List ByteArray) (b : Int) (prev : Option ByteArray), wfL nms ks → (vL ns b prev nms ks).off = none → 0 ≤ b → lnBL 1048576 ks
  | [], [], _, _, _, _, _, _ => by rw [lnBL]; trivial
  | s :: nms, T :: ks, ns, b, prev, hw, h, hb => by
    rw [wfL] at hw
    obtain ⟨h1, h2, h3, h4, h5⟩ := vL_parts h
    have := ebP_one s
    have := tbT_ge T
    rw [lnBL]
    exact ⟨vT_ln T _ _ hw.1 h4 (by omega), vL_ln nms ks ns _ _ hw.2 h5 (by omega)⟩
  | [], _ :: _, _, _, _, h, _, _ => by simp [wfL] at h
  | _ :: _, [], _, _, _, h, _, _ => by simp [wfL] at h
end
theorem sub_mem {s : ByteArray} : ∀ {ns : List ByteArray} {ks : List Tr} {K : Tr}, sub s ns ks = some K → ∃ i : Nat, ns[i]? = some s ∧ ks[i]? = some K
  | [], _, K, h => by rw [sub] at h <;> simp_all
  | _ :: _, [], K, h => by rw [sub] at h <;> simp_all
  | n :: ns, T :: ks, K, h => by
    rw [sub] at h
    by_cases hn : n = s
    · rw [if_pos hn] at h
      exact ⟨0, by simp [hn], by simpa using h⟩
    · rw [if_neg hn] at h
      obtain ⟨i, h1, h2⟩ := sub_mem h
      exact ⟨i + 1, by simpa using h1, by simpa using h2⟩
theorem rch_keeps (C : Tr → Prop) (hC : ∀ k e t nms ks, C (.mk k e t nms ks) → ∀ (i : Nat) (s : ByteArray) (K : Tr), nms[i]? = some s → ks[i]? = some K → C K) : ∀ (L : List ByteArray) (T : Tr), C T → C (rch L T).2
  | [], T, h => h
  | s :: l, .mk k e t nms ks, h => by
    show C (if k ≠ 3 then ((65 : Int), Tr.mk k e t nms ks) else match sub s nms ks with
      | none => (3, Tr.mk k e t nms ks)
      | some K => rch l K).2
    by_cases hk : k ≠ 3
    · rw [if_pos hk]; exact h
    · rw [if_neg hk]
      cases hs : sub s nms ks with
      | none => exact h
      | some K =>
        obtain ⟨i, h1, h2⟩ := sub_mem hs
        exact rch_keeps C hC l K (hC _ _ _ _ _ h i s K h1 h2)
theorem rep_keeps (C : Tr → Prop) (hC : ∀ k e t nms ks, C (.mk k e t nms ks) → ∀ (i : Nat) (s : ByteArray) (K : Tr), nms[i]? = some s → ks[i]? = some K → C K) (hS : ∀ k e t nms ks, C (.mk k e t nms ks) → ∀ (i : Nat) (K : Tr), C K → C (.mk k e t nms (ks.set i K))) (X : Tr) (hX : C X) : ∀ (L : List ByteArray) (T : Tr), C T → C (repT L T X)
  | [], T, h => hX
  | s :: l, .mk k e t nms ks, h => by
    rw [repT]
    split
    · exact h
    · rename_i i hf
      split
      · exact h
      · rename_i K0 hK0
        obtain ⟨h1, h2, _⟩ := List.findIdx?_eq_some_iff_getElem.1 hf
        exact hS _ _ _ _ _ h i _ (rep_keeps C hC hS X hX l K0 (hC _ _ _ _ _ h i _ K0 (List.getElem?_eq_getElem h1) hK0))
/-- Small texts. -/
theorem smT_kid : ∀ k e t nms ks, smT (.mk k e t nms ks) → ∀ (i : Nat) (s : ByteArray) (K : Tr), nms[i]? = some s → ks[i]? = some K → smT K := fun k e t nms ks h i s K h1 h2 => by
  rw [smT] at h
  exact (smL_at nms ks i s K h.2 h1 h2).2
theorem smL_set {K : Tr} (hK : smT K) : ∀ (nms : List ByteArray) (ks : List Tr) (i : Nat), smL nms ks → smL nms (ks.set i K)
  | [], ks, i, _ => by rw [smL] <;> simp
  | _ :: _, [], i, h => by simpa using h
  | s :: nms, T :: ks, 0, h => by
    rw [smL] at h
    rw [List.set_cons_zero, smL]; exact ⟨h.1, hK, h.2.2⟩
  | s :: nms, T :: ks, i + 1, h => by
    rw [smL] at h
    rw [List.set_cons_succ, smL]; exact ⟨h.1, h.2.1, smL_set hK nms ks i h.2.2⟩
theorem smL_ins {K : Tr} (hK : smT K) {s : ByteArray} (hs : s.size ≤ 1048576) : ∀ (nms : List ByteArray) (ks : List Tr) (i : Nat), nms.length = ks.length → smL nms ks → smL (nms.take i ++ s :: nms.drop i) (ks.take i ++ K :: ks.drop i)
  | nms, ks, 0, _, h => by
    show smL (s :: nms) (K :: ks)
    rw [smL]; exact ⟨hs, hK, h⟩
  | [], [], i + 1, _, h => by
    show smL [s] [K]
    rw [smL]; exact ⟨hs, hK, h⟩
  | a :: nms, T :: ks, i + 1, hl, h => by
    rw [smL] at h
    show smL (a :: (nms.take i ++ s :: nms.drop i)) (T :: (ks.take i ++ K :: ks.drop i))
    rw [smL]; exact ⟨h.1, h.2.1, smL_ins hK hs nms ks i (by simpa using hl) h.2.2⟩
  | [], _ :: _, _ + 1, hl, _ => by simp at hl
  | _ :: _, [], _ + 1, hl, _ => by simp at hl
theorem smT_put {T K : Tr} {s : ByteArray} (h : smT T) (hK : smT K) (hs : s.size ≤ 1048576) (hl : T.nms.length = T.ks.length) : smT (putK T s K) := by
  obtain ⟨k, e, t, nms, ks⟩ := T
  rw [smT] at h
  unfold putK
  split
  · show smT (.mk k e t nms (ks.set _ K))
    rw [smT]; exact ⟨h.1, smL_set hK _ _ _ h.2⟩
  · show smT (.mk k e t (nms.take (pos nms s) ++ s :: nms.drop (pos nms s)) (ks.take (pos nms s) ++ K :: ks.drop (pos nms s)))
    rw [smT]; exact ⟨h.1, smL_ins hK hs nms ks _ hl h.2⟩
theorem smT_rep {T X : Tr} (L : List ByteArray) (h : smT T) (hX : smT X) : smT (repT L T X) := rep_keeps smT smT_kid (fun k e t nms ks h i K hK => by
  rw [smT] at h ⊢
  exact ⟨h.1, smL_set hK _ _ _ h.2⟩) X hX L T h
theorem smT_rch {T : Tr} (L : List ByteArray) (h : smT T) : smT (rch L T).2 := rch_keeps smT smT_kid L T h
theorem lnB_kid {c : Nat} : ∀ k e t nms ks, lnB c (.mk k e t nms ks) → ∀ (i : Nat) (s : ByteArray) (K : Tr), nms[i]? = some s → ks[i]? = some K → lnB c K := fun k e t nms ks h i s K _ h2 => by
  rw [lnB] at h
  exact lnBL_iff.1 h.2 K (List.mem_of_getElem? h2)
theorem lnB_rep {c : Nat} {T X : Tr} (L : List ByteArray) (h : lnB c T) (hX : lnB c X) : lnB c (repT L T X) := rep_keeps (lnB c) lnB_kid (fun k e t nms ks h i K hK => by
  rw [lnB] at h ⊢
  exact ⟨h.1, lnBL_iff.2 (fun T hT => by rcases List.mem_or_eq_of_mem_set hT with hT | rfl; exact lnBL_iff.1 h.2 T hT; exact hK)⟩) X hX L T h
theorem lnB_rch {c : Nat} {T : Tr} (L : List ByteArray) (h : lnB c T) : lnB c (rch L T).2 := rch_keeps (lnB c) lnB_kid L T h
theorem lnB_put {c : Nat} {T K : Tr} {s : ByteArray} (h : lnB c T) (hK : lnB (c + 1) K) : lnB (c + 1) (putK T s K) := by
  obtain ⟨k, e, t, nms, ks⟩ := T
  rw [lnB] at h
  have h2 := lnBL_iff.1 (lnBL_mono (Nat.le_succ c) _ h.2)
  unfold putK
  split
  · show lnB (c + 1) (.mk k e t nms (ks.set _ K))
    rw [lnB]
    exact ⟨by omega, lnBL_iff.2 (fun T hT => by rcases List.mem_or_eq_of_mem_set hT with hT | rfl; exact h2 T hT; exact hK)⟩
  · show lnB (c + 1) (.mk k e t (nms.take (pos nms s) ++ s :: nms.drop (pos nms s)) (ks.take (pos nms s) ++ K :: ks.drop (pos nms s)))
    rw [lnB]
    refine ⟨by simp; omega, lnBL_iff.2 (fun T hT => ?_)⟩
    rcases List.mem_append.1 hT with hT | hT
    · exact h2 T (List.mem_of_mem_take hT)
    · rcases List.mem_cons.1 hT with rfl | hT
      · exact hK
      · exact h2 T (List.mem_of_mem_drop hT)
theorem lnB_del {c : Nat} {P : Tr} (i : Nat) (h : lnB c P) : lnB c (delK P i) := by
  obtain ⟨k, e, t, nms, ks⟩ := P
  rw [lnB] at h
  show lnB c (.mk k e t (nms.eraseIdx i) (ks.eraseIdx i))
  rw [lnB]
  exact ⟨Nat.le_trans (List.length_eraseIdx_le ..) h.1, lnBL_iff.2 (fun T hT => lnBL_iff.1 h.2 T (List.mem_of_mem_eraseIdx hT))⟩
theorem ckS_off {T : Tr} {l : List Tr} (h : ckS l = 0) (hm : T ∈ l) : (vT [] 24 T).off = none := by
  induction l with
  | nil => cases hm
  | cons K l ih =>
    rw [ckS] at h
    by_cases hk : (ckT K).2 ≠ 0
    · rw [if_pos hk] at h; exact absurd h hk
    · rw [if_neg hk] at h
      rcases List.mem_cons.1 hm with rfl | hm
      · exact ckT_zero (by omega)
      · exact ih h hm
theorem off_ck {T : Tr} (h : (vT [] 24 T).off = none) : (ckT T).2 = 0 := by unfold ckT; rw [h]
theorem nmO_ck {l : List Tr} {p : ByteArray} (h : nmO l p = 0) : ckS l = 0 ∧ (pathF p).1 = 0 := by
  unfold nmO at h
  by_cases hk : ckS l ≠ 0
  · rw [if_pos hk] at h; exact absurd h hk
  · rw [if_neg hk] at h; exact ⟨by omega, h⟩
theorem ck_ln {T : Tr} (hw : wfT T) (h : (vT [] 24 T).off = none) : lnB 1048576 T := vT_ln T [] 24 hw h (by decide)
end Go.Proofs.YtmknnblogfpifaaDoor
