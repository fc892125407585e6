/- A tree's words are accepted (plain; own text of the verifier). -/
import Derived.Test.YthlioedahoiahaaNrA
import Derived.Test.YthlioedahoiahaaNa3
namespace Go.Proofs.Ythlioedahoiahaa
open Go.RowKit

/-- These words are accepted, one behind the other. -/
def Ac : PC → List ByteArray → PC → Prop
  | c, [], d => d = c
  | c, s :: l, d => c.next ≠ 17 ∧ (c.accept s).1 = 0 ∧ Ac (c.accept s).2 l d
theorem Ac.app : ∀ (a b : List ByteArray) (c d e : PC), Ac c a d → Ac d b e → Ac c (a ++ b) e
  | [], b, c, d, e, h, h2 => by
    have h : d = c := h
    subst h
    exact h2
  | s :: a, b, c, d, e, h, h2 => ⟨h.1, h.2.1, Ac.app a b _ d e h.2.2 h2⟩
theorem Ac.one {c d : PC} {s : ByteArray} (hn : c.next ≠ 17) (h : c.accept s = (0, d)) : Ac c [s] d := ⟨hn, by rw [h], by show d = (c.accept s).2; rw [h]⟩
/-- The node T closed on what is open. -/
def cls (c : PC) (T : Tr) : PC := match c.op with
  | [] => ⟨17, [], T⟩
  | h :: R => ⟨16, h.kid T :: R, c.root⟩

theorem acc_on {n m : Int} {S : List ON} {r : Tr} {s : ByteArray} (h : bhP n s = (m, true)) (h1 : n ≠ 1) (h3 : n ≠ 3) (h7 : n ≠ 7) (h9 : n ≠ 9) (h14 : n ≠ 14) (hs : s ≠ wExec) (hm : m ≠ 16) : (⟨n, S, r⟩ : PC).accept s = (0, ⟨m, S, r⟩) := by
  unfold PC.accept
  rw [if_neg (show ¬ n = 7 from h7), if_neg (show ¬ n = 9 from h9), if_neg (show ¬ n = 14 from h14)]
  unfold PC.fixed
  dsimp only
  rw [h, if_neg (by simp), if_neg (fun hh => h1 hh.1), if_neg h1, if_neg h3, if_neg hs, if_neg hm]
  rfl
theorem acc_open {S : List ON} {r : Tr} (hd : S.length < 32) : (⟨1, S, r⟩ : PC).accept wOpen = (0, ⟨2, ON.new :: S, r⟩) := by
  have h : bhP 1 wOpen = (2, true) := by decide +kernel
  unfold PC.accept
  dsimp only
  rw [if_neg (by decide), if_neg (by decide), if_neg (by decide)]
  unfold PC.fixed
  dsimp only
  rw [h, if_neg (by simp), if_neg (by omega), if_pos rfl]
theorem acc_kind {S : List ON} {r : Tr} {o : ON} {s : ByteArray} {m k : Int} (h : bhP 3 s = (m, true)) (hk : kdP s = k) : (⟨3, o :: S, r⟩ : PC).accept s = (0, ⟨m, ⟨k, o.e, o.t, o.nms, o.ks, o.en⟩ :: S, r⟩) := by
  unfold PC.accept
  dsimp only
  rw [if_neg (by decide), if_neg (by decide), if_neg (by decide)]
  unfold PC.fixed
  dsimp only
  rw [h, if_neg (by simp), if_neg (fun hh => absurd hh.1 (by decide)), if_neg (by decide), if_pos rfl, hk]
  rfl
theorem acc_exec {S : List ON} {r : Tr} {o : ON} : (⟨4, o :: S, r⟩ : PC).accept wExec = (0, ⟨5, ⟨o.k, true, o.t, o.nms, o.ks, o.en⟩ :: S, r⟩) := by
  have h : bhP 4 wExec = (5, true) := by decide +kernel
  unfold PC.accept
  dsimp only
  rw [if_neg (by decide), if_neg (by decide), if_neg (by decide)]
  unfold PC.fixed
  dsimp only
  rw [h, if_neg (by simp), if_neg (fun hh => absurd hh.1 (by decide)), if_neg (by decide), if_neg (by decide), if_pos rfl]
  rfl
theorem acc_text {S : List ON} {r : Tr} {o : ON} (s : ByteArray) : (⟨7, o :: S, r⟩ : PC).accept s = (0, ⟨10, ⟨o.k, o.e, s, o.nms, o.ks, o.en⟩ :: S, r⟩) := by
  unfold PC.accept
  rw [if_pos rfl]
  rfl
theorem acc_target {S : List ON} {r : Tr} {o : ON} {s : ByteArray} (h : tgt s = 0) : (⟨9, o :: S, r⟩ : PC).accept s = (0, ⟨10, ⟨o.k, o.e, s, o.nms, o.ks, o.en⟩ :: S, r⟩) := by
  unfold PC.accept
  dsimp only
  rw [if_neg (by decide), if_pos rfl, if_neg (by omega)]
  rfl
theorem acc_ename {S : List ON} {r : Tr} {o : ON} {s : ByteArray} (h : ceP o.nms.getLast? s = 0) : (⟨14, o :: S, r⟩ : PC).accept s = (0, ⟨15, ⟨o.k, o.e, o.t, o.nms, o.ks, s⟩ :: S, r⟩) := by
  unfold PC.accept
  dsimp only
  rw [if_neg (by decide), if_neg (by decide), if_pos rfl]
  rw [if_neg (by omega)]
  rfl
theorem acc_close {n : Int} {S : List ON} {r : Tr} {o : ON} (hn : n = 10 ∨ n = 11) : (⟨n, o :: S, r⟩ : PC).accept wClose = (0, cls ⟨n, S, r⟩ o.tr) := by
  have hs : wClose ≠ wExec := by decide +kernel
  have h : bhP n wClose = (16, true) := by rcases hn with rfl | rfl <;> decide +kernel
  unfold PC.accept
  rw [if_neg (show ¬ n = 7 by omega), if_neg (show ¬ n = 9 by omega), if_neg (show ¬ n = 14 by omega)]
  unfold PC.fixed
  dsimp only
  rw [h, if_neg (by simp), if_neg (fun hh => by omega), if_neg (by omega), if_neg (by omega), if_neg hs, if_pos rfl]
  unfold PC.close cls
  cases S <;> rfl

theorem cls_op (n m : Int) (S : List ON) (r : Tr) (T : Tr) : cls ⟨n, S, r⟩ T = cls ⟨m, S, r⟩ T := by
  unfold cls
  cases S <;> rfl
theorem cfP_file {e : Bool} {t : ByteArray} {n : Nat} (h : cfP 1 e t n = 0) : n = 0 := by
  unfold cfP at h
  rw [if_pos rfl] at h
  by_cases h0 : 0 < n
  · rw [if_pos h0] at h; cases h
  · omega
theorem cfP_link {e : Bool} {t : ByteArray} {n : Nat} (h : cfP 2 e t n = 0) : e = false ∧ n = 0 ∧ tgt t = 0 := by
  unfold cfP at h
  rw [if_neg (by decide), if_pos rfl] at h
  by_cases h0 : e = true ∨ 0 < n
  · rw [if_pos h0] at h; cases h
  · rw [if_neg h0] at h
    refine ⟨?_, by omega, h⟩
    cases e
    · rfl
    · exact absurd (Or.inl rfl) h0
theorem cfP_dir {e : Bool} {t : ByteArray} {n : Nat} (h : cfP 3 e t n = 0) : e = false ∧ t = ⟨#[]⟩ := by
  unfold cfP at h
  rw [if_neg (by decide), if_neg (by decide), if_pos rfl] at h
  by_cases h0 : e = true ∨ t.size ≠ 0
  · rw [if_pos h0] at h; cases h
  · refine ⟨?_, ?_⟩
    · cases e
      · rfl
      · exact absurd (Or.inl rfl) h0
    · have hz : t.size = 0 := by
        by_cases hz : t.size = 0
        · exact hz
        · exact absurd (Or.inr hz) h0
      apply ByteArray.ext
      exact Array.eq_empty_of_size_eq_zero hz
theorem wfL_nil {ks : List Tr} (h : wfL [] ks) : ks = [] := by
  cases ks with
  | nil => rfl
  | cons T ks => exact absurd (wfL_len _ _ h) (by simp)

theorem ce_of {prev : Option ByteArray} {s : ByteArray} (h1 : chk s = 0) (h2 : ∀ s', prev = some s' → cmpB s' s < 0) : ceP prev s = 0 := by
  unfold ceP
  rw [if_neg (by omega)]
  cases prev with
  | none => rfl
  | some s' =>
    have := h2 s' rfl
    show (if 0 ≤ cmpB s' s then (64 : Int) else 0) = 0
    rw [if_neg (by omega)]
mutual
/-- A well-formed tree's words are accepted. -/
theorem ac_tree : ∀ (T : Tr) (ns : List ByteArray) (b : Int) (S : List ON) (r : Tr), (vT ns b T).off = none → wfT T → S.length = ns.length → Ac ⟨1, S, r⟩ (wdT T) (cls ⟨1, S, r⟩ T)
  | .mk k e t nms ks, ns, b, S, r, h, hw, hS => by
    obtain ⟨h1, h2, _, h4⟩ := NS.vT_parts h
    rw [wfT] at hw
    rw [wdT]
    have hhd : Ac ⟨1, S, r⟩ [wOpen, wType] ⟨3, ON.new :: S, r⟩ :=
      Ac.app [wOpen] [wType] _ _ _ (Ac.one (by show (1 : Int) ≠ 17; decide) (acc_open (by omega))) (Ac.one (by show (2 : Int) ≠ 17; decide) (acc_on (by decide +kernel) (by decide) (by decide) (by decide) (by decide) (by decide) (by decide +kernel) (by decide)))
    have htl : ∀ (n : Int) (o : ON), n = 10 ∨ n = 11 → o.tr = .mk k e t nms ks → Ac ⟨n, o :: S, r⟩ [wClose] (cls ⟨1, S, r⟩ (.mk k e t nms ks)) := fun n o hn ho => by
      refine Ac.one (by show n ≠ 17; omega) ?_
      rw [acc_close hn, ho, cls_op]
    rcases NS.cfP_kind h2 with rfl | rfl | rfl
    · have hz := cfP_file h2
      obtain rfl : nms = [] := List.length_eq_zero_iff.1 hz
      obtain rfl := wfL_nil hw
      rw [if_pos rfl]
      have hk : Ac ⟨3, ON.new :: S, r⟩ [wRegular] ⟨4, ⟨1, false, ⟨#[]⟩, [], [], ⟨#[]⟩⟩ :: S, r⟩ := Ac.one (by show (3 : Int) ≠ 17; decide) (acc_kind (o := ON.new) (by decide +kernel) (by decide +kernel))
      have hc : Ac ⟨if e then 6 else 4, ⟨1, e, ⟨#[]⟩, [], [], ⟨#[]⟩⟩ :: S, r⟩ [wContents, t] ⟨10, ⟨1, e, t, [], [], ⟨#[]⟩⟩ :: S, r⟩ := by
        refine Ac.app [wContents] [t] _ ⟨7, ⟨1, e, ⟨#[]⟩, [], [], ⟨#[]⟩⟩ :: S, r⟩ _ ?_ (Ac.one (by show (7 : Int) ≠ 17; decide) (acc_text (o := ⟨1, e, ⟨#[]⟩, [], [], ⟨#[]⟩⟩) t))
        cases e
        · exact Ac.one (by show (4 : Int) ≠ 17; decide) (acc_on (by decide +kernel) (by decide) (by decide) (by decide) (by decide) (by decide) (by decide +kernel) (by decide))
        · exact Ac.one (by show (6 : Int) ≠ 17; decide) (acc_on (by decide +kernel) (by decide) (by decide) (by decide) (by decide) (by decide) (by decide +kernel) (by decide))
      have hx : Ac ⟨4, ⟨1, false, ⟨#[]⟩, [], [], ⟨#[]⟩⟩ :: S, r⟩ (if e then [wExec, wNone] else []) ⟨if e then 6 else 4, ⟨1, e, ⟨#[]⟩, [], [], ⟨#[]⟩⟩ :: S, r⟩ := by
        cases e
        · exact rfl
        · exact Ac.app [wExec] [wNone] _ ⟨5, ⟨1, true, ⟨#[]⟩, [], [], ⟨#[]⟩⟩ :: S, r⟩ _ (Ac.one (by show (4 : Int) ≠ 17; decide) (acc_exec (o := ⟨1, false, ⟨#[]⟩, [], [], ⟨#[]⟩⟩))) (Ac.one (by show (5 : Int) ≠ 17; decide) (acc_on (by decide +kernel) (by decide) (by decide) (by decide) (by decide) (by decide) (by decide +kernel) (by decide)))
      exact Ac.app _ _ _ _ _ (Ac.app _ _ _ _ _ hhd (Ac.app _ _ _ _ _ (Ac.app _ _ _ _ _ hk hx) hc)) (htl 10 _ (Or.inl rfl) rfl)
    · obtain ⟨rfl, hz, htg⟩ := cfP_link h2
      obtain rfl : nms = [] := List.length_eq_zero_iff.1 hz
      obtain rfl := wfL_nil hw
      rw [if_neg (by decide), if_pos rfl]
      have hk : Ac ⟨3, ON.new :: S, r⟩ [wSymlink] ⟨8, ⟨2, false, ⟨#[]⟩, [], [], ⟨#[]⟩⟩ :: S, r⟩ := Ac.one (by show (3 : Int) ≠ 17; decide) (acc_kind (o := ON.new) (by decide +kernel) (by decide +kernel))
      have hc : Ac ⟨8, ⟨2, false, ⟨#[]⟩, [], [], ⟨#[]⟩⟩ :: S, r⟩ [wTarget, t] ⟨10, ⟨2, false, t, [], [], ⟨#[]⟩⟩ :: S, r⟩ :=
        Ac.app [wTarget] [t] _ ⟨9, ⟨2, false, ⟨#[]⟩, [], [], ⟨#[]⟩⟩ :: S, r⟩ _ (Ac.one (by show (8 : Int) ≠ 17; decide) (acc_on (by decide +kernel) (by decide) (by decide) (by decide) (by decide) (by decide) (by decide +kernel) (by decide))) (Ac.one (by show (9 : Int) ≠ 17; decide) (acc_target (o := ⟨2, false, ⟨#[]⟩, [], [], ⟨#[]⟩⟩) htg))
      exact Ac.app _ _ _ _ _ (Ac.app _ _ _ _ _ hhd (Ac.app [wSymlink] [wTarget, t] _ _ _ hk hc)) (htl 10 _ (Or.inl rfl) rfl)
    · obtain ⟨rfl, rfl⟩ := cfP_dir h2
      rw [if_neg (by decide), if_neg (by decide)]
      have hk : Ac ⟨3, ON.new :: S, r⟩ [wDirectory] ⟨11, ⟨3, false, ⟨#[]⟩, [], [], ⟨#[]⟩⟩ :: S, r⟩ := Ac.one (by show (3 : Int) ≠ 17; decide) (acc_kind (o := ON.new) (by decide +kernel) (by decide +kernel))
      obtain ⟨en, hks⟩ := ac_kids nms ks ns (b + nbP 3 false ⟨#[]⟩) ⟨3, false, ⟨#[]⟩, [], [], ⟨#[]⟩⟩ S r h4 hw hS
      exact Ac.app _ _ _ _ _ (Ac.app _ _ _ _ _ hhd (Ac.app _ _ _ _ _ hk hks)) (htl 11 _ (Or.inr rfl) rfl)
theorem ac_kids : ∀ (nms : List ByteArray) (ks : List Tr) (ns : List ByteArray) (b : Int) (o : ON) (S : List ON) (r : Tr), (vL ns b o.nms.getLast? nms ks).off = none → wfL nms ks → S.length = ns.length → ∃ en, Ac ⟨11, o :: S, r⟩ (wdL nms ks) ⟨11, ⟨o.k, o.e, o.t, o.nms ++ nms, o.ks ++ ks, en⟩ :: S, r⟩
  | [], [], ns, b, o, S, r, h, hw, hS => by
    refine ⟨o.en, ?_⟩
    rw [wdL]
    · show (⟨11, ⟨o.k, o.e, o.t, o.nms ++ [], o.ks ++ [], o.en⟩ :: S, r⟩ : PC) = ⟨11, o :: S, r⟩
      rw [List.append_nil, List.append_nil]
    · simp
  | s :: nms, T :: ks, ns, b, o, S, r, h, hw, hS => by
    obtain ⟨p1, p2, _, p4, p5⟩ := NS.vL_parts h
    rw [wfL] at hw
    have hT := ac_tree T (ns ++ [s]) (b + ebP s) (⟨o.k, o.e, o.t, o.nms, o.ks, s⟩ :: S) r p4 hw.1 (by simp; omega)
    have hg : (o.nms ++ [s]).getLast? = some s := by simp
    obtain ⟨en, hk⟩ := ac_kids nms ks ns (b + ebP s + tbT T) ⟨o.k, o.e, o.t, o.nms ++ [s], o.ks ++ [T], s⟩ S r (by show (vL ns _ (o.nms ++ [s]).getLast? nms ks).off = none; rw [hg]; exact p5) hw.2 hS
    refine ⟨en, ?_⟩
    rw [wdL]
    have e1 : o.nms ++ s :: nms = o.nms ++ [s] ++ nms := by simp
    have e2 : o.ks ++ T :: ks = o.ks ++ [T] ++ ks := by simp
    rw [e1, e2]
    have a1 : Ac ⟨11, o :: S, r⟩ [wEntry, wOpen, wName, s, wNode] ⟨1, ⟨o.k, o.e, o.t, o.nms, o.ks, s⟩ :: S, r⟩ :=
      Ac.app [wEntry] _ _ ⟨12, o :: S, r⟩ _ (Ac.one (by show (11 : Int) ≠ 17; decide) (acc_on (by decide +kernel) (by decide) (by decide) (by decide) (by decide) (by decide) (by decide +kernel) (by decide)))
        (Ac.app [wOpen] _ _ ⟨13, o :: S, r⟩ _ (Ac.one (by show (12 : Int) ≠ 17; decide) (acc_on (by decide +kernel) (by decide) (by decide) (by decide) (by decide) (by decide) (by decide +kernel) (by decide)))
        (Ac.app [wName] _ _ ⟨14, o :: S, r⟩ _ (Ac.one (by show (13 : Int) ≠ 17; decide) (acc_on (by decide +kernel) (by decide) (by decide) (by decide) (by decide) (by decide) (by decide +kernel) (by decide)))
        (Ac.app [s] [wNode] _ ⟨15, ⟨o.k, o.e, o.t, o.nms, o.ks, s⟩ :: S, r⟩ _ (Ac.one (by show (14 : Int) ≠ 17; decide) (acc_ename (ce_of p1 p2)))
        (Ac.one (by show (15 : Int) ≠ 17; decide) (acc_on (by decide +kernel) (by decide) (by decide) (by decide) (by decide) (by decide) (by decide +kernel) (by decide))))))
    have a3 : Ac (cls ⟨1, ⟨o.k, o.e, o.t, o.nms, o.ks, s⟩ :: S, r⟩ T) [wClose] ⟨11, ⟨o.k, o.e, o.t, o.nms ++ [s], o.ks ++ [T], s⟩ :: S, r⟩ := by
      show Ac ⟨16, ⟨o.k, o.e, o.t, o.nms ++ [s], o.ks ++ [T], s⟩ :: S, r⟩ [wClose] _
      exact Ac.one (by show (16 : Int) ≠ 17; decide) (acc_on (by decide +kernel) (by decide) (by decide) (by decide) (by decide) (by decide) (by decide +kernel) (by decide))
    exact Ac.app _ _ _ _ _ (Ac.app _ _ _ _ _ (Ac.app _ _ _ _ _ a1 hT) a3) hk
  | [], _ :: _, _, _, _, _, _, _, hw, _ => by simp [wfL] at hw
  | _ :: _, [], _, _, _, _, _, _, hw, _ => by simp [wfL] at hw
end
theorem ac_arc {T : Tr} (h : (vT [] 24 T).off = none) (hw : wfT T) : Ac PC.new (wMagic :: wdT T) ⟨17, [], T⟩ :=
  Ac.app [wMagic] _ _ ⟨1, [], .mk 0 false ⟨#[]⟩ [] []⟩ _ (Ac.one (by show (0 : Int) ≠ 17; decide) (acc_on (by decide +kernel) (by decide) (by decide) (by decide) (by decide) (by decide) (by decide +kernel) (by decide))) (ac_tree T [] 24 [] _ h hw rfl)
end Go.Proofs.Ythlioedahoiahaa
