/- What the parser has read is the words of its tree (plain; own text of the verifier). -/
import Derived.Test.YthlioedahoiahaaNrC
import Derived.Test.YthlioedahoiahaaNa7
namespace Go.Proofs.Ythlioedahoiahaa
open Go.RowKit

/-- Behind the kids of a directory. -/
def dirW (nms : List ByteArray) (ks : List Tr) : List ByteArray := [wOpen, wType, wDirectory] ++ wdL nms ks
def fileW (e : Bool) : List ByteArray := [wOpen, wType, wRegular] ++ (if e then [wExec, wNone] else [])
theorem wdL_snoc : ∀ (nms : List ByteArray) (ks : List Tr) (s : ByteArray) (T : Tr), nms.length = ks.length → wdL (nms ++ [s]) (ks ++ [T]) = wdL nms ks ++ [wEntry, wOpen, wName, s, wNode] ++ wdT T ++ [wClose]
  | [], [], s, T, _ => by
    show wdL (s :: []) (T :: []) = wdL [] [] ++ _ ++ _ ++ _
    rw [wdL, wdL]
    · simp
    · simp
  | n :: nms, K :: ks, s, T, h => by
    show wdL (n :: (nms ++ [s])) (K :: (ks ++ [T])) = _
    rw [wdL, wdL, wdL_snoc nms ks s T (by simpa using h)]
    simp
  | [], _ :: _, _, _, h => by simp at h
  | _ :: _, [], _, _, h => by simp at h
mutual
/-- A node with d nodes open above it may stand where it stands. -/
def gdT (d : Nat) : Tr → Prop
  | .mk k e t nms ks => d < 32 ∧ cfP k e t nms.length = 0 ∧ t.size ≤ 1048576 ∧ gdL d none nms ks
def gdL (d : Nat) (prev : Option ByteArray) : List ByteArray → List Tr → Prop
  | [], [] => True
  | s :: nms, T :: ks => chk s = 0 ∧ (∀ s', prev = some s' → cmpB s' s < 0) ∧ s.size ≤ 1048576 ∧ gdT (d + 1) T ∧ gdL d (some s) nms ks
  | _, _ => False
end
theorem gdL_len (d : Nat) : ∀ (nms : List ByteArray) (ks : List Tr) (prev : Option ByteArray), gdL d prev nms ks → nms.length = ks.length
  | [], [], _, _ => rfl
  | s :: nms, T :: ks, prev, h => by
    rw [gdL] at h
    have := gdL_len d nms ks _ h.2.2.2.2
    simp [this]
  | [], _ :: _, _, h => by simp [gdL] at h
  | _ :: _, [], _, h => by simp [gdL] at h
theorem gdL_snoc (d : Nat) (s : ByteArray) (T : Tr) (h1 : chk s = 0) (h3 : s.size ≤ 1048576) (h4 : gdT (d + 1) T) : ∀ (nms : List ByteArray) (ks : List Tr) (prev : Option ByteArray), gdL d prev nms ks → (∀ s', ((prev.toList ++ nms).getLast?) = some s' → cmpB s' s < 0) → gdL d prev (nms ++ [s]) (ks ++ [T])
  | [], [], prev, _, h2 => by
    show gdL d prev (s :: []) (T :: [])
    rw [gdL, gdL]
    refine ⟨h1, fun s' e => h2 s' (by rw [e]; rfl), h3, h4, trivial⟩
  | n :: nms, K :: ks, prev, h, h2 => by
    rw [gdL] at h
    show gdL d prev (n :: (nms ++ [s])) (K :: (ks ++ [T]))
    rw [gdL]
    refine ⟨h.1, h.2.1, h.2.2.1, h.2.2.2.1, gdL_snoc d s T h1 h3 h4 nms ks _ h.2.2.2.2 (fun s' e => h2 s' ?_)⟩
    rw [← e]
    cases prev <;> simp
  | [], _ :: _, _, h, _ => by simp [gdL] at h
  | _ :: _, [], _, h, _ => by simp [gdL] at h
/-- A directory of which some kids have come. -/
structure DirO (d : Nat) (o : ON) : Prop where
  k : o.k = 3
  e : o.e = false
  t : o.t = ⟨#[]⟩
  dp : d < 32
  ok : gdL d none o.nms o.ks
/-- Its next entry's name. -/
structure NamO (o : ON) (s : ByteArray) : Prop where
  ck : chk s = 0
  sz : s.size ≤ 1048576
  lt : ∀ s', o.nms.getLast? = some s' → cmpB s' s < 0
/-- The words ahead of the node that is read, with the nodes that are open above it. -/
inductive Out : List ON → List ByteArray → Prop
  | nil : Out [] [wMagic]
  | cons (h : ON) (S : List ON) (ws : List ByteArray) : Out S ws → DirO S.length h → NamO h h.en → Out (h :: S) (ws ++ dirW h.nms h.ks ++ [wEntry, wOpen, wName, h.en, wNode])
/-- The words read so far. -/
inductive Wd : PC → List ByteArray → Prop
  | n0 (r : Tr) : Wd ⟨0, [], r⟩ []
  | n1 (S : List ON) (ws : List ByteArray) (r : Tr) : Out S ws → Wd ⟨1, S, r⟩ ws
  | n2 (S : List ON) (ws : List ByteArray) (r : Tr) : Out S ws → S.length < 32 → Wd ⟨2, ⟨0, false, ⟨#[]⟩, [], [], ⟨#[]⟩⟩ :: S, r⟩ (ws ++ [wOpen])
  | n3 (S : List ON) (ws : List ByteArray) (r : Tr) : Out S ws → S.length < 32 → Wd ⟨3, ⟨0, false, ⟨#[]⟩, [], [], ⟨#[]⟩⟩ :: S, r⟩ (ws ++ [wOpen, wType])
  | n4 (S : List ON) (ws : List ByteArray) (r : Tr) : Out S ws → S.length < 32 → Wd ⟨4, ⟨1, false, ⟨#[]⟩, [], [], ⟨#[]⟩⟩ :: S, r⟩ (ws ++ [wOpen, wType, wRegular])
  | n5 (S : List ON) (ws : List ByteArray) (r : Tr) : Out S ws → S.length < 32 → Wd ⟨5, ⟨1, true, ⟨#[]⟩, [], [], ⟨#[]⟩⟩ :: S, r⟩ (ws ++ [wOpen, wType, wRegular, wExec])
  | n6 (S : List ON) (ws : List ByteArray) (r : Tr) : Out S ws → S.length < 32 → Wd ⟨6, ⟨1, true, ⟨#[]⟩, [], [], ⟨#[]⟩⟩ :: S, r⟩ (ws ++ [wOpen, wType, wRegular, wExec, wNone])
  | n7 (S : List ON) (ws : List ByteArray) (r : Tr) (e : Bool) : Out S ws → S.length < 32 → Wd ⟨7, ⟨1, e, ⟨#[]⟩, [], [], ⟨#[]⟩⟩ :: S, r⟩ (ws ++ fileW e ++ [wContents])
  | n8 (S : List ON) (ws : List ByteArray) (r : Tr) : Out S ws → S.length < 32 → Wd ⟨8, ⟨2, false, ⟨#[]⟩, [], [], ⟨#[]⟩⟩ :: S, r⟩ (ws ++ [wOpen, wType, wSymlink])
  | n9 (S : List ON) (ws : List ByteArray) (r : Tr) : Out S ws → S.length < 32 → Wd ⟨9, ⟨2, false, ⟨#[]⟩, [], [], ⟨#[]⟩⟩ :: S, r⟩ (ws ++ [wOpen, wType, wSymlink, wTarget])
  | n10f (S : List ON) (ws : List ByteArray) (r : Tr) (e : Bool) (t : ByteArray) : Out S ws → S.length < 32 → t.size ≤ 1048576 → Wd ⟨10, ⟨1, e, t, [], [], ⟨#[]⟩⟩ :: S, r⟩ (ws ++ fileW e ++ [wContents, t])
  | n10l (S : List ON) (ws : List ByteArray) (r : Tr) (t : ByteArray) : Out S ws → S.length < 32 → t.size ≤ 1048576 → tgt t = 0 → Wd ⟨10, ⟨2, false, t, [], [], ⟨#[]⟩⟩ :: S, r⟩ (ws ++ [wOpen, wType, wSymlink, wTarget, t])
  | n11 (S : List ON) (ws : List ByteArray) (r : Tr) (o : ON) : Out S ws → DirO S.length o → Wd ⟨11, o :: S, r⟩ (ws ++ dirW o.nms o.ks)
  | n12 (S : List ON) (ws : List ByteArray) (r : Tr) (o : ON) : Out S ws → DirO S.length o → Wd ⟨12, o :: S, r⟩ (ws ++ dirW o.nms o.ks ++ [wEntry])
  | n13 (S : List ON) (ws : List ByteArray) (r : Tr) (o : ON) : Out S ws → DirO S.length o → Wd ⟨13, o :: S, r⟩ (ws ++ dirW o.nms o.ks ++ [wEntry, wOpen])
  | n14 (S : List ON) (ws : List ByteArray) (r : Tr) (o : ON) : Out S ws → DirO S.length o → Wd ⟨14, o :: S, r⟩ (ws ++ dirW o.nms o.ks ++ [wEntry, wOpen, wName])
  | n15 (S : List ON) (ws : List ByteArray) (r : Tr) (o : ON) : Out S ws → DirO S.length o → NamO o o.en → Wd ⟨15, o :: S, r⟩ (ws ++ dirW o.nms o.ks ++ [wEntry, wOpen, wName, o.en])
  | n16 (S : List ON) (ws us : List ByteArray) (r : Tr) (o : ON) : Out S ws → DirO S.length o → us ++ [wClose] = ws ++ dirW o.nms o.ks → Wd ⟨16, o :: S, r⟩ us
  | n17 (T : Tr) : gdT 0 T → Wd ⟨17, [], T⟩ (wMagic :: wdT T)
theorem Wd.cast {c : PC} {a b : List ByteArray} (h : Wd c a) (e : a = b) : Wd c b := e ▸ h
/-- A node closed. -/
theorem wd_cls {n : Int} {S : List ON} {ws us : List ByteArray} {r T : Tr} (h : Out S ws) (hg : gdT S.length T) (e : us = ws ++ wdT T) : Wd (cls ⟨n, S, r⟩ T) us := by
  cases h with
  | nil => rw [e]; exact Wd.n17 T hg
  | cons h S ws h1 h2 h3 =>
    show Wd ⟨16, h.kid T :: S, r⟩ us
    have hl := gdL_len _ _ _ _ h2.ok
    refine Wd.n16 S ws us r _ h1 ⟨h2.k, h2.e, h2.t, h2.dp, ?_⟩ ?_
    · exact gdL_snoc _ _ _ h3.ck h3.sz hg _ _ _ h2.ok (fun s' e => h3.lt s' (by simpa using e))
    · show us ++ [wClose] = ws ++ ([wOpen, wType, wDirectory] ++ wdL (h.nms ++ [h.en]) (h.ks ++ [T]))
      rw [e, wdL_snoc _ _ _ _ hl]
      unfold dirW
      simp
theorem gd_file {d : Nat} {e : Bool} {t : ByteArray} (hd : d < 32) (ht : t.size ≤ 1048576) : gdT d (.mk 1 e t [] []) := by
  rw [gdT, gdL]
  exact ⟨hd, by rfl, ht, trivial⟩
theorem gd_link {d : Nat} {t : ByteArray} (hd : d < 32) (ht : t.size ≤ 1048576) (hg : tgt t = 0) : gdT d (.mk 2 false t [] []) := by
  rw [gdT, gdL]
  exact ⟨hd, by unfold cfP; simpa using hg, ht, trivial⟩
theorem gd_dir {d : Nat} {o : ON} (h : DirO d o) : gdT d o.tr := by
  obtain ⟨k, e, t, nms, ks, en⟩ := o
  obtain ⟨h1, h2, h3, h4, h5⟩ := h
  change k = 3 at h1
  change e = false at h2
  change t = ⟨#[]⟩ at h3
  subst h1 h2 h3
  show gdT d (.mk 3 false ⟨#[]⟩ nms ks)
  rw [gdT]
  exact ⟨h4, by unfold cfP; simp [ByteArray.size], by simp [ByteArray.size], h5⟩
theorem wd_dir {d : Nat} {o : ON} (h : DirO d o) : wdT o.tr = dirW o.nms o.ks ++ [wClose] := by
  obtain ⟨k, e, t, nms, ks, en⟩ := o
  have h1 : k = 3 := h.k
  subst h1
  show wdT (.mk 3 e t nms ks) = _
  rw [wdT]
  unfold dirW
  simp
theorem ce_parts {prev : Option ByteArray} {s : ByteArray} (h : ceP prev s = 0) : chk s = 0 ∧ ∀ s', prev = some s' → cmpB s' s < 0 := by
  unfold ceP at h
  by_cases h1 : chk s = 0
  · rw [if_neg (by omega)] at h
    refine ⟨h1, fun s' e => ?_⟩
    subst e
    change (if 0 ≤ cmpB s' s then (64 : Int) else 0) = 0 at h
    by_cases h2 : 0 ≤ cmpB s' s
    · rw [if_pos h2] at h; cases h
    · omega
  · rw [if_pos h1] at h; exact absurd h h1
theorem fix_bh {c : PC} {s : ByteArray} (h7 : c.next ≠ 7) (h9 : c.next ≠ 9) (h14 : c.next ≠ 14) (h : (c.accept s).1 = 0) : (bhP c.next s).2 = true := by
  unfold PC.accept at h
  rw [if_neg h7, if_neg h9, if_neg h14] at h
  unfold PC.fixed at h
  by_cases hb : (bhP c.next s).2 = false
  · rw [if_pos hb] at h; cases h
  · cases hh : (bhP c.next s).2
    · exact absurd hh hb
    · rfl
theorem fix_deep {S : List ON} {r : Tr} {s : ByteArray} (h : ((⟨1, S, r⟩ : PC).accept s).1 = 0) : S.length ≠ 32 := fun hl => by
  have hb := fix_bh (c := ⟨1, S, r⟩) (by show (1 : Int) ≠ 7; decide) (by show (1 : Int) ≠ 9; decide) (by show (1 : Int) ≠ 14; decide) h
  unfold PC.accept at h
  rw [if_neg (show ¬ (1 : Int) = 7 by decide), if_neg (show ¬ (1 : Int) = 9 by decide), if_neg (show ¬ (1 : Int) = 14 by decide)] at h
  unfold PC.fixed at h
  rw [if_neg (by rw [hb]; simp), if_pos ⟨rfl, hl⟩] at h
  cases h
/-- What may stand behind n. -/
theorem bh_at (n : Int) (s : ByteArray) (h : (bhP n s).2 = true) (n1 : n ≠ 1) : (n = 0 → s = wMagic) ∧ (n = 2 → s = wType) ∧ (n = 3 → s = wRegular ∨ s = wSymlink ∨ s = wDirectory) ∧ (n = 4 → s = wExec ∨ s = wContents) ∧ (n = 5 → s = wNone) ∧ (n = 6 → s = wContents) ∧ (n = 8 → s = wTarget) ∧ (n = 10 → s = wClose) ∧ (n = 11 → s = wClose ∨ s = wEntry) ∧ (n = 12 → s = wOpen) ∧ (n = 13 → s = wName) ∧ (n = 15 → s = wNode) ∧ (n = 16 → s = wClose) ∧ n ≠ 17 := by
  rcases bh_cases h with hh | hh | hh | hh | hh | hh | hh | hh | hh | hh | hh | hh | hh | hh | hh | hh | hh | hh <;> obtain ⟨rfl, rfl, _⟩ := hh <;> simp at n1 ⊢
theorem bh_one (s : ByteArray) (h : (bhP 1 s).2 = true) : s = wOpen := by
  rcases bh_cases h with hh | hh | hh | hh | hh | hh | hh | hh | hh | hh | hh | hh | hh | hh | hh | hh | hh | hh <;> obtain ⟨h1, rfl, _⟩ := hh <;> simp at h1 ⊢

theorem wd_accept {c : PC} {ws : List ByteArray} {s : ByteArray} (h : Wd c ws) (hs : s.size ≤ 1048576) (h0 : (c.accept s).1 = 0) (hn : c.next ≠ 17) : Wd (c.accept s).2 (ws ++ [s]) := by
  cases h with
  | n0 r =>
    have hb := (bh_at _ _ (fix_bh (c := ⟨0, [], r⟩) (by show (0 : Int) ≠ 7; decide) (by show (0 : Int) ≠ 9; decide) (by show (0 : Int) ≠ 14; decide) h0) (by show (0 : Int) ≠ 1; decide)).1 rfl
    subst hb
    rw [acc_on (by decide +kernel) (by decide) (by decide) (by decide) (by decide) (by decide) (by decide +kernel) (by decide) (m := 1)]
    exact Wd.n1 [] _ r Out.nil
  | n1 S ws r hO =>
    have hb := bh_one _ (fix_bh (c := ⟨1, S, r⟩) (by show (1 : Int) ≠ 7; decide) (by show (1 : Int) ≠ 9; decide) (by show (1 : Int) ≠ 14; decide) h0)
    have hd := fix_deep h0
    subst hb
    by_cases hlt : S.length < 32
    · rw [acc_open hlt]
      exact Wd.n2 S ws r hO hlt
    · exfalso
      cases hO with
      | nil => exact hlt (by decide)
      | cons h S ws h1 h2 h3 => have := h2.dp; simp at hd hlt; omega
  | n2 S ws r hO hd =>
    have hb := (bh_at _ _ (fix_bh (c := ⟨2, _, r⟩) (by show (2 : Int) ≠ 7; decide) (by show (2 : Int) ≠ 9; decide) (by show (2 : Int) ≠ 14; decide) h0) (by show (2 : Int) ≠ 1; decide)).2.1 rfl
    subst hb
    rw [acc_on (by decide +kernel) (by decide) (by decide) (by decide) (by decide) (by decide) (by decide +kernel) (by decide) (m := 3)]
    exact (Wd.n3 S ws r hO hd).cast (by simp)
  | n3 S ws r hO hd =>
    have hb := (bh_at _ _ (fix_bh (c := ⟨3, _, r⟩) (by show (3 : Int) ≠ 7; decide) (by show (3 : Int) ≠ 9; decide) (by show (3 : Int) ≠ 14; decide) h0) (by show (3 : Int) ≠ 1; decide)).2.2.1 rfl
    rcases hb with rfl | rfl | rfl
    · rw [acc_kind (m := 4) (k := 1) (by decide +kernel) (by decide +kernel)]
      exact (Wd.n4 S ws r hO hd).cast (by simp)
    · rw [acc_kind (m := 8) (k := 2) (by decide +kernel) (by decide +kernel)]
      exact (Wd.n8 S ws r hO hd).cast (by simp)
    · rw [acc_kind (m := 11) (k := 3) (by decide +kernel) (by decide +kernel)]
      refine (Wd.n11 S ws r _ hO ⟨rfl, rfl, rfl, hd, ?_⟩).cast ?_
      · show gdL S.length none [] []
        rw [gdL]; trivial
      · show ws ++ ([wOpen, wType, wDirectory] ++ wdL [] []) = _
        rw [wdL]
        · simp
        · simp
  | n4 S ws r hO hd =>
    have hb := (bh_at _ _ (fix_bh (c := ⟨4, _, r⟩) (by show (4 : Int) ≠ 7; decide) (by show (4 : Int) ≠ 9; decide) (by show (4 : Int) ≠ 14; decide) h0) (by show (4 : Int) ≠ 1; decide)).2.2.2.1 rfl
    rcases hb with rfl | rfl
    · rw [acc_exec]
      exact (Wd.n5 S ws r hO hd).cast (by simp)
    · rw [acc_on (by decide +kernel) (by decide) (by decide) (by decide) (by decide) (by decide) (by decide +kernel) (by decide) (m := 7)]
      exact (Wd.n7 S ws r false hO hd).cast (by simp [fileW])
  | n5 S ws r hO hd =>
    have hb := (bh_at _ _ (fix_bh (c := ⟨5, _, r⟩) (by show (5 : Int) ≠ 7; decide) (by show (5 : Int) ≠ 9; decide) (by show (5 : Int) ≠ 14; decide) h0) (by show (5 : Int) ≠ 1; decide)).2.2.2.2.1 rfl
    subst hb
    rw [acc_on (by decide +kernel) (by decide) (by decide) (by decide) (by decide) (by decide) (by decide +kernel) (by decide) (m := 6)]
    exact (Wd.n6 S ws r hO hd).cast (by simp)
  | n6 S ws r hO hd =>
    have hb := (bh_at _ _ (fix_bh (c := ⟨6, _, r⟩) (by show (6 : Int) ≠ 7; decide) (by show (6 : Int) ≠ 9; decide) (by show (6 : Int) ≠ 14; decide) h0) (by show (6 : Int) ≠ 1; decide)).2.2.2.2.2.1 rfl
    subst hb
    rw [acc_on (by decide +kernel) (by decide) (by decide) (by decide) (by decide) (by decide) (by decide +kernel) (by decide) (m := 7)]
    exact (Wd.n7 S ws r true hO hd).cast (by simp [fileW])
  | n7 S ws r e hO hd =>
    rw [acc_text]
    exact (Wd.n10f S ws r e s hO hd hs).cast (by simp)
  | n8 S ws r hO hd =>
    have hb := (bh_at _ _ (fix_bh (c := ⟨8, _, r⟩) (by show (8 : Int) ≠ 7; decide) (by show (8 : Int) ≠ 9; decide) (by show (8 : Int) ≠ 14; decide) h0) (by show (8 : Int) ≠ 1; decide)).2.2.2.2.2.2.1 rfl
    subst hb
    rw [acc_on (by decide +kernel) (by decide) (by decide) (by decide) (by decide) (by decide) (by decide +kernel) (by decide) (m := 9)]
    exact (Wd.n9 S ws r hO hd).cast (by simp)
  | n9 S ws r hO hd =>
    have ht : tgt s = 0 := by
      unfold PC.accept at h0
      rw [if_neg (show ¬ (9 : Int) = 7 by decide), if_pos (show (9 : Int) = 9 from rfl)] at h0
      by_cases ht : tgt s ≠ 0
      · rw [if_pos ht] at h0; exact absurd h0 ht
      · omega
    rw [acc_target ht]
    exact (Wd.n10l S ws r s hO hd hs ht).cast (by simp)
  | n10f S ws r e t hO hd ht =>
    have hb := (bh_at _ _ (fix_bh (c := ⟨10, _, r⟩) (by show (10 : Int) ≠ 7; decide) (by show (10 : Int) ≠ 9; decide) (by show (10 : Int) ≠ 14; decide) h0) (by show (10 : Int) ≠ 1; decide)).2.2.2.2.2.2.2.1 rfl
    subst hb
    rw [acc_close (Or.inl rfl)]
    refine wd_cls hO (gd_file hd ht) ?_
    show _ = ws ++ wdT (.mk 1 e t [] [])
    rw [wdT]
    simp [fileW]
  | n10l S ws r t hO hd ht hg =>
    have hb := (bh_at _ _ (fix_bh (c := ⟨10, _, r⟩) (by show (10 : Int) ≠ 7; decide) (by show (10 : Int) ≠ 9; decide) (by show (10 : Int) ≠ 14; decide) h0) (by show (10 : Int) ≠ 1; decide)).2.2.2.2.2.2.2.1 rfl
    subst hb
    rw [acc_close (Or.inl rfl)]
    refine wd_cls hO (gd_link hd ht hg) ?_
    show _ = ws ++ wdT (.mk 2 false t [] [])
    rw [wdT]
    simp
  | n11 S ws r o hO hD =>
    have hb := (bh_at _ _ (fix_bh (c := ⟨11, _, r⟩) (by show (11 : Int) ≠ 7; decide) (by show (11 : Int) ≠ 9; decide) (by show (11 : Int) ≠ 14; decide) h0) (by show (11 : Int) ≠ 1; decide)).2.2.2.2.2.2.2.2.1 rfl
    rcases hb with rfl | rfl
    · rw [acc_close (Or.inr rfl)]
      refine wd_cls hO (gd_dir hD) ?_
      rw [wd_dir hD]
      simp
    · rw [acc_on (by decide +kernel) (by decide) (by decide) (by decide) (by decide) (by decide) (by decide +kernel) (by decide) (m := 12)]
      exact (Wd.n12 S ws r o hO hD).cast (by simp)
  | n12 S ws r o hO hD =>
    have hb := (bh_at _ _ (fix_bh (c := ⟨12, _, r⟩) (by show (12 : Int) ≠ 7; decide) (by show (12 : Int) ≠ 9; decide) (by show (12 : Int) ≠ 14; decide) h0) (by show (12 : Int) ≠ 1; decide)).2.2.2.2.2.2.2.2.2.1 rfl
    subst hb
    rw [acc_on (by decide +kernel) (by decide) (by decide) (by decide) (by decide) (by decide) (by decide +kernel) (by decide) (m := 13)]
    exact (Wd.n13 S ws r o hO hD).cast (by simp)
  | n13 S ws r o hO hD =>
    have hb := (bh_at _ _ (fix_bh (c := ⟨13, _, r⟩) (by show (13 : Int) ≠ 7; decide) (by show (13 : Int) ≠ 9; decide) (by show (13 : Int) ≠ 14; decide) h0) (by show (13 : Int) ≠ 1; decide)).2.2.2.2.2.2.2.2.2.2.1 rfl
    subst hb
    rw [acc_on (by decide +kernel) (by decide) (by decide) (by decide) (by decide) (by decide) (by decide +kernel) (by decide) (m := 14)]
    exact (Wd.n14 S ws r o hO hD).cast (by simp)
  | n14 S ws r o hO hD =>
    have hc : ceP o.nms.getLast? s = 0 := by
      unfold PC.accept at h0
      rw [if_neg (show ¬ (14 : Int) = 7 by decide), if_neg (show ¬ (14 : Int) = 9 by decide), if_pos (show (14 : Int) = 14 from rfl)] at h0
      dsimp only at h0
      by_cases ht : ceP o.nms.getLast? s ≠ 0
      · rw [if_pos ht] at h0; exact absurd h0 ht
      · omega
    rw [acc_ename hc]
    obtain ⟨c1, c2⟩ := ce_parts hc
    exact (Wd.n15 S ws r ⟨o.k, o.e, o.t, o.nms, o.ks, s⟩ hO ⟨hD.k, hD.e, hD.t, hD.dp, hD.ok⟩ ⟨c1, hs, c2⟩).cast (by simp)
  | n15 S ws r o hO hD hN =>
    have hb := (bh_at _ _ (fix_bh (c := ⟨15, _, r⟩) (by show (15 : Int) ≠ 7; decide) (by show (15 : Int) ≠ 9; decide) (by show (15 : Int) ≠ 14; decide) h0) (by show (15 : Int) ≠ 1; decide)).2.2.2.2.2.2.2.2.2.2.2.1 rfl
    subst hb
    rw [acc_on (by decide +kernel) (by decide) (by decide) (by decide) (by decide) (by decide) (by decide +kernel) (by decide) (m := 1)]
    exact (Wd.n1 (o :: S) _ r (Out.cons o S ws hO hD hN)).cast (by simp)
  | n16 S ws us r o hO hD he =>
    have hb := (bh_at _ _ (fix_bh (c := ⟨16, _, r⟩) (by show (16 : Int) ≠ 7; decide) (by show (16 : Int) ≠ 9; decide) (by show (16 : Int) ≠ 14; decide) h0) (by show (16 : Int) ≠ 1; decide)).2.2.2.2.2.2.2.2.2.2.2.2.1 rfl
    subst hb
    rw [acc_on (by decide +kernel) (by decide) (by decide) (by decide) (by decide) (by decide) (by decide +kernel) (by decide) (m := 11)]
    exact (Wd.n11 S ws r o hO hD).cast he.symm
  | n17 T hg => exact absurd rfl hn

/-- What has come in, told by words. -/
def Rd (p : PS) (u : List UInt8) : Prop := ∃ (ws : List ByteArray) (l : List UInt8) (P : PS), Wd P.c ws ∧ p = P.mid l ∧ P.taken = (frm ws).length ∧ u = frm ws ++ l ∧ (∀ x ∈ l.drop (8 + leN (l.take 8)), x = 0) ∧ (P.c.next = 17 → l = [])
theorem lek_leN : ∀ l : List UInt8, lek (leN l) l.length = l
  | [] => rfl
  | b :: l => by
    have hb := b.toNat_lt
    show UInt8.ofNat ((b.toNat + 256 * leN l) % 256) :: lek ((b.toNat + 256 * leN l) / 256) l.length = b :: l
    have e1 : (b.toNat + 256 * leN l) % 256 = b.toNat := by omega
    have e2 : (b.toNat + 256 * leN l) / 256 = leN l := by omega
    rw [e1, e2, lek_leN l]
    simp
theorem zeros_rep {l : List UInt8} (h : ∀ x ∈ l, x = 0) : l = List.replicate l.length 0 := List.eq_replicate_iff.2 ⟨rfl, h⟩
theorem frame_of {l : List UInt8} (he : l.length = 8 + leN (l.take 8) + padN (leN (l.take 8))) (hz : ∀ x ∈ l.drop (8 + leN (l.take 8)), x = 0) : l = fr8 (wrd l) ∧ (wrd l).length = leN (l.take 8) := by
  have h8 : (l.take 8).length = 8 := by rw [List.length_take]; omega
  have hw : (wrd l).length = leN (l.take 8) := by unfold wrd; rw [List.length_take, List.length_drop]; omega
  refine ⟨?_, hw⟩
  have h1 := lek_leN (l.take 8)
  rw [h8] at h1
  have h2 : l.drop (8 + leN (l.take 8)) = List.replicate (padN (leN (l.take 8))) 0 := by
    have := zeros_rep hz
    rw [List.length_drop] at this
    rw [this]
    congr 1
    omega
  unfold fr8
  rw [hw, h1, ← h2]
  unfold wrd
  rw [← List.drop_drop, List.take_append_drop, List.take_append_drop]
theorem take_ok {p : PS} {b : UInt8} (h : (p.step b).code = 0) : (p.take b).1.1 = 0 := by
  by_cases h0 : (p.take b).1.1 = 0
  · exact h0
  · rw [PS.step_bad h0] at h
    exact absurd h h0
theorem take_parts {p : PS} {b : UInt8} (h : (p.take b).1.1 = 0) : p.c.next ≠ 17 ∧ p.taken ≠ 1048576 ∧ (p.put b).1.1 = 0 := by
  unfold PS.take at h
  by_cases h1 : p.c.next = 17
  · rw [if_pos h1] at h; cases h
  rw [if_neg h1] at h
  by_cases h2 : p.taken = 1048576
  · rw [if_pos h2] at h; cases h
  rw [if_neg h2] at h
  by_cases h3 : (p.put b).1.1 ≠ 0
  · rw [if_pos h3] at h; exact absurd h h3
  · exact ⟨h1, h2, by omega⟩
theorem put_parts {P : PS} {l : List UInt8} {b : UInt8} (h : ((P.mid l).put b).1.1 = 0) (ht : (P.mid l).text.length = min (l.length - 8) (leN (l.take 8))) : (l.length = 7 → leN (l ++ [b]) ≤ 1048576) ∧ (8 ≤ l.length → leN (l.take 8) ≤ l.length - 8 → b = 0) := by
  unfold PS.put at h
  refine ⟨fun h7 => ?_, fun h8 hle => ?_⟩
  · have hn : (P.mid l).nl b = leN (l ++ [b]) := by
      unfold PS.nl PS.mid
      show leN (l.take 8) + b.toNat * 2 ^ (8 * l.length) = _
      rw [List.take_of_length_le (by omega), leN_snoc]
    rw [if_pos (show (P.mid l).held < 8 by show l.length < 8; omega)] at h
    by_cases hg : (P.mid l).held = 7 ∧ 1048576 < (P.mid l).nl b
    · rw [if_pos hg] at h; cases h
    · rw [hn] at hg
      have : ¬ 1048576 < leN (l ++ [b]) := fun hh => hg ⟨h7, hh⟩
      omega
  · rw [if_neg (show ¬ (P.mid l).held < 8 by show ¬ l.length < 8; omega), if_neg (by rw [ht]; show ¬ min (l.length - 8) (leN (l.take 8)) < leN (l.take 8); omega)] at h
    by_cases hb : b = 0
    · exact hb
    · rw [if_pos hb] at h; cases h
theorem Rd.step {p : PS} {u : List UInt8} {b : UInt8} (hI : PI p) (h : Rd p u) (h0 : (p.step b).code = 0) : Rd (p.step b) (u ++ [b]) := by
  obtain ⟨ws, l, P, h1, rfl, h3, rfl, h5, h6⟩ := h
  obtain ⟨t1, t2, t3⟩ := take_parts (take_ok h0)
  change P.c.next ≠ 17 at t1
  have t2' : P.taken + l.length ≠ 1048576 := t2
  have htk : P.taken + l.length ≤ 1048576 := hI.tk
  have htx : (P.mid l).text.length = min (l.length - 8) (leN (l.take 8)) := by
    show ((l.drop 8).take (leN (l.take 8))).length = _
    rw [List.length_take, List.length_drop]
    omega
  obtain ⟨p1, p2⟩ := put_parts t3 htx
  have hln : 8 ≤ l.length → leN (l.take 8) ≤ 1048576 ∧ l.length < 8 + leN (l.take 8) + padN (leN (l.take 8)) := fun h8 => ⟨(hI.l8 h8).1, (hI.l8 h8).2.2⟩
  have hz : ∀ x ∈ (l ++ [b]).drop (8 + leN ((l ++ [b]).take 8)), x = 0 := by
    by_cases h8 : 8 ≤ l.length
    · rw [List.take_append_of_le_length h8]
      by_cases hle : 8 + leN (l.take 8) ≤ l.length
      · rw [List.drop_append_of_le_length hle]
        intro x hx
        rcases List.mem_append.1 hx with hx | hx
        · exact h5 x hx
        · rw [List.mem_singleton.1 hx]; exact p2 h8 (by omega)
      · rw [List.drop_of_length_le (by rw [List.length_append]; show l.length + 1 ≤ _; omega)]
        intro x hx; cases hx
    · rw [List.drop_of_length_le (by rw [List.length_append]; show l.length + 1 ≤ _; omega)]
      intro x hx; cases hx
  by_cases he : l.length + 1 = 8 + leN ((l ++ [b]).take 8) + padN (leN ((l ++ [b]).take 8))
  · have hst := step_end P l b t1 (by omega) p1 p2 he
    obtain ⟨f1, f2⟩ := frame_of (l := l ++ [b]) (by rw [List.length_append]; exact he) hz
    have hn : leN ((l ++ [b]).take 8) ≤ 1048576 := by
      by_cases h8 : 8 ≤ l.length
      · rw [List.take_append_of_le_length h8]; exact (hln h8).1
      · rw [List.take_of_length_le (by rw [List.length_append]; show l.length + 1 ≤ 8; omega)]; exact p1 (by omega)
    by_cases ha : (P.c.accept (NB.ba (wrd (l ++ [b])))).1 ≠ 0
    · rw [if_pos ha] at hst
      rw [hst] at h0
      exact absurd h0 ha
    · rw [if_neg ha] at hst
      rw [hst]
      have hs : (NB.ba (wrd (l ++ [b]))).size ≤ 1048576 := by rw [NB.ba_size, f2]; exact hn
      have hfr : frm (ws ++ [NB.ba (wrd (l ++ [b]))]) = frm ws ++ (l ++ [b]) := by
        rw [frm_app]
        show frm ws ++ ((txt _).data.toList ++ []) = _
        rw [txt_list, List.append_nil]
        congr 1
        show fr8 (NB.ba (wrd (l ++ [b]))).data.toList = _
        have : (NB.ba (wrd (l ++ [b]))).data.toList = wrd (l ++ [b]) := by simp [NB.ba]
        rw [this]
        exact f1.symm
      refine ⟨ws ++ [NB.ba (wrd (l ++ [b]))], [], P.nxt (l.length + 1) (P.c.accept (NB.ba (wrd (l ++ [b])))).2, wd_accept h1 hs (by omega) t1, head_mid (nxt_head _ _ _), ?_, ?_, fun x hx => by simp at hx, fun _ => rfl⟩
      · show P.taken + (l.length + 1) = _
        rw [hfr, List.length_append, List.length_append, h3]
        rfl
      · rw [hfr]; simp
  · have hst := step_go P l b t1 (by omega) p1 p2 he
    rw [hst]
    exact ⟨ws, l ++ [b], P, h1, rfl, h3, by simp, hz, fun hh => absurd hh t1⟩
theorem Rd.run : ∀ (v : List UInt8) (p : PS) (u : List UInt8), p.part = false → PI p → Rd p u → (p.run v).code = 0 → Rd (p.run v) (u ++ v)
  | [], p, u, _, _, h, _ => by rw [List.append_nil]; exact h
  | b :: v, p, u, hp, hI, h, h0 => by
    rw [PS.run_cons, if_neg (fun hh => by rw [hp] at hh; cases hh.1)] at h0 ⊢
    by_cases hc : (p.step b).code ≠ 0
    · rw [if_pos hc] at h0; exact absurd h0 hc
    · rw [if_neg hc] at h0 ⊢
      have hst := hI.step b (by omega)
      have hpt : (p.step b).part = false := by
        have h1 := take_ok (p := p) (b := b) (by omega)
        rw [PS.step_ok h1]
        exact (p.take_keep b).2.1.trans hp
      have := Rd.run v (p.step b) (u ++ [b]) hpt hst.1 (h.step hI (by omega)) h0
      rw [List.append_assoc] at this
      exact this
theorem Rd.new (b : Bool) : Rd (PS.new b) [] := ⟨[], [], PS.new b, Wd.n0 _, head_mid (new_head b), rfl, rfl, fun x hx => by simp at hx, fun _ => rfl⟩

theorem ebP_nn (s : ByteArray) : 0 ≤ ebP s := (ebP_bd s).1
mutual
theorem tbT_nn : ∀ T : Tr, 0 ≤ tbT T
  | .mk k e t nms ks => by
    rw [tbT]
    have := (nbP_bd k e t).1
    have := tbL_nn nms ks
    omega
theorem tbL_nn : ∀ (nms : List ByteArray) (ks : List Tr), 0 ≤ tbL nms ks
  | s :: nms, T :: ks => by
    rw [tbL]
    have := ebP_nn s
    have := tbT_nn T
    have := tbL_nn nms ks
    omega
  | [], [] => by rw [tbL] <;> simp
  | [], _ :: _ => by rw [tbL] <;> simp
  | _ :: _, [] => by rw [tbL] <;> simp
end

mutual
theorem gd_off : ∀ (T : Tr) (ns : List ByteArray) (b : Int), gdT ns.length T → 0 ≤ b → b + tbT T ≤ 1048576 → (vT ns b T).off = none
  | .mk k e t nms ks, ns, b, h, h0, hb => by
    rw [gdT] at h
    rw [tbT] at hb
    have hn := nbP_bd k e t
    have hl := tbL_nn nms ks
    rw [vT, if_neg (by omega), if_neg (by rw [h.2.1]; decide), if_neg (by omega)]
    exact gd_offL nms ks ns (b + nbP k e t) none h.2.2.2 (by omega) (by omega)
theorem gd_offL : ∀ (nms : List ByteArray) (ks : List Tr) (ns : List ByteArray) (b : Int) (prev : Option ByteArray), gdL ns.length prev nms ks → 0 ≤ b → b + tbL nms ks ≤ 1048576 → (vL ns b prev nms ks).off = none
  | s :: nms, T :: ks, ns, b, prev, h, h0, hb => by
    rw [gdL] at h
    rw [tbL] at hb
    have hl := tbL_nn nms ks
    have hT := tbT_nn T
    have he := ebP_nn s
    have hoff := gd_off T (ns ++ [s]) (b + ebP s) (by simpa using h.2.2.2.1) (by omega) (by omega)
    have hby := vT_bytes (ns ++ [s]) (b + ebP s) T hoff
    have heo : entO prev s b = 0 := by
      unfold entO
      cases prev with
      | none =>
        show entC 1 s s b = 0
        unfold entC
        rw [if_neg (by rw [h.1]; decide), if_neg (by omega), if_neg (by omega)]
      | some s' =>
        have := h.2.1 s' rfl
        show entC 2 s' s b = 0
        unfold entC
        rw [if_neg (by rw [h.1]; decide), if_neg (by omega), if_neg (by omega)]
    rw [vL, if_neg (by rw [heo]; decide), hoff]
    show (vL ns (vT (ns ++ [s]) (b + ebP s) T).bytes (some s) nms ks).off = none
    rw [hby]
    exact gd_offL nms ks ns _ (some s) h.2.2.2.2 (by omega) (by omega)
  | [], [], ns, b, prev, _, _, _ => by rw [vL]; simp
  | [], _ :: _, _, _, _, h, _, _ => by simp [gdL] at h
  | _ :: _, [], _, _, _, h, _, _ => by simp [gdL] at h
end
mutual
theorem gd_facts : ∀ (T : Tr) (d : Nat), gdT d T → okT T ∧ smT T ∧ wfT T
  | .mk k e t nms ks, d, h => by
    rw [gdT] at h
    obtain ⟨f1, f2, f3⟩ := gd_factsL nms ks d none h.2.2.2
    have hc := h.2.1
    have hlen := gdL_len _ _ _ _ h.2.2.2
    rw [okT, smT, wfT]
    refine ⟨⟨?_, fun hk => ?_, h.2.2.1, f1⟩, ⟨h.2.2.1, f2⟩, f3⟩
    · unfold cfP at hc
      by_cases k1 : k = 1
      · exact Or.inl k1
      rw [if_neg k1] at hc
      by_cases k2 : k = 2
      · exact Or.inr (Or.inl k2)
      rw [if_neg k2] at hc
      by_cases k3 : k = 3
      · exact Or.inr (Or.inr k3)
      rw [if_neg k3] at hc
      cases hc
    · have h0 : nms.length = 0 := by
        unfold cfP at hc
        by_cases k1 : k = 1
        · rw [if_pos k1] at hc
          by_cases hh : 0 < nms.length
          · rw [if_pos hh] at hc; cases hc
          · omega
        rw [if_neg k1] at hc
        by_cases k2 : k = 2
        · rw [if_pos k2] at hc
          by_cases hh : e = true ∨ 0 < nms.length
          · rw [if_pos hh] at hc; cases hc
          · omega
        rw [if_neg k2, if_neg hk] at hc
        cases hc
      exact ⟨List.length_eq_zero_iff.1 h0, List.length_eq_zero_iff.1 (by omega)⟩
theorem gd_factsL : ∀ (nms : List ByteArray) (ks : List Tr) (d : Nat) (prev : Option ByteArray), gdL d prev nms ks → okL nms ks ∧ smL nms ks ∧ wfL nms ks
  | s :: nms, T :: ks, d, prev, h => by
    rw [gdL] at h
    obtain ⟨a1, a2, a3⟩ := gd_facts T (d + 1) h.2.2.2.1
    obtain ⟨b1, b2, b3⟩ := gd_factsL nms ks d (some s) h.2.2.2.2
    rw [okL, smL, wfL]
    exact ⟨⟨h.2.2.1, a1, b1⟩, ⟨h.2.2.1, a2, b2⟩, a3, b3⟩
  | [], [], _, _, _ => by
    refine ⟨?_, ?_, ?_⟩
    · rw [okL]
      · trivial
      · simp
    · rw [smL]
      · trivial
      · simp
    · rw [wfL]; trivial
  | [], _ :: _, _, _, h => by simp [gdL] at h
  | _ :: _, [], _, _, h => by simp [gdL] at h
end
/-- Whatever is read whole is its tree's archive. -/
theorem prs_arc {l : List UInt8} (hc : (prs l).code = 0) (hn : (prs l).c.next = 17) : l = arcT (prs l).c.root ∧ smT (prs l).c.root ∧ wfT (prs l).c.root ∧ (ckT (prs l).c.root).2 = 0 := by
  have hI := (prs_inv l).1 hc
  have hR : Rd (prs l) l := by
    rw [prs_run] at hc ⊢
    have := Rd.run l (PS.new false) [] rfl (PI.new false) (Rd.new false) hc
    exact this
  obtain ⟨ws, v, P, h1, h2, h3, h4, h5, h6⟩ := hR
  have hP : P.c = (prs l).c := by rw [h2]; rfl
  have hv := h6 (by rw [hP]; exact hn)
  subst hv
  rw [List.append_nil] at h4
  rw [hP] at h1
  have hT : ∃ T, (prs l).c.root = T ∧ gdT 0 T ∧ ws = wMagic :: wdT T := by
    generalize (prs l).c = c at h1 hn
    cases h1 with
    | n17 T hg => exact ⟨T, rfl, hg, rfl⟩
    | n0 | n1 | n2 | n3 | n4 | n5 | n6 | n7 | n8 | n9 | n10f | n10l | n11 | n12 | n13 | n14 | n15 | n16 => simp at hn
  obtain ⟨T, e, hg, hw⟩ := hT
  rw [e]
  obtain ⟨f1, f2, f3⟩ := gd_facts T 0 hg
  have hlen : l.length ≤ 1048576 := by
    have h7 := hI.tk
    have h8 : (prs l).taken = P.taken + 0 := by rw [h2]; rfl
    rw [h4]
    omega
  have hl : l = arcT T := by rw [h4, hw]; rfl
  refine ⟨hl, f2, f3, ?_⟩
  have h9 := fw_tree T f1
  have h10 : fwS (wMagic :: wdT T) = 24 + fwS (wdT T) := by
    have : 8 + wMagic.size + padN wMagic.size = 24 := by decide +kernel
    show 8 + wMagic.size + padN wMagic.size + fwS (wdT T) = _
    omega
  have h11 : l.length = fwS (wMagic :: wdT T) := by rw [hl, arc_len]
  have hoff := gd_off T [] 24 hg (by decide) (by omega)
  unfold ckT
  rw [hoff]

theorem ends_fat {q : PS} (h : q.ends.1.1 ≠ 0) : q.ends.1.2 = (q.taken : Int) - q.held := by
  unfold PS.ends at h ⊢
  by_cases he : q.held + 1 ≠ 8 + q.len + padN q.len
  · rw [if_pos he] at h; exact absurd rfl h
  rw [if_neg he] at h ⊢
  by_cases ha : (q.c.accept (NB.ba q.text)).1 ≠ 0
  · rw [if_pos ha]
  · rw [if_neg ha] at h; exact absurd rfl h
theorem put_fat (p : PS) (b : UInt8) : ((p.put b).1.1 ≠ 0 → (p.put b).1.2 = (p.taken : Int) ∨ (p.put b).1.2 = (p.taken : Int) - p.held) ∧ (p.put b).2.taken = p.taken ∧ (p.put b).2.held = p.held := by
  unfold PS.put
  by_cases h1 : p.held < 8
  · rw [if_pos h1]
    by_cases h2 : p.held = 7 ∧ 1048576 < p.nl b
    · rw [if_pos h2]; exact ⟨fun _ => Or.inr rfl, rfl, rfl⟩
    · rw [if_neg h2]; exact ⟨fun _ => Or.inl (by simp_all), rfl, rfl⟩
  rw [if_neg h1]
  by_cases h3 : p.text.length < p.len
  · rw [if_pos h3]; exact ⟨fun h => absurd rfl h, rfl, rfl⟩
  rw [if_neg h3]
  by_cases h4 : b ≠ 0
  · rw [if_pos h4]; exact ⟨fun _ => Or.inl rfl, rfl, rfl⟩
  · rw [if_neg h4]; exact ⟨fun h => absurd rfl h, rfl, rfl⟩
theorem take_fat {p : PS} {b : UInt8} (h : (p.take b).1.1 ≠ 0) : (p.take b).1.2 = (p.taken : Int) ∨ (p.take b).1.2 = (p.taken : Int) - p.held := by
  unfold PS.take at h ⊢
  by_cases h1 : p.c.next = 17
  · rw [if_pos h1]; exact Or.inl rfl
  rw [if_neg h1] at h ⊢
  by_cases h2 : p.taken = 1048576
  · rw [if_pos h2]; exact Or.inl rfl
  rw [if_neg h2] at h ⊢
  obtain ⟨f1, f2, f3⟩ := put_fat p b
  by_cases h3 : (p.put b).1.1 ≠ 0
  · rw [if_pos h3]; exact f1 h3
  · rw [if_neg h3] at h ⊢
    rw [ends_fat h, f2, f3]
    exact Or.inr rfl
theorem run_fat : ∀ (l : List UInt8) (p : PS), PI p → p.code = 0 → (p.run l).code ≠ 0 → 0 ≤ (p.run l).fat ∧ (p.run l).fat ≤ p.taken + l.length
  | [], p, _, hc, h => absurd hc h
  | b :: l, p, hI, hc, h => by
    rw [PS.run_cons] at h ⊢
    have hd := hI.hd
    by_cases h1 : p.part = true ∧ p.c.next = 17
    · rw [if_pos h1] at h; exact absurd hc h
    rw [if_neg h1] at h ⊢
    by_cases h2 : (p.step b).code ≠ 0
    · rw [if_pos h2]
      by_cases h0 : (p.take b).1.1 = 0
      · rw [PS.step_ok h0] at h2; exact absurd rfl h2
      · rw [PS.step_bad h0]
        have hf := take_fat h0
        show 0 ≤ (p.take b).1.2 ∧ (p.take b).1.2 ≤ _
        rw [List.length_cons]
        rcases hf with hf | hf <;> rw [hf] <;> omega
    · rw [if_neg h2] at h ⊢
      have hst := hI.step b (by omega)
      have := run_fat l (p.step b) hst.1 (by omega) h
      rw [hst.2] at this
      rw [List.length_cons]
      omega
/-- What Parse answers: the tree of this archive, or a fault at a place within. -/
theorem prs_ans (l : List UInt8) : ((prs l).ansF = (0, 0) ∧ (prs l).ansT = (prs l).c.root ∧ l = arcT (prs l).c.root ∧ smT (prs l).c.root ∧ wfT (prs l).c.root ∧ (ckT (prs l).c.root).2 = 0 ∧ lnT (prs l).c.root) ∨ ((prs l).ansF.1 ≠ 0 ∧ 0 ≤ (prs l).ansF.2 ∧ (prs l).ansF.2 ≤ l.length ∧ (prs l).ansT = .mk 0 false ⟨#[]⟩ [] []) := by
  obtain ⟨i1, i2, i3⟩ := prs_inv l
  by_cases hc : (prs l).code = 0
  · by_cases hn : (prs l).c.next = 17
    · obtain ⟨a1, a2⟩ := fin_whole hc hn
      obtain ⟨r1, r2, r3, r4⟩ := prs_arc hc hn
      exact Or.inl ⟨a2, a1, r1, r2, r3, r4, i2.rt⟩
    · have e : (prs l).fin = ((prs l).sf 4 (prs l).taken).shut := by unfold PS.fin; rw [if_pos ⟨hc, hn⟩]
      have hc4 : (prs l).fin.code ≠ 0 := by rw [e]; show (4 : Int) ≠ 0; decide
      have e1 : (prs l).ansF = (4, ((prs l).taken : Int)) := by
        unfold PS.ansF
        rw [if_pos hc4, e]
        rfl
      have e2 : (prs l).ansT = .mk 0 false ⟨#[]⟩ [] [] := by unfold PS.ansT; rw [if_pos hc4]
      rw [e1, e2]
      exact Or.inr ⟨by show (4 : Int) ≠ 0; decide, by show (0 : Int) ≤ ((prs l).taken : Int); omega, by show ((prs l).taken : Int) ≤ _; omega, rfl⟩
  · have e : (prs l).fin = (prs l).shut := by unfold PS.fin; rw [if_neg (fun h => hc h.1)]
    have hc4 : (prs l).fin.code ≠ 0 := by rw [e]; exact hc
    have e1 : (prs l).ansF = ((prs l).code, (prs l).fat) := by unfold PS.ansF; rw [if_pos hc4, e]; rfl
    have e2 : (prs l).ansT = .mk 0 false ⟨#[]⟩ [] [] := by unfold PS.ansT; rw [if_pos hc4]
    have hf : 0 ≤ (prs l).fat ∧ (prs l).fat ≤ (0 : Nat) + l.length := by
      rw [prs_run] at hc ⊢
      exact run_fat l (PS.new false) (PI.new false) rfl hc
    rw [e1, e2]
    exact Or.inr ⟨hc, hf.1, by show (prs l).fat ≤ _; omega, rfl⟩
end Go.Proofs.Ythlioedahoiahaa
