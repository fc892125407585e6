/- UgA UgB UgC UgD UgE UgJ TyT UgF UgG UgH UgI, gathered (own text of the verifier). -/
import Derived.Test.YtnggbemnblcnaaaDoorXK
import Derived.Test.YtnggbemnblcnaaaDoorTyD
import Derived.Test.YtnggbemnblcnaaaDoorXL
namespace Go.Proofs.YtnggbemnblcnaaaDoor
open Go.RowKit

mutual
/-- The nodes of a tree with their names, in the order of a walk. -/
def rnT (ns : List ByteArray) : Tr → List (List ByteArray × Tr)
  | .mk k e t nms ks => (ns, .mk k e t nms ks) :: rnL ns nms ks
def rnL (ns : List ByteArray) : List ByteArray → List Tr → List (List ByteArray × Tr)
  | s :: nms, T :: ks => rnT (ns ++ [s]) T ++ rnL ns nms ks
  | _, _ => []
end
def rnR (p : List ByteArray × Tr) : RW := (joinB p.1, p.2.k, p.2.e, p.2.t)
mutual
theorem rwT_rn : ∀ (T : Tr) (ns : List ByteArray), rwT ns T = (rnT ns T).map rnR
  | .mk k e t nms ks, ns => by
    rw [rwT, rnT, List.map_cons, rwL_rn nms ks ns]
    rfl
theorem rwL_rn : ∀ (nms : List ByteArray) (ks : List Tr) (ns : List ByteArray), rwL ns nms ks = (rnL ns nms ks).map rnR
  | s :: nms, T :: ks, ns => by rw [rwL, rnL, List.map_append, rwT_rn T, rwL_rn nms ks]
  | [], [], ns => by simp [rwL, rnL]
  | [], _ :: _, ns => by simp [rwL, rnL]
  | _ :: _, [], ns => by simp [rwL, rnL]
end
mutual
theorem rnT_pre : ∀ (T : Tr) (ns : List ByteArray), ∀ p ∈ rnT ns T, ns <+: p.1
  | .mk k e t nms ks, ns, p, hp => by
    rw [rnT] at hp
    rcases List.mem_cons.1 hp with rfl | hp
    · exact List.prefix_refl _
    · obtain ⟨s, _, h⟩ := rnL_pre nms ks ns p hp
      exact (List.prefix_append ns [s]).trans h
theorem rnL_pre : ∀ (nms : List ByteArray) (ks : List Tr) (ns : List ByteArray), ∀ p ∈ rnL ns nms ks, ∃ s ∈ nms, ns ++ [s] <+: p.1
  | s :: nms, T :: ks, ns, p, hp => by
    rw [rnL] at hp
    rcases List.mem_append.1 hp with hp | hp
    · exact ⟨s, by simp, rnT_pre T _ p hp⟩
    · obtain ⟨z, hz, h⟩ := rnL_pre nms ks ns p hp
      exact ⟨z, by simp [hz], h⟩
  | [], [], ns, p, hp => by simp [rnL] at hp
  | [], _ :: _, ns, p, hp => by simp [rnL] at hp
  | _ :: _, [], ns, p, hp => by simp [rnL] at hp
end
/-- What stands where names lead. -/
def lk : List ByteArray → Tr → Option Tr
  | [], T => some T
  | s :: l, T => (sub s T.nms T.ks).bind (lk l)
/-- p lies below another name. -/
def Oth (ns : List ByteArray) (s : ByteArray) (p : List ByteArray × Tr) : Prop := ∃ z, z ≠ s ∧ ns ++ [z] <+: p.1
theorem Oth.not {ns : List ByteArray} {s : ByteArray} {p : List ByteArray × Tr} (h : Oth ns s p) (l : List ByteArray) : ¬ (ns ++ s :: l <+: p.1) := fun c => by
  obtain ⟨z, hz, h⟩ := h
  have c' : ns ++ [s] <+: p.1 := List.IsPrefix.trans ⟨l, by simp⟩ c
  have := List.prefix_of_prefix_length_le h c' (by simp)
  have e := this.eq_of_length (by simp)
  have e2 := List.append_cancel_left e
  simp at e2
  exact hz e2
theorem rnL_none (s : ByteArray) (ns : List ByteArray) : ∀ (nms : List ByteArray) (ks : List Tr), sub s nms ks = none → ∀ p ∈ rnL ns nms ks, Oth ns s p
  | z :: nms, T :: ks, h, p, hp => by
    rw [sub] at h
    by_cases hz : z = s
    · rw [if_pos hz] at h; cases h
    · rw [if_neg hz] at h
      rw [rnL] at hp
      rcases List.mem_append.1 hp with hp | hp
      · exact ⟨z, hz, rnT_pre T _ p hp⟩
      · exact rnL_none s ns nms ks h p hp
  | [], [], _, p, hp => by simp [rnL] at hp
  | [], _ :: _, _, p, hp => by simp [rnL] at hp
  | _ :: _, [], _, p, hp => by simp [rnL] at hp
theorem rnL_some (s : ByteArray) (ns : List ByteArray) (K : Tr) : ∀ (nms : List ByteArray) (ks : List Tr), Up nms → sub s nms ks = some K →
    ∃ A B, rnL ns nms ks = A ++ rnT (ns ++ [s]) K ++ B ∧ (∀ p ∈ A, Oth ns s p) ∧ (∀ p ∈ B, Oth ns s p)
  | z :: nms, T :: ks, U, h => by
    rw [sub] at h
    have U' := List.pairwise_cons.1 U
    by_cases hz : z = s
    · rw [if_pos hz] at h
      cases h
      refine ⟨[], rnL ns nms ks, by rw [rnL, hz]; rfl, by simp, fun p hp => ?_⟩
      obtain ⟨y, hy, hp⟩ := rnL_pre nms ks ns p hp
      refine ⟨y, fun e => ?_, hp⟩
      have := U'.1 y hy
      rw [e, hz, cmpB_refl] at this
      omega
    · rw [if_neg hz] at h
      obtain ⟨A, B, e, hA, hB⟩ := rnL_some s ns K nms ks U'.2 h
      refine ⟨rnT (ns ++ [z]) T ++ A, B, by rw [rnL, e]; simp, fun p hp => ?_, hB⟩
      rcases List.mem_append.1 hp with hp | hp
      · exact ⟨z, hz, rnT_pre T _ p hp⟩
      · exact hA p hp
  | [], [], _, h => by simp [sub] at h
  | [], _ :: _, _, h => by simp [sub] at h
  | _ :: _, [], _, h => by simp [sub] at h
theorem ascL_sub {s : ByteArray} {K : Tr} : ∀ (nms : List ByteArray) (ks : List Tr), ascL ks → sub s nms ks = some K → ascT K
  | z :: nms, T :: ks, U, h => by
    rw [sub] at h
    rw [ascL] at U
    by_cases hz : z = s
    · rw [if_pos hz] at h; cases h; exact U.1
    · rw [if_neg hz] at h; exact ascL_sub nms ks U.2 h
  | [], [], _, h => by simp [sub] at h
  | [], _ :: _, _, h => by simp [sub] at h
  | _ :: _, [], _, h => by simp [sub] at h
theorem own_not {ns l : List ByteArray} {s : ByteArray} : ¬ (ns ++ s :: l <+: ns) := fun c => by
  have := c.length_le
  rw [List.length_append, List.length_cons] at this
  omega
/-- What lies at names and below lies side by side. -/
theorem rn_some : ∀ (L ns : List ByteArray) (T K : Tr), ascT T → lk L T = some K →
    ∃ A B, rnT ns T = A ++ rnT (ns ++ L) K ++ B ∧ (∀ p ∈ A, ¬ (ns ++ L <+: p.1)) ∧ (∀ p ∈ B, ¬ (ns ++ L <+: p.1))
  | [], ns, T, K, _, h => by
    rw [lk] at h
    cases h
    exact ⟨[], [], by simp, by simp, by simp⟩
  | s :: l, ns, .mk k e t nms ks, K, a, h => by
    rw [ascT] at a
    rw [lk] at h
    change (sub s nms ks).bind (lk l) = some K at h
    cases hs : sub s nms ks with
    | none => rw [hs] at h; cases h
    | some K0 =>
      rw [hs] at h
      change lk l K0 = some K at h
      obtain ⟨A1, B1, e1, hA1, hB1⟩ := rnL_some s ns K0 nms ks a.1 hs
      obtain ⟨A2, B2, e2, hA2, hB2⟩ := rn_some l (ns ++ [s]) K0 K (ascL_sub nms ks a.2 hs) h
      have el : ns ++ [s] ++ l = ns ++ s :: l := by simp
      rw [el] at e2 hA2 hB2
      refine ⟨(ns, .mk k e t nms ks) :: (A1 ++ A2), B2 ++ B1, by rw [rnT, e1, e2]; simp, fun p hp => ?_, fun p hp => ?_⟩
      · rcases List.mem_cons.1 hp with rfl | hp
        · exact own_not
        · rcases List.mem_append.1 hp with hp | hp
          · exact (hA1 p hp).not l
          · exact hA2 p hp
      · rcases List.mem_append.1 hp with hp | hp
        · exact hB2 p hp
        · exact (hB1 p hp).not l
theorem rn_none : ∀ (L ns : List ByteArray) (T : Tr), ascT T → lk L T = none → ∀ p ∈ rnT ns T, ¬ (ns ++ L <+: p.1)
  | [], ns, T, _, h, p, hp => by rw [lk] at h; cases h
  | s :: l, ns, .mk k e t nms ks, a, h, p, hp => by
    rw [ascT] at a
    rw [lk] at h
    change (sub s nms ks).bind (lk l) = none at h
    rw [rnT] at hp
    rcases List.mem_cons.1 hp with rfl | hp
    · exact own_not
    cases hs : sub s nms ks with
    | none => exact (rnL_none s ns nms ks hs p hp).not l
    | some K0 =>
      rw [hs] at h
      change lk l K0 = none at h
      obtain ⟨A1, B1, e1, hA1, hB1⟩ := rnL_some s ns K0 nms ks a.1 hs
      rw [e1] at hp
      rcases List.mem_append.1 hp with hp | hp
      · rcases List.mem_append.1 hp with hp | hp
        · exact (hA1 p hp).not l
        · have := rn_none l (ns ++ [s]) K0 (ascL_sub nms ks a.2 hs) h p hp
          simpa using this
      · exact (hB1 p hp).not l
end Go.Proofs.YtnggbemnblcnaaaDoor
namespace Go.Proofs.YtnggbemnblcnaaaDoor
open Go.RowKit

theorem rchH_cons {s : ByteArray} {l : List ByteArray} {T K0 : Tr} (hk : T.k = 3) (hs : sub s T.nms T.ks = some K0) : rchH (s :: l) T = rchH l K0 := by
  have e : rch (s :: l) T = rch l K0 := by rw [rch, if_neg (by omega), hs]
  unfold rchH
  rw [e]
/-- The first place on the way that is no directory tells the code. -/
theorem way_rch : ∀ (L : List ByteArray) (T : Tr) (k : Nat), k ≤ L.length → (∀ j, j < k → ∃ K, lk (L.take j) T = some K ∧ K.k = 3) →
    (lk (L.take k) T = none → (rchH L T).1 = 3) ∧ (∀ K, lk (L.take k) T = some K → K.k ≠ 3 → (rchH L T).1 = 65)
  | [], T, k, hk, _ => by
    have e : k = 0 := by simpa using hk
    subst e
    refine ⟨fun h => by simp [lk] at h, fun K h hK => ?_⟩
    simp [lk] at h
    subst h
    unfold rchH
    rw [show rch [] T = (0, T) from rfl]
    rw [if_neg (by simp), if_pos hK]
  | s :: l, T, 0, _, _ => by
    refine ⟨fun h => by simp [lk] at h, fun K h hK => ?_⟩
    simp [lk] at h
    subst h
    have e : rch (s :: l) T = (65, T) := by rw [rch, if_pos hK]
    unfold rchH
    rw [e]
    rfl
  | s :: l, T, k + 1, hk, hj => by
    obtain ⟨K, h0, h3⟩ := hj 0 (by omega)
    simp [lk] at h0
    subst h0
    rw [List.take_succ_cons, lk]
    cases hs : sub s T.nms T.ks with
    | none =>
      have e : rch (s :: l) T = (3, T) := by rw [rch, if_neg (by omega), hs]
      refine ⟨fun _ => ?_, fun K h => by simp at h⟩
      unfold rchH
      rw [e]
      rfl
    | some K0 =>
      rw [rchH_cons h3 hs]
      exact way_rch l K0 k (by simpa using hk) fun j hjk => by
        obtain ⟨K, h1, h2⟩ := hj (j + 1) (by omega)
        rw [List.take_succ_cons, lk, hs] at h1
        exact ⟨K, h1, h2⟩
theorem way_ok : ∀ (L : List ByteArray) (T : Tr), (∀ j, j ≤ L.length → ∃ K, lk (L.take j) T = some K ∧ K.k = 3) → (rchH L T).1 = 0
  | [], T, hj => by
    obtain ⟨K, h0, h3⟩ := hj 0 (by simp)
    simp [lk] at h0
    subst h0
    unfold rchH
    rw [show rch [] T = (0, T) from rfl]
    rw [if_neg (by simp), if_neg (by show ¬ T.k ≠ 3; omega)]
  | s :: l, T, hj => by
    obtain ⟨K, h0, h3⟩ := hj 0 (by simp)
    simp [lk] at h0
    subst h0
    obtain ⟨K1, h1, _⟩ := hj 1 (by simp)
    rw [List.take_succ_cons, lk] at h1
    cases hs : sub s T.nms T.ks with
    | none => rw [hs] at h1; simp at h1
    | some K0 =>
      rw [rchH_cons h3 hs]
      exact way_ok l K0 fun j hjk => by
        obtain ⟨K, h1, h2⟩ := hj (j + 1) (by simp; omega)
        rw [List.take_succ_cons, lk, hs] at h1
        exact ⟨K, h1, h2⟩
/-- Where the way is open, the names lead where lk finds it. -/
theorem lk_rch : ∀ (L : List ByteArray) (T : Tr), (rch L T).1 = 0 → lk L T = some (rch L T).2
  | [], T, _ => rfl
  | s :: l, .mk k e t nms ks, h => by
    obtain ⟨hk, i, K0, hf, hK, h1, h2, _⟩ := rch_cons h
    rw [h2, lk]
    show (sub s nms ks).bind (lk l) = _
    rw [sub_find, hf]
    show (ks[i]?).bind (lk l) = _
    rw [hK]
    exact lk_rch l K0 h1

/-- Directories have neither mark nor text. -/
def plD (T : Tr) : Prop := ∀ M K, lk M T = some K → K.k = 3 → K.e = false ∧ K.t = ⟨#[]⟩
theorem plD.down {T K0 : Tr} {s : ByteArray} (h : plD T) (hs : sub s T.nms T.ks = some K0) : plD K0 := fun M K hK h3 => h (s :: M) K (by rw [lk, hs]; exact hK) h3
/-- The document's graft. -/
def grf : List ByteArray → Tr → Tr → Tr
  | [], _, U => U
  | s :: l, T, U => putK (.mk 3 false ⟨#[]⟩ T.nms T.ks) s (grf l ((sub s T.nms T.ks).getD (.mk 0 false ⟨#[]⟩ [] [])) U)
theorem grf_rep : ∀ (L : List ByteArray) (s : ByteArray) (T U : Tr), plD T → (rchH L T).1 = 0 → grf (L ++ [s]) T U = repT L T (putK (rch L T).2 s U)
  | [], s, .mk k e t nms ks, U, hp, h => by
    have h3 : k = 3 := by
      by_cases c : k = 3
      · exact c
      · unfold rchH at h
        rw [show rch [] (.mk k e t nms ks) = (0, .mk k e t nms ks) from rfl] at h
        rw [if_neg (by simp), if_pos (by exact c)] at h
        exact absurd (show (65 : Int) = 0 from h) (by decide)
    obtain ⟨he, ht⟩ := hp [] _ rfl (by exact h3)
    change e = false at he
    change t = _ at ht
    subst h3 he ht
    show grf [s] _ U = putK _ s U
    rw [grf, grf]
    rfl
  | z :: L, s, .mk k e t nms ks, U, hp, h => by
    have h0 : (rch (z :: L) (.mk k e t nms ks)).1 = 0 := by
      unfold rchH at h
      by_cases c : (rch (z :: L) (.mk k e t nms ks)).1 = 0
      · exact c
      · rw [if_pos c] at h; exact h
    obtain ⟨hk, i, K0, hf, hK, h1, h2, hr⟩ := rch_cons h0
    have hs : sub z nms ks = some K0 := by rw [sub_find, hf]; exact hK
    have hs' : sub z (Tr.mk k e t nms ks).nms (Tr.mk k e t nms ks).ks = some K0 := hs
    rw [rchH_cons (by exact hk) hs'] at h
    obtain ⟨he, ht⟩ := hp [] _ rfl (by exact hk)
    change e = false at he
    change t = _ at ht
    rw [hr, h2]
    show grf (z :: (L ++ [s])) _ U = _
    rw [grf, hs', Option.getD_some, grf_rep L s K0 U (hp.down hs') h]
    unfold putK
    show (match nms.findIdx? (fun n => decide (n = z)) with | some i => _ | none => _) = _
    rw [hf]
    show Tr.mk 3 false ⟨#[]⟩ nms (ks.set i _) = _
    rw [hk, he, ht]
end Go.Proofs.YtnggbemnblcnaaaDoor
namespace Go.Proofs.YtnggbemnblcnaaaDoor
open Go.RowKit

/-- A list with a at place p, what stood from p to q left out, as far as place i. -/
def gOut {α : Type} (l : List α) (a : α) (p q i : Nat) : List α := if i ≤ p then l.take i else l.take p ++ a :: (l.take i).drop q
theorem gOut_zero {α : Type} (l : List α) (a : α) (p q : Nat) : gOut l a p q 0 = [] := by unfold gOut; rw [if_pos (Nat.zero_le _)]; rfl
theorem gOut_low {α : Type} {l : List α} {a b : α} {p q i : Nat} (hi : i < p) (hb : l[i]? = some b) : gOut l a p q (i + 1) = gOut l a p q i ++ [b] := by
  unfold gOut
  rw [if_pos (by omega), if_pos (by omega), List.take_add_one, hb]
  rfl
theorem gOut_at {α : Type} (l : List α) (a : α) (p : Nat) : gOut l a p (p + 1) (p + 1) = gOut l a p (p + 1) p ++ [a] := by
  unfold gOut
  rw [if_neg (by omega), if_pos (by omega), List.drop_eq_nil_of_le (by simp; omega)]
theorem gOut_new {α : Type} {l : List α} {a b : α} {p : Nat} (hb : l[p]? = some b) : gOut l a p p (p + 1) = gOut l a p p p ++ [a] ++ [b] := by
  have hp : p < l.length := (List.getElem?_eq_some_iff.1 hb).1
  unfold gOut
  rw [if_neg (by omega), if_pos (by omega), List.take_add_one, hb, List.drop_append_of_le_length (by simp; omega), List.drop_eq_nil_of_le (by simp; omega)]
  simp
theorem gOut_end {α : Type} (l : List α) (a : α) : gOut l a l.length l.length (l.length + 1) = gOut l a l.length l.length l.length ++ [a] := by
  unfold gOut
  rw [if_neg (by omega), if_pos (by omega), List.drop_eq_nil_of_le (by simp)]
theorem gOut_high {α : Type} {l : List α} {a b : α} {p q i : Nat} (hi : p < i) (hq : q ≤ i) (hb : l[i]? = some b) : gOut l a p q (i + 1) = gOut l a p q i ++ [b] := by
  have hp : i < l.length := (List.getElem?_eq_some_iff.1 hb).1
  unfold gOut
  rw [if_neg (by omega), if_neg (by omega), List.take_add_one, hb, List.drop_append_of_le_length (by simp; omega)]
  simp
theorem gOut_last {α : Type} (l : List α) (a : α) {p q : Nat} (hp : p < l.length) : gOut l a p q (l.length + 1) = gOut l a p q l.length := by
  unfold gOut
  have e1 : l.take (l.length + 1) = l := List.take_of_length_le (by omega)
  have e2 : l.take l.length = l := List.take_of_length_le (Nat.le_refl _)
  rw [if_neg (by omega), if_neg (by omega), e1, e2]
theorem gOut_done {α : Type} (l : List α) (a : α) {p q : Nat} (hp : p ≤ l.length) : gOut l a p q (l.length + 1) = l.take p ++ a :: l.drop q := by
  unfold gOut
  have e1 : l.take (l.length + 1) = l := List.take_of_length_le (by omega)
  rw [if_neg (by omega), e1]

mutual
theorem rnT_shift (L : List ByteArray) : ∀ (T : Tr) (M : List ByteArray), (rnT (L ++ M) T).map (fun p => (p.1.drop L.length, p.2)) = rnT M T
  | .mk k e t nms ks, M => by
    rw [rnT, rnT, List.map_cons, rnL_shift L nms ks M, List.drop_left]
theorem rnL_shift (L : List ByteArray) : ∀ (nms : List ByteArray) (ks : List Tr) (M : List ByteArray), (rnL (L ++ M) nms ks).map (fun p => (p.1.drop L.length, p.2)) = rnL M nms ks
  | s :: nms, T :: ks, M => by rw [rnL, rnL, List.map_append, rnL_shift L nms ks M, List.append_assoc, rnT_shift L T (M ++ [s])]
  | [], [], M => by simp [rnL]
  | [], _ :: _, M => by simp [rnL]
  | _ :: _, [], M => by simp [rnL]
end
theorem rnL_split (ns : List ByteArray) (z : ByteArray) (K : Tr) : ∀ (nms : List ByteArray) (ks : List Tr) (j : Nat), nms[j]? = some z → ks[j]? = some K →
    rnL ns nms ks = rnL ns (nms.take j) (ks.take j) ++ rnT (ns ++ [z]) K ++ rnL ns (nms.drop (j + 1)) (ks.drop (j + 1))
  | [], _, j, h, _ => by simp at h
  | _ :: _, [], j, _, h => by simp at h
  | a :: nms, T :: ks, 0, h, h' => by
    simp at h h'
    subst h h'
    simp [rnL]
  | a :: nms, T :: ks, j + 1, h, h' => by
    rw [rnL, rnL_split ns z K nms ks j (by simpa using h) (by simpa using h'), List.take_succ_cons, List.take_succ_cons, rnL, List.drop_succ_cons, List.drop_succ_cons]
    simp
theorem rnL_app (ns : List ByteArray) : ∀ (a : List ByteArray) (c : List Tr) (b : List ByteArray) (d : List Tr), a.length = c.length → rnL ns (a ++ b) (c ++ d) = rnL ns a c ++ rnL ns b d
  | [], [], b, d, _ => by simp [rnL]
  | [], _ :: _, _, _, h => by simp at h
  | _ :: _, [], _, _, h => by simp at h
  | s :: a, T :: c, b, d, h => by
    show rnL ns (s :: (a ++ b)) (T :: (c ++ d)) = _
    rw [rnL, rnL, rnL_app ns a c b d (by simpa using h), List.append_assoc]
theorem rnL_erase (ns nms : List ByteArray) (ks : List Tr) (j : Nat) (h : j < nms.length) (h' : j < ks.length) :
    rnL ns (nms.eraseIdx j) (ks.eraseIdx j) = rnL ns (nms.take j) (ks.take j) ++ rnL ns (nms.drop (j + 1)) (ks.drop (j + 1)) := by
  rw [List.eraseIdx_eq_take_drop_succ, List.eraseIdx_eq_take_drop_succ, rnL_app _ _ _ _ _ (by simp; omega)]
/-- A node's row but for its path's text. -/
def rf (p : List ByteArray × Tr) : List ByteArray × Int × Bool × ByteArray := (p.1, p.2.k, p.2.e, p.2.t)
theorem rnL_oth {ns nms : List ByteArray} {ks : List Tr} {z : ByteArray} {j : Nat} (U : Up nms) (hj : nms[j]? = some z) :
    (∀ p ∈ rnL ns (nms.take j) (ks.take j), Oth ns z p) ∧ (∀ p ∈ rnL ns (nms.drop (j + 1)) (ks.drop (j + 1)), Oth ns z p) := by
  have hl : j < nms.length := (List.getElem?_eq_some_iff.1 hj).1
  refine ⟨fun p hp => ?_, fun p hp => ?_⟩
  · obtain ⟨y, hy, h⟩ := rnL_pre _ _ _ p hp
    refine ⟨y, fun e => ?_, h⟩
    obtain ⟨a, ha, e2⟩ := List.mem_take_iff_getElem.1 hy
    have ha' : a < j := by omega
    have := U.at ha' hl
    rw [nmA_of (List.getElem?_eq_getElem (show a < nms.length by omega)), nmA_of hj, e2, e, cmpB_refl] at this
    omega
  · obtain ⟨y, hy, h⟩ := rnL_pre _ _ _ p hp
    refine ⟨y, fun e => ?_, h⟩
    obtain ⟨a, ha, e2⟩ := List.mem_drop_iff_getElem.1 hy
    have := U.at (a := j) (b := j + 1 + a) (by omega) (by omega)
    rw [nmA_of hj, nmA_of (List.getElem?_eq_getElem (show j + 1 + a < nms.length by omega)), e2, e, cmpB_refl] at this
    omega
/-- The rows without what stands at a path are the rows of the tree without it. -/
theorem rn_cut : ∀ (L ns : List ByteArray) (s : ByteArray) (T : Tr) (i : Nat), ascT T → (rch L T).1 = 0 → (rch L T).2.nms[i]? = some s → i < (rch L T).2.ks.length →
    ∃ A B K, rnT ns T = A ++ rnT (ns ++ (L ++ [s])) K ++ B ∧ (∀ p ∈ A, ¬ (ns ++ (L ++ [s]) <+: p.1)) ∧ (∀ p ∈ B, ¬ (ns ++ (L ++ [s]) <+: p.1)) ∧ (A ++ B).map rf = (rnT ns (repT L T (delK (rch L T).2 i))).map rf
  | [], ns, s, .mk k e t nms ks, i, a, _, hn, hi => by
    rw [ascT] at a
    change nms[i]? = some s at hn
    change i < ks.length at hi
    have hl : i < nms.length := (List.getElem?_eq_some_iff.1 hn).1
    have hk := List.getElem?_eq_getElem hi
    obtain ⟨o1, o2⟩ := rnL_oth (ns := ns) (ks := ks) a.1 hn
    refine ⟨(ns, .mk k e t nms ks) :: rnL ns (nms.take i) (ks.take i), rnL ns (nms.drop (i + 1)) (ks.drop (i + 1)), ks[i], ?_, fun p hp => ?_, fun p hp => (o2 p hp).not [], ?_⟩
    · rw [rnT, rnL_split ns s _ nms ks i hn hk]; simp
    · rcases List.mem_cons.1 hp with rfl | hp
      · exact own_not
      · exact (o1 p hp).not []
    · show _ = (rnT ns (.mk k e t (nms.eraseIdx i) (ks.eraseIdx i))).map rf
      rw [rnT, rnL_erase ns nms ks i hl hi]
      simp [rf, Tr.k, Tr.e, Tr.t]
  | z :: L, ns, s, .mk k e t nms ks, i, a, h, hn, hi => by
    obtain ⟨hk, j, K0, hf, hK, h1, h2, hr⟩ := rch_cons h
    rw [hr]
    rw [h2] at hn hi ⊢
    rw [ascT] at a
    have hz : nms[j]? = some z := by
      have := List.findIdx?_eq_some_iff_getElem.1 hf
      obtain ⟨hj, e1, _⟩ := this
      rw [List.getElem?_eq_getElem hj]
      simpa using e1
    obtain ⟨A, B, K, e1, hA, hB, e2⟩ := rn_cut L (ns ++ [z]) s K0 i (ascL_at ks j K0 a.2 hK) h1 hn hi
    have el : ns ++ [z] ++ (L ++ [s]) = ns ++ (z :: L ++ [s]) := by simp
    rw [el] at e1 hA hB
    obtain ⟨o1, o2⟩ := rnL_oth (ns := ns) (ks := ks) a.1 hz
    refine ⟨(ns, .mk k e t nms ks) :: (rnL ns (nms.take j) (ks.take j) ++ A), B ++ rnL ns (nms.drop (j + 1)) (ks.drop (j + 1)), K, ?_, fun p hp => ?_, fun p hp => ?_, ?_⟩
    · rw [rnT, rnL_split ns z K0 nms ks j hz hK, e1]; simp
    · rcases List.mem_cons.1 hp with rfl | hp
      · exact own_not
      · rcases List.mem_append.1 hp with hp | hp
        · exact (o1 p hp).not _
        · exact hA p hp
    · rcases List.mem_append.1 hp with hp | hp
      · exact hB p hp
      · exact (o2 p hp).not _
    · rw [rnT, rnL_split ns z _ nms (ks.set j _) j hz (set_at hK), List.take_set_of_le (Nat.le_refl _), List.drop_set_of_lt (Nat.lt_succ_self _)]
      rw [List.map_append] at e2
      simp only [List.map_cons, List.map_append, List.cons_append, List.append_assoc]
      rw [← e2]
      simp [rf, Tr.k, Tr.e, Tr.t]
end Go.Proofs.YtnggbemnblcnaaaDoor
namespace Go.Proofs.YtnggbemnblcnaaaDoor
open Go.RowKit

/-- The next name rises. -/
def nxt (ns : List ByteArray) (s : ByteArray) : Bool := match ns.getLast? with
  | none => true
  | some s' => decide (cmpB s' s < 0)
/-- Does a row with these names stand next in this directory? -/
def fitR (dir ns m : List ByteArray) (r : RW) : Prop := m.length = dir.length + 1 ∧ dir <+: m ∧ nxt ns (m.getLast?.getD ⟨#[]⟩) = true ∧ cfP r.2.1 r.2.2.1 r.2.2.2 0 = 0
open Classical in
/-- gather: the kids, and the rows that are left. -/
noncomputable def gth (sp : ByteArray → Option (List ByteArray)) : Nat → List ByteArray → List ByteArray → List Tr → List RW → List ByteArray × List Tr × List RW
  | 0, _, ns, ks, rows => (ns, ks, rows)
  | _ + 1, _, ns, ks, [] => (ns, ks, [])
  | f + 1, dir, ns, ks, r :: rs => match sp r.1 with
    | none => (ns, ks, r :: rs)
    | some m => if fitR dir ns m r then
        (let q := if r.2.1 = 3 then gth sp f m [] [] rs else ([], [], rs)
         gth sp f dir (ns ++ [m.getLast?.getD ⟨#[]⟩]) (ks ++ [.mk r.2.1 r.2.2.1 r.2.2.2 q.1 q.2.1]) q.2.2)
      else (ns, ks, r :: rs)
/-- The rows that follow lie no deeper. -/
def Shal (sp : ByteArray → Option (List ByteArray)) (dir : List ByteArray) (B : List RW) : Prop := ∀ r rs, B = r :: rs → ∀ m, sp r.1 = some m → m.length ≤ dir.length
theorem gth_stop {sp : ByteArray → Option (List ByteArray)} {dir : List ByteArray} {B : List RW} (h : Shal sp dir B) (f : Nat) (ns : List ByteArray) (ks : List Tr) : gth sp f dir ns ks B = (ns, ks, B) := by
  cases f with
  | zero => rw [gth]
  | succ f =>
    cases B with
    | nil => rw [gth]
    | cons r rs =>
      rw [gth]
      cases hm : sp r.1 with
      | none => rfl
      | some m =>
        dsimp only
        rw [if_neg (fun c => by have := h r rs rfl m hm; have := c.1; omega)]
theorem gth_take {sp : ByteArray → Option (List ByteArray)} {dir ns : List ByteArray} {ks : List Tr} {r : RW} {rs : List RW} {s : ByteArray} (f : Nat) (hm : sp r.1 = some (dir ++ [s])) (hn : ∀ s', ns.getLast? = some s' → cmpB s' s < 0) (hc : cfP r.2.1 r.2.2.1 r.2.2.2 0 = 0)
    {q : List ByteArray × List Tr × List RW} (hq : (if r.2.1 = 3 then gth sp f (dir ++ [s]) [] [] rs else ([], [], rs)) = q) :
    gth sp (f + 1) dir ns ks (r :: rs) = gth sp f dir (ns ++ [s]) (ks ++ [.mk r.2.1 r.2.2.1 r.2.2.2 q.1 q.2.1]) q.2.2 := by
  have hl : (dir ++ [s]).getLast?.getD ⟨#[]⟩ = s := by simp
  rw [gth, hm]
  dsimp only
  rw [if_pos ⟨by simp, List.prefix_append _ _, by
    rw [hl]
    unfold nxt
    cases hg : ns.getLast? with
    | none => rfl
    | some s' => exact decide_eq_true (hn s' hg), hc⟩, hl, hq]
theorem gth_wf (sp : ByteArray → Option (List ByteArray)) (SO : SpOk sp) : ∀ (nms : List ByteArray) (ks : List Tr) (dir : List ByteArray) (b : Int) (prev : Option ByteArray) (f : Nat) (ns0 : List ByteArray) (ks0 : List Tr) (B : List RW), wfL nms ks → (vL dir b prev nms ks).off = none → (∀ z ∈ dir, chk z = 0) → ns0.getLast? = prev → (rwL dir nms ks ++ B).length ≤ f → Shal sp dir B →
    gth sp f dir ns0 ks0 (rwL dir nms ks ++ B) = (ns0 ++ nms, ks0 ++ ks, B)
  | s :: nms, .mk k e t n2 k2 :: ks => fun dir b prev f ns0 ks0 B hwf hv hck hp hf hB => by
    rw [wfL] at hwf
    rw [vL] at hv
    split at hv
    · cases hv
    rename_i h2
    obtain ⟨e1, e2, e3⟩ := entO_parts (show entO prev s b = 0 by omega)
    cases hX : (vT (dir ++ [s]) (b + ebP s) (.mk k e t n2 k2)).off with
    | some oo => rw [hX] at hv; cases hv
    | none =>
      rw [hX] at hv
      dsimp only at hv
      have hw2 : wfL n2 k2 := by have := hwf.1; rw [wfT] at this; exact this
      rw [vT] at hX
      split at hX
      · cases hX
      rename_i g1
      split at hX
      · cases hX
      rename_i g2
      split at hX
      · cases hX
      obtain ⟨c1, c2⟩ := cfP_kids (show cfP k e t n2.length = 0 by omega)
      have hln : (dir ++ [s]).length = dir.length + 1 := by simp
      have hck2 : ∀ z ∈ dir ++ [s], chk z = 0 := fun z hz => by
        rcases List.mem_append.1 hz with hz | hz
        · exact hck z hz
        · simp at hz; subst hz; exact e1
      have hsp : sp (joinB (dir ++ [s])) = some (dir ++ [s]) := SO _ (by rw [hln] at g1 ⊢; omega) hck2
      have er : rwL dir (s :: nms) (.mk k e t n2 k2 :: ks) ++ B = (joinB (dir ++ [s]), k, e, t) :: (rwL (dir ++ [s]) n2 k2 ++ (rwL dir nms ks ++ B)) := by
        rw [rwL, rwT]; simp
      rw [er] at hf ⊢
      obtain ⟨f', rfl⟩ : ∃ f', f = f' + 1 := ⟨f - 1, by simp at hf; omega⟩
      have hf1 : (rwL (dir ++ [s]) n2 k2 ++ (rwL dir nms ks ++ B)).length ≤ f' := by rw [List.length_cons] at hf; omega
      have hf2 : (rwL dir nms ks ++ B).length ≤ f' := by rw [List.length_append] at hf1; omega
      have hS : Shal sp (dir ++ [s]) (rwL dir nms ks ++ B) := fun r rs hr m hm => by
        match nms, ks, hwf.2, hv with
        | [], [], _, _ =>
          have := hB r rs (by simpa [rwL] using hr) m hm
          rw [hln]; omega
        | [], _ :: _, hw, _ => simp [wfL] at hw
        | _ :: _, [], hw, _ => simp [wfL] at hw
        | s2 :: nms, .mk k' e' t' n3 k3 :: ks, hw, hv =>
          rw [rwL, rwT] at hr
          have hr1 : r = (joinB (dir ++ [s2]), k', e', t') := by simp at hr; exact hr.1.symm
          rw [vL] at hv
          split at hv
          · cases hv
          rename_i h4
          obtain ⟨d1, _, _⟩ := entO_parts (Classical.not_not.1 h4)
          have hsp2 : sp (joinB (dir ++ [s2])) = some (dir ++ [s2]) := SO _ (by rw [hln] at g1; simp; omega) (fun z hz => by
            rcases List.mem_append.1 hz with hz | hz
            · exact hck z hz
            · simp at hz; subst hz; exact d1)
          rw [hr1] at hm
          rw [hsp2] at hm
          cases hm
          simp
      have hq : (if k = 3 then gth sp f' (dir ++ [s]) [] [] (rwL (dir ++ [s]) n2 k2 ++ (rwL dir nms ks ++ B)) else ([], [], rwL (dir ++ [s]) n2 k2 ++ (rwL dir nms ks ++ B))) = (n2, k2, rwL dir nms ks ++ B) := by
        by_cases h3 : k = 3
        · rw [if_pos h3, gth_wf sp SO n2 k2 (dir ++ [s]) _ none f' [] [] _ hw2 hX hck2 rfl hf1 hS]
          rfl
        · have hn := c2 h3
          have en : n2 = [] := List.eq_nil_of_length_eq_zero hn
          subst en
          have ek : k2 = [] := by
            cases k2 with
            | nil => rfl
            | cons _ _ => simp [wfL] at hw2
          subst ek
          rw [if_neg h3]
          simp [rwL]
      rw [gth_take (r := (joinB (dir ++ [s]), k, e, t)) f' hsp (fun s' hs' => e2 s' (by rw [← hp]; exact hs')) c1 hq]
      dsimp only
      refine (gth_wf sp SO nms ks dir _ (some s) f' (ns0 ++ [s]) (ks0 ++ [.mk k e t n2 k2]) B hwf.2 hv hck (by simp) hf2 hB).trans ?_
      simp
  | [], [] => fun dir b prev f ns0 ks0 B _ _ _ _ _ hB => by
    rw [show rwL dir [] [] = [] from by simp [rwL], List.nil_append, gth_stop hB, List.append_nil, List.append_nil]
  | [], _ :: _ => fun dir b prev f ns0 ks0 B hwf => by simp [wfL] at hwf
  | _ :: _, [] => fun dir b prev f ns0 ks0 B hwf => by simp [wfL] at hwf
termination_by _ ks => SizeOf.sizeOf ks
end Go.Proofs.YtnggbemnblcnaaaDoor
namespace Go.Proofs.YtnggbemnblcnaaaDoor
open Go.RowKit

/-- nm finds a path's names. -/
def NmOk (nm : ByteArray → List ByteArray) : Prop := ∀ ns : List ByteArray, ns.length ≤ 31 → (∀ s ∈ ns, chk s = 0) → nm (joinB ns) = ns
/-- The bytes behind a row. -/
def addB (nm : ByteArray → List ByteArray) (b : Int) (r : RW) : Int := b + ownB r.2.1 r.2.2.1 r.2.2.2 0 + (match (nm r.1).getLast? with | none => 0 | some s => ebP s)
theorem addB_le (nm : ByteArray → List ByteArray) (b : Int) (r : RW) : b ≤ addB nm b r := by
  unfold addB ownB
  have h1 := (nbP_bd r.2.1 r.2.2.1 r.2.2.2).1
  have h2 : (0 : Int) ≤ (match (nm r.1).getLast? with | none => 0 | some s => ebP s) := by
    cases (nm r.1).getLast? with
    | none => exact Int.le_refl _
    | some s => exact (ebP_bd s).1
  split <;> omega
theorem sumB_le (nm : ByteArray → List ByteArray) : ∀ (rows : List RW) (b : Int), b ≤ rows.foldl (addB nm) b
  | [], _ => Int.le_refl _
  | r :: rows, b => Int.le_trans (addB_le nm b r) (sumB_le nm rows (addB nm b r))
/-- Where all the rows fit, the first ones do. -/
theorem sumB_take (nm : ByteArray → List ByteArray) (rows : List RW) (b : Int) (j : Nat) : (rows.take j).foldl (addB nm) b ≤ rows.foldl (addB nm) b := by
  have e : rows = rows.take j ++ rows.drop j := (List.take_append_drop j rows).symm
  have h := sumB_le nm (rows.drop j) ((rows.take j).foldl (addB nm) b)
  rw [← List.foldl_append, ← e] at h
  exact h
mutual
theorem ft_tree (nm : ByteArray → List ByteArray) (NO : NmOk nm) : ∀ (T : Tr) (ns : List ByteArray) (s : ByteArray) (b : Int), wfT T → (vT (ns ++ [s]) (b + ebP s) T).off = none → (∀ z ∈ ns ++ [s], chk z = 0) →
    (rwT (ns ++ [s]) T).foldl (addB nm) b = (vT (ns ++ [s]) (b + ebP s) T).bytes
  | .mk k e t nms ks => fun ns s b hwf hv hck => by
    rw [wfT] at hwf
    rw [vT] at hv ⊢
    split at hv
    · cases hv
    rename_i h1
    rw [if_neg h1]
    split at hv
    · cases hv
    rename_i h2
    rw [if_neg h2]
    split at hv
    · cases hv
    rename_i h3
    rw [if_neg h3]
    obtain ⟨c1, _⟩ := cfP_kids (show cfP k e t nms.length = 0 by omega)
    have hln : (ns ++ [s]).length = ns.length + 1 := by simp
    have hm : nm (joinB (ns ++ [s])) = ns ++ [s] := NO _ (by rw [hln] at h1 ⊢; omega) hck
    have ea : addB nm b (joinB (ns ++ [s]), k, e, t) = b + ebP s + nbP k e t := by
      unfold addB ownB
      dsimp only
      rw [hm, if_pos c1]
      simp only [List.getLast?_append, List.getLast?_singleton, Option.or]
      omega
    rw [rwT, List.foldl_cons, ea]
    exact ft_kids nm NO nms ks (ns ++ [s]) _ none hwf hv hck
theorem ft_kids (nm : ByteArray → List ByteArray) (NO : NmOk nm) : ∀ (nms : List ByteArray) (ks : List Tr) (ns : List ByteArray) (b : Int) (prev : Option ByteArray), wfL nms ks → (vL ns b prev nms ks).off = none → (∀ z ∈ ns, chk z = 0) →
    (rwL ns nms ks).foldl (addB nm) b = (vL ns b prev nms ks).bytes
  | s :: nms, T :: ks => fun ns b prev hwf hv hck => by
    rw [wfL] at hwf
    rw [vL] at hv ⊢
    split at hv
    · cases hv
    rename_i h2
    rw [if_neg h2]
    obtain ⟨e1, _, _⟩ := entO_parts (show entO prev s b = 0 by omega)
    cases hX : (vT (ns ++ [s]) (b + ebP s) T).off with
    | some oo => rw [hX] at hv; cases hv
    | none =>
      rw [hX] at hv
      have hck2 : ∀ z ∈ ns ++ [s], chk z = 0 := fun z hz => by
        rcases List.mem_append.1 hz with hz | hz
        · exact hck z hz
        · simp at hz; subst hz; exact e1
      rw [rwL, List.foldl_append, ft_tree nm NO T ns s b hwf.1 hX hck2]
      exact ft_kids nm NO nms ks ns _ (some s) hwf.2 hv hck
  | [], [] => fun ns b prev _ _ _ => by rw [vL_end]; simp [rwL]
  | [], _ :: _ => fun ns b prev hwf => by simp [wfL] at hwf
  | _ :: _, [] => fun ns b prev hwf => by simp [wfL] at hwf
end
theorem ft_root (nm : ByteArray → List ByteArray) (NO : NmOk nm) (k : Int) (e : Bool) (t : ByteArray) (nms : List ByteArray) (ks : List Tr) (hwf : wfL nms ks) (hv : (vT [] 24 (.mk k e t nms ks)).off = none) :
    (rwT [] (.mk k e t nms ks)).foldl (addB nm) 24 = (vT [] 24 (.mk k e t nms ks)).bytes := by
  rw [vT] at hv ⊢
  split at hv
  · cases hv
  rename_i h1
  rw [if_neg h1]
  split at hv
  · cases hv
  rename_i h2
  rw [if_neg h2]
  split at hv
  · cases hv
  rename_i h3
  rw [if_neg h3]
  obtain ⟨c1, _⟩ := cfP_kids (show cfP k e t nms.length = 0 by omega)
  have hm : nm (joinB []) = [] := NO [] (by decide) (by intro s hs; cases hs)
  have ea : addB nm 24 (joinB [], k, e, t) = 24 + nbP k e t := by
    unfold addB ownB
    dsimp only
    rw [hm, if_pos c1]
    simp
  rw [rwT, List.foldl_cons, ea]
  exact ft_kids nm NO nms ks [] _ none hwf hv (by intro s hs; cases hs)
end Go.Proofs.YtnggbemnblcnaaaDoor
namespace Go.Proofs.YtnggbemnblcnaaaDoor
open Go.RowKit

theorem gth_nil (sp : ByteArray → Option (List ByteArray)) (f : Nat) (dir ns : List ByteArray) (ks : List Tr) : gth sp f dir ns ks [] = (ns, ks, []) := by
  cases f with
  | zero => rw [gth]
  | succ f => rw [gth]
theorem gth_bad {sp : ByteArray → Option (List ByteArray)} {r : RW} (hm : sp r.1 = none) (f : Nat) (dir ns : List ByteArray) (ks : List Tr) (rs : List RW) : gth sp (f + 1) dir ns ks (r :: rs) = (ns, ks, r :: rs) := by
  rw [gth, hm]
theorem gth_no {sp : ByteArray → Option (List ByteArray)} {r : RW} {m dir ns : List ByteArray} (hm : sp r.1 = some m) (hf : ¬ fitR dir ns m r) (f : Nat) (ks : List Tr) (rs : List RW) : gth sp (f + 1) dir ns ks (r :: rs) = (ns, ks, r :: rs) := by
  rw [gth, hm]
  dsimp only
  rw [if_neg hf]
theorem gth_yes {sp : ByteArray → Option (List ByteArray)} {r : RW} {m dir ns : List ByteArray} {s : ByteArray} (hm : sp r.1 = some m) (hs : m.getLast? = some s) (hf : fitR dir ns m r) (f : Nat) (ks : List Tr) (rs : List RW) {q : List ByteArray × List Tr × List RW} (hq : (if r.2.1 = 3 then gth sp f m [] [] rs else ([], [], rs)) = q) :
    gth sp (f + 1) dir ns ks (r :: rs) = gth sp f dir (ns ++ [s]) (ks ++ [.mk r.2.1 r.2.2.1 r.2.2.2 q.1 q.2.1]) q.2.2 := by
  rw [gth, hm]
  dsimp only
  rw [if_pos hf, hq, hs]
  rfl
/-- What is left is an end of the rows, and the kids are no more than the rows taken. -/
theorem gth_suf (sp : ByteArray → Option (List ByteArray)) : ∀ (f : Nat) (dir ns : List ByteArray) (ks : List Tr) (rows : List RW), (gth sp f dir ns ks rows).2.2 <:+ rows ∧ (gth sp f dir ns ks rows).1.length + (gth sp f dir ns ks rows).2.2.length ≤ ns.length + rows.length
  | 0, dir, ns, ks, rows => by rw [gth]; exact ⟨List.suffix_refl _, Nat.le_refl _⟩
  | f + 1, dir, ns, ks, [] => by rw [gth]; exact ⟨List.suffix_refl _, Nat.le_refl _⟩
  | f + 1, dir, ns, ks, r :: rs => by
    cases hm : sp r.1 with
    | none => rw [gth_bad hm]; exact ⟨List.suffix_refl _, Nat.le_refl _⟩
    | some m =>
      by_cases hf : fitR dir ns m r
      · rw [gth, hm]
        dsimp only
        rw [if_pos hf]
        have hq : (if r.2.1 = 3 then gth sp f m [] [] rs else (([], [], rs) : List ByteArray × List Tr × List RW)).2.2 <:+ rs := by
          split
          · exact (gth_suf sp f m [] [] rs).1
          · exact List.suffix_refl _
        generalize (if r.2.1 = 3 then gth sp f m [] [] rs else (([], [], rs) : List ByteArray × List Tr × List RW)) = q at hq ⊢
        obtain ⟨h1, h2⟩ := gth_suf sp f dir (ns ++ [m.getLast?.getD ⟨#[]⟩]) (ks ++ [.mk r.2.1 r.2.2.1 r.2.2.2 q.1 q.2.1]) q.2.2
        refine ⟨(h1.trans hq).trans (List.suffix_cons _ _), ?_⟩
        have := hq.length_le
        simp only [List.length_append, List.length_cons, List.length_nil] at h2 ⊢
        omega
      · rw [gth_no hm hf]; exact ⟨List.suffix_refl _, Nat.le_refl _⟩
theorem suf_drop {α : Type} {a b : List α} (h : a <:+ b) : a = b.drop (b.length - a.length) := by
  obtain ⟨t, rfl⟩ := h
  rw [List.length_append, Nat.add_sub_cancel, List.drop_left]
end Go.Proofs.YtnggbemnblcnaaaDoor
namespace Go.Proofs.YtnggbemnblcnaaaDoor
open Go.RowKit

theorem smL_del : ∀ (nms : List ByteArray) (ks : List Tr) (i : Nat), smL nms ks → nms.length = ks.length → smL (nms.eraseIdx i) (ks.eraseIdx i)
  | [], _, i, _, _ => by rw [smL] <;> simp
  | _ :: _, [], i, _, h => by simp at h
  | s :: nms, T :: ks, 0, h, _ => by
    rw [smL] at h
    exact h.2.2
  | s :: nms, T :: ks, i + 1, h, hl => by
    rw [smL] at h
    rw [List.eraseIdx_cons_succ, List.eraseIdx_cons_succ, smL]
    exact ⟨h.1, h.2.1, smL_del nms ks i h.2.2 (by simpa using hl)⟩
theorem smT_del {P : Tr} (i : Nat) (h : smT P) (hl : P.nms.length = P.ks.length) : smT (delK P i) := by
  obtain ⟨k, e, t, nms, ks⟩ := P
  rw [smT] at h
  show smT (.mk k e t (nms.eraseIdx i) (ks.eraseIdx i))
  rw [smT]
  exact ⟨h.1, smL_del nms ks i h.2 hl⟩
mutual
theorem TrV.wf {w : World} {B : Nat} : ∀ (T : Tr) (v : Value) (fp : List Nat), TrV w B T v fp → wfT T
  | .mk k e t nms ks, v, fp, h => by
    rw [TrV] at h
    obtain ⟨cs, fq, _, h2, _⟩ := h
    rw [wfT]
    exact KidV.wf nms ks cs fq h2
theorem KidV.wf {w : World} {B : Nat} : ∀ (nms : List ByteArray) (ks : List Tr) (cs : List Value) (fq : List Nat), KidV w B nms ks cs fq → wfL nms ks
  | [], [], _, _, _ => by rw [wfL]; trivial
  | s :: nms, T :: ks, cs, fq, h => by
    rw [KidV] at h
    obtain ⟨v, cs', fp, fq', _, h2, h3, _⟩ := h
    rw [wfL]
    exact ⟨TrV.wf T v fp h2, KidV.wf nms ks cs' fq' h3⟩
  | [], _ :: _, cs, fq, h => by simp [KidV] at h
  | _ :: _, [], cs, fq, h => by simp [KidV] at h
end
theorem wfL_iff : ∀ (nms : List ByteArray) (ks : List Tr), wfL nms ks ↔ nms.length = ks.length ∧ ∀ T ∈ ks, wfT T
  | [], [] => by simp [wfL]
  | s :: nms, T :: ks => by
    rw [wfL, wfL_iff nms ks]
    simp
    constructor
    · rintro ⟨a, b, c⟩; exact ⟨b, a, c⟩
    · rintro ⟨a, b, c⟩; exact ⟨b, a, c⟩
  | [], _ :: _ => by simp [wfL]
  | _ :: _, [] => by simp [wfL]
theorem wfT_kid : ∀ k e t nms ks, wfT (.mk k e t nms ks) → ∀ (i : Nat) (s : ByteArray) (K : Tr), nms[i]? = some s → ks[i]? = some K → wfT K := fun k e t nms ks h i s K _ h2 => by
  rw [wfT] at h
  exact wfL_at _ _ h i K h2
theorem wfT_rch {T : Tr} (L : List ByteArray) (h : wfT T) : wfT (rch L T).2 := rch_keeps wfT wfT_kid L T h
theorem wfT_len {T : Tr} (h : wfT T) : T.nms.length = T.ks.length := by
  obtain ⟨k, e, t, nms, ks⟩ := T
  rw [wfT] at h
  exact wfL_len _ _ h
theorem wfT_put {T K : Tr} {s : ByteArray} (h : wfT T) (hK : wfT K) : wfT (putK T s K) := by
  obtain ⟨k, e, t, nms, ks⟩ := T
  rw [wfT, wfL_iff] at h
  unfold putK
  split
  · show wfT (.mk k e t nms (ks.set _ K))
    rw [wfT, wfL_iff]
    exact ⟨by rw [List.length_set]; exact h.1, fun T hT => by rcases List.mem_or_eq_of_mem_set hT with hT | rfl; exact h.2 T hT; exact hK⟩
  · show wfT (.mk k e t (nms.take (pos nms s) ++ s :: nms.drop (pos nms s)) (ks.take (pos nms s) ++ K :: ks.drop (pos nms s)))
    rw [wfT, wfL_iff]
    refine ⟨by simp; omega, fun T hT => ?_⟩
    rcases List.mem_append.1 hT with hT | hT
    · exact h.2 T (List.mem_of_mem_take hT)
    · rcases List.mem_cons.1 hT with rfl | hT
      · exact hK
      · exact h.2 T (List.mem_of_mem_drop hT)

theorem nmO_of {l : List Tr} {p : ByteArray} (h1 : ckS l = 0) (h2 : (pathF p).1 = 0) : nmO l p = 0 := by
  unfold nmO
  rw [if_neg (by omega)]
  exact h2
theorem ckS_one {T : Tr} (h : (ckT T).2 = 0) : ckS [T] = 0 := by
  unfold ckS
  rw [if_neg (by omega)]
  rfl
theorem ckS_two {T U : Tr} (h : (ckT T).2 = 0) (h' : (ckT U).2 = 0) : ckS [T, U] = 0 := by
  unfold ckS
  rw [if_neg (by omega)]
  exact ckS_one h'
theorem join_path {p : ByteArray} (h : (pathF p).1 = 0) : joinB (pathN p) = p ∧ ∀ s ∈ pathN p, chk s = 0 := by
  have := spN_right p (pathN p) (by unfold spN; rw [if_pos h])
  exact ⟨this.1, this.2.1⟩
theorem path_nil {p : ByteArray} (h : (pathF p).1 = 0) : pathN p = [] ↔ p.size = 0 := by
  constructor
  · intro h0
    have := (join_path h).1
    rw [h0] at this
    rw [← this]; rfl
  · intro h0
    unfold pathN
    rw [if_pos h0]

/-- One path begins with another. -/
def Pre (a b : ByteArray) : Prop := ∃ z, a ++ ⟨#[47]⟩ = b ++ ⟨#[47]⟩ ++ z
theorem joinB_pre : ∀ (r A : List ByteArray), A ≠ [] → Pre (joinB (A ++ r)) (joinB A)
  | [], A, _ => ⟨⟨#[]⟩, by rw [List.append_nil]; exact (ByteArray.append_empty).symm⟩
  | b :: r, A, hA => by
    obtain ⟨z, hz⟩ := joinB_pre r (A ++ [b]) (by simp)
    refine ⟨b ++ ⟨#[47]⟩ ++ z, ?_⟩
    rw [List.append_assoc] at hz
    rw [show A ++ b :: r = A ++ ([b] ++ r) from rfl, hz, joinB_snoc A b hA]
    simp [ByteArray.append_assoc]

/-- What the law tells of a tree in which something was put. -/
structure PG (T U M : Tr) (p : ByteArray) : Prop where
  off : (vT [] 24 M).off = none
  sm : smT M
  wf : wfT M
  pf : (pathF p).1 = 0
  get : getT M p = (0, U)
  root : p.size = 0 → M = U ∧ cutT M p = (66, zT)
  apart : ∀ q, p.size ≠ 0 → q.size ≠ 0 → ¬ Pre p q → ¬ Pre q p → getT T q = getT M q
  cut : p.size ≠ 0 → ∃ D, cutT M p = (0, D) ∧ smT D ∧ (vT [] 24 D).off = none ∧ getT D p = (3, zT) ∧ cutT D p = (3, zT) ∧ putT D p U = (0, M)

theorem rchH_of {L : List ByteArray} {T K : Tr} (h : rch L T = (0, K)) (hk : K.k = 3) : rchH L T = (0, K) := by
  unfold rchH
  rw [h, if_neg (fun h => h rfl), if_neg (fun h => h hk)]
theorem rchH_ok {L : List ByteArray} {T : Tr} (h : (rchH L T).1 = 0) : (rch L T).1 = 0 ∧ (rch L T).2.k = 3 := by
  unfold rchH at h
  by_cases h1 : (rch L T).1 ≠ 0
  · rw [if_pos h1] at h; exact absurd h h1
  · rw [if_neg h1] at h
    by_cases h2 : (rch L T).2.k ≠ 3
    · rw [if_pos h2] at h; exact absurd (show (65 : Int) = 0 from h) (by decide)
    · exact ⟨by omega, by omega⟩
theorem rch_one {s : ByteArray} {P K : Tr} {i : Nat} (hk : P.k = 3) (hf : P.nms.findIdx? (fun n => decide (n = s)) = some i) (hK : P.ks[i]? = some K) : rch [s] P = (0, K) := by
  obtain ⟨k, e, t, nms, ks⟩ := P
  exact rch_of hk hf hK
theorem rch_gone {s : ByteArray} {P : Tr} (hk : P.k = 3) (hf : P.nms.findIdx? (fun n => decide (n = s)) = none) : (rch [s] P).1 = 3 := by
  show (if P.k ≠ 3 then ((65 : Int), P) else match sub s P.nms P.ks with
    | none => (3, P)
    | some K => rch [] K).1 = 3
  rw [if_neg (by omega), sub_find, hf]
  rfl
theorem cutT_snoc {T : Tr} {p : ByteArray} {L : List ByteArray} {s : ByteArray} (h : nmO [T] p = 0) (hN : pathN p = L ++ [s]) : cutT T p = cutN T L s := by
  unfold cutT
  rw [if_neg (by omega), hN]
  simp
theorem putT_snoc {T U : Tr} {p : ByteArray} {L : List ByteArray} {s : ByteArray} (h : nmO [T, U] p = 0) (hN : pathN p = L ++ [s]) : putT T p U = putN T U L s := by
  unfold putT
  rw [if_neg (by omega), hN]
  simp
theorem getT_of {T K : Tr} {p : ByteArray} (h : nmO [T] p = 0) (hr : rch (pathN p) T = (0, K)) : getT T p = (0, K) := by
  unfold getT
  rw [if_neg (by omega), hr, if_neg (fun h => h rfl)]
theorem getT_bad {T : Tr} {p : ByteArray} {c : Int} (h : nmO [T] p = 0) (hr : (rch (pathN p) T).1 = c) (hc : c ≠ 0) : getT T p = (c, zT) := by
  unfold getT
  rw [if_neg (by omega), hr, if_pos hc]

theorem put_get {T U : Tr} {p : ByteArray} (sT : smT T) (sU : smT U) (wT : wfT T) (wU : wfT U) (h : (putT T p U).1 = 0) : PG T U (putT T p U).2 p := by
  have hnm : nmO [T, U] p = 0 := by
    by_cases hc : nmO [T, U] p ≠ 0
    · unfold putT at h
      rw [if_pos hc] at h
      exact absurd h hc
    · omega
  obtain ⟨hck, hpf⟩ := nmO_ck hnm
  have oT := ckS_off hck (T := T) (by simp)
  have oU := ckS_off hck (T := U) (by simp)
  rcases List.eq_nil_or_concat (pathN p) with hN | ⟨L, s, hN⟩
  · have hz := (path_nil hpf).1 hN
    have hM : putT T p U = (0, U) := by
      unfold putT
      rw [if_neg (by omega), hN]
      rfl
    rw [hM]
    have nU : nmO [U] p = 0 := nmO_of (ckS_one (off_ck oU)) hpf
    refine ⟨oU, sU, wU, hpf, getT_of nU (by rw [hN]; rfl), fun _ => ⟨rfl, ?_⟩, fun q h1 => absurd hz h1, fun h1 => absurd hz h1⟩
    show cutT U p = _
    unfold cutT
    rw [if_neg (by omega), hN]
    rfl
  · rw [List.concat_eq_append] at hN
    have hz : p.size ≠ 0 := fun h0 => by
      have := (path_nil hpf).2 h0
      rw [hN] at this
      simp at this
    have hsm : s.size ≤ 1048576 := by
      have := chk_short s ((join_path hpf).2 s (by rw [hN]; simp))
      omega
    rw [putT_snoc hnm hN] at h ⊢
    unfold putN at h ⊢
    by_cases hr : (rchH L T).1 ≠ 0
    · rw [if_pos hr] at h; exact absurd h hr
    · rw [if_neg hr] at h ⊢
      obtain ⟨r1, r2⟩ := rchH_ok (by omega : (rchH L T).1 = 0)
      have aT := vT_asc T [] 24 wT oT
      have uH : Up (rch L T).2.nms ∧ True := ⟨by
        have := rch_keeps ascT (fun k e t nms ks h i s K _ h2 => by rw [ascT] at h; exact ascL_at ks i K h.2 h2) L T aT
        generalize (rch L T).2 = Q at this
        obtain ⟨_, _, _, _, _⟩ := Q
        rw [ascT] at this
        exact this.1, trivial⟩
      have wH := wfT_rch L wT
      have lH := wfT_len wH
      obtain ⟨i, p1, p2, p3, p4, p5⟩ := putK_at uH.1 lH s U
      have wP := wfT_put (s := s) wH wU
      have sP := smT_put (smT_rch L sT) sU hsm lH
      have hap := fun (M : List ByteArray) => rch_apart (s := s) (X := U) L M T wT r1
      have rP := rch_rep L T (putK (rch L T).2 s U) r1
      have kP : (putK (rch L T).2 s U).k = 3 := by rw [p5]; exact r2
      have sM := smT_rep L sT sP
      generalize putK (rch L T).2 s U = P at h hap rP kP p1 p2 p3 p4 p5 wP sP sM ⊢
      unfold putE at h ⊢
      by_cases hc : (ckT (repT L T P)).2 ≠ 0
      · rw [if_pos hc] at h; exact absurd h hc
      · rw [if_neg hc]
        have oM : (vT [] 24 (repT L T P)).off = none := ckT_zero (by omega)
        have cM : (ckT (repT L T P)).2 = 0 := by omega
        have nM : nmO [repT L T P] p = 0 := nmO_of (ckS_one cM) hpf
        have fP := p3.find p1
        have hi : i < P.nms.length := (List.getElem?_eq_some_iff.1 p1).1
        have lg : Lgt (repT L T (delK P i)) (repT L T P) := Lgt.rep (Lgt.del wP hi) L T r1
        have oD := lg.2 [] 24 oM
        have nD : nmO [repT L T (delK P i)] p = 0 := nmO_of (ckS_one (off_ck oD)) hpf
        have rD := rch_rep L T (delK P i) r1
        have fD := erase_none p3 p1
        have kD : (delK P i).k = 3 := kP
        refine ⟨oM, sM, ?_, hpf, ?_, fun h0 => absurd h0 hz, ?_, fun _ => ⟨repT L T (delK P i), ?_, smT_rep L sT (smT_del i sP p4), oD, ?_, ?_, ?_⟩⟩
        · exact rep_keeps wfT wfT_kid (fun k e t nms ks h i K hK => by
            rw [wfT, wfL_iff] at h ⊢
            exact ⟨by rw [List.length_set]; exact h.1, fun T hT => by rcases List.mem_or_eq_of_mem_set hT with hT | rfl; exact h.2 T hT; exact hK⟩) P wP L T wT
        · refine getT_of nM ?_
          rw [hN, rch_app L [s] _ (by rw [rP]), rP]
          exact rch_one kP fP p2
        · intro q _ hq h1 h2
          have nTq : nmO [T] q = (pathF q).1 := by
            unfold nmO
            rw [if_neg (by rw [ckS_one (off_ck oT)]; decide)]
          have nMq : nmO [repT L T P] q = (pathF q).1 := by
            unfold nmO
            rw [if_neg (by rw [ckS_one cM]; decide)]
          unfold getT
          rw [nTq, nMq]
          by_cases hpq : (pathF q).1 ≠ 0
          · rw [if_pos hpq, if_pos hpq]
          · rw [if_neg hpq, if_neg hpq]
            have hpq0 : (pathF q).1 = 0 := by omega
            have hqn : pathN q ≠ [] := fun h0 => hq ((path_nil hpq0).1 h0)
            obtain ⟨g1, g2⟩ := hap (pathN q) (fun hp => h1 (by
              obtain ⟨r, hr⟩ := hp
              rw [← (join_path hpf).1, ← (join_path hpq0).1, hN, ← hr]
              exact joinB_pre r _ hqn)) (fun hp => h2 (by
              obtain ⟨r, hr⟩ := hp
              rw [← (join_path hpf).1, ← (join_path hpq0).1, hN, ← hr]
              exact joinB_pre r _ (by simp)))
            rw [g1]
            by_cases hrq : (rch (pathN q) T).1 ≠ 0
            · rw [if_pos hrq, if_pos hrq]
            · rw [if_neg hrq, if_neg hrq]
              exact Prod.ext g1.symm (g2 (by omega)).symm
        · rw [cutT_snoc nM hN]
          unfold cutN
          rw [rchH_of rP kP, if_neg (fun h => h rfl), rP, fP]
          show ((0 : Int), repT L (repT L T P) (delK P i)) = _
          rw [rep_rep L T P _ r1]
        · refine getT_bad nD ?_ (by decide)
          rw [hN, rch_app L [s] _ (by rw [rD]), rD]
          exact rch_gone kD fD
        · rw [cutT_snoc nD hN]
          unfold cutN
          rw [rchH_of rD kD, if_neg (fun h => h rfl), rD]
          show (match (delK P i).nms.findIdx? (fun n => decide (n = s)) with
            | none => ((3 : Int), zT)
            | some j => (0, repT L (repT L T (delK P i)) (delK (delK P i) j))) = _
          rw [show (delK P i).nms.findIdx? (fun n => decide (n = s)) = none from fD]
        · rw [putT_snoc (nmO_of (ckS_two (off_ck oD) (off_ck oU)) hpf) hN]
          unfold putN
          rw [rchH_of rD kD, if_neg (fun h => h rfl), rD, putK_back p3 p1 p2, rep_rep L T _ _ r1]
          unfold putE
          rw [if_neg (by omega)]

/-- Begins one text with another? -/
def Bgn (a b : ByteArray) (r : Bool) : Prop := (∃ z, a = b ++ z) → r = true
theorem ext_app (b z : ByteArray) : (b ++ z).extract 0 b.size = b := by
  apply ByteArray.ext
  simp

end Go.Proofs.YtnggbemnblcnaaaDoor
namespace Go.Proofs.YtnggbemnblcnaaaDoor
open Go.RowKit

mutual
/-- A tree that passes deeper down passes here. -/
theorem vT_short : ∀ (T : Tr) (ns ns' : List ByteArray) (b : Int), (vT ns b T).off = none → ns'.length ≤ ns.length → (vT ns' b T).off = none
  | .mk k e t nms ks, ns, ns', b, h, hl => by
    obtain ⟨h1, h2, h3, h4⟩ := vT_parts h
    exact vT_of (by omega) h2 h3 (vL_short nms ks ns ns' _ none h4 hl)
theorem vL_short : ∀ (nms : List ByteArray) (ks : List Tr) (ns ns' : List ByteArray) (b : Int) (prev : Option ByteArray), (vL ns b prev nms ks).off = none → ns'.length ≤ ns.length → (vL ns' b prev nms ks).off = none
  | [], ks, ns, ns', b, prev, _, _ => by rw [vL_end]
  | _ :: _, [], ns, ns', b, prev, _, _ => by rw [vL]; simp
  | s :: nms, T :: ks, ns, ns', b, prev, h, hl => by
    obtain ⟨h1, h2, h3, h4, h5⟩ := vL_parts h
    exact vL_of h1 h2 h3 (vT_short T _ _ _ h4 (by simp; omega)) (vL_short nms ks ns ns' _ _ h5 hl)
end
theorem vL_part : ∀ (nms : List ByteArray) (ks : List Tr) (ns : List ByteArray) (b : Int) (prev : Option ByteArray), (vL ns b prev nms ks).off = none → 24 ≤ b → ∀ (i : Nat) (s : ByteArray) (K : Tr), nms[i]? = some s → ks[i]? = some K → ∃ ns' b', 24 ≤ b' ∧ (vT ns' b' K).off = none
  | [], _, _, _, _, _, _, i, s, K, h, _ => by simp at h
  | _ :: _, [], _, _, _, _, _, i, s, K, _, h => by simp at h
  | a :: nms, T :: ks, ns, b, prev, h, hb, 0, s, K, h1, h2 => by
    simp at h2
    subst h2
    have := (ebP_bd a).1
    exact ⟨_, _, by omega, (vL_parts h).2.2.2.1⟩
  | a :: nms, T :: ks, ns, b, prev, h, hb, i + 1, s, K, h1, h2 => by
    have h3 := (ebP_bd a).1
    have h4 := tbT_ge T
    exact vL_part nms ks ns _ _ (vL_parts h).2.2.2.2 (by omega) i s K (by simpa using h1) (by simpa using h2)
/-- What the names lead to passes by itself. -/
theorem rch_off {T : Tr} (L : List ByteArray) (h : (vT [] 24 T).off = none) : (vT [] 24 (rch L T).2).off = none := by
  obtain ⟨ns, b, hb, hv⟩ := rch_keeps (fun T => ∃ ns b, 24 ≤ b ∧ (vT ns b T).off = none) (fun k e t nms ks hh i s K h1 h2 => by
    obtain ⟨ns, b, hb, hv⟩ := hh
    have h3 := (nbP_bd k e t).1
    exact vL_part nms ks ns _ _ (vT_parts hv).2.2.2 (by omega) i s K h1 h2) L T ⟨[], 24, by decide, h⟩
  exact vT_weak _ _ _ _ (vT_short _ ns [] b hv (by simp)) hb
theorem rep_self : ∀ (L : List ByteArray) (T : Tr), (rch L T).1 = 0 → repT L T (rch L T).2 = T
  | [], T, _ => rfl
  | s :: l, .mk k e t nms ks, h => by
    obtain ⟨hk, i, K0, hf, hK, h1, h2, hr⟩ := rch_cons h
    rw [hr, h2, rep_self l K0 h1]
    have hl := (List.getElem?_eq_some_iff.1 hK)
    obtain ⟨hi, e1⟩ := hl
    rw [← e1, List.set_getElem_self]
/-- The tree without a part passes. -/
theorem cut_off {T : Tr} {L : List ByteArray} {i : Nat} (hw : wfT (rch L T).2) (h : (vT [] 24 T).off = none) (h0 : (rch L T).1 = 0) (hi : i < (rch L T).2.nms.length) : (vT [] 24 (repT L T (delK (rch L T).2 i))).off = none := by
  have := (Lgt.rep (Lgt.del hw hi) L T h0).2 [] 24
  rw [rep_self L T h0] at this
  exact this h
mutual
theorem vT_dir : ∀ (M : List ByteArray) (T K : Tr) (ns : List ByteArray) (b : Int), (vT ns b T).off = none → lk M T = some K → ∃ ns' b', (vT ns' b' K).off = none
  | [], T, K, ns, b, h, hk => by
    rw [lk] at hk
    cases hk
    exact ⟨ns, b, h⟩
  | s :: M, .mk k e t nms ks, K, ns, b, h, hk => by
    rw [lk] at hk
    change (sub s nms ks).bind (lk M) = some K at hk
    cases hs : sub s nms ks with
    | none => rw [hs] at hk; cases hk
    | some K0 =>
      rw [hs] at hk
      obtain ⟨i, h1, h2⟩ := sub_mem hs
      obtain ⟨n', b', hv⟩ := vL_kidG nms ks ns _ _ (vT_parts h).2.2.2 i K0 h2 (by rw [h1]; rfl)
      exact vT_dir M K0 K n' b' hv hk
theorem vL_kidG : ∀ (nms : List ByteArray) (ks : List Tr) (ns : List ByteArray) (b : Int) (prev : Option ByteArray), (vL ns b prev nms ks).off = none → ∀ (i : Nat) (K : Tr), ks[i]? = some K → (nms[i]?).isSome = true → ∃ ns' b', (vT ns' b' K).off = none
  | [], _, _, _, _, _, i, K, _, h => by simp at h
  | _ :: _, [], _, _, _, _, i, K, h, _ => by simp at h
  | a :: nms, T :: ks, ns, b, prev, h, 0, K, h2, _ => by
    simp at h2
    subst h2
    exact ⟨_, _, (vL_parts h).2.2.2.1⟩
  | a :: nms, T :: ks, ns, b, prev, h, i + 1, K, h2, h1 => vL_kidG nms ks ns _ _ (vL_parts h).2.2.2.2 i K (by simpa using h2) (by simpa using h1)
end
/-- In a well-formed tree directories have neither mark nor text. -/
theorem off_plD {T : Tr} (h : (vT [] 24 T).off = none) : plD T := fun M K hK h3 => by
  obtain ⟨ns, b, hv⟩ := vT_dir M T K [] 24 h hK
  obtain ⟨k, e, t, nms, ks⟩ := K
  change k = 3 at h3
  have hc := (vT_parts hv).2.1
  subst h3
  unfold cfP at hc
  rw [if_neg (by decide), if_neg (by decide), if_pos rfl] at hc
  by_cases c : e = true ∨ t.size ≠ 0
  · rw [if_pos c] at hc; exact absurd hc (by decide)
  · show e = false ∧ t = _
    refine ⟨?_, ?_⟩
    · cases e with
      | false => rfl
      | true => exact absurd (Or.inl rfl) c
    · have hs : t.size = 0 := by
        by_cases z : t.size = 0
        · exact z
        · exact absurd (Or.inr z) c
      exact ByteArray.ext (Array.eq_empty_of_size_eq_zero hs)
end Go.Proofs.YtnggbemnblcnaaaDoor
namespace Go.Proofs.YtnggbemnblcnaaaDoor
open Go.RowKit

mutual
/-- All names of a well-formed tree's nodes are names, and not too many. -/
theorem rn_ok : ∀ (T : Tr) (ns : List ByteArray) (b : Int), (vT ns b T).off = none → (∀ z ∈ ns, chk z = 0) → ∀ p ∈ rnT ns T, p.1.length ≤ 31 ∧ ∀ z ∈ p.1, chk z = 0
  | .mk k e t nms ks, ns, b, h, hck, p, hp => by
    obtain ⟨h1, h2, h3, h4⟩ := vT_parts h
    rw [rnT] at hp
    rcases List.mem_cons.1 hp with rfl | hp
    · exact ⟨by show ns.length ≤ 31; omega, hck⟩
    · exact rnL_ok nms ks ns _ _ h4 hck p hp
theorem rnL_ok : ∀ (nms : List ByteArray) (ks : List Tr) (ns : List ByteArray) (b : Int) (prev : Option ByteArray), (vL ns b prev nms ks).off = none → (∀ z ∈ ns, chk z = 0) → ∀ p ∈ rnL ns nms ks, p.1.length ≤ 31 ∧ ∀ z ∈ p.1, chk z = 0
  | s :: nms, T :: ks, ns, b, prev, h, hck, p, hp => by
    obtain ⟨h1, h2, h3, h4, h5⟩ := vL_parts h
    rw [rnL] at hp
    rcases List.mem_append.1 hp with hp | hp
    · exact rn_ok T (ns ++ [s]) _ h4 (fun z hz => by
        rcases List.mem_append.1 hz with hz | hz
        · exact hck z hz
        · simp at hz; subst hz; exact h1) p hp
    · exact rnL_ok nms ks ns _ _ h5 hck p hp
  | [], [], ns, b, prev, _, _, p, hp => by simp [rnL] at hp
  | [], _ :: _, ns, b, prev, _, _, p, hp => by simp [rnL] at hp
  | _ :: _, [], ns, b, prev, _, _, p, hp => by simp [rnL] at hp
end
/-- A row's path splits into its node's names. -/
theorem rn_nm {nm : ByteArray → List ByteArray} (NO : NmOk nm) {T : Tr} (h : (vT [] 24 T).off = none) : ∀ p ∈ rnT [] T, nm (rnR p).1 = p.1 := fun p hp => by
  obtain ⟨h1, h2⟩ := rn_ok T [] 24 h (by intro z hz; cases hz) p hp
  exact NO p.1 h1 h2
/-- The run of rows that begin with names. -/
structure Run (nm : ByteArray → List ByteArray) (L : List ByteArray) (rows : List RW) (a c : Nat) : Prop where
  lo : ∀ i r, i < a → rows[i]? = some r → ¬ (L <+: nm r.1)
  mid : ∀ i r, a ≤ i → i < c → rows[i]? = some r → L <+: nm r.1
  hi : ∀ i r, c ≤ i → rows[i]? = some r → ¬ (L <+: nm r.1)
  le : a < c
  len : c ≤ rows.length
/-- Where the names lead somewhere, the rows there are a run; its first row is that node's. -/
theorem run_some {nm : ByteArray → List ByteArray} (NO : NmOk nm) {T K : Tr} {L : List ByteArray} (hv : (vT [] 24 T).off = none) (ha : ascT T) (hk : lk L T = some K) :
    ∃ A B, rnT [] T = A ++ rnT L K ++ B ∧ Run nm L (rwT [] T) A.length (A.length + (rnT L K).length) ∧ (rwT [] T)[A.length]? = some (joinB L, K.k, K.e, K.t) := by
  obtain ⟨A, B, e, hA, hB⟩ := rn_some L [] T K ha hk
  rw [List.nil_append] at e hA hB
  have er := rwT_rn T []
  have hn := rn_nm NO hv
  have hat : ∀ (i : Nat) (r : RW), (rwT [] T)[i]? = some r → ∃ p : List ByteArray × Tr, (rnT [] T)[i]? = some p ∧ nm r.1 = p.1 := fun i r hr => by
    rw [er, List.getElem?_map] at hr
    cases hp : (rnT [] T)[i]? with
    | none => rw [hp] at hr; cases hr
    | some p =>
      rw [hp] at hr
      cases hr
      exact ⟨p, rfl, hn p (List.mem_of_getElem? hp)⟩
  have hlen : (rnT [] T).length = A.length + (rnT L K).length + B.length := by rw [e, List.length_append, List.length_append]
  have hM : ∃ M, rnT L K = (L, K) :: M := by
    obtain ⟨k, e, t, nms, ks⟩ := K
    exact ⟨_, by rw [rnT]⟩
  obtain ⟨M, hM⟩ := hM
  refine ⟨A, B, e, ⟨fun i r hi hr => ?_, fun i r h1 h2 hr => ?_, fun i r hi hr => ?_, by rw [hM]; simp, by rw [er, List.length_map, hlen]; omega⟩, ?_⟩
  · obtain ⟨p, hp, en⟩ := hat i r hr
    rw [e, List.append_assoc, List.getElem?_append_left hi] at hp
    rw [en]
    exact hA p (List.mem_of_getElem? hp)
  · obtain ⟨p, hp, en⟩ := hat i r hr
    rw [e, List.append_assoc, List.getElem?_append_right h1, List.getElem?_append_left (by omega)] at hp
    rw [en]
    exact rnT_pre K L p (List.mem_of_getElem? hp)
  · obtain ⟨p, hp, en⟩ := hat i r hr
    rw [e, List.getElem?_append_right (by simp; omega)] at hp
    rw [en]
    exact hB p (List.mem_of_getElem? hp)
  · rw [er, List.getElem?_map, e, List.append_assoc, List.getElem?_append_right (Nat.le_refl _), Nat.sub_self, hM]
    rfl
theorem run_none {nm : ByteArray → List ByteArray} (NO : NmOk nm) {T : Tr} {L : List ByteArray} (hv : (vT [] 24 T).off = none) (ha : ascT T) (hk : lk L T = none) : ∀ r ∈ rwT [] T, ¬ (L <+: nm r.1) := fun r hr => by
  rw [rwT_rn] at hr
  obtain ⟨p, hp, rfl⟩ := List.mem_map.1 hr
  rw [rn_nm NO hv p hp]
  have := rn_none L [] T ha hk p hp
  rwa [List.nil_append] at this
end Go.Proofs.YtnggbemnblcnaaaDoor
namespace Go.Proofs.YtnggbemnblcnaaaDoor
open Go.RowKit

theorem pathN_ok : NmOk pathN := fun ns h1 h2 => by
  have := spN_ok ns h1 h2
  unfold spN at this
  split at this
  · injection this
  · cases this
/-- Way's code. -/
def wayC (T : Tr) (names : List ByteArray) : Int := match names.reverse with
  | [] => 0
  | _ :: r => (rchH r.reverse T).1
theorem wayC_snoc (T : Tr) (L : List ByteArray) (s : ByteArray) : wayC T (L ++ [s]) = (rchH L T).1 := by
  unfold wayC
  simp
theorem wayC_bad {T : Tr} {names : List ByteArray} {k : Nat} (hk : k < names.length) (hj : ∀ j, j < k → ∃ K, lk (names.take j) T = some K ∧ K.k = 3) :
    (lk (names.take k) T = none → wayC T names = 3) ∧ (∀ K, lk (names.take k) T = some K → K.k ≠ 3 → wayC T names = 65) := by
  have hne : names ≠ [] := fun e => by rw [e] at hk; simp at hk
  have en := List.dropLast_concat_getLast hne
  have hl : names.dropLast.length = names.length - 1 := by simp
  have ht : ∀ j, j < names.length → names.take j = names.dropLast.take j := fun j hj => by
    conv => lhs; rw [← en]
    rw [List.take_append_of_le_length (by omega)]
  have hw := way_rch names.dropLast T k (by omega) (fun j hjk => by rw [← ht j (by omega)]; exact hj j hjk)
  rw [← ht k hk] at hw
  have ew : wayC T names = (rchH names.dropLast T).1 := by
    conv => lhs; rw [← en]
    exact wayC_snoc _ _ _
  rw [ew]
  exact hw
theorem wayC_ok {T : Tr} {names : List ByteArray} (hj : ∀ j, j < names.length → ∃ K, lk (names.take j) T = some K ∧ K.k = 3) : wayC T names = 0 := by
  by_cases hne : names = []
  · subst hne; rfl
  have en := List.dropLast_concat_getLast hne
  have hl : names.dropLast.length = names.length - 1 := by simp
  have hp : 0 < names.length := List.length_pos_iff.2 hne
  have ew : wayC T names = (rchH names.dropLast T).1 := by
    conv => lhs; rw [← en]
    exact wayC_snoc _ _ _
  rw [ew]
  refine way_ok names.dropLast T (fun j hjl => ?_)
  have ht : names.take j = names.dropLast.take j := by
    conv => lhs; rw [← en]
    rw [List.take_append_of_le_length (by omega)]
  rw [← ht]
  exact hj j (by omega)
/-- Put by Way and graft. -/
theorem putT_way {T U : Tr} {p : ByteArray} (h : nmO [T, U] p = 0) (hw : wayC T (pathN p) ≠ 0) : putT T p U = (wayC T (pathN p), zT) := by
  by_cases hne : pathN p = []
  · rw [hne] at hw; exact absurd rfl hw
  have en := (List.dropLast_concat_getLast hne).symm
  rw [en] at hw ⊢
  rw [wayC_snoc] at hw ⊢
  rw [putT_snoc h en]
  unfold putN
  rw [if_pos hw]
theorem putT_graft {T U : Tr} {p : ByteArray} (h : nmO [T, U] p = 0) (hw : wayC T (pathN p) = 0) : (pathN p = [] ∧ putT T p U = (0, U) ∧ grf (pathN p) T U = U) ∨ putT T p U = putE (grf (pathN p) T U) := by
  by_cases hne : pathN p = []
  · refine Or.inl ⟨hne, ?_, by rw [hne, grf]⟩
    unfold putT
    rw [if_neg (by omega), hne]
    rfl
  · right
    have en := (List.dropLast_concat_getLast hne).symm
    rw [en] at hw ⊢
    rw [wayC_snoc] at hw
    rw [putT_snoc h en, grf_rep _ _ T U (off_plD (ckS_off (nmO_ck h).1 (by simp))) hw]
    unfold putN
    rw [if_neg (by omega)]
end Go.Proofs.YtnggbemnblcnaaaDoor
namespace Go.Proofs.YtnggbemnblcnaaaDoor
open Go.RowKit

theorem pos_le (ns : List ByteArray) (s : ByteArray) : pos ns s ≤ ns.length := List.findIdx_le_length
theorem pos_at {ns : List ByteArray} {s z : ByteArray} (h : ns[pos ns s]? = some z) : 0 ≤ cmpB z s := by
  obtain ⟨h1, rfl⟩ := List.getElem?_eq_some_iff.1 h
  have h2' : decide (0 ≤ cmpB ns[pos ns s] s) = true := List.findIdx_getElem (xs := ns) (p := fun n => decide (0 ≤ cmpB n s)) (w := h1)
  exact of_decide_eq_true h2'
theorem pos_beyond {ns : List ByteArray} {s z : ByteArray} (U : Up ns) {i : Nat} (hi : pos ns s < i) (h : ns[i]? = some z) : z ≠ s := fun e => by
  subst e
  obtain ⟨h1, h2⟩ := List.getElem?_eq_some_iff.1 h
  have hp : pos ns z < ns.length := by omega
  have h3 := U.at hi h1
  rw [nmA_of (List.getElem?_eq_getElem hp), nmA_of (List.getElem?_eq_getElem h1), h2] at h3
  have := pos_at (ns := ns) (s := z) (List.getElem?_eq_getElem hp)
  omega
/-- Behind the place: one further, where the name is there. -/
def posQ (ns : List ByteArray) (s : ByteArray) : Nat := if ns[pos ns s]? = some s then pos ns s + 1 else pos ns s
theorem posQ_yes {ns : List ByteArray} {s : ByteArray} (h : ns[pos ns s]? = some s) : posQ ns s = pos ns s + 1 := if_pos h
theorem posQ_no {ns : List ByteArray} {s : ByteArray} (h : ns[pos ns s]? ≠ some s) : posQ ns s = pos ns s := if_neg h
theorem find_pos {ns : List ByteArray} {s : ByteArray} (U : Up ns) : ns.findIdx? (fun n => decide (n = s)) = if ns[pos ns s]? = some s then some (pos ns s) else none := by
  have hlo : ∀ j z, j < pos ns s → ns[j]? = some z → z ≠ s := fun j z hj hz e => by
    have h0 := pos_lo hz hj
    rw [e] at h0
    have := cmpB_swap s s
    omega
  by_cases h : ns[pos ns s]? = some s
  · rw [if_pos h]
    obtain ⟨h1, h2⟩ := List.getElem?_eq_some_iff.1 h
    rw [List.findIdx?_eq_some_iff_getElem]
    refine ⟨h1, by simpa using h2, fun j hj => ?_⟩
    simpa using hlo j _ hj (List.getElem?_eq_getElem (by omega))
  · rw [if_neg h, List.findIdx?_eq_none_iff]
    intro z hz
    obtain ⟨j, hj, rfl⟩ := List.getElem_of_mem hz
    rcases Nat.lt_trichotomy j (pos ns s) with hl | hl | hl
    · simpa using hlo j _ hl (List.getElem?_eq_getElem hj)
    · subst hl
      simp only [decide_eq_false_iff_not]
      intro e
      exact h (by rw [List.getElem?_eq_getElem hj, e])
    · simpa using pos_beyond U hl (List.getElem?_eq_getElem hj)
/-- The kid of that name. -/
theorem sub_pos {ns : List ByteArray} {s : ByteArray} (U : Up ns) (ks : List Tr) : sub s ns ks = if ns[pos ns s]? = some s then ks[pos ns s]? else none := by
  rw [sub_find, find_pos U]
  by_cases h : ns[pos ns s]? = some s
  · rw [if_pos h, if_pos h]; rfl
  · rw [if_neg h, if_neg h]; rfl
/-- graft, told by the two lists. -/
theorem grf_at {s : ByteArray} {l : List ByteArray} {k : Int} {e : Bool} {t : ByteArray} {ns : List ByteArray} {ks : List Tr} {U : Tr} (hU : Up ns) (hl : ns.length = ks.length) :
    grf (s :: l) (.mk k e t ns ks) U = .mk 3 false ⟨#[]⟩ (ns.take (pos ns s) ++ s :: ns.drop (posQ ns s)) (ks.take (pos ns s) ++ grf l ((sub s ns ks).getD zT) U :: ks.drop (posQ ns s)) := by
  rw [grf]
  show putK (.mk 3 false ⟨#[]⟩ ns ks) s (grf l ((sub s ns ks).getD zT) U) = _
  generalize grf l ((sub s ns ks).getD zT) U = K
  unfold putK
  show (match ns.findIdx? (fun n => decide (n = s)) with | some i => _ | none => _) = _
  rw [find_pos hU]
  by_cases h : ns[pos ns s]? = some s
  · rw [if_pos h, posQ_yes h]
    obtain ⟨h1, h2⟩ := List.getElem?_eq_some_iff.1 h
    show Tr.mk 3 false ⟨#[]⟩ ns (ks.set (pos ns s) K) = _
    have e1 : ns.take (pos ns s) ++ s :: ns.drop (pos ns s + 1) = ns := by
      conv => rhs; rw [← List.take_append_drop (pos ns s) ns, List.drop_eq_getElem_cons h1, h2]
    have e2 : ks.set (pos ns s) K = ks.take (pos ns s) ++ K :: ks.drop (pos ns s + 1) := List.set_eq_take_append_cons_drop.trans (if_pos (by omega))
    rw [e1, e2]
  · rw [if_neg h, posQ_no h]
    rfl
end Go.Proofs.YtnggbemnblcnaaaDoor
