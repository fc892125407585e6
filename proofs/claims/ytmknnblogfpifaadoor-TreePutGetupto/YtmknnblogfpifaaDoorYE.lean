/- TyT TyU TyO, gathered (own text of the verifier; made by joint.py). -/
import Derived.Test.YtmknnblogfpifaaDoorYR
import Derived.Test.YtmknnblogfpifaaDoorTvL
import Derived.Test.YtmknnblogfpifaaDoorTqR
import Derived.Test.YtmknnblogfpifaaDoorTvO
namespace Go.Proofs.YtmknnblogfpifaaDoor
open Go.ChangeAt Go.ChangeShapes Go.RowKit Go.WideShapes

theorem smL_del : ∀ (nms : List ByteArray) (ks : List Tr) (i : Nat), smL nms ks → nms.length = ks.length → smL (nms.eraseIdx i) (ks.eraseIdx i)
  | [], _, i, _, _ => by rw [smL] <;> simp
  | _ :: _, [], i, _, h => by simp at h
  | s :: nms, T :: ks, 0, h, _ => by
    rw [smL] at h
    exact h.2.2
  | s :: nms, T :: ks, i + 1, h, hl => by
    rw [smL] at h
    rw [List.eraseIdx_cons_succ, List.eraseIdx_cons_succ, smL]
    exact ⟨h.1, h.2.1, smL_del nms ks i h.2.2 (by simpa using hl)⟩
theorem smT_del {P : Tr} (i : Nat) (h : smT P) (hl : P.nms.length = P.ks.length) : smT (delK P i) := by
  obtain ⟨k, e, t, nms, ks⟩ := P
  rw [smT] at h
  show smT (.mk k e t (nms.eraseIdx i) (ks.eraseIdx i))
  rw [smT]
  exact ⟨h.1, smL_del nms ks i h.2 hl⟩
mutual
theorem TrV.wf {w : World} {B : Nat} : ∀ (T : Tr) (v : Value) (fp : List Nat), TrV w B T v fp → wfT T
  | .mk k e t nms ks, v, fp, h => by
    rw [TrV] at h
    obtain ⟨cs, fq, _, h2, _⟩ := h
    rw [wfT]
    exact KidV.wf nms ks cs fq h2
theorem KidV.wf {w : World} {B : Nat} : ∀ (nms : List ByteArray) (ks : List Tr) (cs : List Value) (fq : List Nat), KidV w B nms ks cs fq → wfL nms ks
  | [], [], _, _, _ => by rw [wfL]; trivial
  | s :: nms, T :: ks, cs, fq, h => by
    rw [KidV] at h
    obtain ⟨v, cs', fp, fq', _, h2, h3, _⟩ := h
    rw [wfL]
    exact ⟨TrV.wf T v fp h2, KidV.wf nms ks cs' fq' h3⟩
  | [], _ :: _, cs, fq, h => by simp [KidV] at h
  | _ :: _, [], cs, fq, h => by simp [KidV] at h
end
theorem wfL_iff : ∀ (nms : List ByteArray) (ks : List Tr), wfL nms ks ↔ nms.length = ks.length ∧ ∀ T ∈ ks, wfT T
  | [], [] => by simp [wfL]
  | s :: nms, T :: ks => by
    rw [wfL, wfL_iff nms ks]
    simp
    constructor
    · rintro ⟨a, b, c⟩; exact ⟨b, a, c⟩
    · rintro ⟨a, b, c⟩; exact ⟨b, a, c⟩
  | [], _ :: _ => by simp [wfL]
  | _ :: _, [] => by simp [wfL]
theorem wfT_kid : ∀ k e t nms ks, wfT (.mk k e t nms ks) → ∀ (i : Nat) (s : ByteArray) (K : Tr), nms[i]? = some s → ks[i]? = some K → wfT K := fun k e t nms ks h i s K _ h2 => by
  rw [wfT] at h
  exact wfL_at _ _ h i K h2
theorem wfT_rch {T : Tr} (L : List ByteArray) (h : wfT T) : wfT (rch L T).2 := rch_keeps wfT wfT_kid L T h
theorem wfT_len {T : Tr} (h : wfT T) : T.nms.length = T.ks.length := by
  obtain ⟨k, e, t, nms, ks⟩ := T
  rw [wfT] at h
  exact wfL_len _ _ h
theorem wfT_put {T K : Tr} {s : ByteArray} (h : wfT T) (hK : wfT K) : wfT (putK T s K) := by
  obtain ⟨k, e, t, nms, ks⟩ := T
  rw [wfT, wfL_iff] at h
  unfold putK
  split
  · show wfT (.mk k e t nms (ks.set _ K))
    rw [wfT, wfL_iff]
    exact ⟨by rw [List.length_set]; exact h.1, fun T hT => by rcases List.mem_or_eq_of_mem_set hT with hT | rfl; exact h.2 T hT; exact hK⟩
  · show wfT (.mk k e t (nms.take (pos nms s) ++ s :: nms.drop (pos nms s)) (ks.take (pos nms s) ++ K :: ks.drop (pos nms s)))
    rw [wfT, wfL_iff]
    refine ⟨by simp; omega, fun T hT => ?_⟩
    rcases List.mem_append.1 hT with hT | hT
    · exact h.2 T (List.mem_of_mem_take hT)
    · rcases List.mem_cons.1 hT with rfl | hT
      · exact hK
      · exact h.2 T (List.mem_of_mem_drop hT)

theorem nmO_of {l : List Tr} {p : ByteArray} (h1 : ckS l = 0) (h2 : (pathF p).1 = 0) : nmO l p = 0 := by
  unfold nmO
  rw [if_neg (by omega)]
  exact h2
theorem ckS_one {T : Tr} (h : (ckT T).2 = 0) : ckS [T] = 0 := by
  unfold ckS
  rw [if_neg (by omega)]
  rfl
theorem ckS_two {T U : Tr} (h : (ckT T).2 = 0) (h' : (ckT U).2 = 0) : ckS [T, U] = 0 := by
  unfold ckS
  rw [if_neg (by omega)]
  exact ckS_one h'
theorem join_path {p : ByteArray} (h : (pathF p).1 = 0) : joinB (pathN p) = p ∧ ∀ s ∈ pathN p, chk s = 0 := by
  have := spN_right p (pathN p) (by unfold spN; rw [if_pos h])
  exact ⟨this.1, this.2.1⟩
theorem path_nil {p : ByteArray} (h : (pathF p).1 = 0) : pathN p = [] ↔ p.size = 0 := by
  constructor
  · intro h0
    have := (join_path h).1
    rw [h0] at this
    rw [← this]; rfl
  · intro h0
    unfold pathN
    rw [if_pos h0]

/-- One path begins with another. -/
def Pre (a b : ByteArray) : Prop := ∃ z, a ++ ⟨#[47]⟩ = b ++ ⟨#[47]⟩ ++ z
theorem joinB_pre : ∀ (r A : List ByteArray), A ≠ [] → Pre (joinB (A ++ r)) (joinB A)
  | [], A, _ => ⟨⟨#[]⟩, by rw [List.append_nil]; exact (ByteArray.append_empty).symm⟩
  | b :: r, A, hA => by
    obtain ⟨z, hz⟩ := joinB_pre r (A ++ [b]) (by simp)
    refine ⟨b ++ ⟨#[47]⟩ ++ z, ?_⟩
    rw [List.append_assoc] at hz
    rw [show A ++ b :: r = A ++ ([b] ++ r) from rfl, hz, joinB_snoc A b hA]
    simp [ByteArray.append_assoc]

/-- What the law tells of a tree in which something was put. -/
structure PG (T U M : Tr) (p : ByteArray) : Prop where
  off : (vT [] 24 M).off = none
  sm : smT M
  wf : wfT M
  pf : (pathF p).1 = 0
  get : getT M p = (0, U)
  root : p.size = 0 → M = U ∧ cutT M p = (66, zT)
  apart : ∀ q, p.size ≠ 0 → q.size ≠ 0 → ¬ Pre p q → ¬ Pre q p → getT T q = getT M q
  cut : p.size ≠ 0 → ∃ D, cutT M p = (0, D) ∧ smT D ∧ (vT [] 24 D).off = none ∧ getT D p = (3, zT) ∧ cutT D p = (3, zT) ∧ putT D p U = (0, M)

theorem rchH_of {L : List ByteArray} {T K : Tr} (h : rch L T = (0, K)) (hk : K.k = 3) : rchH L T = (0, K) := by
  unfold rchH
  rw [h, if_neg (fun h => h rfl), if_neg (fun h => h hk)]
theorem rchH_ok {L : List ByteArray} {T : Tr} (h : (rchH L T).1 = 0) : (rch L T).1 = 0 ∧ (rch L T).2.k = 3 := by
  unfold rchH at h
  by_cases h1 : (rch L T).1 ≠ 0
  · rw [if_pos h1] at h; exact absurd h h1
  · rw [if_neg h1] at h
    by_cases h2 : (rch L T).2.k ≠ 3
    · rw [if_pos h2] at h; exact absurd (show (65 : Int) = 0 from h) (by decide)
    · exact ⟨by omega, by omega⟩
theorem rch_one {s : ByteArray} {P K : Tr} {i : Nat} (hk : P.k = 3) (hf : P.nms.findIdx? (fun n => decide (n = s)) = some i) (hK : P.ks[i]? = some K) : rch [s] P = (0, K) := by
  obtain ⟨k, e, t, nms, ks⟩ := P
  exact rch_of hk hf hK
theorem rch_gone {s : ByteArray} {P : Tr} (hk : P.k = 3) (hf : P.nms.findIdx? (fun n => decide (n = s)) = none) : (rch [s] P).1 = 3 := by
  show (if P.k ≠ 3 then ((65 : Int), P) else match sub s P.nms P.ks with
    | none => (3, P)
    | some K => rch [] K).1 = 3
  rw [if_neg (by omega), sub_find, hf]
  rfl
theorem cutT_snoc {T : Tr} {p : ByteArray} {L : List ByteArray} {s : ByteArray} (h : nmO [T] p = 0) (hN : pathN p = L ++ [s]) : cutT T p = cutN T L s := by
  unfold cutT
  rw [if_neg (by omega), hN]
  simp
theorem putT_snoc {T U : Tr} {p : ByteArray} {L : List ByteArray} {s : ByteArray} (h : nmO [T, U] p = 0) (hN : pathN p = L ++ [s]) : putT T p U = putN T U L s := by
  unfold putT
  rw [if_neg (by omega), hN]
  simp
theorem getT_of {T K : Tr} {p : ByteArray} (h : nmO [T] p = 0) (hr : rch (pathN p) T = (0, K)) : getT T p = (0, K) := by
  unfold getT
  rw [if_neg (by omega), hr, if_neg (fun h => h rfl)]
theorem getT_bad {T : Tr} {p : ByteArray} {c : Int} (h : nmO [T] p = 0) (hr : (rch (pathN p) T).1 = c) (hc : c ≠ 0) : getT T p = (c, zT) := by
  unfold getT
  rw [if_neg (by omega), hr, if_pos hc]

theorem put_get {T U : Tr} {p : ByteArray} (sT : smT T) (sU : smT U) (wT : wfT T) (wU : wfT U) (h : (putT T p U).1 = 0) : PG T U (putT T p U).2 p := by
  have hnm : nmO [T, U] p = 0 := by
    by_cases hc : nmO [T, U] p ≠ 0
    · unfold putT at h
      rw [if_pos hc] at h
      exact absurd h hc
    · omega
  obtain ⟨hck, hpf⟩ := nmO_ck hnm
  have oT := ckS_off hck (T := T) (by simp)
  have oU := ckS_off hck (T := U) (by simp)
  rcases List.eq_nil_or_concat (pathN p) with hN | ⟨L, s, hN⟩
  · have hz := (path_nil hpf).1 hN
    have hM : putT T p U = (0, U) := by
      unfold putT
      rw [if_neg (by omega), hN]
      rfl
    rw [hM]
    have nU : nmO [U] p = 0 := nmO_of (ckS_one (off_ck oU)) hpf
    refine ⟨oU, sU, wU, hpf, getT_of nU (by rw [hN]; rfl), fun _ => ⟨rfl, ?_⟩, fun q h1 => absurd hz h1, fun h1 => absurd hz h1⟩
    show cutT U p = _
    unfold cutT
    rw [if_neg (by omega), hN]
    rfl
  · rw [List.concat_eq_append] at hN
    have hz : p.size ≠ 0 := fun h0 => by
      have := (path_nil hpf).2 h0
      rw [hN] at this
      simp at this
    have hsm : s.size ≤ 1048576 := by
      have := chk_short s ((join_path hpf).2 s (by rw [hN]; simp))
      omega
    rw [putT_snoc hnm hN] at h ⊢
    unfold putN at h ⊢
    by_cases hr : (rchH L T).1 ≠ 0
    · rw [if_pos hr] at h; exact absurd h hr
    · rw [if_neg hr] at h ⊢
      obtain ⟨r1, r2⟩ := rchH_ok (by omega : (rchH L T).1 = 0)
      have aT := vT_asc T [] 24 wT oT
      have uH : Up (rch L T).2.nms ∧ True := ⟨by
        have := rch_keeps ascT (fun k e t nms ks h i s K _ h2 => by rw [ascT] at h; exact ascL_at ks i K h.2 h2) L T aT
        generalize (rch L T).2 = Q at this
        obtain ⟨_, _, _, _, _⟩ := Q
        rw [ascT] at this
        exact this.1, trivial⟩
      have wH := wfT_rch L wT
      have lH := wfT_len wH
      obtain ⟨i, p1, p2, p3, p4, p5⟩ := putK_at uH.1 lH s U
      have wP := wfT_put (s := s) wH wU
      have sP := smT_put (smT_rch L sT) sU hsm lH
      have hap := fun (M : List ByteArray) => rch_apart (s := s) (X := U) L M T wT r1
      have rP := rch_rep L T (putK (rch L T).2 s U) r1
      have kP : (putK (rch L T).2 s U).k = 3 := by rw [p5]; exact r2
      have sM := smT_rep L sT sP
      generalize putK (rch L T).2 s U = P at h hap rP kP p1 p2 p3 p4 p5 wP sP sM ⊢
      unfold putE at h ⊢
      by_cases hc : (ckT (repT L T P)).2 ≠ 0
      · rw [if_pos hc] at h; exact absurd h hc
      · rw [if_neg hc]
        have oM : (vT [] 24 (repT L T P)).off = none := ckT_zero (by omega)
        have cM : (ckT (repT L T P)).2 = 0 := by omega
        have nM : nmO [repT L T P] p = 0 := nmO_of (ckS_one cM) hpf
        have fP := p3.find p1
        have hi : i < P.nms.length := (List.getElem?_eq_some_iff.1 p1).1
        have lg : Lgt (repT L T (delK P i)) (repT L T P) := Lgt.rep (Lgt.del wP hi) L T r1
        have oD := lg.2 [] 24 oM
        have nD : nmO [repT L T (delK P i)] p = 0 := nmO_of (ckS_one (off_ck oD)) hpf
        have rD := rch_rep L T (delK P i) r1
        have fD := erase_none p3 p1
        have kD : (delK P i).k = 3 := kP
        refine ⟨oM, sM, ?_, hpf, ?_, fun h0 => absurd h0 hz, ?_, fun _ => ⟨repT L T (delK P i), ?_, smT_rep L sT (smT_del i sP p4), oD, ?_, ?_, ?_⟩⟩
        · exact rep_keeps wfT wfT_kid (fun k e t nms ks h i K hK => by
            rw [wfT, wfL_iff] at h ⊢
            exact ⟨by rw [List.length_set]; exact h.1, fun T hT => by rcases List.mem_or_eq_of_mem_set hT with hT | rfl; exact h.2 T hT; exact hK⟩) P wP L T wT
        · refine getT_of nM ?_
          rw [hN, rch_app L [s] _ (by rw [rP]), rP]
          exact rch_one kP fP p2
        · intro q _ hq h1 h2
          have nTq : nmO [T] q = (pathF q).1 := by
            unfold nmO
            rw [if_neg (by rw [ckS_one (off_ck oT)]; decide)]
          have nMq : nmO [repT L T P] q = (pathF q).1 := by
            unfold nmO
            rw [if_neg (by rw [ckS_one cM]; decide)]
          unfold getT
          rw [nTq, nMq]
          by_cases hpq : (pathF q).1 ≠ 0
          · rw [if_pos hpq, if_pos hpq]
          · rw [if_neg hpq, if_neg hpq]
            have hpq0 : (pathF q).1 = 0 := by omega
            have hqn : pathN q ≠ [] := fun h0 => hq ((path_nil hpq0).1 h0)
            obtain ⟨g1, g2⟩ := hap (pathN q) (fun hp => h1 (by
              obtain ⟨r, hr⟩ := hp
              rw [← (join_path hpf).1, ← (join_path hpq0).1, hN, ← hr]
              exact joinB_pre r _ hqn)) (fun hp => h2 (by
              obtain ⟨r, hr⟩ := hp
              rw [← (join_path hpf).1, ← (join_path hpq0).1, hN, ← hr]
              exact joinB_pre r _ (by simp)))
            rw [g1]
            by_cases hrq : (rch (pathN q) T).1 ≠ 0
            · rw [if_pos hrq, if_pos hrq]
            · rw [if_neg hrq, if_neg hrq]
              exact Prod.ext g1.symm (g2 (by omega)).symm
        · rw [cutT_snoc nM hN]
          unfold cutN
          rw [rchH_of rP kP, if_neg (fun h => h rfl), rP, fP]
          show ((0 : Int), repT L (repT L T P) (delK P i)) = _
          rw [rep_rep L T P _ r1]
        · refine getT_bad nD ?_ (by decide)
          rw [hN, rch_app L [s] _ (by rw [rD]), rD]
          exact rch_gone kD fD
        · rw [cutT_snoc nD hN]
          unfold cutN
          rw [rchH_of rD kD, if_neg (fun h => h rfl), rD]
          show (match (delK P i).nms.findIdx? (fun n => decide (n = s)) with
            | none => ((3 : Int), zT)
            | some j => (0, repT L (repT L T (delK P i)) (delK (delK P i) j))) = _
          rw [show (delK P i).nms.findIdx? (fun n => decide (n = s)) = none from fD]
        · rw [putT_snoc (nmO_of (ckS_two (off_ck oD) (off_ck oU)) hpf) hN]
          unfold putN
          rw [rchH_of rD kD, if_neg (fun h => h rfl), rD, putK_back p3 p1 p2, rep_rep L T _ _ r1]
          unfold putE
          rw [if_neg (by omega)]

/-- Begins one text with another? -/
def Bgn (a b : ByteArray) (r : Bool) : Prop := (∃ z, a = b ++ z) → r = true
theorem ext_app (b z : ByteArray) : (b ++ z).extract 0 b.size = b := by
  apply ByteArray.ext
  simp

def BgP (a b : ByteArray) (w : World) (e : Ending) (w' : World) : Prop := (∃ r, e = .returned (.bool r) ∧ Bgn a b r) ∧ Below w.heap.size w w'
set_option maxHeartbeats 800000 in
theorem begins_any (a b : ByteArray) (w : World) (ha : a.size ≤ 9223372036854775807) :
    Calls Tryd.prog 33 #[.string a, .string b] w (BgP a b w) := by
  go_enter Tryd.func33, Tryd.ntmps33
  by_cases h : b.size ≤ a.size
  · have h' : (b.size : Int) ≤ (a.size : Int) := by omega
    go_wp2
    go_ret
    refine ⟨⟨_, rfl, ?_⟩, Below.refl _ _⟩
    rintro ⟨z, rfl⟩
    rw [ext_app]
    simp
  · have h' : ¬ (b.size : Int) ≤ (a.size : Int) := by omega
    go_wp2
    go_ret
    refine ⟨⟨_, rfl, ?_⟩, Below.refl _ _⟩
    rintro ⟨z, rfl⟩
    rw [ByteArray.size_append] at h
    omega

/-- What apart tells. -/
def Apt (a b : ByteArray) (r : Bool) : Prop := r = true → a.size ≠ 0 ∧ b.size ≠ 0 ∧ ¬ Pre a b ∧ ¬ Pre b a
def ApP (a b : ByteArray) (w : World) (e : Ending) (w' : World) : Prop := (∃ r, e = .returned (.bool r) ∧ Apt a b r) ∧ Below w.heap.size w w'
theorem ApP.no {a b : ByteArray} {w w' : World} (h : Below w.heap.size w w') : ApP a b w (.returned (.bool false)) w' := ⟨⟨false, rfl, fun h => by cases h⟩, h⟩
set_option maxHeartbeats 4000000 in
theorem apart_any (a b : ByteArray) (w : World) (ha : a.size ≤ 1048576) (hb : b.size ≤ 1048576) :
    Calls Tryd.prog 15 #[.string a, .string b] w (ApP a b w) := by
  have s1 : (a ++ ⟨#[47]⟩).size = a.size + 1 := by rw [ByteArray.size_append]; rfl
  have s2 : (b ++ ⟨#[47]⟩).size = b.size + 1 := by rw [ByteArray.size_append]; rfl
  have B1 : ∀ W, Calls Tryd.prog 33 #[.string (a ++ ⟨#[47]⟩), .string (b ++ ⟨#[47]⟩)] W (BgP (a ++ ⟨#[47]⟩) (b ++ ⟨#[47]⟩) W) := fun W => begins_any _ _ W (by omega)
  have B2 : ∀ W, Calls Tryd.prog 33 #[.string (b ++ ⟨#[47]⟩), .string (a ++ ⟨#[47]⟩)] W (BgP (b ++ ⟨#[47]⟩) (a ++ ⟨#[47]⟩) W) := fun W => begins_any _ _ W (by omega)
  clear s1 s2
  go_enter Tryd.func15, Tryd.ntmps15
  cases hab : (a.toList == b.toList) with
  | true =>
    go_wp2
    go_ret
    exact ApP.no (Below.refl _ _)
  | false =>
    go_wp2_with fail
    refine (B1 w).mono ?_
    rintro e1 w1 ⟨⟨r1, rfl, h1⟩, b1⟩
    have HB1 : Hid (Below w.heap.size w w1) := b1
    clear b1
    cases r1 with
    | true =>
      go_wp2
      go_ret
      exact ApP.no HB1.out
    | false =>
      go_wp2_with fail
      refine (B2 w1).mono ?_
      rintro e2 w2 ⟨⟨r2, rfl, h2⟩, b2⟩
      have HB2 : Hid (Below w.heap.size w w2) := HB1.out.trans (b2.mono HB1.out.size)
      clear b2
      cases r2 with
      | true =>
        go_wp2
        go_ret
        exact ApP.no HB2.out
      | false =>
        have q1 : ¬ Pre a b := fun hp => by have := h1 hp; cases this
        have q2 : ¬ Pre b a := fun hp => by have := h2 hp; cases this
        have HQ : Hid (¬ Pre a b ∧ ¬ Pre b a) := ⟨q1, q2⟩
        clear q1 q2 h1 h2
        cases hae : a.toList.isEmpty with
        | true =>
          go_wp2
          go_ret
          exact ApP.no HB2.out
        | false =>
          cases hbe : b.toList.isEmpty with
          | true =>
            go_wp2
            go_ret
            exact ApP.no HB2.out
          | false =>
            go_wp2
            go_ret
            rw [empty_iff] at hae hbe
            exact ⟨⟨true, rfl, fun _ => ⟨of_decide_eq_false hae, of_decide_eq_false hbe, HQ.out.1, HQ.out.2⟩⟩, HB2.out⟩

theorem NdP.out {c : Int} {R : Tr} {w : World} {e : Ending} {w' : World} (h : NdP (c, R) w e w') : ∃ y cp fp, e = .returned (.tuple #[.agg #[.int .i64 R.k, .bool R.e, .string R.t, .slice y R.nms.length cp], .int .i64 c]) ∧ TrV w' w.heap.size R (.slice y R.nms.length cp) fp ∧ Below w.heap.size w w' := by
  obtain ⟨⟨x, fp, h1, h2, h3⟩, h4⟩ := h
  obtain ⟨y, cp, rfl⟩ := TrV.shape (T := R) h2
  exact ⟨y, cp, fp, h1, h2, h4⟩
theorem putT_bad {T U : Tr} {p : ByteArray} (h : (putT T p U).1 ≠ 0) : (putT T p U).2 = zT := by
  unfold putT at h ⊢
  by_cases h1 : nmO [T, U] p ≠ 0
  · rw [if_pos h1]
  · rw [if_neg h1] at h ⊢
    cases hr : (pathN p).reverse with
    | nil => rw [hr] at h; exact absurd rfl h
    | cons s r =>
      rw [hr] at h
      show (putN T U r.reverse s).2 = zT
      have h : (putN T U r.reverse s).1 ≠ 0 := h
      unfold putN at h ⊢
      by_cases h2 : (rchH r.reverse T).1 ≠ 0
      · rw [if_pos h2]
      · rw [if_neg h2] at h ⊢
        unfold putE at h ⊢
        split at h
        · rename_i h3; rw [if_pos h3]
        · exact absurd rfl h
theorem putT_nm {T U : Tr} {p : ByteArray} (h : (putT T p U).1 = 0) : nmO [T, U] p = 0 := by
  by_cases hc : nmO [T, U] p ≠ 0
  · unfold putT at h
    rw [if_pos hc] at h
    exact absurd h hc
  · omega
theorem lnT_zero : lnT zT := by
  unfold zT
  rw [lnT, lnL]
  exact ⟨by simp, trivial⟩
theorem At_zero (w : World) : At w 1 (.agg #[.int .i64 0, .bool false, .string ⟨#[]⟩, .slice none 0 0]) zT := ⟨none, 0, 0, rfl, rfl, rfl, Nat.le_refl _, by omega, .inl rfl⟩
theorem getT_ln {T : Tr} (q : ByteArray) (hw : wfT T) : lnT (getT T q).2 := by
  unfold getT
  by_cases h1 : nmO [T] q ≠ 0
  · rw [if_pos h1]; exact lnT_zero
  · rw [if_neg h1]
    by_cases h2 : (rch (pathN q) T).1 ≠ 0
    · rw [if_pos h2]; exact lnT_zero
    · rw [if_neg h2]
      exact lnB_ln (by decide) _ (lnB_rch _ (ck_ln hw (ckS_off (nmO_ck (by omega : nmO [T] q = 0)).1 (by simp))))
theorem ckT_of {T : Tr} (h : (vT [] 24 T).off = none) : ckT T = (⟨#[]⟩, 0) := by unfold ckT; rw [h]

set_option maxHeartbeats 16000000 in
set_option maxRecDepth 10000 in
theorem putget_walk (f fu : Nat) (k : Int) (e : Bool) (t : ByteArray) (z : Option Addr) (n cz : Nat) (T : Tr) (p : ByteArray) (ku : Int) (eu : Bool) (tu : ByteArray) (zu : Option Addr) (nu czu : Nat) (U : Tr) (q : ByteArray) (w : World) (hA : At w f (.agg #[Value.int IntKind.i64 k, Value.bool e, Value.string t, Value.slice z n cz]) T) (hS : smT T) (hU : At w fu (.agg #[Value.int IntKind.i64 ku, Value.bool eu, Value.string tu, Value.slice zu nu czu]) U) (hSU : smT U) (hp : p.size ≤ 1048576) (hq : q.size ≤ 1048576) :
    Calls Tryd.prog 5 #[.agg #[Value.int IntKind.i64 k, Value.bool e, Value.string t, Value.slice z n cz], .string p, .agg #[Value.int IntKind.i64 ku, Value.bool eu, Value.string tu, Value.slice zu nu czu, Value.string q]] w fun en w' => en = .returned (.bool true) ∧ Below w.heap.size w w' := by
  have HH : Hid (At w f (.agg #[Value.int IntKind.i64 k, Value.bool e, Value.string t, Value.slice z n cz]) T ∧ smT T ∧ wfT T ∧ At w fu (.agg #[Value.int IntKind.i64 ku, Value.bool eu, Value.string tu, Value.slice zu nu czu]) U ∧ smT U ∧ wfT U) := ⟨hA, hS, At.wf _ _ _ hA, hU, hSU, At.wf _ _ _ hU⟩
  clear hA hS hU hSU
  go_enter Tryd.func5, Tryd.ntmps5
  go_wp2_with fail
  have hs1 : (w.alloc (Obj.cells #[Value.int IntKind.i64 k, Value.bool e, Value.string t, Value.slice z n cz] 25)).heap.size = w.heap.size + 1 := World.size_alloc _ _
  have b1 : Below w.heap.size w (w.alloc (Obj.cells #[Value.int IntKind.i64 k, Value.bool e, Value.string t, Value.slice z n cz] 25)) := (Below.refl _ _).alloc (Nat.le_refl _) _
  have b2 : Below (w.alloc (Obj.cells #[Value.int IntKind.i64 k, Value.bool e, Value.string t, Value.slice z n cz] 25)).heap.size (w.alloc (Obj.cells #[Value.int IntKind.i64 k, Value.bool e, Value.string t, Value.slice z n cz] 25)) ((w.alloc (Obj.cells #[Value.int IntKind.i64 k, Value.bool e, Value.string t, Value.slice z n cz] 25)).alloc (Obj.cells #[Value.int IntKind.i64 ku, Value.bool eu, Value.string tu, Value.slice zu nu czu, Value.string q] 43)) := (Below.refl _ _).alloc (Nat.le_refl _) _
  have HB : Hid (Below w.heap.size w ((w.alloc (Obj.cells #[Value.int IntKind.i64 k, Value.bool e, Value.string t, Value.slice z n cz] 25)).alloc (Obj.cells #[Value.int IntKind.i64 ku, Value.bool eu, Value.string tu, Value.slice zu nu czu, Value.string q] 43))) := b1.trans (b2.mono b1.size)
  have HT : Hid (NP ((w.alloc (Obj.cells #[Value.int IntKind.i64 k, Value.bool e, Value.string t, Value.slice z n cz] 25)).alloc (Obj.cells #[Value.int IntKind.i64 ku, Value.bool eu, Value.string tu, Value.slice zu nu czu, Value.string q] 43)) f w.heap.size 0 T) := (NP.new HH.out.1 25).below b2
  have HU : Hid (NP ((w.alloc (Obj.cells #[Value.int IntKind.i64 k, Value.bool e, Value.string t, Value.slice z n cz] 25)).alloc (Obj.cells #[Value.int IntKind.i64 ku, Value.bool eu, Value.string tu, Value.slice zu nu czu, Value.string q] 43)) fu (w.heap.size + 1) 0 U) := by
    obtain ⟨e1, e2, e3⟩ := HH.out.2.2.2.1.NP
    refine ⟨by rw [World.size_alloc, hs1]; omega, zu, nu, czu, ?_, ?_, ?_, ?_, ?_⟩
    · rw [← hs1, World.cell?_alloc_new, e1]; rfl
    · rw [← hs1, World.cell?_alloc_new, e2]; rfl
    · rw [← hs1, World.cell?_alloc_new, e3]; rfl
    · rw [← hs1, World.cell?_alloc_new]; rfl
    · rw [e1, e2, e3]; exact HH.out.2.2.2.1.below HB.out
  have HQ : Hid (((w.alloc (Obj.cells #[Value.int IntKind.i64 k, Value.bool e, Value.string t, Value.slice z n cz] 25)).alloc (Obj.cells #[Value.int IntKind.i64 ku, Value.bool eu, Value.string tu, Value.slice zu nu czu, Value.string q] 43)).cell? ⟨w.heap.size + 1, 4, none⟩ = some (.string q) ∧ w.heap.size + 1 < ((w.alloc (Obj.cells #[Value.int IntKind.i64 k, Value.bool e, Value.string t, Value.slice z n cz] 25)).alloc (Obj.cells #[Value.int IntKind.i64 ku, Value.bool eu, Value.string tu, Value.slice zu nu czu, Value.string q] 43)).heap.size) := ⟨by rw [← hs1, World.cell?_alloc_new]; rfl, by rw [World.size_alloc, hs1]; omega⟩
  clear hs1 b1 b2
  obtain ⟨GT, hGT⟩ : ∃ GT, w.heap.size = GT := ⟨_, rfl⟩
  have HGT : Hid (w.heap.size = GT) := hGT
  obtain ⟨GU, hGU⟩ : ∃ GU, GT + 1 = GU := ⟨_, rfl⟩
  rw [hGT] at HT HU HQ ⊢
  rw [hGU] at HU HQ ⊢
  clear hGT hGU
  generalize ((w.alloc (Obj.cells #[Value.int IntKind.i64 k, Value.bool e, Value.string t, Value.slice z n cz] 25)).alloc (Obj.cells #[Value.int IntKind.i64 ku, Value.bool eu, Value.string tu, Value.slice zu nu czu, Value.string q] 43)) = w1 at *
  refine (awake_any w1).mono ?_
  rintro en w2 ⟨rfl, b2⟩
  obtain ⟨fT, hfT⟩ : ∃ fT, f = fT := ⟨_, rfl⟩
  obtain ⟨fU, hfU⟩ : ∃ fU, fu = fU := ⟨_, rfl⟩
  rw [hfT] at HT
  rw [hfU] at HU
  clear hfT hfU
  replace HT : Hid (NP w2 fT GT 0 T) := HT.out.below b2
  replace HU : Hid (NP w2 fU GU 0 U) := HU.out.below b2
  replace HQ : Hid (w2.cell? ⟨GU, 4, none⟩ = some (.string q) ∧ GU < w2.heap.size) := ⟨((b2).cell (p := ⟨GU, 4, none⟩) HQ.out.2).trans HQ.out.1, Nat.lt_of_lt_of_le HQ.out.2 (b2).size⟩
  replace HB : Hid (Below w.heap.size w w2) := HB.out.trans ((b2).mono HB.out.size)
  clear b2
  obtain ⟨lT, xT, nT, cT, aT0, aT1, aT2, aT3, hAT⟩ := HT.out
  simp only [Nat.zero_add] at aT1 aT2 aT3
  have HAT : Hid (At w2 fT (.agg #[.int .i64 T.k, .bool T.e, .string T.t, .slice xT nT cT]) T) := hAT
  clear hAT
  obtain ⟨lU, xU, nU, cU, aU0, aU1, aU2, aU3, hAU⟩ := HU.out
  simp only [Nat.zero_add] at aU1 aU2 aU3
  have HAU : Hid (At w2 fU (.agg #[.int .i64 U.k, .bool U.e, .string U.t, .slice xU nU cU]) U) := hAU
  clear hAU
  go_wp2_with fail
  obtain ⟨c, M, hM⟩ : ∃ c M, putT T p U = (c, M) := ⟨_, _, rfl⟩
  have HM0 : Hid (putT T p U = (c, M)) := hM
  clear hM
  by_cases hc : c = 0
  · subst hc
    have HPG : Hid (PG T U M p) := by have h0 := put_get (T := T) (U := U) (p := p) HH.out.2.1 HH.out.2.2.2.2.1 HH.out.2.2.1 HH.out.2.2.2.2.2 (by rw [HM0.out]); rw [HM0.out] at h0; exact h0
    have HNM : Hid (nmO [T, U] p = 0) := putT_nm (by rw [HM0.out])
    have HLM : Hid (lnT M) := lnB_ln (by decide) M (ck_ln HPG.out.wf HPG.out.off)
    have C2 := put_any fT fU _ _ _ _ _ _ T p _ _ _ _ _ _ U w2 hp HAT.out HH.out.2.1 HAU.out HH.out.2.2.2.2.1
    rw [HM0.out] at C2
    refine C2.mono ?_
    clear C2
    rintro en wa2 hN2
    obtain ⟨yM, pM, f2, rfl, hV2, b2⟩ := hN2.out
    obtain ⟨fM, hA2⟩ := TrV.at M _ _ hV2 HLM.out
    clear aT0 aT1 aT2 aT3 lT HAT aU0 aU1 aU2 aU3 lU HAU
    replace HT : Hid (NP wa2 fT GT 0 T) := HT.out.below b2
    replace HU : Hid (NP wa2 fU GU 0 U) := HU.out.below b2
    replace HQ : Hid (wa2.cell? ⟨GU, 4, none⟩ = some (.string q) ∧ GU < wa2.heap.size) := ⟨((b2).cell (p := ⟨GU, 4, none⟩) HQ.out.2).trans HQ.out.1, Nat.lt_of_lt_of_le HQ.out.2 (b2).size⟩
    replace HB : Hid (Below w.heap.size w wa2) := HB.out.trans ((b2).mono HB.out.size)
    clear b2 hV2 hN2
    have HA2 : Hid (At wa2 fM (.agg #[.int .i64 M.k, .bool M.e, .string M.t, .slice yM M.nms.length pM]) M) := hA2
    clear hA2
    go_upto_region 4 with fail
    have b2 : Below wa2.heap.size wa2 (wa2.alloc (Obj.cells #[Value.int IntKind.i64 M.k, Value.bool M.e, Value.string M.t, Value.slice yM M.nms.length pM] 25)) := (Below.refl _ _).alloc (Nat.le_refl _) _
    have HM : Hid (NP (wa2.alloc (Obj.cells #[Value.int IntKind.i64 M.k, Value.bool M.e, Value.string M.t, Value.slice yM M.nms.length pM] 25)) fM wa2.heap.size 0 M) := NP.new HA2.out 25
    replace HT : Hid (NP (wa2.alloc (Obj.cells #[Value.int IntKind.i64 M.k, Value.bool M.e, Value.string M.t, Value.slice yM M.nms.length pM] 25)) fT GT 0 T) := HT.out.below b2
    replace HU : Hid (NP (wa2.alloc (Obj.cells #[Value.int IntKind.i64 M.k, Value.bool M.e, Value.string M.t, Value.slice yM M.nms.length pM] 25)) fU GU 0 U) := HU.out.below b2
    replace HQ : Hid ((wa2.alloc (Obj.cells #[Value.int IntKind.i64 M.k, Value.bool M.e, Value.string M.t, Value.slice yM M.nms.length pM] 25)).cell? ⟨GU, 4, none⟩ = some (.string q) ∧ GU < (wa2.alloc (Obj.cells #[Value.int IntKind.i64 M.k, Value.bool M.e, Value.string M.t, Value.slice yM M.nms.length pM] 25)).heap.size) := ⟨((b2).cell (p := ⟨GU, 4, none⟩) HQ.out.2).trans HQ.out.1, Nat.lt_of_lt_of_le HQ.out.2 (b2).size⟩
    replace HB : Hid (Below w.heap.size w (wa2.alloc (Obj.cells #[Value.int IntKind.i64 M.k, Value.bool M.e, Value.string M.t, Value.slice yM M.nms.length pM] 25))) := HB.out.trans ((b2).mono HB.out.size)
    clear b2 HA2
    obtain ⟨GM, hGM⟩ : ∃ GM, wa2.heap.size = GM := ⟨_, rfl⟩
    rw [hGM] at HM ⊢
    generalize wa2.alloc (Obj.cells #[Value.int IntKind.i64 M.k, Value.bool M.e, Value.string M.t, Value.slice yM M.nms.length pM] 25) = wb2 at *
    clear hGM
    obtain ⟨lM, xM, nM, cM, aM0, aM1, aM2, aM3, hAM⟩ := HM.out
    simp only [Nat.zero_add] at aM1 aM2 aM3
    have HAM : Hid (At wb2 fM (.agg #[.int .i64 M.k, .bool M.e, .string M.t, .slice xM nM cM]) M) := hAM
    clear hAM
    go_wp2_with fail
    have CK := check_tree fM _ M wb2 HAM.out HPG.out.sm
    rw [ckT_of HPG.out.off] at CK
    refine CK.mono ?_
    clear CK
    rintro en wc ⟨rfl, bc⟩
    clear aM0 aM1 aM2 aM3 lM HAM
    replace HT : Hid (NP wc fT GT 0 T) := HT.out.below bc
    replace HU : Hid (NP wc fU GU 0 U) := HU.out.below bc
    replace HM : Hid (NP wc fM GM 0 M) := HM.out.below bc
    replace HQ : Hid (wc.cell? ⟨GU, 4, none⟩ = some (.string q) ∧ GU < wc.heap.size) := ⟨((bc).cell (p := ⟨GU, 4, none⟩) HQ.out.2).trans HQ.out.1, Nat.lt_of_lt_of_le HQ.out.2 (bc).size⟩
    replace HB : Hid (Below w.heap.size w wc) := HB.out.trans ((bc).mono HB.out.size)
    clear bc
    obtain ⟨lM, xM, nM, cM, aM0, aM1, aM2, aM3, hAM⟩ := HM.out
    simp only [Nat.zero_add] at aM1 aM2 aM3
    have HAM : Hid (At wc fM (.agg #[.int .i64 M.k, .bool M.e, .string M.t, .slice xM nM cM]) M) := hAM
    clear hAM
    go_wp2_with fail
    have C3 := get_any fM _ _ _ _ _ _ M p wc hp HAM.out HPG.out.sm
    rw [HPG.out.get] at C3
    refine C3.mono ?_
    clear C3
    rintro en wa3 hN3
    obtain ⟨yN, pN, f3, rfl, hV3, b3⟩ := hN3.out
    obtain ⟨fN, hA3⟩ := TrV.at U _ _ hV3 (lnB_ln (by decide) U (ck_ln HH.out.2.2.2.2.2 (ckS_off (nmO_ck HNM.out).1 (by simp))))
    clear aM0 aM1 aM2 aM3 lM HAM
    replace HT : Hid (NP wa3 fT GT 0 T) := HT.out.below b3
    replace HU : Hid (NP wa3 fU GU 0 U) := HU.out.below b3
    replace HM : Hid (NP wa3 fM GM 0 M) := HM.out.below b3
    replace HQ : Hid (wa3.cell? ⟨GU, 4, none⟩ = some (.string q) ∧ GU < wa3.heap.size) := ⟨((b3).cell (p := ⟨GU, 4, none⟩) HQ.out.2).trans HQ.out.1, Nat.lt_of_lt_of_le HQ.out.2 (b3).size⟩
    replace HB : Hid (Below w.heap.size w wa3) := HB.out.trans ((b3).mono HB.out.size)
    clear b3 hV3 hN3
    have HA3 : Hid (At wa3 fN (.agg #[.int .i64 U.k, .bool U.e, .string U.t, .slice yN U.nms.length pN]) U) := hA3
    clear hA3
    go_upto_region 8 with fail
    have b3 : Below wa3.heap.size wa3 (wa3.alloc (Obj.cells #[Value.int IntKind.i64 U.k, Value.bool U.e, Value.string U.t, Value.slice yN U.nms.length pN] 25)) := (Below.refl _ _).alloc (Nat.le_refl _) _
    have HN : Hid (NP (wa3.alloc (Obj.cells #[Value.int IntKind.i64 U.k, Value.bool U.e, Value.string U.t, Value.slice yN U.nms.length pN] 25)) fN wa3.heap.size 0 U) := NP.new HA3.out 25
    replace HT : Hid (NP (wa3.alloc (Obj.cells #[Value.int IntKind.i64 U.k, Value.bool U.e, Value.string U.t, Value.slice yN U.nms.length pN] 25)) fT GT 0 T) := HT.out.below b3
    replace HU : Hid (NP (wa3.alloc (Obj.cells #[Value.int IntKind.i64 U.k, Value.bool U.e, Value.string U.t, Value.slice yN U.nms.length pN] 25)) fU GU 0 U) := HU.out.below b3
    replace HM : Hid (NP (wa3.alloc (Obj.cells #[Value.int IntKind.i64 U.k, Value.bool U.e, Value.string U.t, Value.slice yN U.nms.length pN] 25)) fM GM 0 M) := HM.out.below b3
    replace HQ : Hid ((wa3.alloc (Obj.cells #[Value.int IntKind.i64 U.k, Value.bool U.e, Value.string U.t, Value.slice yN U.nms.length pN] 25)).cell? ⟨GU, 4, none⟩ = some (.string q) ∧ GU < (wa3.alloc (Obj.cells #[Value.int IntKind.i64 U.k, Value.bool U.e, Value.string U.t, Value.slice yN U.nms.length pN] 25)).heap.size) := ⟨((b3).cell (p := ⟨GU, 4, none⟩) HQ.out.2).trans HQ.out.1, Nat.lt_of_lt_of_le HQ.out.2 (b3).size⟩
    replace HB : Hid (Below w.heap.size w (wa3.alloc (Obj.cells #[Value.int IntKind.i64 U.k, Value.bool U.e, Value.string U.t, Value.slice yN U.nms.length pN] 25))) := HB.out.trans ((b3).mono HB.out.size)
    clear b3 HA3
    obtain ⟨GN, hGN⟩ : ∃ GN, wa3.heap.size = GN := ⟨_, rfl⟩
    rw [hGN] at HN ⊢
    generalize wa3.alloc (Obj.cells #[Value.int IntKind.i64 U.k, Value.bool U.e, Value.string U.t, Value.slice yN U.nms.length pN] 25) = wb3 at *
    clear hGN
    obtain ⟨lN, xN, nN, cN, aN0, aN1, aN2, aN3, hAN⟩ := HN.out
    simp only [Nat.zero_add] at aN1 aN2 aN3
    have HAN : Hid (At wb3 fN (.agg #[.int .i64 U.k, .bool U.e, .string U.t, .slice xN nN cN]) U) := hAN
    clear hAN
    obtain ⟨lU, xU, nU, cU, aU0, aU1, aU2, aU3, hAU⟩ := HU.out
    simp only [Nat.zero_add] at aU1 aU2 aU3
    have HAU : Hid (At wb3 fU (.agg #[.int .i64 U.k, .bool U.e, .string U.t, .slice xU nU cU]) U) := hAU
    clear hAU
    go_wp2_with fail
    refine (requal_any (fN + fU) _ _ _ _ wb3 (HAN.out.upto (by omega)) (HAU.out.upto (by omega))).mono ?_
    rintro en we4 ⟨⟨r4, rfl, hr4⟩, b4⟩
    obtain rfl : r4 = true := hr4.2 rfl
    clear aN0 aN1 aN2 aN3 lN HAN aU0 aU1 aU2 aU3 lU HAU
    replace HT : Hid (NP we4 fT GT 0 T) := HT.out.below b4
    replace HU : Hid (NP we4 fU GU 0 U) := HU.out.below b4
    replace HM : Hid (NP we4 fM GM 0 M) := HM.out.below b4
    replace HN : Hid (NP we4 fN GN 0 U) := HN.out.below b4
    replace HQ : Hid (we4.cell? ⟨GU, 4, none⟩ = some (.string q) ∧ GU < we4.heap.size) := ⟨((b4).cell (p := ⟨GU, 4, none⟩) HQ.out.2).trans HQ.out.1, Nat.lt_of_lt_of_le HQ.out.2 (b4).size⟩
    replace HB : Hid (Below w.heap.size w we4) := HB.out.trans ((b4).mono HB.out.size)
    clear b4 hr4
    cases hpe : p.toList.isEmpty with
    | true =>
      have hz : p.size = 0 := by rw [empty_iff] at hpe; exact of_decide_eq_true hpe
      have HRT : Hid (M = U ∧ cutT M p = (66, zT)) := HPG.out.root hz
      clear hz
      obtain ⟨lM, xM, nM, cM, aM0, aM1, aM2, aM3, hAM⟩ := HM.out
      simp only [Nat.zero_add] at aM1 aM2 aM3
      have HAM : Hid (At we4 fM (.agg #[.int .i64 M.k, .bool M.e, .string M.t, .slice xM nM cM]) M) := hAM
      clear hAM
      go_wp2_with fail
      have C5 := cut_any fM _ _ _ _ _ _ M p we4 hp HAM.out HPG.out.sm
      rw [HRT.out.2] at C5
      refine C5.mono ?_
      clear C5
      rintro en wa5 hN5
      obtain ⟨yX, pX, f5, rfl, hV5, b5⟩ := hN5.out
      obtain ⟨fX, hA5⟩ := TrV.at zT _ _ hV5 lnT_zero
      clear aM0 aM1 aM2 aM3 lM HAM
      replace HT : Hid (NP wa5 fT GT 0 T) := HT.out.below b5
      replace HU : Hid (NP wa5 fU GU 0 U) := HU.out.below b5
      replace HM : Hid (NP wa5 fM GM 0 M) := HM.out.below b5
      replace HN : Hid (NP wa5 fN GN 0 U) := HN.out.below b5
      replace HQ : Hid (wa5.cell? ⟨GU, 4, none⟩ = some (.string q) ∧ GU < wa5.heap.size) := ⟨((b5).cell (p := ⟨GU, 4, none⟩) HQ.out.2).trans HQ.out.1, Nat.lt_of_lt_of_le HQ.out.2 (b5).size⟩
      replace HB : Hid (Below w.heap.size w wa5) := HB.out.trans ((b5).mono HB.out.size)
      clear b5 hV5 hN5
      have HA5 : Hid (At wa5 fX (.agg #[.int .i64 zT.k, .bool zT.e, .string zT.t, .slice yX zT.nms.length pX]) zT) := hA5
      clear hA5
      go_upto_region 12 with fail
      have b5 : Below wa5.heap.size wa5 (wa5.alloc (Obj.cells #[Value.int IntKind.i64 zT.k, Value.bool zT.e, Value.string zT.t, Value.slice yX zT.nms.length pX] 25)) := (Below.refl _ _).alloc (Nat.le_refl _) _
      have HX : Hid (NP (wa5.alloc (Obj.cells #[Value.int IntKind.i64 zT.k, Value.bool zT.e, Value.string zT.t, Value.slice yX zT.nms.length pX] 25)) fX wa5.heap.size 0 zT) := NP.new HA5.out 25
      replace HT : Hid (NP (wa5.alloc (Obj.cells #[Value.int IntKind.i64 zT.k, Value.bool zT.e, Value.string zT.t, Value.slice yX zT.nms.length pX] 25)) fT GT 0 T) := HT.out.below b5
      replace HU : Hid (NP (wa5.alloc (Obj.cells #[Value.int IntKind.i64 zT.k, Value.bool zT.e, Value.string zT.t, Value.slice yX zT.nms.length pX] 25)) fU GU 0 U) := HU.out.below b5
      replace HM : Hid (NP (wa5.alloc (Obj.cells #[Value.int IntKind.i64 zT.k, Value.bool zT.e, Value.string zT.t, Value.slice yX zT.nms.length pX] 25)) fM GM 0 M) := HM.out.below b5
      replace HN : Hid (NP (wa5.alloc (Obj.cells #[Value.int IntKind.i64 zT.k, Value.bool zT.e, Value.string zT.t, Value.slice yX zT.nms.length pX] 25)) fN GN 0 U) := HN.out.below b5
      replace HQ : Hid ((wa5.alloc (Obj.cells #[Value.int IntKind.i64 zT.k, Value.bool zT.e, Value.string zT.t, Value.slice yX zT.nms.length pX] 25)).cell? ⟨GU, 4, none⟩ = some (.string q) ∧ GU < (wa5.alloc (Obj.cells #[Value.int IntKind.i64 zT.k, Value.bool zT.e, Value.string zT.t, Value.slice yX zT.nms.length pX] 25)).heap.size) := ⟨((b5).cell (p := ⟨GU, 4, none⟩) HQ.out.2).trans HQ.out.1, Nat.lt_of_lt_of_le HQ.out.2 (b5).size⟩
      replace HB : Hid (Below w.heap.size w (wa5.alloc (Obj.cells #[Value.int IntKind.i64 zT.k, Value.bool zT.e, Value.string zT.t, Value.slice yX zT.nms.length pX] 25))) := HB.out.trans ((b5).mono HB.out.size)
      clear b5 HA5
      obtain ⟨GX, hGX⟩ : ∃ GX, wa5.heap.size = GX := ⟨_, rfl⟩
      rw [hGX] at HX ⊢
      generalize wa5.alloc (Obj.cells #[Value.int IntKind.i64 zT.k, Value.bool zT.e, Value.string zT.t, Value.slice yX zT.nms.length pX] 25) = wb5 at *
      clear hGX
      obtain ⟨lM, xM, nM, cM, aM0, aM1, aM2, aM3, hAM⟩ := HM.out
      simp only [Nat.zero_add] at aM1 aM2 aM3
      have HAM : Hid (At wb5 fM (.agg #[.int .i64 M.k, .bool M.e, .string M.t, .slice xM nM cM]) M) := hAM
      clear hAM
      obtain ⟨lU, xU, nU, cU, aU0, aU1, aU2, aU3, hAU⟩ := HU.out
      simp only [Nat.zero_add] at aU1 aU2 aU3
      have HAU : Hid (At wb5 fU (.agg #[.int .i64 U.k, .bool U.e, .string U.t, .slice xU nU cU]) U) := hAU
      clear hAU
      go_wp2_with fail
      refine (requal_any (fM + fU) _ _ _ _ wb5 (HAM.out.upto (by omega)) (HAU.out.upto (by omega))).mono ?_
      rintro en we6 ⟨⟨r6, rfl, hr6⟩, b6⟩
      obtain rfl : r6 = true := hr6.2 HRT.out.1
      clear aM0 aM1 aM2 aM3 lM HAM aU0 aU1 aU2 aU3 lU HAU
      replace HT : Hid (NP we6 fT GT 0 T) := HT.out.below b6
      replace HU : Hid (NP we6 fU GU 0 U) := HU.out.below b6
      replace HM : Hid (NP we6 fM GM 0 M) := HM.out.below b6
      replace HN : Hid (NP we6 fN GN 0 U) := HN.out.below b6
      replace HX : Hid (NP we6 fX GX 0 zT) := HX.out.below b6
      replace HQ : Hid (we6.cell? ⟨GU, 4, none⟩ = some (.string q) ∧ GU < we6.heap.size) := ⟨((b6).cell (p := ⟨GU, 4, none⟩) HQ.out.2).trans HQ.out.1, Nat.lt_of_lt_of_le HQ.out.2 (b6).size⟩
      replace HB : Hid (Below w.heap.size w we6) := HB.out.trans ((b6).mono HB.out.size)
      clear b6 hr6
      go_wp2
      go_ret
      exact ⟨rfl, HB.out⟩
    | false =>
      have hz : p.size ≠ 0 := by rw [empty_iff] at hpe; exact of_decide_eq_false hpe
      obtain ⟨D, hD⟩ := HPG.out.cut hz
      have HD0 : Hid (cutT M p = (0, D) ∧ smT D ∧ (vT [] 24 D).off = none ∧ getT D p = (3, zT) ∧ cutT D p = (3, zT) ∧ putT D p U = (0, M)) := hD
      clear hD hz
      have hq4 := HQ.out.1
      have lq4 := HQ.out.2
      go_wp2_with fail
      refine (apart_any p q we4 hp hq).mono ?_
      rintro en wp ⟨⟨ra, rfl, hra⟩, bp⟩
      clear hq4 lq4
      replace HT : Hid (NP wp fT GT 0 T) := HT.out.below bp
      replace HU : Hid (NP wp fU GU 0 U) := HU.out.below bp
      replace HM : Hid (NP wp fM GM 0 M) := HM.out.below bp
      replace HN : Hid (NP wp fN GN 0 U) := HN.out.below bp
      replace HQ : Hid (wp.cell? ⟨GU, 4, none⟩ = some (.string q) ∧ GU < wp.heap.size) := ⟨((bp).cell (p := ⟨GU, 4, none⟩) HQ.out.2).trans HQ.out.1, Nat.lt_of_lt_of_le HQ.out.2 (bp).size⟩
      replace HB : Hid (Below w.heap.size w wp) := HB.out.trans ((bp).mono HB.out.size)
      have HRA : Hid (Apt p q ra) := hra
      clear bp hra
      cases ra with
      | false =>
        obtain ⟨lM, xM, nM, cM, aM0, aM1, aM2, aM3, hAM⟩ := HM.out
        simp only [Nat.zero_add] at aM1 aM2 aM3
        have HAM : Hid (At wp fM (.agg #[.int .i64 M.k, .bool M.e, .string M.t, .slice xM nM cM]) M) := hAM
        clear hAM
        go_wp2_with fail
        have C18 := cut_any fM _ _ _ _ _ _ M p wp hp HAM.out HPG.out.sm
        rw [HD0.out.1] at C18
        refine C18.mono ?_
        clear C18
        rintro en wl hNl
        obtain ⟨yD, pD, fl, rfl, hVl, bl⟩ := hNl.out
        have HLD : Hid (lnT D) := lnB_ln (by decide) D (ck_ln (TrV.wf _ _ _ hVl) HD0.out.2.2.1)
        obtain ⟨fD, hAl⟩ := TrV.at D _ _ hVl HLD.out
        clear aM0 aM1 aM2 aM3 lM HAM
        replace HT : Hid (NP wl fT GT 0 T) := HT.out.below bl
        replace HU : Hid (NP wl fU GU 0 U) := HU.out.below bl
        replace HM : Hid (NP wl fM GM 0 M) := HM.out.below bl
        replace HN : Hid (NP wl fN GN 0 U) := HN.out.below bl
        replace HQ : Hid (wl.cell? ⟨GU, 4, none⟩ = some (.string q) ∧ GU < wl.heap.size) := ⟨((bl).cell (p := ⟨GU, 4, none⟩) HQ.out.2).trans HQ.out.1, Nat.lt_of_lt_of_le HQ.out.2 (bl).size⟩
        replace HB : Hid (Below w.heap.size w wl) := HB.out.trans ((bl).mono HB.out.size)
        have HAl : Hid (At wl fD (.agg #[.int .i64 D.k, .bool D.e, .string D.t, .slice yD D.nms.length pD]) D) := hAl
        clear bl hVl hNl hAl
        go_upto_region 19 with fail
        have bl : Below wl.heap.size wl (wl.alloc (Obj.cells #[Value.int IntKind.i64 D.k, Value.bool D.e, Value.string D.t, Value.slice yD D.nms.length pD] 25)) := (Below.refl _ _).alloc (Nat.le_refl _) _
        have HD : Hid (NP (wl.alloc (Obj.cells #[Value.int IntKind.i64 D.k, Value.bool D.e, Value.string D.t, Value.slice yD D.nms.length pD] 25)) fD wl.heap.size 0 D) := NP.new HAl.out 25
        replace HT : Hid (NP (wl.alloc (Obj.cells #[Value.int IntKind.i64 D.k, Value.bool D.e, Value.string D.t, Value.slice yD D.nms.length pD] 25)) fT GT 0 T) := HT.out.below bl
        replace HU : Hid (NP (wl.alloc (Obj.cells #[Value.int IntKind.i64 D.k, Value.bool D.e, Value.string D.t, Value.slice yD D.nms.length pD] 25)) fU GU 0 U) := HU.out.below bl
        replace HM : Hid (NP (wl.alloc (Obj.cells #[Value.int IntKind.i64 D.k, Value.bool D.e, Value.string D.t, Value.slice yD D.nms.length pD] 25)) fM GM 0 M) := HM.out.below bl
        replace HN : Hid (NP (wl.alloc (Obj.cells #[Value.int IntKind.i64 D.k, Value.bool D.e, Value.string D.t, Value.slice yD D.nms.length pD] 25)) fN GN 0 U) := HN.out.below bl
        replace HQ : Hid ((wl.alloc (Obj.cells #[Value.int IntKind.i64 D.k, Value.bool D.e, Value.string D.t, Value.slice yD D.nms.length pD] 25)).cell? ⟨GU, 4, none⟩ = some (.string q) ∧ GU < (wl.alloc (Obj.cells #[Value.int IntKind.i64 D.k, Value.bool D.e, Value.string D.t, Value.slice yD D.nms.length pD] 25)).heap.size) := ⟨((bl).cell (p := ⟨GU, 4, none⟩) HQ.out.2).trans HQ.out.1, Nat.lt_of_lt_of_le HQ.out.2 (bl).size⟩
        replace HB : Hid (Below w.heap.size w (wl.alloc (Obj.cells #[Value.int IntKind.i64 D.k, Value.bool D.e, Value.string D.t, Value.slice yD D.nms.length pD] 25))) := HB.out.trans ((bl).mono HB.out.size)
        clear bl HAl
        obtain ⟨GD, hGD⟩ : ∃ GD, wl.heap.size = GD := ⟨_, rfl⟩
        rw [hGD] at HD ⊢
        generalize wl.alloc (Obj.cells #[Value.int IntKind.i64 D.k, Value.bool D.e, Value.string D.t, Value.slice yD D.nms.length pD] 25) = wm at *
        clear hGD
        obtain ⟨lD, xD, nD, cD, aD0, aD1, aD2, aD3, hAD⟩ := HD.out
        simp only [Nat.zero_add] at aD1 aD2 aD3
        have HAD : Hid (At wm fD (.agg #[.int .i64 D.k, .bool D.e, .string D.t, .slice xD nD cD]) D) := hAD
        clear hAD
        go_wp2_with fail
        have C7 := get_any fD _ _ _ _ _ _ D p wm hp HAD.out HD0.out.2.1
        rw [HD0.out.2.2.2.1] at C7
        refine C7.mono ?_
        clear C7
        rintro en wa7 hN7
        obtain ⟨yY, pY, f7, rfl, hV7, b7⟩ := hN7.out
        obtain ⟨fY, hA7⟩ := TrV.at zT _ _ hV7 lnT_zero
        clear aD0 aD1 aD2 aD3 lD HAD
        replace HT : Hid (NP wa7 fT GT 0 T) := HT.out.below b7
        replace HU : Hid (NP wa7 fU GU 0 U) := HU.out.below b7
        replace HM : Hid (NP wa7 fM GM 0 M) := HM.out.below b7
        replace HN : Hid (NP wa7 fN GN 0 U) := HN.out.below b7
        replace HD : Hid (NP wa7 fD GD 0 D) := HD.out.below b7
        replace HQ : Hid (wa7.cell? ⟨GU, 4, none⟩ = some (.string q) ∧ GU < wa7.heap.size) := ⟨((b7).cell (p := ⟨GU, 4, none⟩) HQ.out.2).trans HQ.out.1, Nat.lt_of_lt_of_le HQ.out.2 (b7).size⟩
        replace HB : Hid (Below w.heap.size w wa7) := HB.out.trans ((b7).mono HB.out.size)
        clear b7 hV7 hN7
        have HA7 : Hid (At wa7 fY (.agg #[.int .i64 zT.k, .bool zT.e, .string zT.t, .slice yY zT.nms.length pY]) zT) := hA7
        clear hA7
        go_upto_region 20 with fail
        have b7 : Below wa7.heap.size wa7 (wa7.alloc (Obj.cells #[Value.int IntKind.i64 zT.k, Value.bool zT.e, Value.string zT.t, Value.slice yY zT.nms.length pY] 25)) := (Below.refl _ _).alloc (Nat.le_refl _) _
        have HY : Hid (NP (wa7.alloc (Obj.cells #[Value.int IntKind.i64 zT.k, Value.bool zT.e, Value.string zT.t, Value.slice yY zT.nms.length pY] 25)) fY wa7.heap.size 0 zT) := NP.new HA7.out 25
        replace HT : Hid (NP (wa7.alloc (Obj.cells #[Value.int IntKind.i64 zT.k, Value.bool zT.e, Value.string zT.t, Value.slice yY zT.nms.length pY] 25)) fT GT 0 T) := HT.out.below b7
        replace HU : Hid (NP (wa7.alloc (Obj.cells #[Value.int IntKind.i64 zT.k, Value.bool zT.e, Value.string zT.t, Value.slice yY zT.nms.length pY] 25)) fU GU 0 U) := HU.out.below b7
        replace HM : Hid (NP (wa7.alloc (Obj.cells #[Value.int IntKind.i64 zT.k, Value.bool zT.e, Value.string zT.t, Value.slice yY zT.nms.length pY] 25)) fM GM 0 M) := HM.out.below b7
        replace HN : Hid (NP (wa7.alloc (Obj.cells #[Value.int IntKind.i64 zT.k, Value.bool zT.e, Value.string zT.t, Value.slice yY zT.nms.length pY] 25)) fN GN 0 U) := HN.out.below b7
        replace HD : Hid (NP (wa7.alloc (Obj.cells #[Value.int IntKind.i64 zT.k, Value.bool zT.e, Value.string zT.t, Value.slice yY zT.nms.length pY] 25)) fD GD 0 D) := HD.out.below b7
        replace HQ : Hid ((wa7.alloc (Obj.cells #[Value.int IntKind.i64 zT.k, Value.bool zT.e, Value.string zT.t, Value.slice yY zT.nms.length pY] 25)).cell? ⟨GU, 4, none⟩ = some (.string q) ∧ GU < (wa7.alloc (Obj.cells #[Value.int IntKind.i64 zT.k, Value.bool zT.e, Value.string zT.t, Value.slice yY zT.nms.length pY] 25)).heap.size) := ⟨((b7).cell (p := ⟨GU, 4, none⟩) HQ.out.2).trans HQ.out.1, Nat.lt_of_lt_of_le HQ.out.2 (b7).size⟩
        replace HB : Hid (Below w.heap.size w (wa7.alloc (Obj.cells #[Value.int IntKind.i64 zT.k, Value.bool zT.e, Value.string zT.t, Value.slice yY zT.nms.length pY] 25))) := HB.out.trans ((b7).mono HB.out.size)
        clear b7 HA7
        obtain ⟨GY, hGY⟩ : ∃ GY, wa7.heap.size = GY := ⟨_, rfl⟩
        rw [hGY] at HY ⊢
        generalize wa7.alloc (Obj.cells #[Value.int IntKind.i64 zT.k, Value.bool zT.e, Value.string zT.t, Value.slice yY zT.nms.length pY] 25) = wb7 at *
        clear hGY
        obtain ⟨lD, xD, nD, cD, aD0, aD1, aD2, aD3, hAD⟩ := HD.out
        simp only [Nat.zero_add] at aD1 aD2 aD3
        have HAD : Hid (At wb7 fD (.agg #[.int .i64 D.k, .bool D.e, .string D.t, .slice xD nD cD]) D) := hAD
        clear hAD
        go_wp2_with fail
        have C8 := cut_any fD _ _ _ _ _ _ D p wb7 hp HAD.out HD0.out.2.1
        rw [HD0.out.2.2.2.2.1] at C8
        refine C8.mono ?_
        clear C8
        rintro en wa8 hN8
        obtain ⟨yZ, pZ, f8, rfl, hV8, b8⟩ := hN8.out
        obtain ⟨fZ, hA8⟩ := TrV.at zT _ _ hV8 lnT_zero
        clear aD0 aD1 aD2 aD3 lD HAD
        replace HT : Hid (NP wa8 fT GT 0 T) := HT.out.below b8
        replace HU : Hid (NP wa8 fU GU 0 U) := HU.out.below b8
        replace HM : Hid (NP wa8 fM GM 0 M) := HM.out.below b8
        replace HN : Hid (NP wa8 fN GN 0 U) := HN.out.below b8
        replace HD : Hid (NP wa8 fD GD 0 D) := HD.out.below b8
        replace HY : Hid (NP wa8 fY GY 0 zT) := HY.out.below b8
        replace HQ : Hid (wa8.cell? ⟨GU, 4, none⟩ = some (.string q) ∧ GU < wa8.heap.size) := ⟨((b8).cell (p := ⟨GU, 4, none⟩) HQ.out.2).trans HQ.out.1, Nat.lt_of_lt_of_le HQ.out.2 (b8).size⟩
        replace HB : Hid (Below w.heap.size w wa8) := HB.out.trans ((b8).mono HB.out.size)
        clear b8 hV8 hN8
        have HA8 : Hid (At wa8 fZ (.agg #[.int .i64 zT.k, .bool zT.e, .string zT.t, .slice yZ zT.nms.length pZ]) zT) := hA8
        clear hA8
        go_upto_region 21 with fail
        have b8 : Below wa8.heap.size wa8 (wa8.alloc (Obj.cells #[Value.int IntKind.i64 zT.k, Value.bool zT.e, Value.string zT.t, Value.slice yZ zT.nms.length pZ] 25)) := (Below.refl _ _).alloc (Nat.le_refl _) _
        have HZ : Hid (NP (wa8.alloc (Obj.cells #[Value.int IntKind.i64 zT.k, Value.bool zT.e, Value.string zT.t, Value.slice yZ zT.nms.length pZ] 25)) fZ wa8.heap.size 0 zT) := NP.new HA8.out 25
        replace HT : Hid (NP (wa8.alloc (Obj.cells #[Value.int IntKind.i64 zT.k, Value.bool zT.e, Value.string zT.t, Value.slice yZ zT.nms.length pZ] 25)) fT GT 0 T) := HT.out.below b8
        replace HU : Hid (NP (wa8.alloc (Obj.cells #[Value.int IntKind.i64 zT.k, Value.bool zT.e, Value.string zT.t, Value.slice yZ zT.nms.length pZ] 25)) fU GU 0 U) := HU.out.below b8
        replace HM : Hid (NP (wa8.alloc (Obj.cells #[Value.int IntKind.i64 zT.k, Value.bool zT.e, Value.string zT.t, Value.slice yZ zT.nms.length pZ] 25)) fM GM 0 M) := HM.out.below b8
        replace HN : Hid (NP (wa8.alloc (Obj.cells #[Value.int IntKind.i64 zT.k, Value.bool zT.e, Value.string zT.t, Value.slice yZ zT.nms.length pZ] 25)) fN GN 0 U) := HN.out.below b8
        replace HD : Hid (NP (wa8.alloc (Obj.cells #[Value.int IntKind.i64 zT.k, Value.bool zT.e, Value.string zT.t, Value.slice yZ zT.nms.length pZ] 25)) fD GD 0 D) := HD.out.below b8
        replace HY : Hid (NP (wa8.alloc (Obj.cells #[Value.int IntKind.i64 zT.k, Value.bool zT.e, Value.string zT.t, Value.slice yZ zT.nms.length pZ] 25)) fY GY 0 zT) := HY.out.below b8
        replace HQ : Hid ((wa8.alloc (Obj.cells #[Value.int IntKind.i64 zT.k, Value.bool zT.e, Value.string zT.t, Value.slice yZ zT.nms.length pZ] 25)).cell? ⟨GU, 4, none⟩ = some (.string q) ∧ GU < (wa8.alloc (Obj.cells #[Value.int IntKind.i64 zT.k, Value.bool zT.e, Value.string zT.t, Value.slice yZ zT.nms.length pZ] 25)).heap.size) := ⟨((b8).cell (p := ⟨GU, 4, none⟩) HQ.out.2).trans HQ.out.1, Nat.lt_of_lt_of_le HQ.out.2 (b8).size⟩
        replace HB : Hid (Below w.heap.size w (wa8.alloc (Obj.cells #[Value.int IntKind.i64 zT.k, Value.bool zT.e, Value.string zT.t, Value.slice yZ zT.nms.length pZ] 25))) := HB.out.trans ((b8).mono HB.out.size)
        clear b8 HA8
        obtain ⟨GZ, hGZ⟩ : ∃ GZ, wa8.heap.size = GZ := ⟨_, rfl⟩
        rw [hGZ] at HZ ⊢
        generalize wa8.alloc (Obj.cells #[Value.int IntKind.i64 zT.k, Value.bool zT.e, Value.string zT.t, Value.slice yZ zT.nms.length pZ] 25) = wb8 at *
        clear hGZ
        obtain ⟨lD, xD, nD, cD, aD0, aD1, aD2, aD3, hAD⟩ := HD.out
        simp only [Nat.zero_add] at aD1 aD2 aD3
        have HAD : Hid (At wb8 fD (.agg #[.int .i64 D.k, .bool D.e, .string D.t, .slice xD nD cD]) D) := hAD
        clear hAD
        obtain ⟨lU, xU, nU, cU, aU0, aU1, aU2, aU3, hAU⟩ := HU.out
        simp only [Nat.zero_add] at aU1 aU2 aU3
        have HAU : Hid (At wb8 fU (.agg #[.int .i64 U.k, .bool U.e, .string U.t, .slice xU nU cU]) U) := hAU
        clear hAU
        go_wp2_with fail
        have C9 := put_any fD fU _ _ _ _ _ _ D p _ _ _ _ _ _ U wb8 hp HAD.out HD0.out.2.1 HAU.out HH.out.2.2.2.2.1
        rw [HD0.out.2.2.2.2.2] at C9
        refine C9.mono ?_
        clear C9
        rintro en wa9 hN9
        obtain ⟨yW, pW, f9, rfl, hV9, b9⟩ := hN9.out
        obtain ⟨fW, hA9⟩ := TrV.at M _ _ hV9 HLM.out
        clear aD0 aD1 aD2 aD3 lD HAD aU0 aU1 aU2 aU3 lU HAU
        replace HT : Hid (NP wa9 fT GT 0 T) := HT.out.below b9
        replace HU : Hid (NP wa9 fU GU 0 U) := HU.out.below b9
        replace HM : Hid (NP wa9 fM GM 0 M) := HM.out.below b9
        replace HN : Hid (NP wa9 fN GN 0 U) := HN.out.below b9
        replace HD : Hid (NP wa9 fD GD 0 D) := HD.out.below b9
        replace HY : Hid (NP wa9 fY GY 0 zT) := HY.out.below b9
        replace HZ : Hid (NP wa9 fZ GZ 0 zT) := HZ.out.below b9
        replace HQ : Hid (wa9.cell? ⟨GU, 4, none⟩ = some (.string q) ∧ GU < wa9.heap.size) := ⟨((b9).cell (p := ⟨GU, 4, none⟩) HQ.out.2).trans HQ.out.1, Nat.lt_of_lt_of_le HQ.out.2 (b9).size⟩
        replace HB : Hid (Below w.heap.size w wa9) := HB.out.trans ((b9).mono HB.out.size)
        clear b9 hV9 hN9
        have HA9 : Hid (At wa9 fW (.agg #[.int .i64 M.k, .bool M.e, .string M.t, .slice yW M.nms.length pW]) M) := hA9
        clear hA9
        go_upto_region 24 with fail
        have b9 : Below wa9.heap.size wa9 (wa9.alloc (Obj.cells #[Value.int IntKind.i64 M.k, Value.bool M.e, Value.string M.t, Value.slice yW M.nms.length pW] 25)) := (Below.refl _ _).alloc (Nat.le_refl _) _
        have HW : Hid (NP (wa9.alloc (Obj.cells #[Value.int IntKind.i64 M.k, Value.bool M.e, Value.string M.t, Value.slice yW M.nms.length pW] 25)) fW wa9.heap.size 0 M) := NP.new HA9.out 25
        replace HT : Hid (NP (wa9.alloc (Obj.cells #[Value.int IntKind.i64 M.k, Value.bool M.e, Value.string M.t, Value.slice yW M.nms.length pW] 25)) fT GT 0 T) := HT.out.below b9
        replace HU : Hid (NP (wa9.alloc (Obj.cells #[Value.int IntKind.i64 M.k, Value.bool M.e, Value.string M.t, Value.slice yW M.nms.length pW] 25)) fU GU 0 U) := HU.out.below b9
        replace HM : Hid (NP (wa9.alloc (Obj.cells #[Value.int IntKind.i64 M.k, Value.bool M.e, Value.string M.t, Value.slice yW M.nms.length pW] 25)) fM GM 0 M) := HM.out.below b9
        replace HN : Hid (NP (wa9.alloc (Obj.cells #[Value.int IntKind.i64 M.k, Value.bool M.e, Value.string M.t, Value.slice yW M.nms.length pW] 25)) fN GN 0 U) := HN.out.below b9
        replace HD : Hid (NP (wa9.alloc (Obj.cells #[Value.int IntKind.i64 M.k, Value.bool M.e, Value.string M.t, Value.slice yW M.nms.length pW] 25)) fD GD 0 D) := HD.out.below b9
        replace HY : Hid (NP (wa9.alloc (Obj.cells #[Value.int IntKind.i64 M.k, Value.bool M.e, Value.string M.t, Value.slice yW M.nms.length pW] 25)) fY GY 0 zT) := HY.out.below b9
        replace HZ : Hid (NP (wa9.alloc (Obj.cells #[Value.int IntKind.i64 M.k, Value.bool M.e, Value.string M.t, Value.slice yW M.nms.length pW] 25)) fZ GZ 0 zT) := HZ.out.below b9
        replace HQ : Hid ((wa9.alloc (Obj.cells #[Value.int IntKind.i64 M.k, Value.bool M.e, Value.string M.t, Value.slice yW M.nms.length pW] 25)).cell? ⟨GU, 4, none⟩ = some (.string q) ∧ GU < (wa9.alloc (Obj.cells #[Value.int IntKind.i64 M.k, Value.bool M.e, Value.string M.t, Value.slice yW M.nms.length pW] 25)).heap.size) := ⟨((b9).cell (p := ⟨GU, 4, none⟩) HQ.out.2).trans HQ.out.1, Nat.lt_of_lt_of_le HQ.out.2 (b9).size⟩
        replace HB : Hid (Below w.heap.size w (wa9.alloc (Obj.cells #[Value.int IntKind.i64 M.k, Value.bool M.e, Value.string M.t, Value.slice yW M.nms.length pW] 25))) := HB.out.trans ((b9).mono HB.out.size)
        clear b9 HA9
        obtain ⟨GW, hGW⟩ : ∃ GW, wa9.heap.size = GW := ⟨_, rfl⟩
        rw [hGW] at HW ⊢
        generalize wa9.alloc (Obj.cells #[Value.int IntKind.i64 M.k, Value.bool M.e, Value.string M.t, Value.slice yW M.nms.length pW] 25) = wb9 at *
        clear hGW
        obtain ⟨lW, xW, nW, cW, aW0, aW1, aW2, aW3, hAW⟩ := HW.out
        simp only [Nat.zero_add] at aW1 aW2 aW3
        have HAW : Hid (At wb9 fW (.agg #[.int .i64 M.k, .bool M.e, .string M.t, .slice xW nW cW]) M) := hAW
        clear hAW
        obtain ⟨lM, xM, nM, cM, aM0, aM1, aM2, aM3, hAM⟩ := HM.out
        simp only [Nat.zero_add] at aM1 aM2 aM3
        have HAM : Hid (At wb9 fM (.agg #[.int .i64 M.k, .bool M.e, .string M.t, .slice xM nM cM]) M) := hAM
        clear hAM
        go_wp2_with fail
        refine (requal_any (fW + fM) _ _ _ _ wb9 (HAW.out.upto (by omega)) (HAM.out.upto (by omega))).mono ?_
        rintro en we10 ⟨⟨r10, rfl, hr10⟩, b10⟩
        obtain rfl : r10 = true := hr10.2 rfl
        clear aW0 aW1 aW2 aW3 lW HAW aM0 aM1 aM2 aM3 lM HAM
        replace HT : Hid (NP we10 fT GT 0 T) := HT.out.below b10
        replace HU : Hid (NP we10 fU GU 0 U) := HU.out.below b10
        replace HM : Hid (NP we10 fM GM 0 M) := HM.out.below b10
        replace HN : Hid (NP we10 fN GN 0 U) := HN.out.below b10
        replace HD : Hid (NP we10 fD GD 0 D) := HD.out.below b10
        replace HY : Hid (NP we10 fY GY 0 zT) := HY.out.below b10
        replace HZ : Hid (NP we10 fZ GZ 0 zT) := HZ.out.below b10
        replace HW : Hid (NP we10 fW GW 0 M) := HW.out.below b10
        replace HQ : Hid (we10.cell? ⟨GU, 4, none⟩ = some (.string q) ∧ GU < we10.heap.size) := ⟨((b10).cell (p := ⟨GU, 4, none⟩) HQ.out.2).trans HQ.out.1, Nat.lt_of_lt_of_le HQ.out.2 (b10).size⟩
        replace HB : Hid (Below w.heap.size w we10) := HB.out.trans ((b10).mono HB.out.size)
        clear b10 hr10
        go_wp2
        go_ret
        exact ⟨rfl, HB.out⟩
      | true =>
        have HGQ : Hid (getT T q = getT M q) := by obtain ⟨h1, h2, h3, h4⟩ := HRA.out rfl; exact HPG.out.apart q h1 h2 h3 h4
        obtain ⟨cq, R, hR⟩ : ∃ cq R, getT T q = (cq, R) := ⟨_, _, rfl⟩
        have HR1 : Hid (getT T q = (cq, R) ∧ getT M q = (cq, R) ∧ lnT R) := ⟨hR, by rw [← HGQ.out]; exact hR, by have := getT_ln q HH.out.2.2.1; rw [hR] at this; exact this⟩
        clear hR
        obtain ⟨lT, xT, nT, cT, aT0, aT1, aT2, aT3, hAT⟩ := HT.out
        simp only [Nat.zero_add] at aT1 aT2 aT3
        have HAT : Hid (At wp fT (.agg #[.int .i64 T.k, .bool T.e, .string T.t, .slice xT nT cT]) T) := hAT
        clear hAT
        have hq4 := HQ.out.1
        have lq4 := HQ.out.2
        go_wp2_with fail
        clear hq4 lq4
        have C11 := get_any fT _ _ _ _ _ _ T q wp hq HAT.out HH.out.2.1
        rw [HR1.out.1] at C11
        refine C11.mono ?_
        clear C11
        rintro en wa11 hN11
        obtain ⟨yI, pI, f11, rfl, hV11, b11⟩ := hN11.out
        obtain ⟨fI, hA11⟩ := TrV.at R _ _ hV11 HR1.out.2.2
        clear aT0 aT1 aT2 aT3 lT HAT
        replace HT : Hid (NP wa11 fT GT 0 T) := HT.out.below b11
        replace HU : Hid (NP wa11 fU GU 0 U) := HU.out.below b11
        replace HM : Hid (NP wa11 fM GM 0 M) := HM.out.below b11
        replace HN : Hid (NP wa11 fN GN 0 U) := HN.out.below b11
        replace HQ : Hid (wa11.cell? ⟨GU, 4, none⟩ = some (.string q) ∧ GU < wa11.heap.size) := ⟨((b11).cell (p := ⟨GU, 4, none⟩) HQ.out.2).trans HQ.out.1, Nat.lt_of_lt_of_le HQ.out.2 (b11).size⟩
        replace HB : Hid (Below w.heap.size w wa11) := HB.out.trans ((b11).mono HB.out.size)
        clear b11 hV11 hN11
        have HA11 : Hid (At wa11 fI (.agg #[.int .i64 R.k, .bool R.e, .string R.t, .slice yI R.nms.length pI]) R) := hA11
        clear hA11
        go_upto_region 15 with fail
        have b11 : Below wa11.heap.size wa11 (wa11.alloc (Obj.cells #[Value.int IntKind.i64 R.k, Value.bool R.e, Value.string R.t, Value.slice yI R.nms.length pI] 25)) := (Below.refl _ _).alloc (Nat.le_refl _) _
        have HI : Hid (NP (wa11.alloc (Obj.cells #[Value.int IntKind.i64 R.k, Value.bool R.e, Value.string R.t, Value.slice yI R.nms.length pI] 25)) fI wa11.heap.size 0 R) := NP.new HA11.out 25
        replace HT : Hid (NP (wa11.alloc (Obj.cells #[Value.int IntKind.i64 R.k, Value.bool R.e, Value.string R.t, Value.slice yI R.nms.length pI] 25)) fT GT 0 T) := HT.out.below b11
        replace HU : Hid (NP (wa11.alloc (Obj.cells #[Value.int IntKind.i64 R.k, Value.bool R.e, Value.string R.t, Value.slice yI R.nms.length pI] 25)) fU GU 0 U) := HU.out.below b11
        replace HM : Hid (NP (wa11.alloc (Obj.cells #[Value.int IntKind.i64 R.k, Value.bool R.e, Value.string R.t, Value.slice yI R.nms.length pI] 25)) fM GM 0 M) := HM.out.below b11
        replace HN : Hid (NP (wa11.alloc (Obj.cells #[Value.int IntKind.i64 R.k, Value.bool R.e, Value.string R.t, Value.slice yI R.nms.length pI] 25)) fN GN 0 U) := HN.out.below b11
        replace HQ : Hid ((wa11.alloc (Obj.cells #[Value.int IntKind.i64 R.k, Value.bool R.e, Value.string R.t, Value.slice yI R.nms.length pI] 25)).cell? ⟨GU, 4, none⟩ = some (.string q) ∧ GU < (wa11.alloc (Obj.cells #[Value.int IntKind.i64 R.k, Value.bool R.e, Value.string R.t, Value.slice yI R.nms.length pI] 25)).heap.size) := ⟨((b11).cell (p := ⟨GU, 4, none⟩) HQ.out.2).trans HQ.out.1, Nat.lt_of_lt_of_le HQ.out.2 (b11).size⟩
        replace HB : Hid (Below w.heap.size w (wa11.alloc (Obj.cells #[Value.int IntKind.i64 R.k, Value.bool R.e, Value.string R.t, Value.slice yI R.nms.length pI] 25))) := HB.out.trans ((b11).mono HB.out.size)
        clear b11 HA11
        obtain ⟨GI, hGI⟩ : ∃ GI, wa11.heap.size = GI := ⟨_, rfl⟩
        rw [hGI] at HI ⊢
        generalize wa11.alloc (Obj.cells #[Value.int IntKind.i64 R.k, Value.bool R.e, Value.string R.t, Value.slice yI R.nms.length pI] 25) = wb11 at *
        clear hGI
        obtain ⟨lM, xM, nM, cM, aM0, aM1, aM2, aM3, hAM⟩ := HM.out
        simp only [Nat.zero_add] at aM1 aM2 aM3
        have HAM : Hid (At wb11 fM (.agg #[.int .i64 M.k, .bool M.e, .string M.t, .slice xM nM cM]) M) := hAM
        clear hAM
        have hq4 := HQ.out.1
        have lq4 := HQ.out.2
        go_wp2_with fail
        clear hq4 lq4
        have C12 := get_any fM _ _ _ _ _ _ M q wb11 hq HAM.out HPG.out.sm
        rw [HR1.out.2.1] at C12
        refine C12.mono ?_
        clear C12
        rintro en wa12 hN12
        obtain ⟨yJ, pJ, f12, rfl, hV12, b12⟩ := hN12.out
        obtain ⟨fJ, hA12⟩ := TrV.at R _ _ hV12 HR1.out.2.2
        clear aM0 aM1 aM2 aM3 lM HAM
        replace HT : Hid (NP wa12 fT GT 0 T) := HT.out.below b12
        replace HU : Hid (NP wa12 fU GU 0 U) := HU.out.below b12
        replace HM : Hid (NP wa12 fM GM 0 M) := HM.out.below b12
        replace HN : Hid (NP wa12 fN GN 0 U) := HN.out.below b12
        replace HI : Hid (NP wa12 fI GI 0 R) := HI.out.below b12
        replace HQ : Hid (wa12.cell? ⟨GU, 4, none⟩ = some (.string q) ∧ GU < wa12.heap.size) := ⟨((b12).cell (p := ⟨GU, 4, none⟩) HQ.out.2).trans HQ.out.1, Nat.lt_of_lt_of_le HQ.out.2 (b12).size⟩
        replace HB : Hid (Below w.heap.size w wa12) := HB.out.trans ((b12).mono HB.out.size)
        clear b12 hV12 hN12
        have HA12 : Hid (At wa12 fJ (.agg #[.int .i64 R.k, .bool R.e, .string R.t, .slice yJ R.nms.length pJ]) R) := hA12
        clear hA12
        go_upto_region 16 with fail
        have b12 : Below wa12.heap.size wa12 (wa12.alloc (Obj.cells #[Value.int IntKind.i64 R.k, Value.bool R.e, Value.string R.t, Value.slice yJ R.nms.length pJ] 25)) := (Below.refl _ _).alloc (Nat.le_refl _) _
        have HJ : Hid (NP (wa12.alloc (Obj.cells #[Value.int IntKind.i64 R.k, Value.bool R.e, Value.string R.t, Value.slice yJ R.nms.length pJ] 25)) fJ wa12.heap.size 0 R) := NP.new HA12.out 25
        replace HT : Hid (NP (wa12.alloc (Obj.cells #[Value.int IntKind.i64 R.k, Value.bool R.e, Value.string R.t, Value.slice yJ R.nms.length pJ] 25)) fT GT 0 T) := HT.out.below b12
        replace HU : Hid (NP (wa12.alloc (Obj.cells #[Value.int IntKind.i64 R.k, Value.bool R.e, Value.string R.t, Value.slice yJ R.nms.length pJ] 25)) fU GU 0 U) := HU.out.below b12
        replace HM : Hid (NP (wa12.alloc (Obj.cells #[Value.int IntKind.i64 R.k, Value.bool R.e, Value.string R.t, Value.slice yJ R.nms.length pJ] 25)) fM GM 0 M) := HM.out.below b12
        replace HN : Hid (NP (wa12.alloc (Obj.cells #[Value.int IntKind.i64 R.k, Value.bool R.e, Value.string R.t, Value.slice yJ R.nms.length pJ] 25)) fN GN 0 U) := HN.out.below b12
        replace HI : Hid (NP (wa12.alloc (Obj.cells #[Value.int IntKind.i64 R.k, Value.bool R.e, Value.string R.t, Value.slice yJ R.nms.length pJ] 25)) fI GI 0 R) := HI.out.below b12
        replace HQ : Hid ((wa12.alloc (Obj.cells #[Value.int IntKind.i64 R.k, Value.bool R.e, Value.string R.t, Value.slice yJ R.nms.length pJ] 25)).cell? ⟨GU, 4, none⟩ = some (.string q) ∧ GU < (wa12.alloc (Obj.cells #[Value.int IntKind.i64 R.k, Value.bool R.e, Value.string R.t, Value.slice yJ R.nms.length pJ] 25)).heap.size) := ⟨((b12).cell (p := ⟨GU, 4, none⟩) HQ.out.2).trans HQ.out.1, Nat.lt_of_lt_of_le HQ.out.2 (b12).size⟩
        replace HB : Hid (Below w.heap.size w (wa12.alloc (Obj.cells #[Value.int IntKind.i64 R.k, Value.bool R.e, Value.string R.t, Value.slice yJ R.nms.length pJ] 25))) := HB.out.trans ((b12).mono HB.out.size)
        clear b12 HA12
        obtain ⟨GJ, hGJ⟩ : ∃ GJ, wa12.heap.size = GJ := ⟨_, rfl⟩
        rw [hGJ] at HJ ⊢
        generalize wa12.alloc (Obj.cells #[Value.int IntKind.i64 R.k, Value.bool R.e, Value.string R.t, Value.slice yJ R.nms.length pJ] 25) = wb12 at *
        clear hGJ
        obtain ⟨lI, xI, nI, cI, aI0, aI1, aI2, aI3, hAI⟩ := HI.out
        simp only [Nat.zero_add] at aI1 aI2 aI3
        have HAI : Hid (At wb12 fI (.agg #[.int .i64 R.k, .bool R.e, .string R.t, .slice xI nI cI]) R) := hAI
        clear hAI
        obtain ⟨lJ, xJ, nJ, cJ, aJ0, aJ1, aJ2, aJ3, hAJ⟩ := HJ.out
        simp only [Nat.zero_add] at aJ1 aJ2 aJ3
        have HAJ : Hid (At wb12 fJ (.agg #[.int .i64 R.k, .bool R.e, .string R.t, .slice xJ nJ cJ]) R) := hAJ
        clear hAJ
        go_wp2_with fail
        refine (requal_any (fI + fJ) _ _ _ _ wb12 (HAI.out.upto (by omega)) (HAJ.out.upto (by omega))).mono ?_
        rintro en we13 ⟨⟨r13, rfl, hr13⟩, b13⟩
        obtain rfl : r13 = true := hr13.2 rfl
        clear aI0 aI1 aI2 aI3 lI HAI aJ0 aJ1 aJ2 aJ3 lJ HAJ
        replace HT : Hid (NP we13 fT GT 0 T) := HT.out.below b13
        replace HU : Hid (NP we13 fU GU 0 U) := HU.out.below b13
        replace HM : Hid (NP we13 fM GM 0 M) := HM.out.below b13
        replace HN : Hid (NP we13 fN GN 0 U) := HN.out.below b13
        replace HI : Hid (NP we13 fI GI 0 R) := HI.out.below b13
        replace HJ : Hid (NP we13 fJ GJ 0 R) := HJ.out.below b13
        replace HQ : Hid (we13.cell? ⟨GU, 4, none⟩ = some (.string q) ∧ GU < we13.heap.size) := ⟨((b13).cell (p := ⟨GU, 4, none⟩) HQ.out.2).trans HQ.out.1, Nat.lt_of_lt_of_le HQ.out.2 (b13).size⟩
        replace HB : Hid (Below w.heap.size w we13) := HB.out.trans ((b13).mono HB.out.size)
        clear b13 hr13
        obtain ⟨lM, xM, nM, cM, aM0, aM1, aM2, aM3, hAM⟩ := HM.out
        simp only [Nat.zero_add] at aM1 aM2 aM3
        have HAM : Hid (At we13 fM (.agg #[.int .i64 M.k, .bool M.e, .string M.t, .slice xM nM cM]) M) := hAM
        clear hAM
        go_wp2_with fail
        have C18 := cut_any fM _ _ _ _ _ _ M p we13 hp HAM.out HPG.out.sm
        rw [HD0.out.1] at C18
        refine C18.mono ?_
        clear C18
        rintro en wl hNl
        obtain ⟨yD, pD, fl, rfl, hVl, bl⟩ := hNl.out
        have HLD : Hid (lnT D) := lnB_ln (by decide) D (ck_ln (TrV.wf _ _ _ hVl) HD0.out.2.2.1)
        obtain ⟨fD, hAl⟩ := TrV.at D _ _ hVl HLD.out
        clear aM0 aM1 aM2 aM3 lM HAM
        replace HT : Hid (NP wl fT GT 0 T) := HT.out.below bl
        replace HU : Hid (NP wl fU GU 0 U) := HU.out.below bl
        replace HM : Hid (NP wl fM GM 0 M) := HM.out.below bl
        replace HN : Hid (NP wl fN GN 0 U) := HN.out.below bl
        replace HI : Hid (NP wl fI GI 0 R) := HI.out.below bl
        replace HJ : Hid (NP wl fJ GJ 0 R) := HJ.out.below bl
        replace HQ : Hid (wl.cell? ⟨GU, 4, none⟩ = some (.string q) ∧ GU < wl.heap.size) := ⟨((bl).cell (p := ⟨GU, 4, none⟩) HQ.out.2).trans HQ.out.1, Nat.lt_of_lt_of_le HQ.out.2 (bl).size⟩
        replace HB : Hid (Below w.heap.size w wl) := HB.out.trans ((bl).mono HB.out.size)
        have HAl : Hid (At wl fD (.agg #[.int .i64 D.k, .bool D.e, .string D.t, .slice yD D.nms.length pD]) D) := hAl
        clear bl hVl hNl hAl
        go_upto_region 19 with fail
        have bl : Below wl.heap.size wl (wl.alloc (Obj.cells #[Value.int IntKind.i64 D.k, Value.bool D.e, Value.string D.t, Value.slice yD D.nms.length pD] 25)) := (Below.refl _ _).alloc (Nat.le_refl _) _
        have HD : Hid (NP (wl.alloc (Obj.cells #[Value.int IntKind.i64 D.k, Value.bool D.e, Value.string D.t, Value.slice yD D.nms.length pD] 25)) fD wl.heap.size 0 D) := NP.new HAl.out 25
        replace HT : Hid (NP (wl.alloc (Obj.cells #[Value.int IntKind.i64 D.k, Value.bool D.e, Value.string D.t, Value.slice yD D.nms.length pD] 25)) fT GT 0 T) := HT.out.below bl
        replace HU : Hid (NP (wl.alloc (Obj.cells #[Value.int IntKind.i64 D.k, Value.bool D.e, Value.string D.t, Value.slice yD D.nms.length pD] 25)) fU GU 0 U) := HU.out.below bl
        replace HM : Hid (NP (wl.alloc (Obj.cells #[Value.int IntKind.i64 D.k, Value.bool D.e, Value.string D.t, Value.slice yD D.nms.length pD] 25)) fM GM 0 M) := HM.out.below bl
        replace HN : Hid (NP (wl.alloc (Obj.cells #[Value.int IntKind.i64 D.k, Value.bool D.e, Value.string D.t, Value.slice yD D.nms.length pD] 25)) fN GN 0 U) := HN.out.below bl
        replace HI : Hid (NP (wl.alloc (Obj.cells #[Value.int IntKind.i64 D.k, Value.bool D.e, Value.string D.t, Value.slice yD D.nms.length pD] 25)) fI GI 0 R) := HI.out.below bl
        replace HJ : Hid (NP (wl.alloc (Obj.cells #[Value.int IntKind.i64 D.k, Value.bool D.e, Value.string D.t, Value.slice yD D.nms.length pD] 25)) fJ GJ 0 R) := HJ.out.below bl
        replace HQ : Hid ((wl.alloc (Obj.cells #[Value.int IntKind.i64 D.k, Value.bool D.e, Value.string D.t, Value.slice yD D.nms.length pD] 25)).cell? ⟨GU, 4, none⟩ = some (.string q) ∧ GU < (wl.alloc (Obj.cells #[Value.int IntKind.i64 D.k, Value.bool D.e, Value.string D.t, Value.slice yD D.nms.length pD] 25)).heap.size) := ⟨((bl).cell (p := ⟨GU, 4, none⟩) HQ.out.2).trans HQ.out.1, Nat.lt_of_lt_of_le HQ.out.2 (bl).size⟩
        replace HB : Hid (Below w.heap.size w (wl.alloc (Obj.cells #[Value.int IntKind.i64 D.k, Value.bool D.e, Value.string D.t, Value.slice yD D.nms.length pD] 25))) := HB.out.trans ((bl).mono HB.out.size)
        clear bl HAl
        obtain ⟨GD, hGD⟩ : ∃ GD, wl.heap.size = GD := ⟨_, rfl⟩
        rw [hGD] at HD ⊢
        generalize wl.alloc (Obj.cells #[Value.int IntKind.i64 D.k, Value.bool D.e, Value.string D.t, Value.slice yD D.nms.length pD] 25) = wm at *
        clear hGD
        obtain ⟨lD, xD, nD, cD, aD0, aD1, aD2, aD3, hAD⟩ := HD.out
        simp only [Nat.zero_add] at aD1 aD2 aD3
        have HAD : Hid (At wm fD (.agg #[.int .i64 D.k, .bool D.e, .string D.t, .slice xD nD cD]) D) := hAD
        clear hAD
        go_wp2_with fail
        have C14 := get_any fD _ _ _ _ _ _ D p wm hp HAD.out HD0.out.2.1
        rw [HD0.out.2.2.2.1] at C14
        refine C14.mono ?_
        clear C14
        rintro en wa14 hN14
        obtain ⟨yY, pY, f14, rfl, hV14, b14⟩ := hN14.out
        obtain ⟨fY, hA14⟩ := TrV.at zT _ _ hV14 lnT_zero
        clear aD0 aD1 aD2 aD3 lD HAD
        replace HT : Hid (NP wa14 fT GT 0 T) := HT.out.below b14
        replace HU : Hid (NP wa14 fU GU 0 U) := HU.out.below b14
        replace HM : Hid (NP wa14 fM GM 0 M) := HM.out.below b14
        replace HN : Hid (NP wa14 fN GN 0 U) := HN.out.below b14
        replace HI : Hid (NP wa14 fI GI 0 R) := HI.out.below b14
        replace HJ : Hid (NP wa14 fJ GJ 0 R) := HJ.out.below b14
        replace HD : Hid (NP wa14 fD GD 0 D) := HD.out.below b14
        replace HQ : Hid (wa14.cell? ⟨GU, 4, none⟩ = some (.string q) ∧ GU < wa14.heap.size) := ⟨((b14).cell (p := ⟨GU, 4, none⟩) HQ.out.2).trans HQ.out.1, Nat.lt_of_lt_of_le HQ.out.2 (b14).size⟩
        replace HB : Hid (Below w.heap.size w wa14) := HB.out.trans ((b14).mono HB.out.size)
        clear b14 hV14 hN14
        have HA14 : Hid (At wa14 fY (.agg #[.int .i64 zT.k, .bool zT.e, .string zT.t, .slice yY zT.nms.length pY]) zT) := hA14
        clear hA14
        go_upto_region 20 with fail
        have b14 : Below wa14.heap.size wa14 (wa14.alloc (Obj.cells #[Value.int IntKind.i64 zT.k, Value.bool zT.e, Value.string zT.t, Value.slice yY zT.nms.length pY] 25)) := (Below.refl _ _).alloc (Nat.le_refl _) _
        have HY : Hid (NP (wa14.alloc (Obj.cells #[Value.int IntKind.i64 zT.k, Value.bool zT.e, Value.string zT.t, Value.slice yY zT.nms.length pY] 25)) fY wa14.heap.size 0 zT) := NP.new HA14.out 25
        replace HT : Hid (NP (wa14.alloc (Obj.cells #[Value.int IntKind.i64 zT.k, Value.bool zT.e, Value.string zT.t, Value.slice yY zT.nms.length pY] 25)) fT GT 0 T) := HT.out.below b14
        replace HU : Hid (NP (wa14.alloc (Obj.cells #[Value.int IntKind.i64 zT.k, Value.bool zT.e, Value.string zT.t, Value.slice yY zT.nms.length pY] 25)) fU GU 0 U) := HU.out.below b14
        replace HM : Hid (NP (wa14.alloc (Obj.cells #[Value.int IntKind.i64 zT.k, Value.bool zT.e, Value.string zT.t, Value.slice yY zT.nms.length pY] 25)) fM GM 0 M) := HM.out.below b14
        replace HN : Hid (NP (wa14.alloc (Obj.cells #[Value.int IntKind.i64 zT.k, Value.bool zT.e, Value.string zT.t, Value.slice yY zT.nms.length pY] 25)) fN GN 0 U) := HN.out.below b14
        replace HI : Hid (NP (wa14.alloc (Obj.cells #[Value.int IntKind.i64 zT.k, Value.bool zT.e, Value.string zT.t, Value.slice yY zT.nms.length pY] 25)) fI GI 0 R) := HI.out.below b14
        replace HJ : Hid (NP (wa14.alloc (Obj.cells #[Value.int IntKind.i64 zT.k, Value.bool zT.e, Value.string zT.t, Value.slice yY zT.nms.length pY] 25)) fJ GJ 0 R) := HJ.out.below b14
        replace HD : Hid (NP (wa14.alloc (Obj.cells #[Value.int IntKind.i64 zT.k, Value.bool zT.e, Value.string zT.t, Value.slice yY zT.nms.length pY] 25)) fD GD 0 D) := HD.out.below b14
        replace HQ : Hid ((wa14.alloc (Obj.cells #[Value.int IntKind.i64 zT.k, Value.bool zT.e, Value.string zT.t, Value.slice yY zT.nms.length pY] 25)).cell? ⟨GU, 4, none⟩ = some (.string q) ∧ GU < (wa14.alloc (Obj.cells #[Value.int IntKind.i64 zT.k, Value.bool zT.e, Value.string zT.t, Value.slice yY zT.nms.length pY] 25)).heap.size) := ⟨((b14).cell (p := ⟨GU, 4, none⟩) HQ.out.2).trans HQ.out.1, Nat.lt_of_lt_of_le HQ.out.2 (b14).size⟩
        replace HB : Hid (Below w.heap.size w (wa14.alloc (Obj.cells #[Value.int IntKind.i64 zT.k, Value.bool zT.e, Value.string zT.t, Value.slice yY zT.nms.length pY] 25))) := HB.out.trans ((b14).mono HB.out.size)
        clear b14 HA14
        obtain ⟨GY, hGY⟩ : ∃ GY, wa14.heap.size = GY := ⟨_, rfl⟩
        rw [hGY] at HY ⊢
        generalize wa14.alloc (Obj.cells #[Value.int IntKind.i64 zT.k, Value.bool zT.e, Value.string zT.t, Value.slice yY zT.nms.length pY] 25) = wb14 at *
        clear hGY
        obtain ⟨lD, xD, nD, cD, aD0, aD1, aD2, aD3, hAD⟩ := HD.out
        simp only [Nat.zero_add] at aD1 aD2 aD3
        have HAD : Hid (At wb14 fD (.agg #[.int .i64 D.k, .bool D.e, .string D.t, .slice xD nD cD]) D) := hAD
        clear hAD
        go_wp2_with fail
        have C15 := cut_any fD _ _ _ _ _ _ D p wb14 hp HAD.out HD0.out.2.1
        rw [HD0.out.2.2.2.2.1] at C15
        refine C15.mono ?_
        clear C15
        rintro en wa15 hN15
        obtain ⟨yZ, pZ, f15, rfl, hV15, b15⟩ := hN15.out
        obtain ⟨fZ, hA15⟩ := TrV.at zT _ _ hV15 lnT_zero
        clear aD0 aD1 aD2 aD3 lD HAD
        replace HT : Hid (NP wa15 fT GT 0 T) := HT.out.below b15
        replace HU : Hid (NP wa15 fU GU 0 U) := HU.out.below b15
        replace HM : Hid (NP wa15 fM GM 0 M) := HM.out.below b15
        replace HN : Hid (NP wa15 fN GN 0 U) := HN.out.below b15
        replace HI : Hid (NP wa15 fI GI 0 R) := HI.out.below b15
        replace HJ : Hid (NP wa15 fJ GJ 0 R) := HJ.out.below b15
        replace HD : Hid (NP wa15 fD GD 0 D) := HD.out.below b15
        replace HY : Hid (NP wa15 fY GY 0 zT) := HY.out.below b15
        replace HQ : Hid (wa15.cell? ⟨GU, 4, none⟩ = some (.string q) ∧ GU < wa15.heap.size) := ⟨((b15).cell (p := ⟨GU, 4, none⟩) HQ.out.2).trans HQ.out.1, Nat.lt_of_lt_of_le HQ.out.2 (b15).size⟩
        replace HB : Hid (Below w.heap.size w wa15) := HB.out.trans ((b15).mono HB.out.size)
        clear b15 hV15 hN15
        have HA15 : Hid (At wa15 fZ (.agg #[.int .i64 zT.k, .bool zT.e, .string zT.t, .slice yZ zT.nms.length pZ]) zT) := hA15
        clear hA15
        go_upto_region 21 with fail
        have b15 : Below wa15.heap.size wa15 (wa15.alloc (Obj.cells #[Value.int IntKind.i64 zT.k, Value.bool zT.e, Value.string zT.t, Value.slice yZ zT.nms.length pZ] 25)) := (Below.refl _ _).alloc (Nat.le_refl _) _
        have HZ : Hid (NP (wa15.alloc (Obj.cells #[Value.int IntKind.i64 zT.k, Value.bool zT.e, Value.string zT.t, Value.slice yZ zT.nms.length pZ] 25)) fZ wa15.heap.size 0 zT) := NP.new HA15.out 25
        replace HT : Hid (NP (wa15.alloc (Obj.cells #[Value.int IntKind.i64 zT.k, Value.bool zT.e, Value.string zT.t, Value.slice yZ zT.nms.length pZ] 25)) fT GT 0 T) := HT.out.below b15
        replace HU : Hid (NP (wa15.alloc (Obj.cells #[Value.int IntKind.i64 zT.k, Value.bool zT.e, Value.string zT.t, Value.slice yZ zT.nms.length pZ] 25)) fU GU 0 U) := HU.out.below b15
        replace HM : Hid (NP (wa15.alloc (Obj.cells #[Value.int IntKind.i64 zT.k, Value.bool zT.e, Value.string zT.t, Value.slice yZ zT.nms.length pZ] 25)) fM GM 0 M) := HM.out.below b15
        replace HN : Hid (NP (wa15.alloc (Obj.cells #[Value.int IntKind.i64 zT.k, Value.bool zT.e, Value.string zT.t, Value.slice yZ zT.nms.length pZ] 25)) fN GN 0 U) := HN.out.below b15
        replace HI : Hid (NP (wa15.alloc (Obj.cells #[Value.int IntKind.i64 zT.k, Value.bool zT.e, Value.string zT.t, Value.slice yZ zT.nms.length pZ] 25)) fI GI 0 R) := HI.out.below b15
        replace HJ : Hid (NP (wa15.alloc (Obj.cells #[Value.int IntKind.i64 zT.k, Value.bool zT.e, Value.string zT.t, Value.slice yZ zT.nms.length pZ] 25)) fJ GJ 0 R) := HJ.out.below b15
        replace HD : Hid (NP (wa15.alloc (Obj.cells #[Value.int IntKind.i64 zT.k, Value.bool zT.e, Value.string zT.t, Value.slice yZ zT.nms.length pZ] 25)) fD GD 0 D) := HD.out.below b15
        replace HY : Hid (NP (wa15.alloc (Obj.cells #[Value.int IntKind.i64 zT.k, Value.bool zT.e, Value.string zT.t, Value.slice yZ zT.nms.length pZ] 25)) fY GY 0 zT) := HY.out.below b15
        replace HQ : Hid ((wa15.alloc (Obj.cells #[Value.int IntKind.i64 zT.k, Value.bool zT.e, Value.string zT.t, Value.slice yZ zT.nms.length pZ] 25)).cell? ⟨GU, 4, none⟩ = some (.string q) ∧ GU < (wa15.alloc (Obj.cells #[Value.int IntKind.i64 zT.k, Value.bool zT.e, Value.string zT.t, Value.slice yZ zT.nms.length pZ] 25)).heap.size) := ⟨((b15).cell (p := ⟨GU, 4, none⟩) HQ.out.2).trans HQ.out.1, Nat.lt_of_lt_of_le HQ.out.2 (b15).size⟩
        replace HB : Hid (Below w.heap.size w (wa15.alloc (Obj.cells #[Value.int IntKind.i64 zT.k, Value.bool zT.e, Value.string zT.t, Value.slice yZ zT.nms.length pZ] 25))) := HB.out.trans ((b15).mono HB.out.size)
        clear b15 HA15
        obtain ⟨GZ, hGZ⟩ : ∃ GZ, wa15.heap.size = GZ := ⟨_, rfl⟩
        rw [hGZ] at HZ ⊢
        generalize wa15.alloc (Obj.cells #[Value.int IntKind.i64 zT.k, Value.bool zT.e, Value.string zT.t, Value.slice yZ zT.nms.length pZ] 25) = wb15 at *
        clear hGZ
        obtain ⟨lD, xD, nD, cD, aD0, aD1, aD2, aD3, hAD⟩ := HD.out
        simp only [Nat.zero_add] at aD1 aD2 aD3
        have HAD : Hid (At wb15 fD (.agg #[.int .i64 D.k, .bool D.e, .string D.t, .slice xD nD cD]) D) := hAD
        clear hAD
        obtain ⟨lU, xU, nU, cU, aU0, aU1, aU2, aU3, hAU⟩ := HU.out
        simp only [Nat.zero_add] at aU1 aU2 aU3
        have HAU : Hid (At wb15 fU (.agg #[.int .i64 U.k, .bool U.e, .string U.t, .slice xU nU cU]) U) := hAU
        clear hAU
        go_wp2_with fail
        have C16 := put_any fD fU _ _ _ _ _ _ D p _ _ _ _ _ _ U wb15 hp HAD.out HD0.out.2.1 HAU.out HH.out.2.2.2.2.1
        rw [HD0.out.2.2.2.2.2] at C16
        refine C16.mono ?_
        clear C16
        rintro en wa16 hN16
        obtain ⟨yW, pW, f16, rfl, hV16, b16⟩ := hN16.out
        obtain ⟨fW, hA16⟩ := TrV.at M _ _ hV16 HLM.out
        clear aD0 aD1 aD2 aD3 lD HAD aU0 aU1 aU2 aU3 lU HAU
        replace HT : Hid (NP wa16 fT GT 0 T) := HT.out.below b16
        replace HU : Hid (NP wa16 fU GU 0 U) := HU.out.below b16
        replace HM : Hid (NP wa16 fM GM 0 M) := HM.out.below b16
        replace HN : Hid (NP wa16 fN GN 0 U) := HN.out.below b16
        replace HI : Hid (NP wa16 fI GI 0 R) := HI.out.below b16
        replace HJ : Hid (NP wa16 fJ GJ 0 R) := HJ.out.below b16
        replace HD : Hid (NP wa16 fD GD 0 D) := HD.out.below b16
        replace HY : Hid (NP wa16 fY GY 0 zT) := HY.out.below b16
        replace HZ : Hid (NP wa16 fZ GZ 0 zT) := HZ.out.below b16
        replace HQ : Hid (wa16.cell? ⟨GU, 4, none⟩ = some (.string q) ∧ GU < wa16.heap.size) := ⟨((b16).cell (p := ⟨GU, 4, none⟩) HQ.out.2).trans HQ.out.1, Nat.lt_of_lt_of_le HQ.out.2 (b16).size⟩
        replace HB : Hid (Below w.heap.size w wa16) := HB.out.trans ((b16).mono HB.out.size)
        clear b16 hV16 hN16
        have HA16 : Hid (At wa16 fW (.agg #[.int .i64 M.k, .bool M.e, .string M.t, .slice yW M.nms.length pW]) M) := hA16
        clear hA16
        go_upto_region 24 with fail
        have b16 : Below wa16.heap.size wa16 (wa16.alloc (Obj.cells #[Value.int IntKind.i64 M.k, Value.bool M.e, Value.string M.t, Value.slice yW M.nms.length pW] 25)) := (Below.refl _ _).alloc (Nat.le_refl _) _
        have HW : Hid (NP (wa16.alloc (Obj.cells #[Value.int IntKind.i64 M.k, Value.bool M.e, Value.string M.t, Value.slice yW M.nms.length pW] 25)) fW wa16.heap.size 0 M) := NP.new HA16.out 25
        replace HT : Hid (NP (wa16.alloc (Obj.cells #[Value.int IntKind.i64 M.k, Value.bool M.e, Value.string M.t, Value.slice yW M.nms.length pW] 25)) fT GT 0 T) := HT.out.below b16
        replace HU : Hid (NP (wa16.alloc (Obj.cells #[Value.int IntKind.i64 M.k, Value.bool M.e, Value.string M.t, Value.slice yW M.nms.length pW] 25)) fU GU 0 U) := HU.out.below b16
        replace HM : Hid (NP (wa16.alloc (Obj.cells #[Value.int IntKind.i64 M.k, Value.bool M.e, Value.string M.t, Value.slice yW M.nms.length pW] 25)) fM GM 0 M) := HM.out.below b16
        replace HN : Hid (NP (wa16.alloc (Obj.cells #[Value.int IntKind.i64 M.k, Value.bool M.e, Value.string M.t, Value.slice yW M.nms.length pW] 25)) fN GN 0 U) := HN.out.below b16
        replace HI : Hid (NP (wa16.alloc (Obj.cells #[Value.int IntKind.i64 M.k, Value.bool M.e, Value.string M.t, Value.slice yW M.nms.length pW] 25)) fI GI 0 R) := HI.out.below b16
        replace HJ : Hid (NP (wa16.alloc (Obj.cells #[Value.int IntKind.i64 M.k, Value.bool M.e, Value.string M.t, Value.slice yW M.nms.length pW] 25)) fJ GJ 0 R) := HJ.out.below b16
        replace HD : Hid (NP (wa16.alloc (Obj.cells #[Value.int IntKind.i64 M.k, Value.bool M.e, Value.string M.t, Value.slice yW M.nms.length pW] 25)) fD GD 0 D) := HD.out.below b16
        replace HY : Hid (NP (wa16.alloc (Obj.cells #[Value.int IntKind.i64 M.k, Value.bool M.e, Value.string M.t, Value.slice yW M.nms.length pW] 25)) fY GY 0 zT) := HY.out.below b16
        replace HZ : Hid (NP (wa16.alloc (Obj.cells #[Value.int IntKind.i64 M.k, Value.bool M.e, Value.string M.t, Value.slice yW M.nms.length pW] 25)) fZ GZ 0 zT) := HZ.out.below b16
        replace HQ : Hid ((wa16.alloc (Obj.cells #[Value.int IntKind.i64 M.k, Value.bool M.e, Value.string M.t, Value.slice yW M.nms.length pW] 25)).cell? ⟨GU, 4, none⟩ = some (.string q) ∧ GU < (wa16.alloc (Obj.cells #[Value.int IntKind.i64 M.k, Value.bool M.e, Value.string M.t, Value.slice yW M.nms.length pW] 25)).heap.size) := ⟨((b16).cell (p := ⟨GU, 4, none⟩) HQ.out.2).trans HQ.out.1, Nat.lt_of_lt_of_le HQ.out.2 (b16).size⟩
        replace HB : Hid (Below w.heap.size w (wa16.alloc (Obj.cells #[Value.int IntKind.i64 M.k, Value.bool M.e, Value.string M.t, Value.slice yW M.nms.length pW] 25))) := HB.out.trans ((b16).mono HB.out.size)
        clear b16 HA16
        obtain ⟨GW, hGW⟩ : ∃ GW, wa16.heap.size = GW := ⟨_, rfl⟩
        rw [hGW] at HW ⊢
        generalize wa16.alloc (Obj.cells #[Value.int IntKind.i64 M.k, Value.bool M.e, Value.string M.t, Value.slice yW M.nms.length pW] 25) = wb16 at *
        clear hGW
        obtain ⟨lW, xW, nW, cW, aW0, aW1, aW2, aW3, hAW⟩ := HW.out
        simp only [Nat.zero_add] at aW1 aW2 aW3
        have HAW : Hid (At wb16 fW (.agg #[.int .i64 M.k, .bool M.e, .string M.t, .slice xW nW cW]) M) := hAW
        clear hAW
        obtain ⟨lM, xM, nM, cM, aM0, aM1, aM2, aM3, hAM⟩ := HM.out
        simp only [Nat.zero_add] at aM1 aM2 aM3
        have HAM : Hid (At wb16 fM (.agg #[.int .i64 M.k, .bool M.e, .string M.t, .slice xM nM cM]) M) := hAM
        clear hAM
        go_wp2_with fail
        refine (requal_any (fW + fM) _ _ _ _ wb16 (HAW.out.upto (by omega)) (HAM.out.upto (by omega))).mono ?_
        rintro en we17 ⟨⟨r17, rfl, hr17⟩, b17⟩
        obtain rfl : r17 = true := hr17.2 rfl
        clear aW0 aW1 aW2 aW3 lW HAW aM0 aM1 aM2 aM3 lM HAM
        replace HT : Hid (NP we17 fT GT 0 T) := HT.out.below b17
        replace HU : Hid (NP we17 fU GU 0 U) := HU.out.below b17
        replace HM : Hid (NP we17 fM GM 0 M) := HM.out.below b17
        replace HN : Hid (NP we17 fN GN 0 U) := HN.out.below b17
        replace HI : Hid (NP we17 fI GI 0 R) := HI.out.below b17
        replace HJ : Hid (NP we17 fJ GJ 0 R) := HJ.out.below b17
        replace HD : Hid (NP we17 fD GD 0 D) := HD.out.below b17
        replace HY : Hid (NP we17 fY GY 0 zT) := HY.out.below b17
        replace HZ : Hid (NP we17 fZ GZ 0 zT) := HZ.out.below b17
        replace HW : Hid (NP we17 fW GW 0 M) := HW.out.below b17
        replace HQ : Hid (we17.cell? ⟨GU, 4, none⟩ = some (.string q) ∧ GU < we17.heap.size) := ⟨((b17).cell (p := ⟨GU, 4, none⟩) HQ.out.2).trans HQ.out.1, Nat.lt_of_lt_of_le HQ.out.2 (b17).size⟩
        replace HB : Hid (Below w.heap.size w we17) := HB.out.trans ((b17).mono HB.out.size)
        clear b17 hr17
        go_wp2
        go_ret
        exact ⟨rfl, HB.out⟩
  · obtain rfl : M = zT := by have h0 := putT_bad (T := T) (U := U) (p := p) (by rw [HM0.out]; exact hc); rw [HM0.out] at h0; exact h0
    have C18 := put_any fT fU _ _ _ _ _ _ T p _ _ _ _ _ _ U w2 hp HAT.out HH.out.2.1 HAU.out HH.out.2.2.2.2.1
    rw [HM0.out] at C18
    refine C18.mono ?_
    clear C18
    rintro en wa18 hN18
    obtain ⟨yM, pM, f18, rfl, hV18, b18⟩ := hN18.out
    obtain ⟨fM, hA18⟩ := TrV.at zT _ _ hV18 lnT_zero
    clear aT0 aT1 aT2 aT3 lT HAT aU0 aU1 aU2 aU3 lU HAU
    replace HT : Hid (NP wa18 fT GT 0 T) := HT.out.below b18
    replace HU : Hid (NP wa18 fU GU 0 U) := HU.out.below b18
    replace HQ : Hid (wa18.cell? ⟨GU, 4, none⟩ = some (.string q) ∧ GU < wa18.heap.size) := ⟨((b18).cell (p := ⟨GU, 4, none⟩) HQ.out.2).trans HQ.out.1, Nat.lt_of_lt_of_le HQ.out.2 (b18).size⟩
    replace HB : Hid (Below w.heap.size w wa18) := HB.out.trans ((b18).mono HB.out.size)
    clear b18 hV18 hN18
    have HA18 : Hid (At wa18 fM (.agg #[.int .i64 zT.k, .bool zT.e, .string zT.t, .slice yM zT.nms.length pM]) zT) := hA18
    clear hA18
    go_upto_region 4 with fail
    have b18 : Below wa18.heap.size wa18 (wa18.alloc (Obj.cells #[Value.int IntKind.i64 zT.k, Value.bool zT.e, Value.string zT.t, Value.slice yM zT.nms.length pM] 25)) := (Below.refl _ _).alloc (Nat.le_refl _) _
    have HM : Hid (NP (wa18.alloc (Obj.cells #[Value.int IntKind.i64 zT.k, Value.bool zT.e, Value.string zT.t, Value.slice yM zT.nms.length pM] 25)) fM wa18.heap.size 0 zT) := NP.new HA18.out 25
    replace HT : Hid (NP (wa18.alloc (Obj.cells #[Value.int IntKind.i64 zT.k, Value.bool zT.e, Value.string zT.t, Value.slice yM zT.nms.length pM] 25)) fT GT 0 T) := HT.out.below b18
    replace HU : Hid (NP (wa18.alloc (Obj.cells #[Value.int IntKind.i64 zT.k, Value.bool zT.e, Value.string zT.t, Value.slice yM zT.nms.length pM] 25)) fU GU 0 U) := HU.out.below b18
    replace HQ : Hid ((wa18.alloc (Obj.cells #[Value.int IntKind.i64 zT.k, Value.bool zT.e, Value.string zT.t, Value.slice yM zT.nms.length pM] 25)).cell? ⟨GU, 4, none⟩ = some (.string q) ∧ GU < (wa18.alloc (Obj.cells #[Value.int IntKind.i64 zT.k, Value.bool zT.e, Value.string zT.t, Value.slice yM zT.nms.length pM] 25)).heap.size) := ⟨((b18).cell (p := ⟨GU, 4, none⟩) HQ.out.2).trans HQ.out.1, Nat.lt_of_lt_of_le HQ.out.2 (b18).size⟩
    replace HB : Hid (Below w.heap.size w (wa18.alloc (Obj.cells #[Value.int IntKind.i64 zT.k, Value.bool zT.e, Value.string zT.t, Value.slice yM zT.nms.length pM] 25))) := HB.out.trans ((b18).mono HB.out.size)
    clear b18 HA18
    obtain ⟨GM, hGM⟩ : ∃ GM, wa18.heap.size = GM := ⟨_, rfl⟩
    rw [hGM] at HM ⊢
    generalize wa18.alloc (Obj.cells #[Value.int IntKind.i64 zT.k, Value.bool zT.e, Value.string zT.t, Value.slice yM zT.nms.length pM] 25) = wb18 at *
    clear hGM
    obtain ⟨lM, xM, nM, cM, aM0, aM1, aM2, aM3, hAM⟩ := HM.out
    simp only [Nat.zero_add] at aM1 aM2 aM3
    have HAM : Hid (At wb18 fM (.agg #[.int .i64 zT.k, .bool zT.e, .string zT.t, .slice xM nM cM]) zT) := hAM
    clear hAM
    go_wp2_with fail
    refine (requal_any (fM + 1) _ _ _ _ wb18 (HAM.out.upto (by omega)) ((At_zero wb18).upto (by omega))).mono ?_
    rintro en wz ⟨⟨r, rfl, hr⟩, bz⟩
    obtain rfl : r = true := hr.2 rfl
    clear aM0 aM1 aM2 aM3 lM HAM
    replace HT : Hid (NP wz fT GT 0 T) := HT.out.below bz
    replace HU : Hid (NP wz fU GU 0 U) := HU.out.below bz
    replace HM : Hid (NP wz fM GM 0 zT) := HM.out.below bz
    replace HQ : Hid (wz.cell? ⟨GU, 4, none⟩ = some (.string q) ∧ GU < wz.heap.size) := ⟨((bz).cell (p := ⟨GU, 4, none⟩) HQ.out.2).trans HQ.out.1, Nat.lt_of_lt_of_le HQ.out.2 (bz).size⟩
    replace HB : Hid (Below w.heap.size w wz) := HB.out.trans ((bz).mono HB.out.size)
    go_wp2
    go_ret
    exact ⟨rfl, HB.out⟩

theorem nc43 : Tryd.prog.cellsOf 43 = 5 := by kernel_rfl
theorem open_other {H : Type} {enc : TypeId × Value → H} {w : World} {sp : Nat → Bool} {held : Bool} (fuel : Nat) (cs : List Value) (x : DataW H × List MemPlace) (h : DataW.trod enc Tryd.prog w 0 sp held fuel 43 cs = some x) (hw : Rows.uptoBulk x.1 ≤ 1048576) :
    ∃ f k e t z n c T q, cs = [.int .i64 k, .bool e, .string t, .slice z n c, .string q] ∧ At w f (.agg #[.int .i64 k, .bool e, .string t, .slice z n c]) T ∧ smT T ∧ q.size ≤ 1048576 := by
  obtain ⟨xs, n1, rfl, rfl, hl, hlen, hfs⟩ := DataW.trod_struct Tryd.underlying43 h
  rw [nc43] at hl
  have g0 : DataW.trod enc Tryd.prog w 0 sp held n1 25 ((cs.drop 0).take (Tryd.prog.cellsOf 25)) = xs[0]? := hfs 0 _ rfl
  rw [nc25] at g0
  have g1 : DataW.trod enc Tryd.prog w 0 sp held n1 9 ((cs.drop 4).take (Tryd.prog.cellsOf 9)) = xs[1]? := hfs 1 _ rfl
  rw [nc9] at g1
  have hlen : xs.length = 2 := hlen
  clear hfs h
  match cs, hl, xs, hlen with
  | [u0, u1, u2, u3, u4], _, [y0, y1], _ =>
    obtain ⟨q, hq, yq, _⟩ := DataW.trod_string Tryd.underlying9 (x := y1) g1
    have hw : Rows.uptoBulk y0.1 + (Rows.uptoBulk y1.1 + 0) + 1 ≤ 1048576 := hw
    have hqz : q.size ≤ 1048576 := by
      have e9 : Rows.uptoBulk y1.1 = q.data.toList.length + 1 := by rw [yq]; rfl
      have e8 : q.data.toList.length = q.size := by rw [Array.length_toList]; rfl
      omega
    obtain ⟨k, e, t, z, n, c, T, h1, h2, h3⟩ := open_nodeB n1 _ y0 g0 (by omega)
    simp at hq h1
    obtain ⟨rfl, rfl, rfl, rfl⟩ := h1
    subst hq
    exact ⟨n1, k, e, t, z, n, c, T, q, rfl, h2, h3, hqz⟩

theorem putget_walkC (f : Nat) (k : Int) (e : Bool) (t : ByteArray) (z : Option Addr) (n cz : Nat) (T : Tr) (p : ByteArray) (fu : Nat) (ku : Int) (eu : Bool) (tu : ByteArray) (zu : Option Addr) (nu czu : Nat) (U : Tr) (q : ByteArray) (w : World) (hA : At w f (.agg #[.int .i64 k, .bool e, .string t, .slice z n cz]) T) (hS : smT T) (hp : p.size ≤ 1048576) (hU : At w fu (.agg #[.int .i64 ku, .bool eu, .string tu, .slice zu nu czu]) U) (hSU : smT U) (hq : q.size ≤ 1048576) :
    Calls Tryd.prog 5 #[.agg #[.int .i64 k, .bool e, .string t, .slice z n cz], .string p, .agg #[.int .i64 ku, .bool eu, .string tu, .slice zu nu czu, .string q]] w fun en w' => en = .returned (.bool true) ∧ Below w.heap.size w w' := putget_walk f fu k e t z n cz T p ku eu tu zu nu czu U q w hA hS hU hSU hp hq
end Go.Proofs.YtmknnblogfpifaaDoor
