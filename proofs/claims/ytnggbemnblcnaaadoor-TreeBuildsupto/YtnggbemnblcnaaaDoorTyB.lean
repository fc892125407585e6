/- The names of a well-formed tree rise; the way down a tree (own text of the verifier, no walk). -/
import Derived.Test.YtnggbemnblcnaaaDoorTyA
import Derived.Test.YtnggbemnblcnaaaDoorTwC
namespace Go.Proofs.YtnggbemnblcnaaaDoor
open Go.RowKit

theorem cb_refl : ∀ a : List UInt8, Lib.compareBytes a a = 0
  | [] => rfl
  | x :: a => by rw [Lib.compareBytes]; simp [cb_refl a]
theorem cb_eq : ∀ a b : List UInt8, Lib.compareBytes a b = 0 → a = b
  | [], [], _ => rfl
  | [], _ :: _, h => by simp [Lib.compareBytes] at h
  | _ :: _, [], h => by simp [Lib.compareBytes] at h
  | x :: a, y :: b, h => by
    rw [Lib.compareBytes] at h
    by_cases h1 : x < y
    · rw [if_pos h1] at h; cases h
    · rw [if_neg h1] at h
      by_cases h2 : y < x
      · rw [if_pos h2] at h; cases h
      · rw [if_neg h2] at h
        have e : x = y := by
          rw [UInt8.lt_iff_toNat_lt] at h1 h2
          exact UInt8.toNat_inj.1 (by omega)
        rw [e, cb_eq a b h]
theorem cb_trans : ∀ a b c : List UInt8, Lib.compareBytes a b < 0 → Lib.compareBytes b c ≤ 0 → Lib.compareBytes a c < 0
  | [], [], _, h, _ => by simp [Lib.compareBytes] at h
  | [], _ :: _, [], _, h => by simp [Lib.compareBytes] at h
  | [], _ :: _, _ :: _, _, _ => by simp [Lib.compareBytes]
  | _ :: _, [], _, h, _ => by simp [Lib.compareBytes] at h
  | _ :: _, _ :: _, [], _, h => by simp [Lib.compareBytes] at h
  | x :: a, y :: b, z :: c, h, h' => by
    rw [Lib.compareBytes] at h h' ⊢
    by_cases h1 : x < y
    · by_cases h2 : y < z
      · have h3 : x < z := by rw [UInt8.lt_iff_toNat_lt] at h1 h2 ⊢; omega
        rw [if_pos h3]; decide
      · rw [if_neg h2] at h'
        by_cases h3 : z < y
        · rw [if_pos h3] at h'; omega
        · have h4 : x < z := by rw [UInt8.lt_iff_toNat_lt] at h1 h2 h3 ⊢; omega
          rw [if_pos h4]; decide
    · rw [if_neg h1] at h
      by_cases h2 : y < x
      · rw [if_pos h2] at h; omega
      · rw [if_neg h2] at h
        have e : x = y := by
          rw [UInt8.lt_iff_toNat_lt] at h1 h2
          exact UInt8.toNat_inj.1 (by omega)
        subst e
        by_cases h3 : x < z
        · rw [if_pos h3]; decide
        · rw [if_neg h3] at h' ⊢
          by_cases h4 : z < x
          · rw [if_pos h4] at h'; omega
          · rw [if_neg h4] at h' ⊢
            exact cb_trans a b c h h'

theorem cmpB_refl (a : ByteArray) : cmpB a a = 0 := cb_refl _
theorem cmpB_eq {a b : ByteArray} (h : cmpB a b = 0) : a = b := ByteArray.ext (Array.toList_inj.1 (cb_eq _ _ h))
theorem cmpB_trans {a b c : ByteArray} (h : cmpB a b < 0) (h' : cmpB b c ≤ 0) : cmpB a c < 0 := cb_trans _ _ _ h h'

/-- Rising names. -/
def Up (ns : List ByteArray) : Prop := ns.Pairwise (fun a b => cmpB a b < 0)
theorem Up.at {ns : List ByteArray} (h : Up ns) {a b : Nat} (hab : a < b) (hb : b < ns.length) : cmpB (nmA ns a) (nmA ns b) < 0 := by
  have := List.pairwise_iff_getElem.1 h a b (by omega) hb hab
  rw [nmA_of (List.getElem?_eq_getElem (show a < ns.length by omega)), nmA_of (List.getElem?_eq_getElem hb)]
  exact this
theorem Up.mono {ns : List ByteArray} (h : Up ns) (s : ByteArray) : Mono ns s := fun a b hab hb hc => by
  by_cases e : a = b
  · rw [e]; exact hc
  · exact cmpB_trans (h.at (by omega) hb) (by omega)

mutual
/-- The names rise, all down the tree. -/
def ascT : Tr → Prop
  | .mk _ _ _ ns ks => Up ns ∧ ascL ks
def ascL : List Tr → Prop
  | [] => True
  | T :: ks => ascT T ∧ ascL ks
end
theorem ascL_at : ∀ (ks : List Tr) (i : Nat) (T : Tr), ascL ks → ks[i]? = some T → ascT T
  | [], i, T, _, h => by simp at h
  | K :: ks, 0, T, h, e => by rw [ascL] at h; simp at e; rw [← e]; exact h.1
  | K :: ks, i + 1, T, h, e => by rw [ascL] at h; exact ascL_at ks i T h.2 (by simpa using e)

mutual
theorem vT_asc : ∀ (T : Tr) (ns : List ByteArray) (b : Int), wfT T → (vT ns b T).off = none → ascT T
  | .mk k e t nms ks, ns, b, hw, h => by
    rw [wfT] at hw
    rw [vT] at h
    split at h
    · cases h
    split at h
    · cases h
    split at h
    · cases h
    have := vL_asc nms ks ns _ none hw h
    rw [ascT]
    exact ⟨this.1, this.2.2⟩
theorem vL_asc : ∀ (nms : List ByteArray) (ks : List Tr) (ns : List ByteArray) (b : Int) (prev : Option ByteArray), wfL nms ks → (vL ns b prev nms ks).off = none → Up nms ∧ (∀ s', prev = some s' → ∀ s ∈ nms, cmpB s' s < 0) ∧ ascL ks
  | [], [], ns, b, prev, hw, h => ⟨List.Pairwise.nil, fun _ _ s hs => absurd hs (by simp), by rw [ascL]; trivial⟩
  | [], _ :: _, ns, b, prev, hw, h => by rw [wfL] at hw; exact hw.elim; all_goals (intros; simp_all)
  | _ :: _, [], ns, b, prev, hw, h => by rw [wfL] at hw; exact hw.elim; all_goals (intros; simp_all)
  | s :: nms, T :: ks, ns, b, prev, hw, h => by
    rw [wfL] at hw
    rw [vL] at h
    split at h
    · cases h
    rename_i h0
    have h0' : entO prev s b = 0 := by omega
    obtain ⟨_, hp, _⟩ := entO_parts h0'
    split at h
    · rename_i hT
      obtain ⟨i1, i2, i3⟩ := vL_asc nms ks ns _ (some s) hw.2 h
      have i2' := i2 s rfl
      refine ⟨List.Pairwise.cons i2' i1, fun s' hs' z hz => ?_, ?_⟩
      · rcases List.mem_cons.1 hz with rfl | hz
        · exact hp s' hs'
        · exact cmpB_trans (hp s' hs') (by have := i2' z hz; omega)
      · rw [ascL]; exact ⟨vT_asc T _ _ hw.1 hT, i3⟩
    · cases h
end

/-- The kid of a name. -/
def sub (s : ByteArray) : List ByteArray → List Tr → Option Tr
  | n :: ns, K :: ks => if n = s then some K else sub s ns ks
  | _, _ => none
theorem sub_at (s : ByteArray) : ∀ (ns : List ByteArray) (ks : List Tr) (i : Nat) (K : Tr), (∀ j, j < i → nmA ns j ≠ s) → ns[i]? = some s → ks[i]? = some K → sub s ns ks = some K
  | [], _, i, K, _, h, _ => by simp at h
  | _ :: _, [], i, K, _, _, h => by simp at h
  | n :: ns, L :: ks, 0, K, _, h, h' => by simp at h h'; rw [sub, if_pos h, h']
  | n :: ns, L :: ks, i + 1, K, hj, h, h' => by
    rw [sub, if_neg (by have := hj 0 (by omega); simpa [nmA] using this)]
    exact sub_at s ns ks i K (fun j hj' => by have := hj (j + 1) (by omega); simpa [nmA] using this) (by simpa using h) (by simpa using h')
theorem sub_none (s : ByteArray) : ∀ (ns : List ByteArray) (ks : List Tr), (∀ j, j < ns.length → nmA ns j ≠ s) → sub s ns ks = none
  | [], _, _ => by rw [sub]; intros; simp_all
  | _ :: _, [], _ => by rw [sub]; intros; simp_all
  | n :: ns, L :: ks, hj => by
    rw [sub, if_neg (by have := hj 0 (by simp); simpa [nmA] using this)]
    exact sub_none s ns ks (fun j hj' => by have := hj (j + 1) (by simpa using hj'); simpa [nmA] using this)

theorem BS.yes {ns : List ByteArray} {s : ByteArray} {i : Nat} (B : BS ns s i) (h : i < ns.length) (hc : cmpB (nmA ns i) s = 0) (ks : List Tr) (K : Tr) (hK : ks[i]? = some K) : sub s ns ks = some K := by
  have e : ns[i]? = some s := by rw [List.getElem?_eq_getElem h, ← cmpB_eq hc, nmA_of (List.getElem?_eq_getElem h)]
  exact sub_at s ns ks i K (fun j hj he => by have := B.lo j hj; rw [he, cmpB_refl] at this; omega) e hK
theorem BS.no {ns : List ByteArray} {s : ByteArray} {i : Nat} (B : BS ns s i) (U : Up ns) (hc : ¬ (i < ns.length ∧ cmpB (nmA ns i) s = 0)) (ks : List Tr) : sub s ns ks = none := by
  refine sub_none s ns ks (fun j hj he => ?_)
  by_cases h1 : j < i
  · have := B.lo j h1; rw [he, cmpB_refl] at this; omega
  · by_cases h2 : j = i
    · exact hc ⟨by omega, by rw [← h2, he, cmpB_refl]⟩
    · have := U.at (a := i) (b := j) (by omega) hj
      have h3 := B.hi i (Nat.le_refl _) (by omega)
      rw [he] at this; omega

/-- The way down: the code, and where it ends. -/
def rch : List ByteArray → Tr → Int × Tr
  | [], T => (0, T)
  | s :: l, T => if T.k ≠ 3 then (65, T) else match sub s T.nms T.ks with
    | none => (3, T)
    | some K => rch l K
end Go.Proofs.YtnggbemnblcnaaaDoor
