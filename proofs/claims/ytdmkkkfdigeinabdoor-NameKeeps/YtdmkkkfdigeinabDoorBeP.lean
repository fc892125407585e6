/- A path lies under another just where its names begin with the other's: plain. -/
import Derived.Test.YtdmkkkfdigeinabDoorBaP
import Derived.Test.YtdmkkkfdigeinabDoorUnA
namespace Go.Proofs.YtdmkkkfdigeinabDoor
open Go.RowKit

theorem cut_one (x y r s : List UInt8) (hx : (47 : UInt8) ∉ x) (hy : (47 : UInt8) ∉ y) (h : x ++ 47 :: r = y ++ 47 :: s) : x = y ∧ r = s := by
  induction x generalizing y with
  | nil =>
    cases y with
    | nil => simpa using h
    | cons b y => simp at h; exact absurd (by simp [← h.1]) hy
  | cons a x ih =>
    cases y with
    | nil => simp at h; exact absurd (by simp [h.1]) hx
    | cons b y =>
      simp at h hx hy
      obtain ⟨h1, h2⟩ := ih y hx.2 hy.2 h.2
      exact ⟨by rw [h.1, h1], h2⟩

theorem chk_noslash (x : ByteArray) (h : chk x = 0) : (47 : UInt8) ∉ x.data.toList := fun hm => by
  obtain ⟨k, hk, e⟩ := List.mem_iff_getElem.1 hm
  have hk' : k < x.size := by rw [Lib.size_eq]; exact hk
  refine (chk_parts x h).2 k hk' ?_
  rw [← get_bt x k hk']
  have : x[k]'hk' = 47 := by rw [← e]; show x.data[k] = _; rw [Array.getElem_toList]
  rw [this]; rfl

theorem joinL_cons (x : ByteArray) (L : List ByteArray) (h : L ≠ []) : (joinB (x :: L)).data.toList = x.data.toList ++ 47 :: (joinB L).data.toList := by
  rw [joinB_cons x L h]; simp

theorem begins_of (LT LP : List ByteArray) (hT : ∀ x ∈ LT, chk x = 0) (hP : ∀ x ∈ LP, chk x = 0) (hn : LT ≠ []) (r : List UInt8) (h : (joinB LP).data.toList = (joinB LT).data.toList ++ 47 :: r) : LT <+: LP := by
  induction LT generalizing LP with
  | nil => exact absurd rfl hn
  | cons x LT ih =>
    have hx := chk_noslash x (hT x (by simp))
    cases LP with
    | nil =>
      have : (joinB []).data.toList = [] := rfl
      rw [this] at h; simp at h
    | cons y LP =>
      have hy := chk_noslash y (hP y (by simp))
      by_cases hp : LP = []
      · subst hp
        rw [joinB_one] at h
        exact absurd (by rw [h]; simp) hy
      · rw [joinL_cons y LP hp] at h
        by_cases ht : LT = []
        · subst ht
          rw [joinB_one] at h
          obtain ⟨e, _⟩ := cut_one _ _ _ _ hy hx h
          have : y = x := by apply ByteArray.ext; exact Array.toList_inj.1 e
          rw [this]; exact ⟨LP, rfl⟩
        · rw [joinL_cons x LT ht, List.append_assoc, List.cons_append] at h
          obtain ⟨e, e2⟩ := cut_one _ _ _ _ hy hx h
          have : y = x := by apply ByteArray.ext; exact Array.toList_inj.1 e
          rw [this]
          obtain ⟨R, hR⟩ := ih LP (fun z hz => hT z (by simp [hz])) (fun z hz => hP z (by simp [hz])) ht e2
          exact ⟨R, by rw [← hR]; rfl⟩

theorem joinL_app (LT R : List ByteArray) (hT : LT ≠ []) (hR : R ≠ []) : (joinB (LT ++ R)).data.toList = (joinB LT).data.toList ++ 47 :: (joinB R).data.toList := by
  induction LT with
  | nil => exact absurd rfl hT
  | cons x LT ih =>
    by_cases ht : LT = []
    · subst ht; rw [joinB_one]; exact joinL_cons x R hR
    · rw [List.cons_append, joinL_cons x (LT ++ R) (by simp [ht]), ih ht, joinL_cons x LT ht, List.append_assoc]; rfl

theorem path_parts (p : ByteArray) (h : (pathF p).1 = 0) : p = joinB (pathN p) ∧ ∀ x ∈ pathN p, chk x = 0 := by
  obtain ⟨h1, h2⟩ := back_one p h
  have h3 : (jscan (pathN p) 0).1 = 0 := by show (jF (pathN p)).1 = 0; rw [h1]
  refine ⟨?_, (jscan_ok _ _ h3).2.1⟩
  unfold jS at h2
  rw [if_pos (by rw [h1])] at h2
  exact h2.symm

theorem under_iff (p t : ByteArray) (hp : (pathF p).1 = 0) (ht : (pathF t).1 = 0) : un p t = true ↔ pathN t <+: pathN p := by
  obtain ⟨ep, cp⟩ := path_parts p hp
  obtain ⟨et, ct⟩ := path_parts t ht
  constructor
  · intro h
    unfold un at h
    rw [Bool.or_eq_true, Bool.or_eq_true] at h
    rcases h with (h | h) | h
    · have hz : t.size = 0 := by rw [Lib.size_eq, ← Lib.toList_data]; rw [List.isEmpty_iff] at h; rw [h]; rfl
      have : pathN t = [] := by unfold pathN; rw [if_pos hz]
      rw [this]; exact List.nil_prefix
    · have : p = t := by rw [beq_iff_eq, Lib.toList_data, Lib.toList_data] at h; apply ByteArray.ext; exact Array.toList_inj.1 h
      rw [this]; exact List.prefix_refl _
    · by_cases hn : pathN t = []
      · rw [hn]; exact List.nil_prefix
      · unfold Lib.hasPrefix at h
        rw [List.isPrefixOf_iff_prefix] at h
        obtain ⟨r, hr⟩ := h
        refine begins_of (pathN t) (pathN p) ct cp hn r ?_
        rw [← ep, ← et, ← hr]; simp
  · rintro ⟨R, hR⟩
    unfold un
    rw [Bool.or_eq_true, Bool.or_eq_true]
    by_cases hn : pathN t = []
    · left; left
      rw [et, hn, Lib.toList_data]; rfl
    · by_cases hr : R = []
      · left; right
        rw [hr, List.append_nil] at hR
        rw [ep, et, hR]; simp
      · right
        unfold Lib.hasPrefix
        rw [List.isPrefixOf_iff_prefix]
        refine ⟨(joinB R).data.toList, ?_⟩
        have := joinL_app (pathN t) R hn hr
        rw [hR, ← ep, ← et] at this
        rw [this]; simp

theorem prefix_nth (LT LP : List ByteArray) : LT <+: LP ↔ LT.length ≤ LP.length ∧ ∀ j, j < LT.length → nth LP j = nth LT j := by
  constructor
  · rintro ⟨R, rfl⟩
    refine ⟨by simp, fun j hj => ?_⟩
    unfold nth; simp [hj, List.getElem?_append_left]
  · rintro ⟨h1, h2⟩
    rw [List.prefix_iff_eq_take]
    apply List.ext_getElem
    · rw [List.length_take]; omega
    · intro j h3 h4
      have := h2 j h3
      have h5 : j < LP.length := by omega
      rw [List.getElem_take]
      unfold nth at this
      simpa [h3, h5] using this.symm

end Go.Proofs.YtdmkkkfdigeinabDoor
