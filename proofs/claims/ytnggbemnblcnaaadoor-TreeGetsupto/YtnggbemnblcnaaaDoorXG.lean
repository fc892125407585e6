/- UgK UiC UiF, gathered (own text of the verifier). -/
import Derived.Test.YtnggbemnblcnaaaDoorXF
import Derived.Test.YtnggbemnblcnaaaDoorXD
import Derived.Test.YtnggbemnblcnaaaDoorXE
import Derived.Test.YtnggbemnblcnaaaDoorXK
import Derived.Test.YtnggbemnblcnaaaDoorTvG
namespace Go.Proofs.YtnggbemnblcnaaaDoor
open Go.RowKit

/-- The rows of a well-formed tree build it. -/
theorem bld_tree {K : Tr} (hw : wfT K) (hv : (vT [] 24 K).off = none) : bldT (rwT [] K) = (K, 0, 0) := by
  obtain ⟨k, e, t, nms, ks⟩ := K
  have hvp := vT_parts hv
  rw [wfT] at hw
  obtain ⟨c1, c2⟩ := cfP_kids hvp.2.1
  have hft := ft_root pathN pathN_ok k e t nms ks hw hv
  have hbd := vT_bd [] 24 _ hv (by decide) (by decide)
  have hq : (if k = 3 then gth spN ((joinB [], k, e, t) :: rwL [] nms ks).length [] [] [] (rwL [] nms ks) else (([], [], rwL [] nms ks) : List ByteArray × List Tr × List RW)) = (nms, ks, []) := by
    by_cases h3 : k = 3
    · rw [if_pos h3]
      have := gth_wf spN spN_ok nms ks [] (24 + nbP k e t) none ((joinB [], k, e, t) :: rwL [] nms ks).length [] [] [] hw hvp.2.2.2 (by intro z hz; cases hz) rfl (by rw [List.append_nil]; simp) (fun r rs h => by cases h)
      rw [List.append_nil] at this
      exact this
    · rw [if_neg h3]
      have h0 := c2 h3
      have hn0 : nms = [] := List.length_eq_zero_iff.1 h0
      subst hn0
      cases ks with
      | nil => rfl
      | cons T ks => exact absurd (wfL_len _ _ hw) (by simp)
  rw [rwT] at hft ⊢
  unfold bldT
  dsimp only
  rw [if_neg (by
    intro h
    rcases h with h | h
    · exact h rfl
    · exact h c1), hq]
  dsimp only
  rw [List.length_nil, Nat.sub_zero, List.take_length, ftG_all _ _ (by rw [hft]; exact hbd.2), if_neg (Nat.lt_irrefl _)]

theorem rch_fail : ∀ (L M : List ByteArray) (T : Tr), (rch L T).1 ≠ 0 → (rch (L ++ M) T).1 = (rch L T).1
  | [], M, T, h => absurd rfl h
  | s :: l, M, T, h => by
    show (rch (s :: (l ++ M)) T).1 = _
    rw [rch, rch] at *
    split
    · rfl
    · rename_i hk
      rw [if_neg hk] at h
      cases hs : sub s T.nms T.ks with
      | none => rfl
      | some K =>
        rw [hs] at h
        exact rch_fail l M K h
theorem lk_app : ∀ (L M : List ByteArray) (T : Tr), lk (L ++ M) T = (lk L T).bind (lk M)
  | [], M, T => rfl
  | s :: l, M, T => by
    show lk (s :: (l ++ M)) T = _
    rw [lk, lk]
    cases sub s T.nms T.ks with
    | none => rfl
    | some K => exact lk_app l M K
theorem rchH_zero {L : List ByteArray} {T : Tr} (h : (rchH L T).1 = 0) : (rch L T).1 = 0 ∧ (rch L T).2.k = 3 := by
  unfold rchH at h
  by_cases h1 : (rch L T).1 ≠ 0
  · rw [if_pos h1] at h; exact absurd h h1
  · rw [if_neg h1] at h
    by_cases h2 : (rch L T).2.k ≠ 3
    · rw [if_pos h2] at h; exact absurd (show (65 : Int) = 0 from h) (by decide)
    · exact ⟨by omega, by omega⟩
/-- The way's code is that of reaching the path. -/
theorem way_rch2 {N : List ByteArray} {T : Tr} (h : wayC T N ≠ 0) : (rch N T).1 = wayC T N := by
  by_cases hne : N = []
  · subst hne; exact absurd rfl h
  have en := (List.dropLast_concat_getLast hne).symm
  rw [en] at h ⊢
  rw [wayC_snoc] at h ⊢
  generalize N.dropLast = L at h ⊢
  generalize N.getLast hne = s
  unfold rchH at h ⊢
  by_cases h1 : (rch L T).1 ≠ 0
  · rw [if_pos h1]; exact rch_fail L [s] T h1
  · rw [if_neg h1] at h ⊢
    by_cases h2 : (rch L T).2.k ≠ 3
    · rw [if_pos h2, rch_app L [s] T (by omega), rch, if_pos h2]
    · rw [if_neg h2] at h; exact absurd h h1
theorem way_lk {N : List ByteArray} {T : Tr} (h : wayC T N = 0) : (lk N T = none → (rch N T).1 = 3) ∧ ∀ K, lk N T = some K → rch N T = (0, K) := by
  by_cases hne : N = []
  · subst hne
    exact ⟨fun h => (by cases h), fun K hK => by injection hK with hK; rw [← hK]; rfl⟩
  have en := (List.dropLast_concat_getLast hne).symm
  rw [en] at h ⊢
  rw [wayC_snoc] at h
  generalize N.dropLast = L at h ⊢
  generalize N.getLast hne = s
  obtain ⟨h1, h2⟩ := rchH_zero h
  rw [lk_app, lk_rch L T h1, rch_app L [s] T h1]
  show (lk [s] (rch L T).2 = none → _) ∧ ∀ K, lk [s] (rch L T).2 = some K → _
  rw [lk, rch, if_neg (by omega)]
  cases sub s (rch L T).2.nms (rch L T).2.ks with
  | none => exact ⟨fun _ => rfl, fun K hK => by cases hK⟩
  | some K0 => exact ⟨fun h => (by cases h), fun K hK => by injection hK with hK; rw [← hK]; rfl⟩
theorem get_bad {T : Tr} {p : ByteArray} (h : nmO [T] p = 0) (hw : wayC T (pathN p) ≠ 0) : getT T p = (wayC T (pathN p), zT) := getT_bad h (way_rch2 hw) hw
theorem get_none {T : Tr} {p : ByteArray} (h : nmO [T] p = 0) (hw : wayC T (pathN p) = 0) (hk : lk (pathN p) T = none) : getT T p = (3, zT) := getT_bad h ((way_lk hw).1 hk) (by decide)
theorem get_some {T K : Tr} {p : ByteArray} (h : nmO [T] p = 0) (hw : wayC T (pathN p) = 0) (hk : lk (pathN p) T = some K) : getT T p = (0, K) := getT_of h ((way_lk hw).2 K hk)
/-- The rows at a path, their paths shortened. -/
theorem rw_shift (M : List ByteArray) (K : Tr) : (rnT M K).map (fun p => ((joinB (p.1.drop M.length), p.2.k, p.2.e, p.2.t) : RW)) = rwT [] K := by
  have h := rnT_shift M K []
  rw [List.append_nil] at h
  rw [rwT_rn, ← h, List.map_map]
  rfl
theorem run_filter {nm : ByteArray → List ByteArray} {M : List ByteArray} {L : List RW} {a c : Nat} (h : Run nm M L a c) : L.take a ++ L.drop c = L.filter (fun r => decide (¬ (M <+: nm r.1))) := by
  have e : L = L.take a ++ ((L.drop a).take (c - a) ++ L.drop c) := by
    rw [show L.drop c = (L.drop a).drop (c - a) by rw [List.drop_drop]; congr 1; have := h.le; omega, List.take_append_drop, List.take_append_drop]
  have h1 : (L.take a).filter (fun r => decide (¬ (M <+: nm r.1))) = L.take a := by
    rw [List.filter_eq_self]
    intro r hr
    obtain ⟨i, hi, rfl⟩ := List.getElem_of_mem hr
    rw [List.length_take] at hi
    refine decide_eq_true (h.lo i _ (by omega) ?_)
    rw [List.getElem_take]
    exact List.getElem?_eq_getElem _
  have h2 : ((L.drop a).take (c - a)).filter (fun r => decide (¬ (M <+: nm r.1))) = [] := by
    rw [List.filter_eq_nil_iff]
    intro r hr
    obtain ⟨i, hi, rfl⟩ := List.getElem_of_mem hr
    rw [List.length_take, List.length_drop] at hi
    simp only [decide_eq_true_eq, Decidable.not_not]
    refine h.mid (a + i) _ (by omega) (by omega) ?_
    rw [List.getElem_take, List.getElem_drop]
    exact List.getElem?_eq_getElem _
  have h3 : (L.drop c).filter (fun r => decide (¬ (M <+: nm r.1))) = L.drop c := by
    rw [List.filter_eq_self]
    intro r hr
    obtain ⟨i, hi, rfl⟩ := List.getElem_of_mem hr
    rw [List.length_drop] at hi
    refine decide_eq_true (h.hi (c + i) _ (by omega) ?_)
    rw [List.getElem_drop]
    exact List.getElem?_eq_getElem _
  conv => rhs; rw [e]
  rw [List.filter_append, List.filter_append, h1, h2, h3, List.nil_append]
theorem cut_bad {T : Tr} {p : ByteArray} (h : nmO [T] p = 0) (hw : wayC T (pathN p) ≠ 0) : cutT T p = (wayC T (pathN p), zT) := by
  by_cases hne : pathN p = []
  · rw [hne] at hw; exact absurd rfl hw
  have en := (List.dropLast_concat_getLast hne).symm
  rw [en] at hw ⊢
  rw [wayC_snoc] at hw ⊢
  rw [cutT_snoc h en]
  unfold cutN
  rw [if_pos hw]
theorem cut_root {T : Tr} {p : ByteArray} (h : nmO [T] p = 0) (hN : pathN p = []) : cutT T p = (66, zT) := by
  unfold cutT
  rw [if_neg (by omega), hN]
  rfl
theorem lk_snoc {L : List ByteArray} {s : ByteArray} {T : Tr} (h : (rchH L T).1 = 0) : lk (L ++ [s]) T = sub s (rch L T).2.nms (rch L T).2.ks := by
  rw [lk_app, lk_rch L T (rchH_zero h).1]
  show lk [s] (rch L T).2 = _
  rw [lk]
  cases sub s (rch L T).2.nms (rch L T).2.ks with
  | none => rfl
  | some K => rfl
theorem cut_none {T : Tr} {p : ByteArray} (hwf : wfT T) (h : nmO [T] p = 0) (hne : pathN p ≠ []) (hw : wayC T (pathN p) = 0) (hk : lk (pathN p) T = none) : cutT T p = (3, zT) := by
  have en := (List.dropLast_concat_getLast hne).symm
  rw [en] at hw hk
  rw [wayC_snoc] at hw
  rw [cutT_snoc h en]
  unfold cutN
  rw [if_neg (by omega)]
  rw [lk_snoc hw, sub_find] at hk
  cases hf : (rch (pathN p).dropLast T).2.nms.findIdx? (fun n => decide (n = (pathN p).getLast hne)) with
  | none => rfl
  | some i =>
    rw [hf] at hk
    exfalso
    obtain ⟨h1, _⟩ := List.findIdx?_eq_some_iff_getElem.1 hf
    have hl := wfT_len (wfT_rch (pathN p).dropLast hwf)
    have : (rch (pathN p).dropLast T).2.ks[i]? = none := hk
    rw [List.getElem?_eq_none_iff] at this
    omega
theorem wfT_rep2 {T X : Tr} (L : List ByteArray) (h : wfT T) (hX : wfT X) : wfT (repT L T X) := rep_keeps wfT wfT_kid (fun k e t nms ks h i K hK => by
  rw [wfT, wfL_iff] at h ⊢
  refine ⟨by rw [List.length_set]; exact h.1, fun T hT => ?_⟩
  rcases List.mem_or_eq_of_mem_set hT with hT | rfl
  · exact h.2 T hT
  · exact hK) X hX L T h
theorem wfT_del2 {P : Tr} (i : Nat) (h : wfT P) : wfT (delK P i) := by
  obtain ⟨k, e, t, nms, ks⟩ := P
  rw [wfT, wfL_iff] at h
  show wfT (.mk k e t (nms.eraseIdx i) (ks.eraseIdx i))
  rw [wfT, wfL_iff]
  refine ⟨?_, fun T hT => h.2 T (List.mem_of_mem_eraseIdx hT)⟩
  rw [List.length_eraseIdx, List.length_eraseIdx, h.1]
/-- Cut: the rows without those at the path are those of the tree that Cut answers. -/
theorem cut_some {T K : Tr} {p : ByteArray} {a c : Nat} (hwf : wfT T) (hv : (vT [] 24 T).off = none) (ha : ascT T) (h : nmO [T] p = 0) (hne : pathN p ≠ []) (hw : wayC T (pathN p) = 0) (hk : lk (pathN p) T = some K) (hr : Run pathN (pathN p) (rwT [] T) a c) :
    ∃ D, cutT T p = (0, D) ∧ wfT D ∧ (vT [] 24 D).off = none ∧ (rwT [] T).take a ++ (rwT [] T).drop c = rwT [] D := by
  have en := (List.dropLast_concat_getLast hne).symm
  have hw' := hw
  have hk' := hk
  rw [en] at hw' hk'
  rw [wayC_snoc] at hw'
  obtain ⟨h1, h2⟩ := rchH_zero hw'
  rw [lk_snoc hw', sub_find] at hk'
  cases hf : (rch (pathN p).dropLast T).2.nms.findIdx? (fun n => decide (n = (pathN p).getLast hne)) with
  | none => rw [hf] at hk'; cases hk'
  | some i =>
    rw [hf] at hk'
    have hki : (rch (pathN p).dropLast T).2.ks[i]? = some K := hk'
    obtain ⟨g1, g2, _⟩ := List.findIdx?_eq_some_iff_getElem.1 hf
    have g3 : (rch (pathN p).dropLast T).2.nms[i] = (pathN p).getLast hne := by simpa using g2
    have hP := wfT_rch (pathN p).dropLast hwf
    refine ⟨repT (pathN p).dropLast T (delK (rch (pathN p).dropLast T).2 i), ?_, wfT_rep2 _ hwf (wfT_del2 _ hP), cut_off hP hv h1 g1, ?_⟩
    · rw [cutT_snoc h en]
      unfold cutN
      rw [if_neg (by omega), hf]
    · obtain ⟨A, B, K', e1, hA, hB, e2⟩ := rn_cut (pathN p).dropLast [] ((pathN p).getLast hne) T i ha h1 (by rw [List.getElem?_eq_getElem g1, g3]) (List.getElem?_eq_some_iff.1 hki).1
      rw [List.nil_append, ← en] at e1 hA hB
      rw [run_filter hr, rwT_rn T, e1, List.map_append, List.map_append, List.filter_append, List.filter_append]
      have hnm := rn_nm pathN_ok hv
      rw [e1] at hnm
      have f1 : (A.map rnR).filter (fun r => decide (¬ (pathN p <+: pathN r.1))) = A.map rnR := by
        rw [List.filter_eq_self]
        intro r hr
        obtain ⟨q, hq, rfl⟩ := List.mem_map.1 hr
        rw [hnm q (by simp [hq])]
        exact decide_eq_true (hA q hq)
      have f2 : ((rnT (pathN p) K').map rnR).filter (fun r => decide (¬ (pathN p <+: pathN r.1))) = [] := by
        rw [List.filter_eq_nil_iff]
        intro r hr
        obtain ⟨q, hq, rfl⟩ := List.mem_map.1 hr
        rw [hnm q (by simp [hq])]
        simp only [decide_eq_true_eq, Decidable.not_not]
        exact rnT_pre K' _ q hq
      have f3 : (B.map rnR).filter (fun r => decide (¬ (pathN p <+: pathN r.1))) = B.map rnR := by
        rw [List.filter_eq_self]
        intro r hr
        obtain ⟨q, hq, rfl⟩ := List.mem_map.1 hr
        rw [hnm q (by simp [hq])]
        exact decide_eq_true (hB q hq)
      rw [f1, f2, f3, List.append_nil, ← List.map_append, rwT_rn]
      have hrf : ∀ l : List (List ByteArray × Tr), l.map rnR = (l.map rf).map (fun z => ((joinB z.1, z.2.1, z.2.2.1, z.2.2.2) : RW)) := fun l => by rw [List.map_map]; rfl
      rw [hrf, hrf, e2]
end Go.Proofs.YtnggbemnblcnaaaDoor
namespace Go.Proofs.YtnggbemnblcnaaaDoor
open Go.RowKit

theorem joinB_snocA (ns : List ByteArray) (s : ByteArray) : joinB (ns ++ [s]) = if ns.length = 0 then s else joinB ns ++ ⟨#[47]⟩ ++ s := by
  by_cases h0 : ns.length = 0
  · rw [if_pos h0, List.eq_nil_of_length_eq_zero h0]; rfl
  · rw [if_neg h0]; exact joinB_snoc ns s (fun e => h0 (by rw [e]; rfl))

set_option maxHeartbeats 4000000 in
theorem rpathOf_any (x : Option Addr) (n c : Nat) (L : List ByteArray) (w : World) (hX : Tns w x L) (hl : L.length = n) (hn : n ≤ 64) (hsm : ∀ z ∈ L, z.size ≤ 255) :
    Calls Tryd.prog 33 #[.slice x n c] w fun e w' => e = .returned (.string (joinB L)) ∧ Below w.heap.size w w' := by
  have HX : Hid (Tns w x L ∧ L.length = n ∧ ∀ z ∈ L, z.size ≤ 255) := ⟨hX, hl, hsm⟩
  clear hX hl hsm
  obtain ⟨J, hJ⟩ : ∃ J, joinB L = J := ⟨_, rfl⟩
  have HJ : Hid (joinB L = J) := hJ
  rw [hJ]
  clear hJ
  go_enter Tryd.func33, Tryd.ntmps33
  go_wp2
  go_loopw [3, 4] (fun xp xi wr => ∃ (i : Nat) (P : ByteArray), i ≤ n ∧ xp = .string P ∧ xi = .int .i64 i ∧ P.size ≤ 256 * i ∧ Hid (P = joinB (L.take i)) ∧ Hid (Below w.heap.size w wr)) (fun _ i _ => n - (intOf i).toNat)
  case atStart => exact ⟨0, ⟨#[]⟩, Nat.zero_le _, rfl, rfl, Nat.le_refl _, by rw [Hid, List.take_zero]; rfl, Below.refl _ _⟩
  case round =>
    obtain ⟨i, P, hi, rfl, rfl, hP, HP, HB⟩ := hrel
    by_cases hlt : i < n
    · obtain ⟨s, hs⟩ : ∃ s, L[i]? = some s := ⟨_, List.getElem?_eq_getElem (by rw [HX.out.2.1]; exact hlt)⟩
      have hss := HX.out.2.2 s (List.mem_of_getElem? hs)
      obtain ⟨g, o, rfl, hg, c0⟩ := HX.out.1.below HB.out i s hs
      have HT : Hid (joinB (L.take (i + 1)) = if i = 0 then s else P ++ ⟨#[47]⟩ ++ s) := by
        rw [Hid, List.take_add_one, hs, show (some s).toList = [s] from rfl, joinB_snocA, List.length_take, HX.out.2.1, ← HP.out]
        have : min i n = i := by omega
        rw [this]
      clear hs
      by_cases h0 : i = 0
      · have g0 : decide ((0 : Int) < (i : Int)) = false := decide_eq_false (by omega)
        have g0' : ¬ (0 : Int) < (i : Int) := by omega
        have g1 : ¬ 0 < i := by omega
        have HT2 : Hid (P ++ s = joinB (L.take (i + 1))) := by
          rw [Hid, HT.out, if_pos h0, HP.out, h0, List.take_zero]
          show (⟨#[]⟩ : ByteArray) ++ s = s
          apply ByteArray.ext; simp
        have hsz2 : (P ++ s).size ≤ 256 * (i + 1) := by rw [ByteArray.size_append]; omega
        have e1 : (P ++ s).size = P.size + s.size := ByteArray.size_append
        clear HT HP h0
        go_wp2
        go_roundw
        case rel => exact ⟨i + 1, P ++ s, by omega, rfl, by go_num, hsz2, HT2, HB⟩
        case measure => simp [intOf]; omega
      · have g0 : decide ((0 : Int) < (i : Int)) = true := decide_eq_true (by omega)
        have g1 : 0 < i := by omega
        have HT2 : Hid (P ++ ⟨#[47]⟩ ++ s = joinB (L.take (i + 1))) := by rw [Hid, HT.out, if_neg h0]
        have e47 : (ByteArray.mk #[47]).size = 1 := rfl
        have hsz : (P ++ ⟨#[47]⟩).size ≤ 256 * i + 1 := by rw [ByteArray.size_append, e47]; omega
        have hsz2 : (P ++ ⟨#[47]⟩ ++ s).size ≤ 256 * (i + 1) := by rw [ByteArray.size_append]; omega
        clear HT HP h0
        go_wp2
        go_roundw
        case rel => exact ⟨i + 1, P ++ ⟨#[47]⟩ ++ s, by omega, rfl, by go_num, hsz2, HT2, HB⟩
        case measure => simp [intOf]; omega
    · obtain rfl : i = n := by omega
      obtain rfl : J = P := by rw [← HJ.out, HP.out, List.take_of_length_le (by rw [HX.out.2.1]; exact Nat.le_refl _)]
      go_wp2
      go_ret
      exact ⟨rfl, HB.out⟩
end Go.Proofs.YtnggbemnblcnaaaDoor
namespace Go.Proofs.YtnggbemnblcnaaaDoor
open Go.RowKit

/-- The first i rows but for those from a to c. -/
def wthI (L : List RW) (a c i : Nat) : List RW := (L.take i).take a ++ (L.take i).drop c
theorem wthI_app {L : List RW} {a c i : Nat} {r : RW} (hr : L[i]? = some r) (hac : a ≤ c) (h : i < a ∨ c ≤ i) : wthI L a c (i + 1) = wthI L a c i ++ [r] := by
  have hi : i < L.length := (List.getElem?_eq_some_iff.1 hr).1
  have e : L.take (i + 1) = L.take i ++ [r] := by rw [List.take_add_one, hr]; rfl
  have hl : (L.take i).length = i := by rw [List.length_take]; omega
  unfold wthI
  rw [e]
  generalize L.take i = A at hl ⊢
  rcases h with h | h
  · have h1 : (A ++ [r]).take a = A ++ [r] := List.take_of_length_le (by rw [List.length_append, hl]; simp; omega)
    have h2 : (A ++ [r]).drop c = [] := List.drop_of_length_le (by rw [List.length_append, hl]; simp; omega)
    have h3 : A.take a = A := List.take_of_length_le (by rw [hl]; omega)
    have h4 : A.drop c = [] := List.drop_of_length_le (by rw [hl]; omega)
    rw [h1, h2, h3, h4]
    simp
  · rw [List.take_append_of_le_length (by rw [hl]; omega), List.drop_append_of_le_length (by rw [hl]; omega), List.append_assoc]
theorem wthI_skip {L : List RW} {a c i : Nat} {r : RW} (hr : L[i]? = some r) (h1 : a ≤ i) (h2 : i < c) : wthI L a c (i + 1) = wthI L a c i := by
  have hi : i < L.length := (List.getElem?_eq_some_iff.1 hr).1
  have e : L.take (i + 1) = L.take i ++ [r] := by rw [List.take_add_one, hr]; rfl
  have hl : (L.take i).length = i := by rw [List.length_take]; omega
  unfold wthI
  rw [e, List.take_append_of_le_length (by rw [hl]; omega), List.drop_of_length_le (by rw [List.length_append, hl]; simp; omega), List.drop_of_length_le (by rw [hl]; omega)]
theorem wthI_all {L : List RW} {a c : Nat} : wthI L a c L.length = L.take a ++ L.drop c := by unfold wthI; rw [List.take_length]
/-- What without answers. -/
def WtP (L : List RW) (M : List ByteArray) (w : World) (e : Ending) (w' : World) : Prop := (∃ v Lo, e = .returned v ∧ Rws 29 w' w.heap.size v Lo ∧ Lo.length ≤ L.length ∧ ((∀ (i : Nat) (r : RW), L[i]? = some r → ¬ (M <+: pathN r.1)) ∨ ∃ a c, Fst L M a c ∧ Lo = L.take a ++ L.drop c)) ∧ Below w.heap.size w w'

set_option maxHeartbeats 8000000 in
set_option maxRecDepth 10000 in
theorem without_any (x y : Option Addr) (n c m d : Nat) (L : List RW) (M : List ByteArray) (w : World) (hX : RIs w x L) (hY : Tns w y M) (lx : L.length = n) (ly : M.length = m) (hn : n ≤ 1048576) (hsm : smR L) :
    Calls Tryd.prog 37 #[.slice x n c, .slice y m d] w (WtP L M w) := by
  have HX : Hid (RIs w x L ∧ L.length = n ∧ smR L) := ⟨hX, lx, hsm⟩
  have CU := under_any x y n c m d L M w hX hY lx ly (by omega) hsm
  clear hX hY lx ly hsm
  go_enter Tryd.func37, Tryd.ntmps37
  go_wp2_with fail
  refine CU.mono ?_
  rintro e1 w1 ⟨⟨fr, tt, rfl, hU⟩, b1⟩
  have HB1 : Hid (Below w.heap.size w w1) := b1
  obtain ⟨a, cc, HAC⟩ : ∃ a cc : Nat, Hid (a ≤ cc ∧ cc ≤ n ∧ tt = cc ∧ ((fr = -1 ∧ a = n ∧ ∀ (i : Nat) (r : RW), L[i]? = some r → ¬ (M <+: pathN r.1)) ∨ (fr = a ∧ Fst L M a cc))) := by
    rcases hU with ⟨h1, h2, h3⟩ | ⟨a', c', h1, h2, h3⟩
    · exact ⟨n, n, Nat.le_refl _, Nat.le_refl _, by rw [h2, HX.out.2.1], .inl ⟨h1, rfl, h3⟩⟩
    · exact ⟨a', c', Nat.le_of_lt h3.le, by have := h3.len; rw [HX.out.2.1] at this; exact this, h2, .inr ⟨h1, h3⟩⟩
  obtain rfl : tt = cc := HAC.out.2.2.1
  have hcn := HAC.out.2.1
  clear hU b1 CU
  go_wp2
  go_loopw [5, 8] (fun xo xi wr => ∃ (i : Nat) (Lo : List RW) (po : Option Addr) (co : Nat), i ≤ n ∧ xi = .int .i64 i ∧ xo = .slice po Lo.length co ∧ Hid (wthI L a cc i = Lo) ∧ Hid (Rws 29 wr w.heap.size (.slice po Lo.length co) Lo ∧ Below w.heap.size w wr ∧ Lo.length ≤ i)) (fun _ i _ => n - (intOf i).toNat)
  case atStart => exact ⟨0, [], none, 0, Nat.zero_le _, rfl, rfl, by rw [Hid]; unfold wthI; simp, ⟨rfl, .inl ⟨rfl, rfl⟩⟩, HB1.out, Nat.le_refl _⟩
  case round =>
    obtain ⟨i, Lo, po, co, hi, rfl, rfl, HL, HO⟩ := hrel
    by_cases hlt : i < n
    · obtain ⟨r, hr⟩ : ∃ r, L[i]? = some r := ⟨_, List.getElem?_eq_getElem (by rw [HX.out.2.1]; exact hlt)⟩
      obtain ⟨g, o, rfl, hg, c0, c1, c2, c3⟩ := HX.out.1.below HO.out.2.1 (Nat.le_refl _) i r hr
      have HR : Hid (L[i]? = some r) := hr
      clear hr
      by_cases hfr : fr < 0
      · have g1 : decide (fr < 0) = true := decide_eq_true hfr
        have HA : Hid (wthI L a cc (i + 1) = wthI L a cc i ++ [r]) := wthI_app HR.out HAC.out.1 (by
          rcases HAC.out.2.2.2 with ⟨_, h2, _⟩ | ⟨h1, _⟩
          · exact .inl (by omega)
          · omega)
        obtain ⟨p2, c2', w8, hr, hR8, hF8⟩ := Rws.app (lty := 24) HO.out.1 infoRROW undLRROW r HO.out.2.1.size (by have := HO.out.2.2; omega)
        have HO8 : Hid (Rws 29 w8 w.heap.size (.slice p2 (Lo ++ [r]).length c2') (Lo ++ [r]) ∧ Below w.heap.size w w8 ∧ (Lo ++ [r]).length ≤ i + 1) := ⟨by rw [List.length_append]; exact hR8, HO.out.2.1.trans hF8.below, by rw [List.length_append]; have := HO.out.2.2; simp; omega⟩
        clear hR8 hF8
        go_wp2_with (first | (refine wpList_app_is (by rfl) 24 24 (.tmp 33) (.tmp 38) (by rfl) _ _ _ _ (by rfl) (by rfl) hr ?_))
        go_roundw
        case rel => exact ⟨i + 1, Lo ++ [r], p2, c2', by omega, by go_num, by simp, by rw [Hid, HA.out, ← HL.out], HO8⟩
        case measure => simp [intOf]; omega
      · have g1 : decide (fr < 0) = false := decide_eq_false hfr
        have hfa : fr = a := by
          rcases HAC.out.2.2.2 with ⟨h1, _⟩ | ⟨h1, _⟩
          · omega
          · exact h1
        by_cases hia : i < a
        · have g2 : decide ((i : Int) < fr) = true := decide_eq_true (by omega)
          have g2' : (i : Int) < fr := by omega
          have HA : Hid (wthI L a cc (i + 1) = wthI L a cc i ++ [r]) := wthI_app HR.out HAC.out.1 (.inl hia)
          clear hfa
          obtain ⟨p2, c2', w8, hr, hR8, hF8⟩ := Rws.app (lty := 24) HO.out.1 infoRROW undLRROW r HO.out.2.1.size (by have := HO.out.2.2; omega)
          have HO8 : Hid (Rws 29 w8 w.heap.size (.slice p2 (Lo ++ [r]).length c2') (Lo ++ [r]) ∧ Below w.heap.size w w8 ∧ (Lo ++ [r]).length ≤ i + 1) := ⟨by rw [List.length_append]; exact hR8, HO.out.2.1.trans hF8.below, by rw [List.length_append]; have := HO.out.2.2; simp; omega⟩
          clear hR8 hF8
          go_wp2_with (first | (refine wpList_app_is (by rfl) 24 24 (.tmp 33) (.tmp 38) (by rfl) _ _ _ _ (by rfl) (by rfl) hr ?_))
          go_roundw
          case rel => exact ⟨i + 1, Lo ++ [r], p2, c2', by omega, by go_num, by simp, by rw [Hid, HA.out, ← HL.out], HO8⟩
          case measure => simp [intOf]; omega
        · have g2 : decide ((i : Int) < fr) = false := decide_eq_false (by omega)
          have g2' : ¬ (i : Int) < fr := by omega
          clear hfa
          by_cases hic : cc ≤ i
          · have g3 : decide ((cc : Int) ≤ (i : Int)) = true := decide_eq_true (by omega)
            have HA : Hid (wthI L a cc (i + 1) = wthI L a cc i ++ [r]) := wthI_app HR.out HAC.out.1 (.inr hic)
            obtain ⟨p2, c2', w8, hr, hR8, hF8⟩ := Rws.app (lty := 24) HO.out.1 infoRROW undLRROW r HO.out.2.1.size (by have := HO.out.2.2; omega)
            have HO8 : Hid (Rws 29 w8 w.heap.size (.slice p2 (Lo ++ [r]).length c2') (Lo ++ [r]) ∧ Below w.heap.size w w8 ∧ (Lo ++ [r]).length ≤ i + 1) := ⟨by rw [List.length_append]; exact hR8, HO.out.2.1.trans hF8.below, by rw [List.length_append]; have := HO.out.2.2; simp; omega⟩
            clear hR8 hF8
            go_wp2_with (first | (refine wpList_app_is (by rfl) 24 24 (.tmp 33) (.tmp 38) (by rfl) _ _ _ _ (by rfl) (by rfl) hr ?_))
            go_roundw
            case rel => exact ⟨i + 1, Lo ++ [r], p2, c2', by omega, by go_num, by simp, by rw [Hid, HA.out, ← HL.out], HO8⟩
            case measure => simp [intOf]; omega
          · have g3 : decide ((cc : Int) ≤ (i : Int)) = false := decide_eq_false (by omega)
            have g3' : ¬ (cc : Int) ≤ (i : Int) := by omega
            go_wp2
            go_roundw
            case rel => exact ⟨i + 1, Lo, po, co, by omega, by go_num, rfl, by rw [Hid, wthI_skip HR.out (by omega) (by omega)]; exact HL.out, HO.out.1, HO.out.2.1, by have := HO.out.2.2; omega⟩
            case measure => simp [intOf]; omega
    · obtain rfl : i = n := by omega
      go_wp2
      go_ret
      refine ⟨⟨_, Lo, rfl, HO.out.1, by rw [HX.out.2.1]; exact HO.out.2.2, ?_⟩, HO.out.2.1⟩
      rcases HAC.out.2.2.2 with ⟨_, _, h3⟩ | ⟨_, h2⟩
      · exact .inl h3
      · refine .inr ⟨a, cc, h2, ?_⟩
        have := HL.out
        rw [← HX.out.2.1, wthI_all] at this
        exact this.symm
end Go.Proofs.YtnggbemnblcnaaaDoor
