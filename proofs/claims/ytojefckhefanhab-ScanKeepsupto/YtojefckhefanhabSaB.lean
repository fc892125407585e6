/- depotlaw14's texts and ints, walked (own text of the verifier). -/
import Derived.Test.YtojefckhefanhabScX
import Derived.Test.YtojefckhefanhabScL
namespace Go.Proofs.Ytojefckhefanhab
open Go.RowKit
namespace Sc

/-- v is a slice of these texts. -/
def RT (w : World) (B : Nat) (v : Value) (L : List (List UInt8)) : Prop := ∃ x c, v = .slice x L.length c ∧ ∀ i t, L[i]? = some t → ∃ b o, x = some ⟨b, o, none⟩ ∧ b < B ∧ w.cell? ⟨b, o + i, none⟩ = some (.string (ba t))
/-- v is a slice of these numbers. -/
def RI (w : World) (B : Nat) (v : Value) (L : List Nat) : Prop := ∃ x c, v = .slice x L.length c ∧ ∀ i t, L[i]? = some t → ∃ b o, x = some ⟨b, o, none⟩ ∧ b < B ∧ w.cell? ⟨b, o + i, none⟩ = some (.int .i64 ((t : Nat) : Int))
theorem RT.below {w w' : World} {B C : Nat} {v : Value} {L : List (List UInt8)} (h : RT w B v L) (b : Below C w w') (hB : B ≤ C) : RT w' B v L := by
  obtain ⟨x, c, e, h⟩ := h
  refine ⟨x, c, e, fun i t ht => ?_⟩
  obtain ⟨g, o, e1, e2, e3⟩ := h i t ht
  exact ⟨g, o, e1, e2, (b.cell (p := ⟨g, o + i, none⟩) (by show g < C; omega)).trans e3⟩
theorem RI.below {w w' : World} {B C : Nat} {v : Value} {L : List Nat} (h : RI w B v L) (b : Below C w w') (hB : B ≤ C) : RI w' B v L := by
  obtain ⟨x, c, e, h⟩ := h
  refine ⟨x, c, e, fun i t ht => ?_⟩
  obtain ⟨g, o, e1, e2, e3⟩ := h i t ht
  exact ⟨g, o, e1, e2, (b.cell (p := ⟨g, o + i, none⟩) (by show g < C; omega)).trans e3⟩
/-- A row of numbers of one's own. -/
theorem ri_own {w : World} {B : Nat} {v : Value} {L : List Nat} (h : w.ownsRow B 3 1 v L.length (pv_ L)) : RI w w.heap.size v L := by
  have h0 := h
  rcases h.2 with ⟨rfl, e0⟩ | ⟨b, cap, cur, rfl, hBb, hb, h1, _, h3, h4⟩
  · refine ⟨none, 0, by rw [e0], fun i t ht => ?_⟩
    have := (List.getElem?_eq_some_iff.1 ht).1
    omega
  · refine ⟨some ⟨b, 0, none⟩, cap, rfl, fun i t ht => ⟨b, 0, rfl, (Array.getElem?_eq_some_iff.1 hb).1, ?_⟩⟩
    rw [Nat.zero_add]
    have := World.ownsRow.cells (g := b) h0 rfl i (.int .i64 (t : Int)) (by unfold pv_; rw [List.getElem?_map, ht]; rfl)
    rw [Addr.add_lit, Nat.zero_add] at this
    exact this

set_option maxHeartbeats 2000000 in
theorem texts_any (B C : Nat) (v u : Value) (L M : List (List UInt8)) (w : World) (hv : RT w B v L) (hu : RT w C u M) (_hl : L.length ≤ 1073741824) (hm : M.length ≤ 1073741824) :
    Calls Try.prog 13 #[v, u] w fun e w' => e = .returned (.bool (decide (L = M))) ∧ ∃ q, w' = w.drewN q := by
  obtain ⟨x, c, rfl, hx⟩ := hv
  obtain ⟨y, d, rfl, hy⟩ := hu
  generalize hE : decide (L = M) = E
  have HX : Hid (∀ i t, L[i]? = some t → ∃ b o, x = some ⟨b, o, none⟩ ∧ b < B ∧ w.cell? ⟨b, o + i, none⟩ = some (.string (ba t))) := hx
  have HY : Hid (∀ i t, M[i]? = some t → ∃ b o, y = some ⟨b, o, none⟩ ∧ b < C ∧ w.cell? ⟨b, o + i, none⟩ = some (.string (ba t))) := hy
  have HE : Hid (decide (L = M) = E) := hE
  clear hx hy hE
  by_cases hnm : L.length = M.length
  · have hee : ((L.length : Int) != (M.length : Int)) = false := by rw [hnm]; simp
    have Hnm : Hid (L.length = M.length) := hnm
    clear hnm
    go_enter Try.func13, Try.ntmps13
    go_wp2_with fail
    go_loopg [5, 13] L.length (fun gk u5 iv wr => ∃ k : Nat, gk + k = L.length ∧ iv = .int .i64 (k : Int) ∧ Hid (∀ i, i < k → L[i]? = M[i]?) ∧ Hid (∃ q, wr = w.drewN q))
    case atStart => exact ⟨0, rfl, rfl, fun i hi => absurd hi (by omega), 0, rfl⟩
    case round =>
      obtain ⟨k, hgk, rfl, hA, hq⟩ := hrel
      obtain ⟨q, hqq⟩ := hq.out
      subst hqq
      clear hq
      by_cases hk : k < L.length
      · obtain ⟨t, ht⟩ : ∃ t, L[k]? = some t := ⟨_, List.getElem?_eq_getElem hk⟩
        obtain ⟨s, hs⟩ : ∃ s, M[k]? = some s := ⟨_, List.getElem?_eq_getElem (by have := Hnm.out; omega)⟩
        obtain ⟨b1, o1, rfl, -, c1⟩ := HX.out k t ht
        obtain ⟨b2, o2, rfl, -, c2⟩ := HY.out k s hs
        have d1 : (w.drewN q).cell? ⟨b1, o1 + k, none⟩ = some (.string (ba t)) := c1
        have d2 : (w.drewN q).cell? ⟨b2, o2 + k, none⟩ = some (.string (ba s)) := c2
        have hkm : k < M.length := by have := Hnm.out; omega
        have hk' : (k : Int) < (L.length : Int) := by omega
        have hkm' : (k : Int) < (M.length : Int) := by omega
        by_cases hts : t = s
        · subst hts
          have hA2 : Hid (∀ i, i < k + 1 → L[i]? = M[i]?) := fun i hi => by
            by_cases e : i = k
            · rw [e, ht, hs]
            · exact hA.out i (by omega)
          have he : ((ba t).toList != (ba t).toList) = false := by simp
          clear ht hs
          go_wp2_with fail
          go_quiet (fail)
          generalize hw9 : (w.drewN q).drewN nq = w9
          have HW : Hid (∃ q, w9 = w.drewN q) := ⟨q + nq, by rw [← hw9, World.drewN_drewN]⟩
          clear hw9
          go_wp2
          go_roundg (gk - 1)
          case measure => omega
          case rel => exact ⟨k + 1, by omega, by go_num, hA2, HW⟩
        · have he : ((ba t).toList == (ba s).toList) = false := by rw [beq_eq_false_iff_ne, ba_toList, ba_toList]; exact hts
          have HF : Hid (E = false) := by
            unfold Hid
            rw [← HE.out]
            refine decide_eq_false (fun e => hts ?_)
            rw [e, hs] at ht
            injection ht with ht
            exact ht.symm
          clear ht hs
          go_wp2_with fail
          go_quiet (fail)
          generalize hw9 : (w.drewN q).drewN nq = w9
          have HW : Hid (∃ q, w9 = w.drewN q) := ⟨q + nq, by rw [← hw9, World.drewN_drewN]⟩
          clear hw9
          go_wp2
          try rw [Exit.noGoto_ret]
          go_ret
          exact ⟨by rw [HF.out]; rfl, HW.out⟩
      · have hk' : ¬ (k : Int) < (L.length : Int) := by omega
        have HF : Hid (E = true) := by
          unfold Hid
          rw [← HE.out]
          refine decide_eq_true (List.ext_getElem? (fun i => ?_))
          by_cases hi : i < k
          · exact hA.out i hi
          · rw [List.getElem?_eq_none (by omega), List.getElem?_eq_none (by have := Hnm.out; omega)]
        go_wp2
        go_ret
        exact ⟨by rw [HF.out]; rfl, _, rfl⟩
  · have hee : ((L.length : Int) != (M.length : Int)) = true := by rw [bne_iff_ne]; omega
    have HF : Hid (E = false) := by
      unfold Hid
      rw [← HE.out]
      exact decide_eq_false (fun e => hnm (by rw [e]))
    go_enter Try.func13, Try.ntmps13
    go_wp2
    try rw [Exit.noGoto_ret]
    go_ret
    exact ⟨by rw [HF.out]; rfl, 0, rfl⟩

set_option maxHeartbeats 2000000 in
theorem ints_any (B C : Nat) (v u : Value) (L M : List Nat) (w : World) (hv : RI w B v L) (hu : RI w C u M) (_hl : L.length ≤ 1073741824) (hm : M.length ≤ 1073741824) :
    Calls Try.prog 14 #[v, u] w fun e w' => e = .returned (.bool (decide (L = M))) ∧ ∃ q, w' = w.drewN q := by
  obtain ⟨x, c, rfl, hx⟩ := hv
  obtain ⟨y, d, rfl, hy⟩ := hu
  generalize hE : decide (L = M) = E
  have HX : Hid (∀ i t, L[i]? = some t → ∃ b o, x = some ⟨b, o, none⟩ ∧ b < B ∧ w.cell? ⟨b, o + i, none⟩ = some (.int .i64 ((t : Nat) : Int))) := hx
  have HY : Hid (∀ i t, M[i]? = some t → ∃ b o, y = some ⟨b, o, none⟩ ∧ b < C ∧ w.cell? ⟨b, o + i, none⟩ = some (.int .i64 ((t : Nat) : Int))) := hy
  have HE : Hid (decide (L = M) = E) := hE
  clear hx hy hE
  by_cases hnm : L.length = M.length
  · have hee : ((L.length : Int) != (M.length : Int)) = false := by rw [hnm]; simp
    have Hnm : Hid (L.length = M.length) := hnm
    clear hnm
    go_enter Try.func14, Try.ntmps14
    go_wp2_with fail
    go_loopg [5, 13] L.length (fun gk u5 iv wr => ∃ k : Nat, gk + k = L.length ∧ iv = .int .i64 (k : Int) ∧ Hid (∀ i, i < k → L[i]? = M[i]?) ∧ Hid (∃ q, wr = w.drewN q))
    case atStart => exact ⟨0, rfl, rfl, fun i hi => absurd hi (by omega), 0, rfl⟩
    case round =>
      obtain ⟨k, hgk, rfl, hA, hq⟩ := hrel
      obtain ⟨q, hqq⟩ := hq.out
      subst hqq
      clear hq
      by_cases hk : k < L.length
      · obtain ⟨t, ht⟩ : ∃ t, L[k]? = some t := ⟨_, List.getElem?_eq_getElem hk⟩
        obtain ⟨s, hs⟩ : ∃ s, M[k]? = some s := ⟨_, List.getElem?_eq_getElem (by have := Hnm.out; omega)⟩
        obtain ⟨b1, o1, rfl, -, c1⟩ := HX.out k t ht
        obtain ⟨b2, o2, rfl, -, c2⟩ := HY.out k s hs
        have d1 : (w.drewN q).cell? ⟨b1, o1 + k, none⟩ = some (.int .i64 ((t : Nat) : Int)) := c1
        have d2 : (w.drewN q).cell? ⟨b2, o2 + k, none⟩ = some (.int .i64 ((s : Nat) : Int)) := c2
        have hkm : k < M.length := by have := Hnm.out; omega
        have hk' : (k : Int) < (L.length : Int) := by omega
        have hkm' : (k : Int) < (M.length : Int) := by omega
        by_cases hts : t = s
        · subst hts
          have hA2 : Hid (∀ i, i < k + 1 → L[i]? = M[i]?) := fun i hi => by
            by_cases e : i = k
            · rw [e, ht, hs]
            · exact hA.out i (by omega)
          have he : (((t : Nat) : Int) != ((t : Nat) : Int)) = false := by simp
          clear ht hs
          go_wp2_with fail
          go_quiet (fail)
          generalize hw9 : (w.drewN q).drewN nq = w9
          have HW : Hid (∃ q, w9 = w.drewN q) := ⟨q + nq, by rw [← hw9, World.drewN_drewN]⟩
          clear hw9
          go_wp2
          go_roundg (gk - 1)
          case measure => omega
          case rel => exact ⟨k + 1, by omega, by go_num, hA2, HW⟩
        · have he : (((t : Nat) : Int) == ((s : Nat) : Int)) = false := by rw [beq_eq_false_iff_ne]; omega
          have HF : Hid (E = false) := by
            unfold Hid
            rw [← HE.out]
            refine decide_eq_false (fun e => hts ?_)
            rw [e, hs] at ht
            injection ht with ht
            exact ht.symm
          clear ht hs
          go_wp2_with fail
          go_quiet (fail)
          generalize hw9 : (w.drewN q).drewN nq = w9
          have HW : Hid (∃ q, w9 = w.drewN q) := ⟨q + nq, by rw [← hw9, World.drewN_drewN]⟩
          clear hw9
          go_wp2
          try rw [Exit.noGoto_ret]
          go_ret
          exact ⟨by rw [HF.out]; rfl, HW.out⟩
      · have hk' : ¬ (k : Int) < (L.length : Int) := by omega
        have HF : Hid (E = true) := by
          unfold Hid
          rw [← HE.out]
          refine decide_eq_true (List.ext_getElem? (fun i => ?_))
          by_cases hi : i < k
          · exact hA.out i hi
          · rw [List.getElem?_eq_none (by omega), List.getElem?_eq_none (by have := Hnm.out; omega)]
        go_wp2
        go_ret
        exact ⟨by rw [HF.out]; rfl, _, rfl⟩
  · have hee : ((L.length : Int) != (M.length : Int)) = true := by rw [bne_iff_ne]; omega
    have HF : Hid (E = false) := by
      unfold Hid
      rw [← HE.out]
      exact decide_eq_false (fun e => hnm (by rw [e]))
    go_enter Try.func14, Try.ntmps14
    go_wp2
    try rw [Exit.noGoto_ret]
    go_ret
    exact ⟨by rw [HF.out]; rfl, 0, rfl⟩

end Sc
end Go.Proofs.Ytojefckhefanhab
