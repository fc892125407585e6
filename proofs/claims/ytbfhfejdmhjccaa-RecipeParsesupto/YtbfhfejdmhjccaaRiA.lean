/- slices.Equal and the laws' texts, walked. -/
import Derived.Test.YtbfhfejdmhjccaaRhW
namespace Go.Proofs.Ytbfhfejdmhjccaa
open Go.RowKit

set_option maxHeartbeats 2000000 in
theorem slEq_any (B C : Nat) (v u : Value) (L M : List (List UInt8)) (w : World) (hv : RT w B v L) (hu : RT w C u M) (_hl : L.length ≤ 1073741824) (hm : M.length ≤ 1073741824) :
    Calls Try.prog 29 #[v, u] w fun e w' => e = .returned (.bool (decide (L = M))) ∧ ∃ q, w' = w.drewN q := by
  obtain ⟨x, c, rfl, hx⟩ := hv
  obtain ⟨y, d, rfl, hy⟩ := hu
  generalize hE : decide (L = M) = E
  have HX : Hid (∀ i t, L[i]? = some t → ∃ b o, x = some ⟨b, o, none⟩ ∧ b < B ∧ w.cell? ⟨b, o + i, none⟩ = some (.string (ba t))) := hx
  have HY : Hid (∀ i t, M[i]? = some t → ∃ b o, y = some ⟨b, o, none⟩ ∧ b < C ∧ w.cell? ⟨b, o + i, none⟩ = some (.string (ba t))) := hy
  have HE : Hid (decide (L = M) = E) := hE
  clear hx hy hE
  by_cases hnm : L.length = M.length
  · have hee : ((L.length : Int) != (M.length : Int)) = false := by rw [hnm]; simp
    have Hnm : Hid (L.length = M.length) := hnm
    clear hnm
    go_enter Try.func29, Try.ntmps29
    go_wp2_with fail
    go_loopg [5, 13] L.length (fun gk u5 iv wr => ∃ k : Nat, gk + k = L.length ∧ iv = .int .i64 (k : Int) ∧ Hid (∀ i, i < k → L[i]? = M[i]?) ∧ Hid (∃ q, wr = w.drewN q))
    case atStart => exact ⟨0, rfl, rfl, fun i hi => absurd hi (by omega), 0, rfl⟩
    case round =>
      obtain ⟨k, hgk, rfl, hA, hq⟩ := hrel
      obtain ⟨q, hqq⟩ := hq.out
      subst hqq
      clear hq
      by_cases hk : k < L.length
      · obtain ⟨t, ht⟩ : ∃ t, L[k]? = some t := ⟨_, List.getElem?_eq_getElem hk⟩
        obtain ⟨s, hs⟩ : ∃ s, M[k]? = some s := ⟨_, List.getElem?_eq_getElem (by have := Hnm.out; omega)⟩
        obtain ⟨b1, o1, rfl, -, c1⟩ := HX.out k t ht
        obtain ⟨b2, o2, rfl, -, c2⟩ := HY.out k s hs
        have d1 : (w.drewN q).cell? ⟨b1, o1 + k, none⟩ = some (.string (ba t)) := c1
        have d2 : (w.drewN q).cell? ⟨b2, o2 + k, none⟩ = some (.string (ba s)) := c2
        have hkm : k < M.length := by have := Hnm.out; omega
        have hk' : (k : Int) < (L.length : Int) := by omega
        have hkm' : (k : Int) < (M.length : Int) := by omega
        by_cases hts : t = s
        · subst hts
          have hA2 : Hid (∀ i, i < k + 1 → L[i]? = M[i]?) := fun i hi => by
            by_cases e : i = k
            · rw [e, ht, hs]
            · exact hA.out i (by omega)
          have he : ((ba t).toList != (ba t).toList) = false := by simp
          clear ht hs
          go_wp2_with fail
          go_quiet (fail)
          generalize hw9 : (w.drewN q).drewN nq = w9
          have HW : Hid (∃ q, w9 = w.drewN q) := ⟨q + nq, by rw [← hw9, World.drewN_drewN]⟩
          clear hw9
          go_wp2
          go_roundg (gk - 1)
          case measure => omega
          case rel => exact ⟨k + 1, by omega, by go_num, hA2, HW⟩
        · have he : ((ba t).toList == (ba s).toList) = false := by rw [beq_eq_false_iff_ne, ba_toList, ba_toList]; exact hts
          have HF : Hid (E = false) := by
            unfold Hid
            rw [← HE.out]
            refine decide_eq_false (fun e => hts ?_)
            rw [e, hs] at ht
            injection ht with ht
            exact ht.symm
          clear ht hs
          go_wp2_with fail
          go_quiet (fail)
          generalize hw9 : (w.drewN q).drewN nq = w9
          have HW : Hid (∃ q, w9 = w.drewN q) := ⟨q + nq, by rw [← hw9, World.drewN_drewN]⟩
          clear hw9
          go_wp2
          try rw [Exit.noGoto_ret]
          go_ret
          exact ⟨by rw [HF.out]; rfl, HW.out⟩
      · have hk' : ¬ (k : Int) < (L.length : Int) := by omega
        have HF : Hid (E = true) := by
          unfold Hid
          rw [← HE.out]
          refine decide_eq_true (List.ext_getElem? (fun i => ?_))
          by_cases hi : i < k
          · exact hA.out i hi
          · rw [List.getElem?_eq_none (by omega), List.getElem?_eq_none (by have := Hnm.out; omega)]
        go_wp2
        go_ret
        exact ⟨by rw [HF.out]; rfl, _, rfl⟩
  · have hee : ((L.length : Int) != (M.length : Int)) = true := by rw [bne_iff_ne]; omega
    have HF : Hid (E = false) := by
      unfold Hid
      rw [← HE.out]
      exact decide_eq_false (fun e => hnm (by rw [e]))
    go_enter Try.func29, Try.ntmps29
    go_wp2
    try rw [Exit.noGoto_ret]
    go_ret
    exact ⟨by rw [HF.out]; rfl, 0, rfl⟩

set_option maxHeartbeats 2000000 in
theorem texts_any (B C : Nat) (v u : Value) (L M : List (List UInt8)) (w : World) (hv : RT w B v L) (hu : RT w C u M) (_hl : L.length ≤ 1073741824) (hm : M.length ≤ 1073741824) :
    Calls Try.prog 23 #[v, u] w fun e w' => e = .returned (.bool (decide (L = M))) ∧ ∃ q, w' = w.drewN q := by
  obtain ⟨x, c, rfl, hx⟩ := hv
  obtain ⟨y, d, rfl, hy⟩ := hu
  generalize hE : decide (L = M) = E
  have HX : Hid (∀ i t, L[i]? = some t → ∃ b o, x = some ⟨b, o, none⟩ ∧ b < B ∧ w.cell? ⟨b, o + i, none⟩ = some (.string (ba t))) := hx
  have HY : Hid (∀ i t, M[i]? = some t → ∃ b o, y = some ⟨b, o, none⟩ ∧ b < C ∧ w.cell? ⟨b, o + i, none⟩ = some (.string (ba t))) := hy
  have HE : Hid (decide (L = M) = E) := hE
  clear hx hy hE
  by_cases hnm : L.length = M.length
  · have hee : ((L.length : Int) != (M.length : Int)) = false := by rw [hnm]; simp
    have Hnm : Hid (L.length = M.length) := hnm
    clear hnm
    go_enter Try.func23, Try.ntmps23
    go_wp2_with fail
    go_loopg [5, 13] L.length (fun gk u5 iv wr => ∃ k : Nat, gk + k = L.length ∧ iv = .int .i64 (k : Int) ∧ Hid (∀ i, i < k → L[i]? = M[i]?) ∧ Hid (∃ q, wr = w.drewN q))
    case atStart => exact ⟨0, rfl, rfl, fun i hi => absurd hi (by omega), 0, rfl⟩
    case round =>
      obtain ⟨k, hgk, rfl, hA, hq⟩ := hrel
      obtain ⟨q, hqq⟩ := hq.out
      subst hqq
      clear hq
      by_cases hk : k < L.length
      · obtain ⟨t, ht⟩ : ∃ t, L[k]? = some t := ⟨_, List.getElem?_eq_getElem hk⟩
        obtain ⟨s, hs⟩ : ∃ s, M[k]? = some s := ⟨_, List.getElem?_eq_getElem (by have := Hnm.out; omega)⟩
        obtain ⟨b1, o1, rfl, -, c1⟩ := HX.out k t ht
        obtain ⟨b2, o2, rfl, -, c2⟩ := HY.out k s hs
        have d1 : (w.drewN q).cell? ⟨b1, o1 + k, none⟩ = some (.string (ba t)) := c1
        have d2 : (w.drewN q).cell? ⟨b2, o2 + k, none⟩ = some (.string (ba s)) := c2
        have hkm : k < M.length := by have := Hnm.out; omega
        have hk' : (k : Int) < (L.length : Int) := by omega
        have hkm' : (k : Int) < (M.length : Int) := by omega
        by_cases hts : t = s
        · subst hts
          have hA2 : Hid (∀ i, i < k + 1 → L[i]? = M[i]?) := fun i hi => by
            by_cases e : i = k
            · rw [e, ht, hs]
            · exact hA.out i (by omega)
          have he : ((ba t).toList != (ba t).toList) = false := by simp
          clear ht hs
          go_wp2_with fail
          go_quiet (fail)
          generalize hw9 : (w.drewN q).drewN nq = w9
          have HW : Hid (∃ q, w9 = w.drewN q) := ⟨q + nq, by rw [← hw9, World.drewN_drewN]⟩
          clear hw9
          go_wp2
          go_roundg (gk - 1)
          case measure => omega
          case rel => exact ⟨k + 1, by omega, by go_num, hA2, HW⟩
        · have he : ((ba t).toList == (ba s).toList) = false := by rw [beq_eq_false_iff_ne, ba_toList, ba_toList]; exact hts
          have HF : Hid (E = false) := by
            unfold Hid
            rw [← HE.out]
            refine decide_eq_false (fun e => hts ?_)
            rw [e, hs] at ht
            injection ht with ht
            exact ht.symm
          clear ht hs
          go_wp2_with fail
          go_quiet (fail)
          generalize hw9 : (w.drewN q).drewN nq = w9
          have HW : Hid (∃ q, w9 = w.drewN q) := ⟨q + nq, by rw [← hw9, World.drewN_drewN]⟩
          clear hw9
          go_wp2
          try rw [Exit.noGoto_ret]
          go_ret
          exact ⟨by rw [HF.out]; rfl, HW.out⟩
      · have hk' : ¬ (k : Int) < (L.length : Int) := by omega
        have HF : Hid (E = true) := by
          unfold Hid
          rw [← HE.out]
          refine decide_eq_true (List.ext_getElem? (fun i => ?_))
          by_cases hi : i < k
          · exact hA.out i hi
          · rw [List.getElem?_eq_none (by omega), List.getElem?_eq_none (by have := Hnm.out; omega)]
        go_wp2
        go_ret
        exact ⟨by rw [HF.out]; rfl, _, rfl⟩
  · have hee : ((L.length : Int) != (M.length : Int)) = true := by rw [bne_iff_ne]; omega
    have HF : Hid (E = false) := by
      unfold Hid
      rw [← HE.out]
      exact decide_eq_false (fun e => hnm (by rw [e]))
    go_enter Try.func23, Try.ntmps23
    go_wp2
    try rw [Exit.noGoto_ret]
    go_ret
    exact ⟨by rw [HF.out]; rfl, 0, rfl⟩

theorem RT.drewN {w : World} {B : Nat} {v : Value} {L : List (List UInt8)} (h : RT w B v L) (q : Nat) : RT (w.drewN q) B v L := h

set_option maxHeartbeats 4000000 in
theorem sameStep_any (a b : Stp) (v u : Value) (w : World) (hv : RT w w.heap.size v a.2) (hu : RT w w.heap.size u b.2) (hl : a.2.length ≤ 1073741824) (hm : b.2.length ≤ 1073741824) :
    Calls Try.prog 31 #[.agg #[.string (ba a.1), v], .agg #[.string (ba b.1), u]] w fun e w' => e = .returned (.bool (decide (a = b))) ∧ Below w.heap.size w w' := by
  obtain ⟨op, L⟩ := a
  obtain ⟨oq, M⟩ := b
  dsimp only at hv hu hl hm ⊢
  have s1 : (w.alloc (.cells #[.string (ba op), v] 47)).heap.size = w.heap.size + 1 := World.size_alloc _ _
  have b0 : Below w.heap.size w ((w.alloc (.cells #[.string (ba op), v] 47)).alloc (.cells #[.string (ba oq), u] 47)) := ((Below.refl _ _).alloc (Nat.le_refl _) _).alloc (by rw [s1]; omega) _
  have S0 : St2 ((w.alloc (.cells #[.string (ba op), v] 47)).alloc (.cells #[.string (ba oq), u] 47)) w.heap.size (.string (ba op)) v := (St2.new w _ _).same (Below.heap_alloc _ _ _ (by rw [s1]; omega))
  have S1 : St2 ((w.alloc (.cells #[.string (ba op), v] 47)).alloc (.cells #[.string (ba oq), u] 47)) (w.heap.size + 1) (.string (ba oq)) u := by
    have := St2.new (w.alloc (.cells #[.string (ba op), v] 47)) (.string (ba oq)) u
    rw [s1] at this
    exact this
  have V0 := hv.below b0 (Nat.le_refl _)
  have U0 := hu.below b0 (Nat.le_refl _)
  have EC := slEq_any w.heap.size w.heap.size v u L M _ V0 U0 hl hm
  obtain ⟨x, c, rfl, -⟩ := hv
  obtain ⟨y, d, rfl, -⟩ := hu
  generalize hE : decide ((op, L) = (oq, M)) = E
  have HE : Hid (decide ((op, L) = (oq, M)) = E) := hE
  clear hE V0 U0 s1
  have a0 := S0.c0
  have a1 := S0.c1
  have c0 := S1.c0
  have c1 := S1.c1
  clear S0 S1
  by_cases ho : op = oq
  · subst ho
    have he : ((ba op).toList == (ba op).toList) = true := by simp
    have HF : Hid (E = decide (L = M)) := by
      unfold Hid
      rw [← HE.out]
      by_cases e : L = M
      · rw [e]; simp
      · rw [decide_eq_false e]; exact decide_eq_false (fun c => e (by injection c))
    clear HE
    go_enter Try.func31, Try.ntmps31
    go_wp2_with fail
    generalize (w.alloc (.cells #[.string (ba op), .slice x L.length c] 47)).alloc (.cells #[.string (ba op), .slice y M.length d] 47) = w0 at b0 EC ⊢
    refine EC.mono ?_
    rintro e w1 ⟨rfl, q, rfl⟩
    have HB : Hid (Below w.heap.size w (w0.drewN q)) := bel_drewN b0 q
    generalize decide (L = M) = D at HF ⊢
    generalize w0.drewN q = w9 at HB ⊢
    clear EC b0
    cases D
    · go_wp2
      go_ret
      exact ⟨by rw [HF.out]; rfl, HB.out⟩
    · go_wp2
      go_ret
      exact ⟨by rw [HF.out]; rfl, HB.out⟩
  · have he : ((ba op).toList == (ba oq).toList) = false := by rw [beq_eq_false_iff_ne, ba_toList, ba_toList]; exact ho
    have HF : Hid (E = false) := by
      unfold Hid
      rw [← HE.out]
      exact decide_eq_false (fun c => ho (by injection c))
    have HB : Hid (Below w.heap.size w ((w.alloc (.cells #[.string (ba op), .slice x L.length c] 47)).alloc (.cells #[.string (ba oq), .slice y M.length d] 47))) := b0
    clear HE EC ho b0
    go_enter Try.func31, Try.ntmps31
    go_wp2
    go_ret
    exact ⟨by rw [HF.out]; rfl, HB.out⟩

end Go.Proofs.Ytbfhfejdmhjccaa
