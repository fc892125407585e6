/- The laws' alike, walked. -/
import Derived.Test.YtbfhfejdmhjccaaRiD
namespace Go.Proofs.Ytbfhfejdmhjccaa
open Go.RowKit

set_option maxHeartbeats 16000000 in
theorem alike_any (r q : Rec) (vd vs ud us : Value) (w : World) (hvd : RT w w.heap.size vd r.ds) (hvs : RS w w.heap.size vs r.ss) (hud : RT w w.heap.size ud q.ds) (hus : RS w w.heap.size us q.ss) (hr : Sml r) (hq : Sml q) :
    Calls Try.prog 11 #[.agg #[.string (ba r.nm), vd, vs], .agg #[.string (ba q.nm), ud, us]] w fun e w' => e = .returned (.bool (eqR r q)) ∧ Below w.heap.size w w' := by
  have s1 : (w.alloc (.cells #[.string (ba r.nm), vd, vs] 33)).heap.size = w.heap.size + 1 := World.size_alloc _ _
  have S0 : R3 ((w.alloc (.cells #[.string (ba r.nm), vd, vs] 33)).alloc (.cells #[.string (ba q.nm), ud, us] 33)) w.heap.size (.string (ba r.nm)) vd vs := (R3.new w _ _ _).same (Below.heap_alloc _ _ _ (by rw [s1]; omega))
  have S1 : R3 ((w.alloc (.cells #[.string (ba r.nm), vd, vs] 33)).alloc (.cells #[.string (ba q.nm), ud, us] 33)) (w.heap.size + 1) (.string (ba q.nm)) ud us := by
    have := R3.new (w.alloc (.cells #[.string (ba r.nm), vd, vs] 33)) (.string (ba q.nm)) ud us
    rw [s1] at this
    exact this
  have B0 : Below w.heap.size w ((w.alloc (.cells #[.string (ba r.nm), vd, vs] 33)).alloc (.cells #[.string (ba q.nm), ud, us] 33)) := ((Below.refl _ _).alloc (Nat.le_refl _) _).alloc (by rw [s1]; omega) _
  have V1 := hvd.below B0 (Nat.le_refl _)
  have U1 := hud.below B0 (Nat.le_refl _)
  have V2 := hvs.below B0 (Nat.le_refl _)
  have U2 := hus.below B0 (Nat.le_refl _)
  obtain ⟨x1, c1, rfl, -⟩ := hvd
  obtain ⟨x2, c2, rfl, -⟩ := hvs
  obtain ⟨x3, c3, rfl, -⟩ := hud
  obtain ⟨x4, c4, rfl, -⟩ := hus
  generalize hE : eqR r q = E
  have HE : Hid (decide (r.nm = q.nm ∧ r.ds = q.ds ∧ r.ss = q.ss) = E) := hE
  have HR : Hid (Sml r) := hr
  have HQ : Hid (Sml q) := hq
  obtain ⟨nm, ds, ss⟩ := r
  obtain ⟨nq, dq, sq⟩ := q
  dsimp only at *
  clear s1 hE hr hq
  go_enter Try.func11, Try.ntmps11
  go_upto_region 1 with fail
  generalize (w.alloc (.cells #[.string (ba nm), .slice x1 ds.length c1, .slice x2 ss.length c2] 33)).alloc (.cells #[.string (ba nq), .slice x3 dq.length c3, .slice x4 sq.length c4] 33) = w0 at S0 S1 B0 V1 U1 V2 U2 ⊢
  have a0 := S0.c0
  have a1 := S0.c1
  have a2 := S0.c2
  have d0 := S1.c0
  have d1 := S1.c1
  have d2 := S1.c2
  generalize hk : w.heap.size = k at *
  have Hk : Hid (w.heap.size = k) := hk
  clear S0 S1 hk
  have HB0 : Hid (Below k w w0) := B0
  have HV2 : Hid (RS w0 k (.slice x2 ss.length c2) ss) := V2
  have HU2 : Hid (RS w0 k (.slice x4 sq.length c4) sq) := U2
  have EC := texts_any k k _ _ ds dq w0 V1 U1 HR.out.d HQ.out.d
  clear B0 V2 U2 V1 U1
  by_cases ho : nm = nq
  · subst ho
    have he : ((ba nm).toList != (ba nm).toList) = false := by simp
    by_cases hd : ds = dq
    · rw [decide_eq_true hd] at EC
      by_cases hnm : ss.length = sq.length
      · have hee : ((ss.length : Int) != (sq.length : Int)) = false := by rw [hnm]; simp
        have Hnm : Hid (ss.length = sq.length) := hnm
        have HE2 : Hid (decide (ss = sq) = E) := by
          unfold Hid
          rw [← HE.out]
          by_cases e : ss = sq
          · rw [decide_eq_true e]; exact (decide_eq_true ⟨rfl, hd, e⟩).symm
          · rw [decide_eq_false e]; exact (decide_eq_false (fun c => e c.2.2)).symm
        clear hnm HE hd
        go_wp2_with fail
        refine EC.mono ?_
        rintro e w1 ⟨rfl, q, rfl⟩
        clear EC
        have HW : Hid (∃ q', w0.drewN q = w0.drewN q') := ⟨q, rfl⟩
        have a2' : (w0.drewN q).cell? ⟨k, 2, none⟩ = some (.slice x2 ss.length c2) := a2
        have d2' : (w0.drewN q).cell? ⟨k + 1, 2, none⟩ = some (.slice x4 sq.length c4) := d2
        generalize w0.drewN q = w1 at HW a2' d2' ⊢
        go_wp2_with fail
        go_loopg [5, 31] ss.length (fun gk u5 iv wr => ∃ j : Nat, gk + j = ss.length ∧ iv = .int .i64 (j : Int) ∧ Hid (∀ i, i < j → ss[i]? = sq[i]?) ∧ Hid (∃ q, wr = w0.drewN q))
        case atStart => exact ⟨0, rfl, rfl, fun i hi => absurd hi (by omega), HW⟩
        case round =>
          obtain ⟨j, hgk, rfl, hA, hq⟩ := hrel
          clear a2' d2' HW
          have hsl : ss.length ≤ 1073741824 := HR.out.s
          by_cases hj : j < ss.length
          · obtain ⟨t, ht⟩ : ∃ t, ss[j]? = some t := ⟨_, List.getElem?_eq_getElem hj⟩
            obtain ⟨s, hs⟩ : ∃ s, sq[j]? = some s := ⟨_, List.getElem?_eq_getElem (by have := Hnm.out; omega)⟩
            obtain ⟨x', c', e', hx⟩ := HV2.out
            injection e' with q1 q2 q3
            subst q1
            obtain ⟨x'', c'', e'', hy⟩ := HU2.out
            injection e'' with p1 p2 p3
            subst p1
            obtain ⟨b1, o1, y1, rfl, l1, k1, k2, r1⟩ := hx j t ht
            obtain ⟨b2, o2, y2, rfl, l2, k3, k4, r2⟩ := hy j s hs
            have hR1 := r1
            have hR2 := r2
            obtain ⟨xa, ca, rfl, -⟩ := r1
            obtain ⟨xb, cb, rfl, -⟩ := r2
            have hjm : j < sq.length := by have := Hnm.out; omega
            have hj' : (j : Int) < (ss.length : Int) := by omega
            have hjm' : (j : Int) < (sq.length : Int) := by omega
            have hl1 := HR.out.a t (List.mem_of_getElem? ht)
            have hl2 := HQ.out.a s (List.mem_of_getElem? hs)
            obtain ⟨q, hqq⟩ := hq.out
            have hcc : ∀ z, wr.cell? z = w0.cell? z := fun z => by rw [hqq]; rfl
            have g1 : wr.cell? ⟨k, 2, none⟩ = some (.slice (some ⟨b1, o1, none⟩) ss.length c2) := (hcc _).trans a2
            have g2 : wr.cell? ⟨k + 1, 2, none⟩ = some (.slice (some ⟨b2, o2, none⟩) sq.length c4) := (hcc _).trans d2
            have g3 := (hcc _).trans k1
            have g4 := (hcc _).trans k2
            have g5 := (hcc _).trans k3
            have g6 := (hcc _).trans k4
            have TC := fun n => texts_any k k _ _ t.2 s.2 (wr.drewN n) (show RT (wr.drewN n) k _ t.2 by rw [hqq]; exact (hR1.drewN q).drewN n) (show RT (wr.drewN n) k _ s.2 by rw [hqq]; exact (hR2.drewN q).drewN n) hl1 hl2
            have HWR : Hid (wr = w0.drewN q) := hqq
            have HBR : Hid (Below k w wr) := by unfold Hid; rw [hqq]; exact bel_drewN HB0.out q
            clear hcc hqq k1 k2 k3 k4 hq
            clear hx hy q2 q3 p2 p3 l1 l2 hR1 hR2
            by_cases hop : t.1 = s.1
            · have hop1 : ((ba t.1).toList == (ba s.1).toList) = true := by rw [hop]; simp
              by_cases har : t.2 = s.2
              · rw [decide_eq_true har] at TC
                have hA2 : Hid (∀ i, i < j + 1 → ss[i]? = sq[i]?) := fun i hi => by
                  by_cases e : i = j
                  · rw [e, ht, hs]; congr 1; exact Prod.ext hop har
                  · exact hA.out i (by omega)
                have HGK : Hid (gk - 1 + (j + 1) = ss.length) := by unfold Hid; omega
                clear ht hs hop har
                go_wp2_with fail
                go_quiet (first | (go_at_call 23; exact Calls.quiet_of (TC _)) | fail)
                generalize hw9 : wr.drewN nq = w9
                have HW9 : Hid (∃ q, w9 = w0.drewN q) := ⟨q + nq, by rw [← hw9, HWR.out, World.drewN_drewN]⟩
                clear hw9
                go_wp2
                go_roundg (gk - 1)
                case measure => omega
                case rel => exact ⟨j + 1, HGK.out, by go_num, hA2, HW9⟩
              · rw [decide_eq_false har] at TC
                have HF : Hid (E = false) := by
                  unfold Hid
                  rw [← HE2.out]
                  refine decide_eq_false (fun e => har ?_)
                  rw [e, hs] at ht
                  injection ht with ht
                  rw [ht]
                clear ht hs hop har
                go_wp2_with fail
                go_quiet (first | (go_at_call 23; exact Calls.quiet_of (TC _)) | fail)
                have HB9 : Hid (Below k w (wr.drewN nq)) := bel_drewN HBR.out nq
                generalize wr.drewN nq = w9 at HB9 ⊢
                go_wp2
                try rw [Exit.noGoto_ret]
                go_ret
                exact ⟨by rw [HF.out]; rfl, by rw [Hk.out]; exact HB9.out⟩
            · have hop1 : ((ba t.1).toList == (ba s.1).toList) = false := by rw [beq_eq_false_iff_ne, ba_toList, ba_toList]; exact hop
              have HF : Hid (E = false) := by
                unfold Hid
                rw [← HE2.out]
                refine decide_eq_false (fun e => hop ?_)
                rw [e, hs] at ht
                injection ht with ht
                rw [ht]
              clear ht hs hop TC
              go_wp2_with fail
              go_quiet (fail)
              have HB9 : Hid (Below k w (wr.drewN nq)) := bel_drewN HBR.out nq
              generalize wr.drewN nq = w9 at HB9 ⊢
              go_wp2
              try rw [Exit.noGoto_ret]
              go_ret
              exact ⟨by rw [HF.out]; rfl, by rw [Hk.out]; exact HB9.out⟩
          · have hj' : ¬ (j : Int) < (ss.length : Int) := by omega
            have HF : Hid (E = true) := by
              unfold Hid
              rw [← HE2.out]
              refine decide_eq_true (List.ext_getElem? (fun i => ?_))
              by_cases hi : i < j
              · exact hA.out i hi
              · rw [List.getElem?_eq_none (by omega), List.getElem?_eq_none (by have := Hnm.out; omega)]
            have HB9 : Hid (Below k w wr) := by
              obtain ⟨q, hqq⟩ := hq.out
              unfold Hid
              rw [hqq]
              exact bel_drewN HB0.out q
            go_wp2
            go_ret
            exact ⟨by rw [HF.out]; rfl, by rw [Hk.out]; exact HB9.out⟩
      · have hee : ((ss.length : Int) != (sq.length : Int)) = true := by rw [bne_iff_ne]; omega
        have HF : Hid (E = false) := by
          unfold Hid
          rw [← HE.out]
          exact decide_eq_false (fun c => hnm (by rw [c.2.2]))
        clear HE hd hnm
        go_wp2_with fail
        refine EC.mono ?_
        rintro e w1 ⟨rfl, q, rfl⟩
        clear EC
        have HB9 : Hid (Below k w (w0.drewN q)) := bel_drewN HB0.out q
        have a2' : (w0.drewN q).cell? ⟨k, 2, none⟩ = some (.slice x2 ss.length c2) := a2
        have d2' : (w0.drewN q).cell? ⟨k + 1, 2, none⟩ = some (.slice x4 sq.length c4) := d2
        generalize w0.drewN q = w1 at HB9 a2' d2' ⊢
        go_wp2
        try rw [Exit.noGoto_ret]
        go_ret
        exact ⟨by rw [HF.out]; rfl, by rw [Hk.out]; exact HB9.out⟩
    · rw [decide_eq_false hd] at EC
      have HF : Hid (E = false) := by
        unfold Hid
        rw [← HE.out]
        exact decide_eq_false (fun c => hd c.2.1)
      clear HE hd
      go_wp2_with fail
      refine EC.mono ?_
      rintro e w1 ⟨rfl, q, rfl⟩
      clear EC
      have HB9 : Hid (Below k w (w0.drewN q)) := bel_drewN HB0.out q
      generalize w0.drewN q = w1 at HB9 ⊢
      go_wp2
      try rw [Exit.noGoto_ret]
      go_ret
      exact ⟨by rw [HF.out]; rfl, by rw [Hk.out]; exact HB9.out⟩
  · have he : ((ba nm).toList == (ba nq).toList) = false := by rw [beq_eq_false_iff_ne, ba_toList, ba_toList]; exact ho
    have HF : Hid (E = false) := by
      unfold Hid
      rw [← HE.out]
      exact decide_eq_false (fun c => ho c.1)
    clear HE EC ho
    go_wp2
    try rw [Exit.noGoto_ret]
    go_ret
    exact ⟨by rw [HF.out]; rfl, by rw [Hk.out]; exact HB0.out⟩

end Go.Proofs.Ytbfhfejdmhjccaa
