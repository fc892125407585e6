/- slices.EqualFunc over steps; Same, walked. -/
import Derived.Test.YtbfhfejdmhjccaaRiA
namespace Go.Proofs.Ytbfhfejdmhjccaa
open Go.RowKit

set_option maxHeartbeats 8000000 in
theorem eqF_any (v u : Value) (L M : List Stp) (w : World) (hv : RS w w.heap.size v L) (hu : RS w w.heap.size u M) (hm : M.length ≤ 1073741824) (hL : ∀ s ∈ L, s.2.length ≤ 1073741824) (hM : ∀ s ∈ M, s.2.length ≤ 1073741824) :
    Calls Try.prog 30 #[v, u, .func (.func 31) #[] #[]] w fun e w' => e = .returned (.bool (decide (L = M))) ∧ Below w.heap.size w w' := by
  obtain ⟨x, c, rfl, hx⟩ := hv
  obtain ⟨y, d, rfl, hy⟩ := hu
  generalize hE : decide (L = M) = E
  have HX : Hid (∀ i t, L[i]? = some t → ∃ b o y, x = some ⟨b, o, none⟩ ∧ b < w.heap.size ∧ w.cell? ⟨b, o + i * 2, none⟩ = some (.string (ba t.1)) ∧ w.cell? ⟨b, o + i * 2 + 1, none⟩ = some y ∧ RT w w.heap.size y t.2) := hx
  have HY : Hid (∀ i t, M[i]? = some t → ∃ b o z, y = some ⟨b, o, none⟩ ∧ b < w.heap.size ∧ w.cell? ⟨b, o + i * 2, none⟩ = some (.string (ba t.1)) ∧ w.cell? ⟨b, o + i * 2 + 1, none⟩ = some z ∧ RT w w.heap.size z t.2) := hy
  have HE : Hid (decide (L = M) = E) := hE
  have HLL : Hid ((∀ s ∈ L, s.2.length ≤ 1073741824) ∧ ∀ s ∈ M, s.2.length ≤ 1073741824) := ⟨hL, hM⟩
  clear hx hy hE hL hM
  by_cases hnm : L.length = M.length
  · have hee : ((L.length : Int) != (M.length : Int)) = false := by rw [hnm]; simp
    have Hnm : Hid (L.length = M.length) := hnm
    clear hnm
    go_enter Try.func30, Try.ntmps30
    go_wp2_with fail
    go_loopg [7, 8, 9, 17] L.length (fun gk u7 u8 u9 iv wr => ∃ k : Nat, gk + k = L.length ∧ iv = .int .i64 (k : Int) ∧ Hid (∀ i, i < k → L[i]? = M[i]?) ∧ Hid (Below w.heap.size w wr))
    case atStart => exact ⟨0, rfl, rfl, fun i hi => absurd hi (by omega), Below.refl _ _⟩
    case round =>
      obtain ⟨k, hgk, rfl, hA, hB⟩ := hrel
      by_cases hk : k < L.length
      · obtain ⟨t, ht⟩ : ∃ t, L[k]? = some t := ⟨_, List.getElem?_eq_getElem hk⟩
        obtain ⟨s, hs⟩ : ∃ s, M[k]? = some s := ⟨_, List.getElem?_eq_getElem (by have := Hnm.out; omega)⟩
        obtain ⟨b1, o1, y1, rfl, l1, c1, c2, r1⟩ := HX.out k t ht
        obtain ⟨b2, o2, y2, rfl, l2, c3, c4, r2⟩ := HY.out k s hs
        have d1 : wr.cell? ⟨b1, o1 + k * 2, none⟩ = some (.string (ba t.1)) := cell_keep hB.out l1 c1
        have d2 : wr.cell? ⟨b1, o1 + k * 2 + 1, none⟩ = some y1 := cell_keep hB.out l1 c2
        have q1 : RT wr wr.heap.size y1 t.2 := (r1.below hB.out (Nat.le_refl _)).up hB.out.size
        have q2 : RT wr wr.heap.size y2 s.2 := (r2.below hB.out (Nat.le_refl _)).up hB.out.size
        obtain ⟨xa, ca, rfl, -⟩ := id r1
        obtain ⟨xb, cb, rfl, -⟩ := id r2
        have hkm : k < M.length := by have := Hnm.out; omega
        have hk' : (k : Int) < (L.length : Int) := by omega
        have hkm' : (k : Int) < (M.length : Int) := by omega
        have b1' : Below wr.heap.size wr (wr.alloc (.cells #[.string (ba t.1), .slice xa t.2.length ca] 47)) := (Below.refl _ _).alloc (Nat.le_refl _) _
        have hb1 : b2 < wr.heap.size := Nat.lt_of_lt_of_le l2 hB.out.size
        have d3 : (wr.alloc (.cells #[.string (ba t.1), .slice xa t.2.length ca] 47)).cell? ⟨b2, o2 + k * 2, none⟩ = some (.string (ba s.1)) := cell_keep b1' hb1 (cell_keep hB.out l2 c3)
        have d4 : (wr.alloc (.cells #[.string (ba t.1), .slice xa t.2.length ca] 47)).cell? ⟨b2, o2 + k * 2 + 1, none⟩ = some (.slice xb s.2.length cb) := cell_keep b1' hb1 (cell_keep hB.out l2 c4)
        have z1 : (wr.alloc (.cells #[.string (ba t.1), .slice xa t.2.length ca] 47)).heap.size = wr.heap.size + 1 := World.size_alloc _ _
        have b2' : Below wr.heap.size wr ((wr.alloc (.cells #[.string (ba t.1), .slice xa t.2.length ca] 47)).alloc (.cells #[.string (ba s.1), .slice xb s.2.length cb] 47)) := b1'.alloc (by rw [z1]; omega) _
        have S0 : St2 ((wr.alloc (.cells #[.string (ba t.1), .slice xa t.2.length ca] 47)).alloc (.cells #[.string (ba s.1), .slice xb s.2.length cb] 47)) wr.heap.size (.string (ba t.1)) (.slice xa t.2.length ca) := (St2.new wr _ _).same (Below.heap_alloc _ _ _ (by rw [z1]; omega))
        have S1 : St2 ((wr.alloc (.cells #[.string (ba t.1), .slice xa t.2.length ca] 47)).alloc (.cells #[.string (ba s.1), .slice xb s.2.length cb] 47)) (wr.heap.size + 1) (.string (ba s.1)) (.slice xb s.2.length cb) := by
          have := St2.new (wr.alloc (.cells #[.string (ba t.1), .slice xa t.2.length ca] 47)) (.string (ba s.1)) (.slice xb s.2.length cb)
          rw [z1] at this
          exact this
        have EC := sameStep_any t s (.slice xa t.2.length ca) (.slice xb s.2.length cb) _ ((q1.below b2' (Nat.le_refl _)).up b2'.size) ((q2.below b2' (Nat.le_refl _)).up b2'.size) (HLL.out.1 t (List.mem_of_getElem? ht)) (HLL.out.2 s (List.mem_of_getElem? hs))
        have HB2 : Hid (Below w.heap.size w ((wr.alloc (.cells #[.string (ba t.1), .slice xa t.2.length ca] 47)).alloc (.cells #[.string (ba s.1), .slice xb s.2.length cb] 47))) := bel_trans hB.out b2'
        have e0 := S0.c0
        have e1 := S0.c1
        have e2 := S1.c0
        have e3 := S1.c1
        clear c1 c2 c3 c4 r1 r2 q1 q2 b1' b2' z1 S0 S1 l1 l2 hb1 hB
        by_cases hts : t = s
        · subst hts
          have hA2 : Hid (∀ i, i < k + 1 → L[i]? = M[i]?) := fun i hi => by
            by_cases e : i = k
            · rw [e, ht, hs]
            · exact hA.out i (by omega)
          rw [decide_eq_true rfl] at EC
          clear ht hs
          go_wp2_with fail
          generalize (wr.alloc (.cells #[.string (ba t.1), .slice xa t.2.length ca] 47)).alloc (.cells #[.string (ba t.1), .slice xb t.2.length cb] 47) = w5 at EC HB2 ⊢
          refine EC.mono ?_
          rintro e w6 ⟨rfl, b6⟩
          have HB6 : Hid (Below w.heap.size w w6) := bel_trans HB2.out b6
          clear EC b6 HB2 e0 e1 e2 e3 d1 d2 d3 d4
          go_wp2
          go_roundg (gk - 1)
          case measure => omega
          case rel => exact ⟨k + 1, by omega, by go_num, hA2, HB6⟩
        · rw [decide_eq_false hts] at EC
          have HF : Hid (E = false) := by
            unfold Hid
            rw [← HE.out]
            refine decide_eq_false (fun e => hts ?_)
            rw [e, hs] at ht
            injection ht with ht
            exact ht.symm
          clear ht hs hts
          go_wp2_with fail
          generalize (wr.alloc (.cells #[.string (ba t.1), .slice xa t.2.length ca] 47)).alloc (.cells #[.string (ba s.1), .slice xb s.2.length cb] 47) = w5 at EC HB2 ⊢
          refine EC.mono ?_
          rintro e w6 ⟨rfl, b6⟩
          have HB6 : Hid (Below w.heap.size w w6) := bel_trans HB2.out b6
          clear EC b6 HB2 e0 e1 e2 e3 d1 d2 d3 d4
          go_wp2
          try rw [Exit.noGoto_ret]
          go_ret
          exact ⟨by rw [HF.out]; rfl, HB6.out⟩
      · have hk' : ¬ (k : Int) < (L.length : Int) := by omega
        have HF : Hid (E = true) := by
          unfold Hid
          rw [← HE.out]
          refine decide_eq_true (List.ext_getElem? (fun i => ?_))
          by_cases hi : i < k
          · exact hA.out i hi
          · rw [List.getElem?_eq_none (by omega), List.getElem?_eq_none (by have := Hnm.out; omega)]
        go_wp2
        go_ret
        exact ⟨by rw [HF.out]; rfl, hB.out⟩
  · have hee : ((L.length : Int) != (M.length : Int)) = true := by rw [bne_iff_ne]; omega
    have HF : Hid (E = false) := by
      unfold Hid
      rw [← HE.out]
      exact decide_eq_false (fun e => hnm (by rw [e]))
    go_enter Try.func30, Try.ntmps30
    go_wp2
    try rw [Exit.noGoto_ret]
    go_ret
    exact ⟨by rw [HF.out]; rfl, Below.refl _ _⟩

end Go.Proofs.Ytbfhfejdmhjccaa
