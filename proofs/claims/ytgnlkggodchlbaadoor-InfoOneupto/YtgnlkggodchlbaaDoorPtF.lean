/- The document's Parse; spath.Base and Full, walked. -/
import Derived.Test.YtgnlkggodchlbaaDoorPtE
namespace Go.Proofs.YtgnlkggodchlbaaDoor
open Go.RowKit

theorem dirS_list : dirS.toList = [47, 100, 101, 112, 111, 116, 47, 115, 116, 111, 114, 101, 47] := by decide +kernel

set_option maxHeartbeats 1000000 in
theorem rparse_any (p : ByteArray) (w : World) :
    Calls Tryd.prog 68 #[.string p] w fun e w' => e = .returned (.tuple #[.string (prH p), .string (prL p), .int .i64 (prC p)]) ∧ w' = w := by
  unfold prH prL
  by_cases h46 : p.size < 46
  · have hn : prC p = 132 := prC_shape (fun h => by have := h.1; omega)
    rw [hn, iffy_no (by decide), iffy_no (by decide)]
    go_enter Tryd.func68, Tryd.ntmps68
    go_wp2
    go_ret3
    exact ⟨rfl, rfl⟩
  · have hb := get_bt p
    have h1 : 13 ≤ p.size := by omega
    have h2 : 45 < p.size := by omega
    have h3 : 46 ≤ p.size := by omega
    have h4 : 45 ≤ p.size := by omega
    cases hpre : pre p
    · have hn : prC p = 132 := prC_shape (fun h => by have := h.2.1; rw [hpre] at this; exact Bool.noConfusion this)
      rw [hn, iffy_no (by decide), iffy_no (by decide)]
      have E : ((p.extract 0 13).toList == dirS.toList) = false := hpre
      have E' : ((p.extract 0 13).toList != dirS.toList) = true := by simp only [bne, E]; rfl
      have E2 : ((p.extract 0 13).toList == [47, 100, 101, 112, 111, 116, 47, 115, 116, 111, 114, 101, 47]) = false := by rw [← dirS_list]; exact E
      clear hpre hn E E'
      go_enter Tryd.func68, Tryd.ntmps68
      go_wp2
      go_ret3
      exact ⟨rfl, rfl⟩
    · have E : ((p.extract 0 13).toList == dirS.toList) = true := hpre
      have E' : ((p.extract 0 13).toList != dirS.toList) = false := by simp only [bne, E]; rfl
      have E2 : ((p.extract 0 13).toList == [47, 100, 101, 112, 111, 116, 47, 115, 116, 111, 114, 101, 47]) = true := by rw [← dirS_list]; exact E
      clear E E'
      by_cases h45 : bt p 45 = 45
      · have hshp : shp p := ⟨h3, hpre, h45⟩
        have E4 : (bt p 45 == 45) = true := by simp [h45]
        have E5 : (bt p 45 != 45) = false := by simp only [bne, E4]; rfl
        clear h45 hpre
        have e1 : p.extract 13 45 = pHash p := rfl
        have e2 : p.extract 46 p.size = pLab p := rfl
        rcases hsh_cases (pHash p) with ⟨g1, g2⟩ | ⟨g1, g2⟩
        · have hc := prC_lab hshp g1
          have G2 : Hid (hsh (pHash p) = 0) := g2
          rcases lab_cases (pLab p) with ⟨k1, k2⟩ | ⟨k1, k2⟩
          · rw [k2] at hc
            rw [hc, iffy_yes rfl, iffy_yes rfl]
            have K2 : Hid (lab (pLab p) = 0) := k2
            clear g1 g2 k1 k2 hc hshp
            go_enter Tryd.func68, Tryd.ntmps68
            go_wp2_with fail
            refine (rckH_any _ _).mono ?_
            rintro e w2 ⟨rfl, rfl⟩
            rw [G2.out]
            go_wp2_with fail
            refine (rckL_any _ _).mono ?_
            rintro e w3 ⟨rfl, rfl⟩
            rw [K2.out]
            go_wp2
            go_ret3
            exact ⟨rfl, rfl⟩
          · rw [k2] at hc
            rw [hc, iffy_no (by decide), iffy_no (by decide)]
            have K2 : Hid (lab (pLab p) = 130) := k2
            clear g1 g2 k1 k2 hc hshp
            go_enter Tryd.func68, Tryd.ntmps68
            go_wp2_with fail
            refine (rckH_any _ _).mono ?_
            rintro e w2 ⟨rfl, rfl⟩
            rw [G2.out]
            go_wp2_with fail
            refine (rckL_any _ _).mono ?_
            rintro e w3 ⟨rfl, rfl⟩
            rw [K2.out]
            go_wp2
            go_ret3
            exact ⟨rfl, rfl⟩
        · have hc := prC_hash hshp g1
          rw [hc, iffy_no (by decide), iffy_no (by decide)]
          have G2 : Hid (hsh (pHash p) = 131) := g2
          clear g1 g2 hc hshp
          go_enter Tryd.func68, Tryd.ntmps68
          go_wp2_with fail
          refine (rckH_any _ _).mono ?_
          rintro e w2 ⟨rfl, rfl⟩
          rw [G2.out]
          go_wp2
          go_ret3
          exact ⟨rfl, rfl⟩
      · have hn : prC p = 132 := prC_shape (fun h => h45 h.2.2)
        rw [hn, iffy_no (by decide), iffy_no (by decide)]
        have E4 : (bt p 45 == 45) = false := by simp [h45]
        have E5 : (bt p 45 != 45) = true := by simp only [bne, E4]; rfl
        clear h45 hpre hn
        go_enter Tryd.func68, Tryd.ntmps68
        go_wp2
        go_ret3
        exact ⟨rfl, rfl⟩

theorem prC_size {p : ByteArray} (h : prC p = 0) : 46 ≤ p.size := by
  by_cases g : shp p
  · exact g.1
  · rw [prC_shape g] at h; omega

set_option maxHeartbeats 400000 in
theorem base_any (p : ByteArray) (w : World) :
    Calls Tryd.prog 62 #[.string p] w fun e w' => e = .returned (.tuple #[.string (iffy (prC p) (p.extract 13 p.size)), .int .i64 (prC p)]) ∧ Below w.heap.size w w' := by
  by_cases h : prC p = 0
  · have h13 : 13 ≤ p.size := by have := prC_size h; omega
    rw [iffy_yes h]
    have H : Hid (prC p = 0) := h
    rw [h]
    clear h
    go_enter Tryd.func62, Tryd.ntmps62
    go_wp2_with fail
    refine (parse_any _ _).mono ?_
    rintro e w1 ⟨rfl, B⟩
    rw [H.out]
    go_wp2
    go_ret2
    exact ⟨rfl, B⟩
  · rw [iffy_no h]
    have H : (prC p == 0) = false := by rw [beq_eq_false_iff_ne]; exact h
    have H' : (prC p != 0) = true := by simp only [bne, H]; rfl
    clear h
    go_enter Tryd.func62, Tryd.ntmps62
    go_wp2_with fail
    refine (parse_any _ _).mono ?_
    rintro e w1 ⟨rfl, B⟩
    go_wp2
    go_ret2
    exact ⟨rfl, B⟩

end Go.Proofs.YtgnlkggodchlbaaDoor
