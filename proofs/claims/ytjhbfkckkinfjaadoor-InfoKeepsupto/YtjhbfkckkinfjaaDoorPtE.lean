/- spath.Parse, Base, Full and the document's Parse, walked. -/
import Derived.Test.YtjhbfkckkinfjaaDoorPtD
namespace Go.Proofs.YtjhbfkckkinfjaaDoor
open Go.RowKit

theorem bt_extract (s : ByteArray) (a b k : Nat) (hk : a + k < b) (hb : b ≤ s.size) : bt (s.extract a b) k = bt s (a + k) := by
  unfold bt
  have h1 : k < (s.extract a b).size := by rw [ByteArray.size_extract]; omega
  rw [dif_pos h1, dif_pos (show a + k < s.size by omega)]
  rw [ByteArray.getElem_extract]

theorem size_ext (s : ByteArray) (a b : Nat) (hb : b ≤ s.size) : (s.extract a b).size = b - a := by
  rw [ByteArray.size_extract]; omega

theorem base_hash (p : ByteArray) (h : 46 ≤ p.size) : (p.extract 13 p.size).extract 0 32 = pHash p := by
  unfold pHash
  apply bytes_ext
  · rw [size_ext _ _ _ (by rw [size_ext _ _ _ (Nat.le_refl _)]; omega), size_ext _ _ _ (by omega)]
  · intro k hk
    have hs : (p.extract 13 p.size).size = p.size - 13 := size_ext _ _ _ (Nat.le_refl _)
    have hk' : k < 32 := by rw [size_ext _ _ _ (by rw [hs]; omega)] at hk; omega
    rw [bt_extract _ _ _ _ (by omega) (by rw [hs]; omega), bt_extract _ _ _ _ (by omega) (Nat.le_refl _), bt_extract _ _ _ _ (by omega) (by omega)]
    congr 1; omega

theorem base_lab (p : ByteArray) (h : 46 ≤ p.size) : (p.extract 13 p.size).extract 33 (p.size - 13) = pLab p := by
  unfold pLab
  have hs : (p.extract 13 p.size).size = p.size - 13 := size_ext _ _ _ (Nat.le_refl _)
  apply bytes_ext
  · rw [size_ext _ _ _ (by rw [hs]; omega), size_ext _ _ _ (Nat.le_refl _)]; omega
  · intro k hk
    have hk' : k < p.size - 13 - 33 := by rw [size_ext _ _ _ (by rw [hs]; omega)] at hk; omega
    rw [bt_extract _ _ _ _ (by omega) (by rw [hs]; omega), bt_extract _ _ _ _ (by omega) (Nat.le_refl _), bt_extract _ _ _ _ (by omega) (by omega)]
    congr 1; omega

set_option maxHeartbeats 1000000 in
theorem parse_any (p : ByteArray) (w : World) :
    Calls Tryd.prog 17 #[.string p] w fun e w' => e = .returned (.tuple #[.string (prH p), .string (prL p), .int .i64 (prC p)]) ∧ Below w.heap.size w w' := by
  unfold prH prL
  have C := cutP_any p w
  cases hp : hpB p
  · have hn : prC p = 132 := prC_shape (fun h => by
      have : hpB p = true := by unfold hpB; rw [h.2.1, decide_eq_true (by have := h.1; omega)]; rfl
      rw [hp] at this; exact Bool.noConfusion this)
    rw [hn, iffy_no (by decide), iffy_no (by decide)]
    rw [hp, if_neg (by decide)] at C
    clear hp hn
    go_enter Tryd.func17, Tryd.ntmps17
    go_wp2_with fail
    refine C.mono ?_
    rintro e w1 ⟨rfl, rfl⟩
    go_wp2
    go_ret3
    exact ⟨rfl, Below.refl _ _⟩
  · have hpp := hp
    unfold hpB at hpp
    rw [Bool.and_eq_true, decide_eq_true_eq] at hpp
    obtain ⟨h13, hpre⟩ := hpp
    rw [hp, if_pos rfl] at C
    have hs : (p.extract 13 p.size).size = p.size - 13 := size_ext _ _ _ (Nat.le_refl _)
    by_cases hle : p.size - 13 ≤ 32
    · have hn : prC p = 132 := prC_shape (fun h => by have := h.1; omega)
      rw [hn, iffy_no (by decide), iffy_no (by decide)]
      have hsz : (p.extract 13 p.size).size ≤ 32 := by omega
      clear hp hn hle hs
      generalize p.extract 13 p.size = b at C hsz
      go_enter Tryd.func17, Tryd.ntmps17
      go_wp2_with fail
      refine C.mono ?_
      rintro e w1 ⟨rfl, rfl⟩
      go_wp2
      go_ret3
      exact ⟨rfl, Below.refl _ _⟩
    · have h46 : 46 ≤ p.size := by omega
      have e1 := base_hash p h46
      have e2 := base_lab p h46
      have e3 : bt (p.extract 13 p.size) 32 = bt p 45 := bt_extract _ _ _ _ (by omega) (Nat.le_refl _)
      rw [← hs] at e2
      by_cases h45 : bt p 45 = 45
      · have hshp : shp p := ⟨h46, hpre, h45⟩
        have E3 : (bt (p.extract 13 p.size) 32 == 45) = true := by rw [e3]; simp [h45]
        have hsz : ¬ (p.extract 13 p.size).size ≤ 32 := by omega
        have HB : Hid (33 ≤ (p.extract 13 p.size).size) := by unfold Hid; omega
        clear e3 h45 hs hle hp h13 hpre h46
        generalize p.extract 13 p.size = b at C E3 hsz e1 e2 HB
        have hb := get_bt b
        have E4 : (bt b 32 != 45) = false := by simp only [bne, E3]; rfl
        have h32 : 32 < b.size := by omega
        have h33 : 33 ≤ b.size := HB.out
        rcases hsh_cases (pHash p) with ⟨g1, g2⟩ | ⟨g1, g2⟩
        · have hc := prC_lab hshp g1
          rcases lab_cases (pLab p) with ⟨k1, k2⟩ | ⟨k1, k2⟩
          · rw [k2] at hc
            rw [hc, iffy_yes rfl, iffy_yes rfl]
            have G2 : Hid (hsh (pHash p) = 0) := g2
            have K2 : Hid (lab (pLab p) = 0) := k2
            clear g1 g2 k1 k2 hc hshp
            go_enter Tryd.func17, Tryd.ntmps17
            go_wp2_with fail
            refine C.mono ?_
            rintro e w1 ⟨rfl, rfl⟩
            go_wp2
            go_region
            go_wp2_with fail
            refine (ckH_any _ _).mono ?_
            rintro e w2 ⟨rfl, rfl⟩
            rw [G2.out]
            go_wp2_with fail
            refine (ckL_any _ _).mono ?_
            rintro e w3 ⟨rfl, B⟩
            rw [K2.out]
            go_wp2
            go_ret3
            exact ⟨rfl, ((Below.refl _ _).drew).trans B⟩
          · rw [k2] at hc
            rw [hc, iffy_no (by decide), iffy_no (by decide)]
            have G2 : Hid (hsh (pHash p) = 0) := g2
            have K2 : Hid (lab (pLab p) = 130) := k2
            clear g1 g2 k1 k2 hc hshp
            go_enter Tryd.func17, Tryd.ntmps17
            go_wp2_with fail
            refine C.mono ?_
            rintro e w1 ⟨rfl, rfl⟩
            go_wp2
            go_region
            go_wp2_with fail
            refine (ckH_any _ _).mono ?_
            rintro e w2 ⟨rfl, rfl⟩
            rw [G2.out]
            go_wp2_with fail
            refine (ckL_any _ _).mono ?_
            rintro e w3 ⟨rfl, B⟩
            rw [K2.out]
            go_wp2
            go_ret3
            exact ⟨rfl, ((Below.refl _ _).drew).trans B⟩
        · have hc := prC_hash hshp g1
          rw [hc, iffy_no (by decide), iffy_no (by decide)]
          have G2 : Hid (hsh (pHash p) = 131) := g2
          clear g1 g2 hc hshp
          go_enter Tryd.func17, Tryd.ntmps17
          go_wp2_with fail
          refine C.mono ?_
          rintro e w1 ⟨rfl, rfl⟩
          go_wp2
          go_region
          go_wp2_with fail
          refine (ckH_any _ _).mono ?_
          rintro e w2 ⟨rfl, rfl⟩
          rw [G2.out]
          go_wp2
          go_ret3
          exact ⟨rfl, (Below.refl _ _).drew⟩
      · have hn : prC p = 132 := prC_shape (fun h => h45 h.2.2)
        rw [hn, iffy_no (by decide), iffy_no (by decide)]
        have E3 : (bt (p.extract 13 p.size) 32 == 45) = false := by rw [e3]; simp [h45]
        have hsz : ¬ (p.extract 13 p.size).size ≤ 32 := by omega
        clear hn e1 e2 e3 h45 hs hle hp h13 hpre h46
        generalize p.extract 13 p.size = b at C E3 hsz
        have hb := get_bt b
        have E4 : (bt b 32 != 45) = true := by simp only [bne, E3]; rfl
        have h32 : 32 < b.size := by omega
        go_enter Tryd.func17, Tryd.ntmps17
        go_wp2_with fail
        refine C.mono ?_
        rintro e w1 ⟨rfl, rfl⟩
        go_wp2
        go_ret3
        exact ⟨rfl, Below.refl _ _⟩

end Go.Proofs.YtjhbfkckkinfjaaDoor
