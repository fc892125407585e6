/- The law SpathBack, walked. -/
import Derived.Test.YtnfcnfhchfmcpaaDoorPtT
namespace Go.Proofs.YtnfcnfhchfmcpaaDoor
open Go.RowKit

theorem vl_lt32 (v : Int) (h0 : 0 ≤ v) (h1 : v < 32) : 0 ≤ vl (lt32 v) := by
  obtain ⟨n, rfl⟩ : ∃ n : Nat, v = n := ⟨v.toNat, by omega⟩
  rw [vl_lt n (by omega)]; omega
theorem fb_bd (s : ByteArray) (k : Nat) : 0 ≤ fb s k ∧ fb s k < 32 := by unfold fb; omega
theorem lt32_bd (v : Int) : 0 ≤ lt32 v ∧ lt32 v < 256 := bt_bd _ _
theorem hashP_ok (f : Nat → ByteArray) (n : Nat) (D : Nat → Int) (l : ByteArray) : hshOk (hashP f n D l) := by
  refine ⟨hashP_size f n D l, fun k hk => ?_⟩
  have hz := hashP_size f n D l
  unfold hashP at hz ⊢
  generalize foS (shS (nmS f n D l)) = X at hz ⊢
  unfold b32Str at hz ⊢
  rw [strFn_size] at hz
  have hb := lt32_bd (fb X (5 * (lf X.size - 1 - k)))
  have e : bt (strFn (lf X.size) (b32Fn X)) k = b32Fn X k := bt_strFn _ _ _ (by omega) hb.1 hb.2
  rw [e]
  have := fb_bd X (5 * (lf X.size - 1 - k))
  exact vl_lt32 _ this.1 this.2

theorem bt_app (a b : ByteArray) (k : Nat) (hk : k < (a ++ b).size) : bt (a ++ b) k = if k < a.size then bt a k else bt b (k - a.size) := by
  rw [ByteArray.size_append] at hk
  by_cases h : k < a.size
  · rw [if_pos h]; exact bt_left a b k h
  · rw [if_neg h]
    have := bt_right a b (k - a.size) (by omega)
    rw [show a.size + (k - a.size) = k from by omega] at this
    exact this
theorem dirS_size : dirS.size = 13 := rfl

/-- The path of a hash and a label, in two parts. -/
theorem path_parts (h l : ByteArray) (hz : h.size = 32) : (((dirS ++ h) ++ ⟨#[45]⟩) ++ l : ByteArray).size = 46 + l.size ∧ (((dirS ++ h) ++ ⟨#[45]⟩) ++ l : ByteArray).extract 0 13 = dirS ∧ pHash (((dirS ++ h) ++ ⟨#[45]⟩) ++ l) = h ∧ pLab (((dirS ++ h) ++ ⟨#[45]⟩) ++ l) = l ∧ bt (((dirS ++ h) ++ ⟨#[45]⟩) ++ l) 45 = 45 ∧ (((dirS ++ h) ++ ⟨#[45]⟩) ++ l : ByteArray).extract 13 (46 + l.size) = (h ++ ⟨#[45]⟩) ++ l := by
  have s1 : (ByteArray.mk #[45]).size = 1 := rfl
  have b1 : bt ⟨#[45]⟩ 0 = 45 := by decide +kernel
  have hs : (((dirS ++ h) ++ ⟨#[45]⟩) ++ l : ByteArray).size = 46 + l.size := by
    rw [ByteArray.size_append, ByteArray.size_append, ByteArray.size_append, dirS_size, hz, s1]
  have hs3 : ((dirS ++ h) ++ ⟨#[45]⟩ : ByteArray).size = 46 := by rw [ByteArray.size_append, ByteArray.size_append, dirS_size, hz, s1]
  have hs2 : (dirS ++ h : ByteArray).size = 45 := by rw [ByteArray.size_append, dirS_size, hz]
  have hb : ∀ k, k < 46 + l.size → bt (((dirS ++ h) ++ ⟨#[45]⟩) ++ l) k = if k < 13 then bt dirS k else if k < 45 then bt h (k - 13) else if k < 46 then 45 else bt l (k - 46) := fun k hk => by
    rw [bt_app _ _ _ (by omega), hs3]
    by_cases h46 : k < 46
    · rw [if_pos h46, bt_app _ _ _ (by omega), hs2]
      by_cases h45 : k < 45
      · rw [if_pos h45, bt_app _ _ _ (by omega), dirS_size]
        by_cases h13 : k < 13
        · rw [if_pos h13, if_pos h13]
        · rw [if_neg h13, if_neg h13, if_pos h45]
      · rw [if_neg h45, if_neg (by omega), if_neg h45, if_pos h46, show k - 45 = 0 from by omega, b1]
    · rw [if_neg h46, if_neg (by omega), if_neg (by omega), if_neg h46]
  generalize ((dirS ++ h) ++ ⟨#[45]⟩) ++ l = p at hs hb
  refine ⟨hs, ?_, ?_, ?_, ?_, ?_⟩
  · apply bytes_ext
    · rw [size_ext _ _ _ (by omega), dirS_size]
    · intro k hk
      rw [size_ext _ _ _ (by omega)] at hk
      rw [bt_extract _ _ _ _ (by omega) (by omega), Nat.zero_add, hb k (by omega), if_pos (by omega)]
  · apply bytes_ext
    · unfold pHash; rw [size_ext _ _ _ (by omega), hz]
    · intro k hk
      unfold pHash at hk ⊢
      rw [size_ext _ _ _ (by omega)] at hk
      rw [bt_extract _ _ _ _ (by omega) (by omega), hb _ (by omega), if_neg (by omega), if_pos (by omega), Nat.add_sub_cancel_left]
  · apply bytes_ext
    · unfold pLab; rw [size_ext _ _ _ (by omega)]; omega
    · intro k hk
      unfold pLab at hk ⊢
      rw [size_ext _ _ _ (by omega)] at hk
      rw [bt_extract _ _ _ _ (by omega) (by omega), hb _ (by omega), if_neg (by omega), if_neg (by omega), if_neg (by omega), Nat.add_sub_cancel_left]
  · rw [hb 45 (by omega), if_neg (by omega), if_neg (by omega), if_pos (by omega)]
  · have hsr : ((h ++ ⟨#[45]⟩) ++ l : ByteArray).size = 33 + l.size := by rw [ByteArray.size_append, ByteArray.size_append, hz, s1]
    have hsr2 : (h ++ ⟨#[45]⟩ : ByteArray).size = 33 := by rw [ByteArray.size_append, hz, s1]
    apply bytes_ext
    · rw [size_ext _ _ _ (by omega), hsr]; omega
    · intro k hk
      rw [size_ext _ _ _ (by omega)] at hk
      rw [bt_extract _ _ _ _ (by omega) (by omega), hb _ (by omega), if_neg (by omega), bt_app _ _ _ (by omega), hsr2]
      by_cases h33 : k < 33
      · rw [if_pos h33, bt_app _ _ _ (by omega), hz]
        by_cases h32 : k < 32
        · rw [if_pos h32, if_pos (by omega), Nat.add_sub_cancel_left]
        · rw [if_neg h32, if_neg (by omega), if_pos (by omega), show k - 32 = 0 from by omega, b1]
      · rw [if_neg h33, if_neg (by omega), if_neg (by omega)]
        congr 1; omega

theorem mkS_good (f : Nat → ByteArray) (n : Nat) (D : Nat → Int) (l : ByteArray) (hl : labOk l) :
    prC (mkS f n D l) = 0 ∧ prH (mkS f n D l) = hashP f n D l ∧ prL (mkS f n D l) = l ∧ (mkS f n D l).extract 13 (mkS f n D l).size = (hashP f n D l ++ ⟨#[45]⟩) ++ l ∧ dirS ++ ((hashP f n D l ++ ⟨#[45]⟩) ++ l) = mkS f n D l := by
  obtain ⟨h1, h2, h3, h4, h5, h6⟩ := path_parts (hashP f n D l) l (hashP_size f n D l)
  have e : mkS f n D l = ((dirS ++ hashP f n D l) ++ ⟨#[45]⟩) ++ l := rfl
  rw [← e] at h1 h2 h3 h4 h5 h6
  have hsh : shp (mkS f n D l) := ⟨by omega, by unfold pre; rw [h2]; simp, h5⟩
  have hc : prC (mkS f n D l) = 0 := by
    rw [prC_lab hsh (by rw [h3]; exact hashP_ok f n D l), h4]; exact lab_yes hl
  refine ⟨hc, ?_, ?_, by rw [h1, h6], ?_⟩
  · unfold prH; rw [iffy_yes hc, h3]
  · unfold prL; rw [iffy_yes hc, h4]
  · rw [e]; simp only [app_assoc]

set_option maxRecDepth 100000 in
set_option maxHeartbeats 4000000 in
theorem back_walk (x : Option Addr) (n c : Nat) (f : Nat → ByteArray) (D : Nat → Int) (l : ByteArray) (w : World) (hS : SIs w x n f) (hK : KT w) :
    Calls Tryd.prog 4 #[.slice x n c, .agg (cs .u8 32 D), .string l] w fun e w' => e = .returned (.bool true) ∧ Below w.heap.size w w' := by
  have HK : Hid (KT w) := hK
  have HS : Hid (SIs w x n f) := hS
  have z0 : 0 < w.heap.size := hK.lt
  clear hK hS
  go_enter Tryd.func4, Tryd.ntmps4
  go_wp2_with fail
  refine (awake_any _).mono ?_
  rintro e w1 ⟨rfl, b1⟩
  have R1 : Row .u8 w1 w.heap.size 32 D := Row.below Row.box b1 (by rw [World.size_alloc]; omega)
  have B1 : Hid (Below w.heap.size w w1) := ((Below.refl _ _).alloc (Nat.le_refl _) _).trans (b1.mono (by rw [World.size_alloc]; omega))
  clear b1
  go_wp2_with (refine wpList_load_arr (by rfl) 23 (.tmp 4) (by rfl) w.heap.size (by rfl) R1 Tryd.underlying23 Tryd.szL23 ?_)
  have CC := make_any x n c f D l w1 (HS.out.below B1.out (Nat.le_refl _)) (HK.out.below B1.out)
  refine CC.mono ?_
  clear CC
  rintro e w2 ⟨rfl, b2⟩
  have B2 : Hid (Below w.heap.size w w2) := below_next B1.out b2
  have S2 : Hid (SIs w2 x n f) := HS.out.below B2.out (Nat.le_refl _)
  have HS0 := HS
  clear R1 B1 b2 HS HK
  have t2 : (ByteArray.toList ⟨#[]⟩) = [] := by decide +kernel
  rcases mkC_cases f n l with ⟨m0, m1, m2, m3, m4, m5⟩ | ⟨m0, m1⟩ | ⟨m0, m1, m3⟩ | ⟨m0, m1, m3⟩
  · rw [iffy_yes m0, m0]
    have hlo : labOk l := by
      rcases lab_cases l with ⟨h, _⟩ | ⟨_, h⟩
      · exact h
      · rw [h] at m1; exact absurd m1 (by decide)
    obtain ⟨g1, g2, g3, g4, g5⟩ := mkS_good f n D l hlo
    have hz := hashP_size f n D l
    have ho := hsh_yes (hashP_ok f n D l)
    have hms : (mkS f n D l).size ≤ 140737488351232 := by have := prC_le g1; omega
    have M1 : Hid (lab l = 0) := m1
    have M3 : Hid (crf f n = 0) := m3
    clear m0 m1 m3 m4 m5 hlo
    generalize mkS f n D l = MK at *
    generalize hashP f n D l = HP at *
    have PA := parse_any MK w2
    rw [g1, g2, g3] at PA
    have BA := fun w => base_any MK w
    rw [g1] at BA
    have BA2 : ∀ w, Calls Tryd.prog 12 #[.string MK] w fun e w' => e = .returned (.tuple #[.string ((HP ++ ⟨#[45]⟩) ++ l), .int .i64 0]) ∧ Below w.heap.size w w' := fun w => by
      have := BA w; rw [iffy_yes rfl, g4] at this; exact this
    have hbs : ((HP ++ ⟨#[45]⟩) ++ l : ByteArray).size ≤ 140737488351232 := by
      have s1 : (ByteArray.mk #[45]).size = 1 := rfl
      rw [ByteArray.size_append, ByteArray.size_append, hz, s1]; omega
    have FA : ∀ w, Calls Tryd.prog 13 #[.string ((HP ++ ⟨#[45]⟩) ++ l)] w fun e w' => e = .returned (.tuple #[.string MK, .int .i64 0]) ∧ Below w.heap.size w w' := fun w => by
      have := full_any ((HP ++ ⟨#[45]⟩) ++ l) w hbs
      rw [g5, g1, iffy_yes rfl] at this
      exact this
    have q1 : (l.toList == l.toList) = true := by simp
    have q2 : (MK.toList == MK.toList) = true := by simp
    have q3 : (((HP ++ ⟨#[45]⟩) ++ l : ByteArray).toList == ((HP ++ ⟨#[45]⟩) ++ l : ByteArray).toList) = true := by simp
    have HO : Hid (hsh HP = 0) := ho
    clear g1 g2 g3 g4 g5 BA ho hbs
    go_wp2_with fail
    refine PA.mono ?_
    rintro e w3 ⟨rfl, b3⟩
    have B3 : Hid (Below w.heap.size w w3) := below_next B2.out b3
    clear b3 PA
    go_wp2_with fail
    refine (BA2 w3).mono ?_
    rintro e w4 ⟨rfl, b4⟩
    have B4 : Hid (Below w.heap.size w w4) := below_next B3.out b4
    clear b4 B3 BA2
    go_wp2_with fail
    refine (FA w4).mono ?_
    rintro e w5 ⟨rfl, b5⟩
    have B5 : Hid (Below w.heap.size w w5) := below_next B4.out b5
    clear b5 B4 FA
    go_wp2_with fail
    refine (ckH_any HP w5).mono ?_
    rintro e w6 ⟨rfl, rfl⟩
    rw [HO.out]
    go_wp2_with fail
    refine (ckL_any l _).mono ?_
    rintro e w7 ⟨rfl, b7⟩
    rw [M1.out]
    have B7 : Hid (Below w.heap.size w w7) := below_next B5.out b7
    have b27 : Hid (SIs w7 x n f) := HS0.out.below B7.out (Nat.le_refl _)
    clear b7 B5
    go_wp2_with fail
    have CC := ckR_any x n c f w7 b27.out
    refine CC.mono ?_
    clear CC
    rintro e w8 ⟨rfl, b8⟩
    rw [M3.out]
    have B8 : Hid (Below w.heap.size w w8) := below_next B7.out b8
    clear b8 B7
    go_wp2
    go_ret
    exact ⟨rfl, B8.out⟩
  · rw [iffy_no (by rw [m0]; decide), m0]
    have M1 : Hid (lab l = 130) := m1
    clear m0 m1
    go_wp2_with fail
    refine (ckL_any l _).mono ?_
    rintro e w3 ⟨rfl, b3⟩
    rw [M1.out]
    have B3 : Hid (Below w.heap.size w w3) := below_next B2.out b3
    clear b3
    go_wp2
    go_ret
    exact ⟨rfl, B3.out⟩
  all_goals
    rw [iffy_no (by rw [m0]; decide), m0]
    have M1 : Hid (lab l = 0) := m1
    have M3 : Hid (crf f n = _) := m3
    clear m0 m1 m3
    go_wp2_with fail
    refine (ckL_any l _).mono ?_
    rintro e w3 ⟨rfl, b3⟩
    rw [M1.out]
    have B3 : Hid (Below w.heap.size w w3) := below_next B2.out b3
    have S3 : Hid (SIs w3 x n f) := S2.out.below b3 (Nat.le_refl _)
    clear b3
    go_wp2_with fail
    refine (ckL_any l _).mono ?_
    rintro e w4 ⟨rfl, b4⟩
    rw [M1.out]
    have B4 : Hid (Below w.heap.size w w4) := below_next B3.out b4
    have S4 : Hid (SIs w4 x n f) := S3.out.below b4 (Nat.le_refl _)
    clear b4 B3 S3
    go_wp2_with fail
    have CC := ckR_any x n c f w4 S4.out
    refine CC.mono ?_
    clear CC
    rintro e w5 ⟨rfl, b5⟩
    rw [M3.out]
    have B5 : Hid (Below w.heap.size w w5) := below_next B4.out b5
    clear b5 B4
    go_wp2
    go_ret
    exact ⟨rfl, B5.out⟩

theorem back_walkF (x : Option Addr) (n c : Nat) (f : Nat → ByteArray) (D : Nat → Int) (l : ByteArray) (w : World) (_hn : n ≤ 140737488351232) (hS : SIs w x n f) (_ht : ∀ i, i < n → (f i).size ≤ 140737488351232) (_hy : n ≤ c) (_hD : ∀ j, 0 ≤ D j ∧ D j < 256) (_hl : l.size ≤ 140737488351232) (hK : KT w) :
    Calls Tryd.prog 4 #[.slice x n c, .agg (cs .u8 32 D), .string l] w fun e w' => e = .returned (.bool true) ∧ Below w.heap.size w w' := back_walk x n c f D l w hS hK

end Go.Proofs.YtnfcnfhchfmcpaaDoor
