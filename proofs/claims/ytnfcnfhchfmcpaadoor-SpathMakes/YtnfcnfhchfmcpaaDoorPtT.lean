/- The law SpathText, walked. -/
import Derived.Test.YtnfcnfhchfmcpaaDoorPtM
namespace Go.Proofs.YtnfcnfhchfmcpaaDoor
open Go.RowKit

theorem Tryd.szL23 : (Tryd.prog.info? 23).map (·.size) = some 32 := by kernel_rfl

theorem app_assoc (a b c : ByteArray) : (a ++ b) ++ c = a ++ (b ++ c) := by
  apply ByteArray.ext
  simp [ByteArray.data_append, Array.append_assoc]
theorem lit_mid : (⟨#[58]⟩ : ByteArray) ++ (⟨#[47, 100, 101, 112, 111, 116, 47, 115, 116, 111, 114, 101, 47]⟩ ++ ⟨#[58]⟩) = ⟨#[58, 47, 100, 101, 112, 111, 116, 47, 115, 116, 111, 114, 101, 47, 58]⟩ := by decide +kernel
theorem nm_eq (f : Nat → ByteArray) (n : Nat) (D : Nat → Int) (l : ByteArray) :
    (((tx f n ++ ⟨#[58, 115, 104, 97, 50, 53, 54, 58]⟩) ++ hexStr (strFn 32 D)) ++ ⟨#[58, 47, 100, 101, 112, 111, 116, 47, 115, 116, 111, 114, 101, 47, 58]⟩) ++ l = nmS f n D l := by
  unfold nmS tlS
  rw [← lit_mid]
  simp only [app_assoc]

theorem mkC_cases (f : Nat → ByteArray) (n : Nat) (l : ByteArray) : (mkC f n l = 0 ∧ lab l = 0 ∧ l.size ≤ 211 ∧ crf f n = 0 ∧ n ≤ 1024 ∧ ∀ i, i < n → prC (f i) = 0 ∧ (f i).size ≤ 257) ∨ mkC f n l = 130 ∧ lab l = 130 ∨ (mkC f n l = 133 ∧ lab l = 0 ∧ crf f n = 133) ∨ (mkC f n l = 171 ∧ lab l = 0 ∧ crf f n = 171) := by
  rcases lab_cases l with ⟨h1, h2⟩ | ⟨h1, h2⟩
  · rw [mkC_refs h2]
    rcases crf_cases f n with ⟨k1, k2, k3⟩ | k1 | k1
    · left; exact ⟨k1, h2, h1.2.1, k1, k2, k3⟩
    · right; right; left; exact ⟨k1, h2, k1⟩
    · right; right; right; exact ⟨k1, h2, k1⟩
  · right; left; exact ⟨mkC_lab h2, h2⟩

set_option maxRecDepth 100000 in
set_option maxHeartbeats 4000000 in
theorem text_walk (x : Option Addr) (n c : Nat) (f : Nat → ByteArray) (D : Nat → Int) (l : ByteArray) (w : World) (hS : SIs w x n f) (hK : KT w) :
    Calls Tryd.prog 5 #[.slice x n c, .agg (cs .u8 32 D), .string l] w fun e w' => e = .returned (.bool true) ∧ Below w.heap.size w w' := by
  have HK : Hid (KT w) := hK
  have HS : Hid (SIs w x n f) := hS
  have z0 : 0 < w.heap.size := hK.lt
  clear hK hS
  go_enter Tryd.func5, Tryd.ntmps5
  go_wp2_with fail
  refine (awake_any _).mono ?_
  rintro e w1 ⟨rfl, b1⟩
  have R1 : Row .u8 w1 w.heap.size 32 D := Row.below Row.box b1 (by rw [World.size_alloc]; omega)
  have B1 : Hid (Below w.heap.size w w1) := ((Below.refl _ _).alloc (Nat.le_refl _) _).trans (b1.mono (by rw [World.size_alloc]; omega))
  have z1 : Hid (w.heap.size < w1.heap.size) := by have := b1.size; rw [World.size_alloc] at this; unfold Hid; omega
  clear b1
  go_wp2_with (refine wpList_load_arr (by rfl) 23 (.tmp 4) (by rfl) w.heap.size (by rfl) R1 Tryd.underlying23 Tryd.szL23 ?_)
  have CC := make_any x n c f D l w1 (HS.out.below B1.out (Nat.le_refl _)) (HK.out.below B1.out)
  refine CC.mono ?_
  clear CC
  rintro e w2 ⟨rfl, b2⟩
  have R2 : Hid (Row .u8 w2 w.heap.size 32 D) := R1.below b2 z1.out
  have B2 : Hid (Below w.heap.size w w2) := below_next B1.out b2
  have z2 : Hid (w.heap.size < w2.heap.size) := Nat.lt_of_lt_of_le z1.out b2.size
  clear R1 B1 b2 z1
  have t2 : (ByteArray.toList ⟨#[]⟩) = [] := by decide +kernel
  rcases mkC_cases f n l with ⟨m0, m1, m2, m3, m4, m5⟩ | ⟨m0, _⟩ | ⟨m0, _⟩ | ⟨m0, _⟩
  · rw [iffy_yes m0, m0]
    have HF : Hid (∀ i, i < n → (f i).size ≤ 257) := fun i hi => (m5 i hi).2
    have HM : Hid (mkS f n D l = ((dirS ++ b32Str (foS (shS (nmS f n D l)))) ++ ⟨#[45]⟩) ++ l) := by unfold Hid mkS hashP; rfl
    generalize mkS f n D l = MK at HM
    clear m0 m1 m3 m5
    have K2 : Hid (KT w2) := HK.out.below B2.out
    have S2 : Hid (SIs w2 x n f) := HS.out.below B2.out (Nat.le_refl _)
    clear HK HS
    go_wp2
    go_loop [9, 30] (fun t i => ∃ k : Nat, k ≤ n ∧ i = .int .i64 k ∧ t = .string (tx f k)) (fun _ i => n - (intOf i).toNat)
    case atStart => exact ⟨0, Nat.zero_le _, rfl, rfl⟩
    case round =>
      obtain ⟨k, hk, rfl, rfl⟩ := hrel
      by_cases hlt : k < n
      · have hfk := HF.out k hlt
        have hts := tx_size f k (fun i hi => HF.out i (by omega))
        obtain ⟨a, rfl, c0⟩ := S2.out k hlt
        go_wp2
        go_round
        case rel => exact ⟨k + 1, by omega, by go_num, by rw [tx_succ]⟩
        case measure => simp [intOf]; omega
      · obtain rfl : k = n := by omega
        have hts := tx_size f k (fun i hi => HF.out i (by omega))
        have c1 := run_string_row (P := Tryd.prog) (src := 39) (dst := 9) (c := 32) Tryd.underlying39 Tryd.underlying5 Tryd.underlying9 R2.out
        have hxs : (hexStr (strFn 32 D)).size = 64 := by rw [hex_size, strFn_size]
        have hnm := nm_eq f k D l
        have HZ : Hid ((nmS f k D l).size ≤ 1152921504606846976) := by
          have e : (nmS f k D l).size = (tx f k).size + (87 + l.size) := by unfold nmS; rw [ByteArray.size_append, tlS_size]
          unfold Hid; omega
        clear HF S2
        go_wp2_with fail
        refine (hex_any (strFn 32 D) _ (by rw [strFn_size]; decide)).mono ?_
        rintro e w3 ⟨rfl, b3⟩
        have B3 : Hid (Below w.heap.size w w3) := below_next B2.out b3
        have K3 : Hid (KT w3) := K2.out.below b3
        clear b3 B2 K2 R2 z2 c1
        go_wp2_with fail
        have CC := of_wrote (nmS f k D l) w3 HZ.out K3.out
        refine CC.mono ?_
        clear CC
        rintro e w4 ⟨rfl, b4⟩
        rw [dgs_is]
        have B4 : Hid (Below w.heap.size w w4) := below_next B3.out b4
        clear B3 K3 b4 hnm HZ hxs hts
        generalize nmS f k D l = TX at HM
        go_wp2_with (refine wpList_store_any (by rfl) 28 (.tmp 12) (.tmp 48) (by rfl) w4.heap.size (by rfl) (by rfl) (Row.rep (n := 32) (z := 0) rfl) Tryd.sz28 (by rfl) ?_; intro W6 R6 U6; have B6 : Hid (Below w.heap.size w W6) := U6.below (B4.out.alloc B4.out.size _) B4.out.size (by rw [World.size_alloc]; have := B4.out.size; omega); have c6 := run_string_row (P := Tryd.prog) (src := 39) (dst := 9) (c := 32) Tryd.underlying39 Tryd.underlying5 Tryd.underlying9 R6; clear U6 R6 B4; have hs6 : Hid ((strFn 32 (dgF TX)).size ≤ 140737488351232) := (by rw [strFn_size]; decide : (strFn 32 (dgF TX)).size ≤ 140737488351232); have hs7 : Hid (strFn 32 (dgF TX) = shS TX) := rfl; generalize strFn 32 (dgF TX) = ST at c6 hs6 hs7)
        refine (fold_any ST 20 W6 hs6.out (by decide) (by decide)).mono ?_
        rintro e w7 ⟨rfl, b7⟩
        have B7 : Hid (Below w.heap.size w w7) := below_next B6.out b7
        clear B6 b7 c6
        have hf7 : Hid (strFn 20 (foldFn ST 20 ST.size) = foS (shS TX)) := by unfold Hid foS; rw [hs7.out]
        have hf8 : Hid ((strFn 20 (foldFn ST 20 ST.size)).size = 20) := (by rw [strFn_size] : (strFn 20 (foldFn ST 20 ST.size)).size = 20)
        generalize strFn 20 (foldFn ST 20 ST.size) = FO at hf7 hf8 ⊢
        go_wp2_with fail
        refine (b32_any FO w7 (by rw [hf8.out]; decide)).mono ?_
        rintro e w8 ⟨rfl, b8⟩
        have B8 : Hid (Below w.heap.size w w8) := below_next B7.out b8
        clear b8 B7
        have hbs : (b32Str FO).size = 32 := by unfold b32Str; rw [strFn_size, hf8.out]; rfl
        have HM2 : (MK.toList == (((⟨#[47, 100, 101, 112, 111, 116, 47, 115, 116, 111, 114, 101, 47]⟩ ++ b32Str FO) ++ ⟨#[45]⟩) ++ l : ByteArray).toList) = true := by
          rw [HM.out, ← hf7.out]; show ((((dirS ++ b32Str FO) ++ ⟨#[45]⟩) ++ l : ByteArray).toList == _) = true; simp [dirS]
        clear HM
        go_wp2
        go_ret
        exact ⟨rfl, B8.out⟩
  · rw [iffy_no (by rw [m0]; decide), m0]
    clear m0
    go_wp2
    go_ret
    exact ⟨rfl, B2.out⟩
  · rw [iffy_no (by rw [m0]; decide), m0]
    clear m0
    go_wp2
    go_ret
    exact ⟨rfl, B2.out⟩
  · rw [iffy_no (by rw [m0]; decide), m0]
    clear m0
    go_wp2
    go_ret
    exact ⟨rfl, B2.out⟩

theorem text_walkF (x : Option Addr) (n c : Nat) (f : Nat → ByteArray) (D : Nat → Int) (l : ByteArray) (w : World) (_hn : n ≤ 140737488351232) (hS : SIs w x n f) (_ht : ∀ i, i < n → (f i).size ≤ 140737488351232) (_hy : n ≤ c) (_hD : ∀ j, 0 ≤ D j ∧ D j < 256) (_hl : l.size ≤ 140737488351232) (hK : KT w) :
    Calls Tryd.prog 5 #[.slice x n c, .agg (cs .u8 32 D), .string l] w fun e w' => e = .returned (.bool true) ∧ Below w.heap.size w w' := text_walk x n c f D l w hS hK

end Go.Proofs.YtnfcnfhchfmcpaaDoor
