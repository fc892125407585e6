/- The document's Make and the law SpathMakes, walked. -/
import Derived.Test.YtnfcnfhchfmcpaaDoorPtT
import Derived.Test.YtnfcnfhchfmcpaaDoorPtS
import Derived.Test.YtnfcnfhchfmcpaaDoorOfB
import Derived.Test.YtnfcnfhchfmcpaaDoorHxR
import Derived.Test.YtnfcnfhchfmcpaaDoorLtD
namespace Go.Proofs.YtnfcnfhchfmcpaaDoor
open Go.RowKit

theorem nm_eq2 (f : Nat → ByteArray) (n : Nat) (D : Nat → Int) (l : ByteArray) :
    (((((tx f n ++ ⟨#[58, 115, 104, 97, 50, 53, 54, 58]⟩) ++ hexStr (strFn 32 D)) ++ ⟨#[58]⟩) ++ ⟨#[47, 100, 101, 112, 111, 116, 47, 115, 116, 111, 114, 101, 47]⟩) ++ ⟨#[58]⟩) ++ l = nmS f n D l := by
  unfold nmS tlS
  simp only [app_assoc]

set_option maxRecDepth 100000 in
set_option maxHeartbeats 4000000 in
theorem named_any (x : Option Addr) (n c : Nat) (f : Nat → ByteArray) (D : Nat → Int) (l : ByteArray) (w : World) (hS : SIs w x n f) (hn : n ≤ 1024) (hf : ∀ i, i < n → (f i).size ≤ 257) (hl : l.size ≤ 211) :
    Calls Tryd.prog 23 #[.slice x n c, .agg (cs .u8 32 D), .string l] w fun e w' => e = .returned (.string (nmS f n D l)) ∧ Below w.heap.size w w' := by
  have HS : Hid (SIs w x n f) := hS
  have HF : Hid (∀ i, i < n → (f i).size ≤ 257) := hf
  clear hS hf
  go_enter Tryd.func23, Tryd.ntmps23
  go_wp2
  have R1 : Hid (Row .u8 (w.alloc (.cells (cs .u8 32 D) 23)) w.heap.size 32 D) := Row.box
  have B1 : Hid (Below w.heap.size w (w.alloc (.cells (cs .u8 32 D) 23))) := (Below.refl _ _).alloc (Nat.le_refl _) _
  generalize w.alloc (.cells (cs .u8 32 D) 23) = w1 at R1 B1 ⊢
  have S1 : Hid (SIs w1 x n f) := HS.out.below B1.out (Nat.le_refl _)
  clear HS
  go_loop [7, 8] (fun t i => ∃ k : Nat, k ≤ n ∧ i = .int .i64 k ∧ t = .string (tx f k)) (fun _ i => n - (intOf i).toNat)
  case atStart => exact ⟨0, Nat.zero_le _, rfl, rfl⟩
  case round =>
    obtain ⟨k, hk, rfl, rfl⟩ := hrel
    by_cases hlt : k < n
    · have hfk := HF.out k hlt
      have hts := tx_size f k (fun i hi => HF.out i (by omega))
      obtain ⟨a, rfl, c0⟩ := S1.out k hlt
      go_wp2
      go_round
      case rel => exact ⟨k + 1, by omega, by go_num, by rw [tx_succ]⟩
      case measure => simp [intOf]; omega
    · obtain rfl : k = n := by omega
      have hts := tx_size f k (fun i hi => HF.out i (by omega))
      have c1 := run_string_row (P := Tryd.prog) (src := 39) (dst := 9) (c := 32) Tryd.underlying39 Tryd.underlying5 Tryd.underlying9 R1.out
      have hxs : (hexStr (strFn 32 D)).size = 64 := by rw [hex_size, strFn_size]
      have hnm := nm_eq2 f k D l
      clear HF S1
      go_wp2_with fail
      refine (rhex_any (strFn 32 D) _ (by rw [strFn_size]; decide)).mono ?_
      rintro e w3 ⟨rfl, b3⟩
      have B3 : Hid (Below w.heap.size w w3) := below_next B1.out b3
      clear b3 B1 R1 c1
      go_wp2
      go_ret
      exact ⟨by first | rfl | (rw [← hnm]; rfl), B3.out⟩

set_option maxRecDepth 100000 in
set_option maxHeartbeats 4000000 in
theorem rmake_any (x : Option Addr) (n c : Nat) (f : Nat → ByteArray) (D : Nat → Int) (l : ByteArray) (w : World) (hS : SIs w x n f) :
    Calls Tryd.prog 8 #[.slice x n c, .agg (cs .u8 32 D), .string l] w fun e w' => e = .returned (.tuple #[.string (iffy (mkC f n l) (mkS f n D l)), .int .i64 (mkC f n l)]) ∧ Below w.heap.size w w' := by
  have B1 : Hid (Below w.heap.size w (w.alloc (.cells (cs .u8 32 D) 23))) := (Below.refl _ _).alloc (Nat.le_refl _) _
  have S1 : Hid (SIs (w.alloc (.cells (cs .u8 32 D) 23)) x n f) := hS.below B1.out (Nat.le_refl _)
  clear hS
  rcases mkC_cases f n l with ⟨m0, m1, m2, m3, m4, m5⟩ | ⟨m0, m1⟩ | ⟨m0, m1, m3⟩ | ⟨m0, m1, m3⟩
  · rw [iffy_yes m0, m0]
    have M1 : Hid (lab l = 0) := m1
    have M3 : Hid (crf f n = 0) := m3
    have HF : Hid (∀ i, i < n → (f i).size ≤ 257) := fun i hi => (m5 i hi).2
    have HM : Hid (mkS f n D l = ((dirS ++ b32Str (foS (shS (nmS f n D l)))) ++ ⟨#[45]⟩) ++ l) := by unfold Hid mkS hashP; rfl
    generalize mkS f n D l = MK at HM
    have HZ : Hid ((nmS f n D l).size ≤ 140737488351232) := by
      have hts := tx_size f n (fun i hi => (m5 i hi).2)
      have e : (nmS f n D l).size = (tx f n).size + (87 + l.size) := by unfold nmS; rw [ByteArray.size_append, tlS_size]
      unfold Hid; omega
    clear m0 m1 m3 m5
    go_enter Tryd.func8, Tryd.ntmps8
    go_wp2_with fail
    have R1 : Hid (Row .u8 (w.alloc (.cells (cs .u8 32 D) 23)) w.heap.size 32 D) := Row.box
    generalize w.alloc (.cells (cs .u8 32 D) 23) = w1 at R1 B1 S1 ⊢
    refine (rckL_any l _).mono ?_
    rintro e w2 ⟨rfl, rfl⟩
    rw [M1.out]
    go_wp2_with fail
    have CC := rckR_any x n c f w2 S1.out
    refine CC.mono ?_
    clear CC
    rintro e w3 ⟨rfl, rfl⟩
    rw [M3.out]
    have R1' := R1.out
    go_wp2_with (refine wpList_load_arr (by rfl) 23 (.tmp 4) (by rfl) w.heap.size (by rfl) R1' Tryd.underlying23 Tryd.szL23 ?_)
    have CC := named_any x n c f D l w3 S1.out m4 HF.out m2
    refine CC.mono ?_
    clear CC
    rintro e w4 ⟨rfl, b4⟩
    have B4 : Hid (Below w.heap.size w w4) := below_next B1.out b4
    clear b4 B1 S1 R1 R1'
    go_wp2_with fail
    have CC := rof_any (nmS f n D l) w4 HZ.out
    refine CC.mono ?_
    clear CC
    rintro e w5 ⟨rfl, b5⟩
    have B5 : Hid (Below w.heap.size w w5) := below_next B4.out b5
    clear b5 B4
    rw [show cs .u8 32 (dg (hw (bt (msg (nmS f n D l))) (nb (nmS f n D l)))) = cs .u8 32 (dgF (nmS f n D l)) from rfl]
    generalize nmS f n D l = TX at HM
    go_wp2_with (refine wpList_store_any (by rfl) 23 (.tmp 9) (.tmp 25) (by rfl) w5.heap.size (by rfl) (by rfl) (Row.rep (n := 32) (z := 0) rfl) Tryd.szL23 (by rfl) ?_; intro W6 R6 U6; have B6 : Hid (Below w.heap.size w W6) := U6.below (B5.out.alloc B5.out.size _) B5.out.size (by rw [World.size_alloc]; have := B5.out.size; omega); have c6 := run_string_row (P := Tryd.prog) (src := 39) (dst := 9) (c := 32) Tryd.underlying39 Tryd.underlying5 Tryd.underlying9 R6; clear U6 R6 B5; have hs6 : Hid ((strFn 32 (dgF TX)).size ≤ 140737488351232) := (by rw [strFn_size]; decide : (strFn 32 (dgF TX)).size ≤ 140737488351232); have hs7 : Hid (strFn 32 (dgF TX) = shS TX) := rfl; generalize strFn 32 (dgF TX) = ST at c6 hs6 hs7)
    refine (rfold_any ST 20 W6 hs6.out (by decide) (by decide)).mono ?_
    rintro e w7 ⟨rfl, b7⟩
    have B7 : Hid (Below w.heap.size w w7) := below_next B6.out b7
    clear B6 b7 c6
    have hf7 : Hid (strFn 20 (foldFn ST 20 ST.size) = foS (shS TX)) := by unfold Hid foS; rw [hs7.out]
    have hf8 : Hid ((strFn 20 (foldFn ST 20 ST.size)).size = 20) := (by rw [strFn_size] : (strFn 20 (foldFn ST 20 ST.size)).size = 20)
    generalize strFn 20 (foldFn ST 20 ST.size) = FO at hf7 hf8 ⊢
    go_wp2_with fail
    refine (rb32_any FO w7 (by rw [hf8.out]; decide)).mono ?_
    rintro e w8 ⟨rfl, b8⟩
    have B8 : Hid (Below w.heap.size w w8) := below_next B7.out b8
    clear b8 B7
    have hbs : (b32Str FO).size = 32 := by unfold b32Str; rw [strFn_size, hf8.out]; rfl
    go_wp2
    go_ret2
    exact ⟨by rw [HM.out, ← hf7.out]; rfl, B8.out⟩
  · rw [iffy_no (by rw [m0]; decide), m0]
    have M1 : Hid (lab l = 130) := m1
    clear m0 m1
    go_enter Tryd.func8, Tryd.ntmps8
    go_wp2_with fail
    generalize w.alloc (.cells (cs .u8 32 D) 23) = w1 at B1 S1 ⊢
    refine (rckL_any l _).mono ?_
    rintro e w2 ⟨rfl, rfl⟩
    rw [M1.out]
    go_wp2
    go_ret2
    exact ⟨rfl, B1.out⟩
  all_goals
    rw [iffy_no (by rw [m0]; decide), m0]
    have M1 : Hid (lab l = 0) := m1
    have M3 : Hid (crf f n = _) := m3
    clear m0 m1 m3
    go_enter Tryd.func8, Tryd.ntmps8
    go_wp2_with fail
    generalize w.alloc (.cells (cs .u8 32 D) 23) = w1 at B1 S1 ⊢
    refine (rckL_any l _).mono ?_
    rintro e w2 ⟨rfl, rfl⟩
    rw [M1.out]
    go_wp2_with fail
    have CC := rckR_any x n c f w2 S1.out
    refine CC.mono ?_
    clear CC
    rintro e w3 ⟨rfl, rfl⟩
    rw [M3.out]
    go_wp2
    go_ret2
    exact ⟨rfl, B1.out⟩

set_option maxRecDepth 100000 in
set_option maxHeartbeats 4000000 in
theorem makes_walk (x : Option Addr) (n c : Nat) (f : Nat → ByteArray) (D : Nat → Int) (l : ByteArray) (w : World) (hS : SIs w x n f) (hK : KT w) :
    Calls Tryd.prog 3 #[.slice x n c, .agg (cs .u8 32 D), .string l] w fun e w' => e = .returned (.bool true) ∧ Below w.heap.size w w' := by
  have HK : Hid (KT w) := hK
  have HS : Hid (SIs w x n f) := hS
  have z0 : 0 < w.heap.size := hK.lt
  clear hK hS
  go_enter Tryd.func3, Tryd.ntmps3
  go_wp2_with fail
  refine (awake_any _).mono ?_
  rintro e w1 ⟨rfl, b1⟩
  have R1 : Row .u8 w1 w.heap.size 32 D := Row.below Row.box b1 (by rw [World.size_alloc]; omega)
  have B1 : Hid (Below w.heap.size w w1) := ((Below.refl _ _).alloc (Nat.le_refl _) _).trans (b1.mono (by rw [World.size_alloc]; omega))
  have z1 : Hid (w.heap.size < w1.heap.size) := by have := b1.size; rw [World.size_alloc] at this; unfold Hid; omega
  clear b1
  go_wp2_with (refine wpList_load_arr (by rfl) 23 (.tmp 4) (by rfl) w.heap.size (by rfl) R1 Tryd.underlying23 Tryd.szL23 ?_)
  have CC := make_any x n c f D l w1 (HS.out.below B1.out (Nat.le_refl _)) (HK.out.below B1.out)
  refine CC.mono ?_
  clear CC
  rintro e w2 ⟨rfl, b2⟩
  have R2 : Row .u8 w2 w.heap.size 32 D := R1.below b2 z1.out
  have B2 : Hid (Below w.heap.size w w2) := below_next B1.out b2
  clear R1 B1 b2 z1
  go_wp2_with (refine wpList_load_arr (by rfl) 23 (.tmp 4) (by rfl) w.heap.size (by rfl) R2 Tryd.underlying23 Tryd.szL23 ?_)
  have CC := rmake_any x n c f D l w2 (HS.out.below B2.out (Nat.le_refl _))
  refine CC.mono ?_
  clear CC
  rintro e w3 ⟨rfl, b3⟩
  have B3 : Hid (Below w.heap.size w w3) := below_next B2.out b3
  clear R2 B2 b3
  generalize iffy (mkC f n l) (mkS f n D l) = MK
  generalize mkC f n l = MC
  have q1 : (MK.toList == MK.toList) = true := by simp
  have q2 : (MC == MC) = true := by simp
  go_wp2
  go_ret
  exact ⟨rfl, B3.out⟩

theorem makes_walkF (x : Option Addr) (n c : Nat) (f : Nat → ByteArray) (D : Nat → Int) (l : ByteArray) (w : World) (_hn : n ≤ 140737488351232) (hS : SIs w x n f) (_ht : ∀ i, i < n → (f i).size ≤ 140737488351232) (_hy : n ≤ c) (_hD : ∀ j, 0 ≤ D j ∧ D j < 256) (_hl : l.size ≤ 140737488351232) (hK : KT w) :
    Calls Tryd.prog 3 #[.slice x n c, .agg (cs .u8 32 D), .string l] w fun e w' => e = .returned (.bool true) ∧ Below w.heap.size w w' := makes_walk x n c f D l w hS hK

end Go.Proofs.YtnfcnfhchfmcpaaDoor
