/- The law GaugeMeans, walked. -/
import Derived.Test.YtjlbbnjcdickgacDoorMEb
namespace Go.Proofs.YtjlbbnjcdickgacDoor
open Go.RowKit

/-- A slice of numbers that came in. -/
structure IRow (kd : IntKind) (lo hi : Int) (w : World) (x : Option Addr) (n c : Nat) (f : Nat → Int) : Prop where
  len : n ≤ c
  cell : ∀ k, k < n → ∃ a : Addr, x = some a ∧ a.block < w.heap.size ∧ w.cell? (a.add k) = some (.int kd (f k))
  bd : ∀ k, k < n → lo ≤ f k ∧ f k ≤ hi
theorem spotN {w : World} {a : Addr} {v : Value} (h : w.cell? a = some v) : a.spot = none := by
  unfold World.cell? at h
  split at h
  · split at h
    · cases h
    · rename_i hs; simpa using hs
  · cases h
theorem IRow.at {kd : IntKind} {lo hi : Int} {w : World} {x : Option Addr} {n c : Nat} {f : Nat → Int} (h : IRow kd lo hi w x n c f) (k : Nat) (hk : k < n) : ∃ g o, x = some ⟨g, o, none⟩ ∧ g < w.heap.size ∧ w.cell? ⟨g, o + k, none⟩ = some (.int kd (f k)) := by
  obtain ⟨a, h1, h2, h3⟩ := h.cell k hk
  have hs : a.spot = none := by
    obtain ⟨a0, e1, _, e3⟩ := h.cell 0 (by omega)
    have e : a0 = a := by rw [h1] at e1; cases e1; rfl
    have e4 : a0.add 0 = a0 := by simp [Addr.add]
    rw [e4, e] at e3
    exact spotN e3
  obtain ⟨g, o, s⟩ := a
  simp only at hs
  subst hs
  rw [Addr.add_lit] at h3
  exact ⟨g, o, h1, h2, h3⟩
theorem rparts_ok (x : Int) (w : World) (h0 : 0 ≤ x) (h1 : x ≤ 18446744073709551615) (he : exF x ≠ 2047) :
    Calls Tryd.prog 9 #[.int .u64 x] w fun r w' => ∃ a b, r = .returned (.tuple #[.int .i64 a, .int .i64 b, .int .i64 0]) ∧ w' = w := by
  by_cases hm : mgF x = 0
  · have he0 : exF x = 0 ∧ frF x = 0 := by
      have := frF_bd x
      unfold mgF at hm
      split at hm
      · rename_i h; exact ⟨h, hm⟩
      · omega
    refine (rparts_zero x w h0 h1 he0.1 he0.2).mono ?_
    rintro r w' ⟨rfl, rfl⟩
    exact ⟨0, 0, rfl, rfl⟩
  · refine (rparts_num x w h0 h1 he hm).mono ?_
    rintro r w' ⟨⟨o, t, _, _, _, _, rfl⟩, rfl⟩
    exact ⟨_, _, rfl, rfl⟩
theorem rparts_no (x : Int) (w : World) (h0 : 0 ≤ x) (h1 : x ≤ 18446744073709551615) (he : exF x = 2047) :
    Calls Tryd.prog 9 #[.int .u64 x] w fun r w' => ∃ c : Int, c ≠ 0 ∧ r = .returned (.tuple #[.int .i64 0, .int .i64 0, .int .i64 c]) ∧ w' = w := by
  refine (rparts_odd x w h0 h1 he).mono ?_
  rintro r w' ⟨rfl, rfl⟩
  exact ⟨_, by split <;> (try split) <;> decide, rfl, rfl⟩
theorem blend_15 (r : Nat) (h : Bl 4607182418800017408 4617315517961601024 r) : r = 4611686018427387904 := by
  obtain ⟨d, q, a1, a2, a3⟩ := h
  have e1 : Ieee.double.sub 4617315517961601024 4607182418800017408 = some 4616189618054758400 := by decide +kernel
  obtain rfl := a1.1 _ e1
  have e2 : Ieee.double.div 4616189618054758400 b4 = some 4607182418800017408 := by decide +kernel
  obtain rfl := a2.1 _ e2
  have e3 : Ieee.double.add 4607182418800017408 4607182418800017408 = some 4611686018427387904 := by decide +kernel
  exact a3.1 _ e3
theorem bel_drewN {B : Nat} {a w : World} (h : Below B a w) (q : Nat) : Below B a (w.drewN q) := h.trans ⟨rfl, rfl, rfl, Nat.le_refl _, fun _ _ => rfl⟩
theorem MN.drewN {w : World} {g V n : Nat} (h : MN w g V n) (q : Nat) : MN (w.drewN q) g V n := h.same rfl
theorem DT.drewN {w : World} (h : DT w) (q : Nat) : DT (w.drewN q) := h
theorem MU.below {w w' : World} {g B : Nat} (h : MU w w' g) (hB : B ≤ g) : Below B w w' := ⟨h.os, h.tape, h.output, by rw [h.size]; exact Nat.le_refl _, fun k hk => h.block k (by omega)⟩

set_option maxHeartbeats 8000000 in
theorem means_walk (x : Option Addr) (n c : Nat) (f : Nat → Int) (w : World) (hX : IRow .u64 0 18446744073709551615 w x n c f) (hn : c ≤ maxLen) (h : DT w) :
    Calls Tryd.prog 3 #[.slice x n c] w fun e w' => e = .returned (.bool true) ∧ Below w.heap.size w w' := by
  have HX : Hid (IRow .u64 0 18446744073709551615 w x n c f) := hX
  have hnb : n ≤ 9223372036854775807 := by have := hX.len; unfold maxLen at hn; omega
  have AW := awake_any w h
  have o2 : (FloatKind.f64.format.order 4611686018427387904 4611686018427387904 != some .eq) = false := by decide +kernel
  have o0 : (FloatKind.f64.format.order 0 0 != some .eq) = false := by decide +kernel
  clear hX hn h
  go_enter Tryd.func3, Tryd.ntmps3
  go_wp2_with fail
  refine AW.mono ?_
  rintro e w1 ⟨rfl, rfl⟩
  clear AW
  go_wp2_with fail
  refine (blend_any _ _ _).mono ?_
  rintro e w2 ⟨r, q, rfl, rfl, HB⟩
  obtain rfl := blend_15 r HB
  clear HB
  have hz1 : ((w1.drewN q).alloc (.cells #[.float .f64 0, .int .i64 0] 27)).heap.size = w1.heap.size + 1 := World.size_alloc _ _
  have HM0 : Hid (MN (((w1.drewN q).alloc (.cells #[.float .f64 0, .int .i64 0] 27)).alloc (.cells #[.float .f64 0, .int .i64 0] 27)) w1.heap.size 0 0) :=
    MN.same (w := (w1.drewN q).alloc (.cells #[.float .f64 0, .int .i64 0] 27)) ⟨(World.cell?_alloc_new (w1.drewN q) _ _ 0).trans rfl, (World.cell?_alloc_new (w1.drewN q) _ _ 1).trans rfl, World.frozen?_alloc_new (w1.drewN q) _ _ 0, World.frozen?_alloc_new (w1.drewN q) _ _ 1⟩ (Below.heap_alloc _ _ _ (by rw [hz1]; omega))
  have HO0 : Hid (MN (((w1.drewN q).alloc (.cells #[.float .f64 0, .int .i64 0] 27)).alloc (.cells #[.float .f64 0, .int .i64 0] 27)) (w1.heap.size + 1) 0 0) := by
    have h : MN (((w1.drewN q).alloc (.cells #[.float .f64 0, .int .i64 0] 27)).alloc (.cells #[.float .f64 0, .int .i64 0] 27)) ((w1.drewN q).alloc (.cells #[.float .f64 0, .int .i64 0] 27)).heap.size 0 0 :=
      ⟨(World.cell?_alloc_new _ _ _ 0).trans rfl, (World.cell?_alloc_new _ _ _ 1).trans rfl, World.frozen?_alloc_new _ _ _ 0, World.frozen?_alloc_new _ _ _ 1⟩
    rw [hz1] at h
    exact h
  have HB0 : Hid (Below w1.heap.size w1 (((w1.drewN q).alloc (.cells #[.float .f64 0, .int .i64 0] 27)).alloc (.cells #[.float .f64 0, .int .i64 0] 27))) := (((bel_drewN (Below.refl w1.heap.size w1) q).alloc (show w1.heap.size ≤ (w1.drewN q).heap.size from Nat.le_refl _) _).alloc (by rw [hz1]; exact Nat.le_succ _) _)
  clear hz1
  go_wp2
  obtain ⟨G, hG⟩ : ∃ G, w1.heap.size = G := ⟨_, rfl⟩
  rw [hG] at HM0 HO0 ⊢
  have hGG : Hid (w1.heap.size = G) := hG
  clear hG
  go_loopw [5, 6, 22] (fun v5 v6 ix wr => ∃ (k W V C : Nat), k ≤ n ∧ C ≤ k ∧ ix = .int .i64 k ∧ v5 = .float .f64 W ∧ v6 = .int .i64 (C : Int) ∧ Hid (MN wr G V C) ∧ Hid (MN wr (G + 1) 0 0) ∧ Hid (Lk V W) ∧ Hid (Below w1.heap.size w1 wr)) (fun _ _ i _ => n - (intOf i).toNat)
  case atStart => exact ⟨0, 0, 0, 0, Nat.zero_le _, Nat.le_refl _, rfl, rfl, rfl, HM0, HO0, .inl rfl, HB0⟩
  case round =>
    clear HM0 HO0 HB0
    obtain ⟨k, W, V, C, hk, hC, rfl, rfl, rfl, HM, HO, HL, HB⟩ := hrel
    by_cases hlt : k < n
    · obtain ⟨g, o, rfl, hg, c0⟩ := HX.out.at k hlt
      have hbd := HX.out.bd k hlt
      have d0 : wr.cell? ⟨g, o + k, none⟩ = _ := (HB.out.cell (p := ⟨g, o + k, none⟩) hg).trans c0
      obtain ⟨X, hX⟩ : ∃ X : Nat, f k = (X : Int) := ⟨(f k).toNat, by omega⟩
      rw [hX] at d0 hbd
      clear c0 hX
      have fr := from_run (X : Int)
      rw [Int.toNat_natCast] at fr
      by_cases he : exF (X : Int) = 2047
      · have RP := fun w => rparts_no (X : Int) w hbd.1 hbd.2 he
        have MA := fun w M => madd_odd (X : Int) G V C w hbd.1 hbd.2 he M
        simp only [Int.toNat_natCast] at MA
        go_wp2_with fail
        refine (RP _).mono ?_
        rintro e wX ⟨cl, hcl, rfl, rfl⟩
        have hcb : (cl == 0) = false := by simpa using hcl
        go_wp2_with fail
        refine (MA _ HM.out).mono ?_
        rintro e wX ⟨rfl, rfl⟩
        clear RP MA
        have HMT := HM
        have HOT := HO
        have HLT := HL
        have HBT := HB
        go_wp2_with fail
        refine (mcount_any G V C _ HMT.out).mono ?_
        rintro e wX ⟨rfl, rfl⟩
        go_wp2_with fail
        refine (mvalue_any G V C _ HMT.out).mono ?_
        rintro e wX ⟨rfl, rfl⟩
        have hbr := bits_run W
        go_wp2_with fail
        refine (same_lk V W HLT.out _).mono ?_
        rintro e wX ⟨rfl, rfl⟩
        go_wp2_with fail
        refine (mcount_any (G + 1) 0 0 _ HOT.out).mono ?_
        rintro e wX ⟨rfl, rfl⟩
        go_wp2_with fail
        refine (mvalue_any (G + 1) 0 0 _ HOT.out).mono ?_
        rintro e wX ⟨rfl, rfl⟩
        go_wp2
        go_roundw
        case rel => exact ⟨k + 1, W, V, C, by omega, by omega, by go_num, rfl, by first | rfl | go_num, HMT, HOT, HLT, HBT⟩
        case measure => simp [intOf]; omega
      · have RP := fun w => rparts_ok (X : Int) w hbd.1 hbd.2 he
        have MA := fun w M => madd_num (X : Int) G V C w hbd.1 hbd.2 he M (by omega)
        simp only [Int.toNat_natCast] at MA
        go_wp2_with fail
        refine (RP _).mono ?_
        rintro e wX ⟨a1, a2, rfl, rfl⟩
        go_wp2_with fail
        refine (MA _ HM.out).mono ?_
        rintro e wT ⟨rfl, r1, M1, U1, hr0, hr1⟩
        have HMT : Hid (MN wT G r1 (C + 1)) := M1
        have HOT : Hid (MN wT (G + 1) 0 0) := HO.out.same (U1.block _ (by omega))
        have HBT : Hid (Below w1.heap.size w1 wT) := HB.out.trans (U1.below (by have := hGG.out; omega))
        have HR0 : Hid _ := hr0
        have HR1 : Hid _ := hr1
        clear RP MA M1 U1 hr0 hr1 HM HO HB
        by_cases hC0 : C = 0
        · have HLT : Hid (Lk r1 X) := .inl (HR0.out hC0)
          have hcb : ((C : Int) == 0) = true := by simp; omega
          have hC0' : Hid (C = 0) := hC0
          clear HR0 HR1 hC0
          go_wp2_with fail
          refine (mcount_any G r1 (C + 1) _ HMT.out).mono ?_
          rintro e wX ⟨rfl, rfl⟩
          go_wp2_with fail
          refine (mvalue_any G r1 (C + 1) _ HMT.out).mono ?_
          rintro e wX ⟨rfl, rfl⟩
          have hbr := bits_run X
          go_wp2_with fail
          refine (same_lk r1 X HLT.out _).mono ?_
          rintro e wX ⟨rfl, rfl⟩
          go_wp2_with fail
          refine (mcount_any (G + 1) 0 0 _ HOT.out).mono ?_
          rintro e wX ⟨rfl, rfl⟩
          go_wp2_with fail
          refine (mvalue_any (G + 1) 0 0 _ HOT.out).mono ?_
          rintro e wX ⟨rfl, rfl⟩
          go_wp2
          go_roundw
          case rel => exact ⟨k + 1, X, r1, (C + 1), by omega, by omega, by go_num, rfl, by first | rfl | go_num, HMT, HOT, HLT, HBT⟩
          case measure => simp [intOf]; omega
        · have HBl : Hid (Bl V X r1) := HR1.out hC0
          have hcb : ((C : Int) == 0) = false := by simp; omega
          have hcc : (C : Int) ≠ 0 := by omega
          clear HR0 HR1
          go_wp2_with fail
          refine (blend_any W X _).mono ?_
          rintro e w3 ⟨r2, q2, rfl, hw3, B2⟩
          have HMT3 : Hid (MN w3 G r1 (C + 1)) := hw3 ▸ HMT.out.drewN q2
          have HOT3 : Hid (MN w3 (G + 1) 0 0) := hw3 ▸ HOT.out.drewN q2
          have HBT3 : Hid (Below w1.heap.size w1 w3) := hw3 ▸ bel_drewN HBT.out q2
          clear hw3 HMT HOT HBT
          go_wp2_with fail
          refine (rblend_any W X _).mono ?_
          rintro e w4 ⟨r3, q3, rfl, hw4, B3⟩
          have HMT4 : Hid (MN w4 G r1 (C + 1)) := hw4 ▸ HMT3.out.drewN q3
          have HOT4 : Hid (MN w4 (G + 1) 0 0) := hw4 ▸ HOT3.out.drewN q3
          have HBT4 : Hid (Below w1.heap.size w1 w4) := hw4 ▸ bel_drewN HBT3.out q3
          clear hw4 HMT3 HOT3 HBT3
          have L23 : Hid (Lk r2 r3) := Bl.lk (.inl rfl) B2 B3
          have hbr3 := bits_run r3
          clear B2 B3
          go_wp2_with fail
          refine (same_lk r2 r3 L23.out _).mono ?_
          rintro e wX ⟨rfl, rfl⟩
          clear hbr3
          go_wp2_with fail
          refine (rblend_any W X _).mono ?_
          rintro e w5 ⟨r4, q4, rfl, hw5, B4⟩
          have HMT : Hid (MN w5 G r1 (C + 1)) := hw5 ▸ HMT4.out.drewN q4
          have HOT : Hid (MN w5 (G + 1) 0 0) := hw5 ▸ HOT4.out.drewN q4
          have HBT : Hid (Below w1.heap.size w1 w5) := hw5 ▸ bel_drewN HBT4.out q4
          clear hw5 HMT4 HOT4 HBT4
          have HLT : Hid (Lk r1 r4) := Bl.lk HL.out HBl.out B4
          clear B4 HL HBl
          go_wp2_with fail
          refine (mcount_any G r1 (C + 1) _ HMT.out).mono ?_
          rintro e wX ⟨rfl, rfl⟩
          go_wp2_with fail
          refine (mvalue_any G r1 (C + 1) _ HMT.out).mono ?_
          rintro e wX ⟨rfl, rfl⟩
          have hbr := bits_run r4
          go_wp2_with fail
          refine (same_lk r1 r4 HLT.out _).mono ?_
          rintro e wX ⟨rfl, rfl⟩
          go_wp2_with fail
          refine (mcount_any (G + 1) 0 0 _ HOT.out).mono ?_
          rintro e wX ⟨rfl, rfl⟩
          go_wp2_with fail
          refine (mvalue_any (G + 1) 0 0 _ HOT.out).mono ?_
          rintro e wX ⟨rfl, rfl⟩
          go_wp2
          go_roundw
          case rel => exact ⟨k + 1, r4, r1, (C + 1), by omega, by omega, by go_num, rfl, by first | rfl | go_num, HMT, HOT, HLT, HBT⟩
          case measure => simp [intOf]; omega
    · obtain rfl : k = n := by omega
      go_wp2_with fail
      refine (mcount_any G V C _ HM.out).mono ?_
      rintro e wX ⟨rfl, rfl⟩
      go_wp2
      go_ret
      exact ⟨rfl, HB.out⟩

end Go.Proofs.YtjlbbnjcdickgacDoor
