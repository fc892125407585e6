/- spath.Make, walked. -/
import Derived.Test.YtnfcnfhchfmcpabDoorPtH
namespace Go.Proofs.YtnfcnfhchfmcpabDoor
open Go.RowKit

theorem prC_le {p : ByteArray} (h : prC p = 0) : p.size ≤ 257 := by
  by_cases g : shp p
  · by_cases k : hshOk (pHash p)
    · rw [prC_lab g k] at h
      rcases lab_cases (pLab p) with ⟨m, _⟩ | ⟨_, m⟩
      · have := m.2.1
        unfold pLab at this
        rw [size_ext _ _ _ (Nat.le_refl _)] at this
        omega
      · rw [m] at h; omega
    · rw [prC_hash g k] at h; omega
  · rw [prC_shape g] at h; omega

theorem crf_cases (f : Nat → ByteArray) (n : Nat) : (crf f n = 0 ∧ n ≤ 1024 ∧ ∀ i, i < n → prC (f i) = 0 ∧ (f i).size ≤ 257) ∨ crf f n = 133 ∨ crf f n = 171 := by
  unfold crf
  by_cases h : 1024 < n
  · right; right; rw [if_pos h]
  · by_cases g : refsOk f n
    · left; rw [if_neg h, if_pos g]; exact ⟨rfl, by omega, fun i hi => ⟨(g i hi).1, prC_le (g i hi).1⟩⟩
    · right; left; rw [if_neg h, if_neg g]

/-- Make's error. -/
def mkC (f : Nat → ByteArray) (n : Nat) (l : ByteArray) : Int := if lab l = 0 then crf f n else 130
/-- The path that it makes. -/
def mkS (f : Nat → ByteArray) (n : Nat) (D : Nat → Int) (l : ByteArray) : ByteArray := ((dirS ++ hashP f n D l) ++ ⟨#[45]⟩) ++ l
theorem mkC_lab {f : Nat → ByteArray} {n : Nat} {l : ByteArray} (h : lab l = 130) : mkC f n l = 130 := by unfold mkC; rw [h]; rfl
theorem mkC_refs {f : Nat → ByteArray} {n : Nat} {l : ByteArray} (h : lab l = 0) : mkC f n l = crf f n := by unfold mkC; rw [if_pos h]

theorem hashP_size (f : Nat → ByteArray) (n : Nat) (D : Nat → Int) (l : ByteArray) : (hashP f n D l).size = 32 := by
  unfold hashP b32Str foS
  rw [strFn_size, strFn_size]
  rfl

set_option maxRecDepth 100000 in
set_option maxHeartbeats 4000000 in
theorem make_any (x : Option Addr) (n c : Nat) (f : Nat → ByteArray) (D : Nat → Int) (l : ByteArray) (w : World) (hS : SIs w x n f) (hK : KT w) :
    Calls Tryd.prog 5 #[.slice x n c, .agg (cs .u8 32 D), .string l] w fun e w' => e = .returned (.tuple #[.string (iffy (mkC f n l) (mkS f n D l)), .int .i64 (mkC f n l)]) ∧ Below w.heap.size w w' := by
  have HK : Hid (KT w) := hK
  have HS : Hid (SIs w x n f) := hS
  clear hK hS
  rcases lab_cases l with ⟨h1, h2⟩ | ⟨h1, h2⟩
  · have hl : l.size ≤ 211 := h1.2.1
    rw [mkC_refs h2]
    have H2 : Hid (lab l = 0) := h2
    clear h1 h2
    rcases crf_cases f n with ⟨k1, k2, k3⟩ | k1 | k1
    · rw [iffy_yes k1, k1]
      have K1 : Hid (crf f n = 0) := k1
      have K3 : Hid (∀ i, i < n → (f i).size ≤ 257) := fun i hi => (k3 i hi).2
      clear k1 k3
      go_enter Tryd.func5, Tryd.ntmps5
      go_wp2_with fail
      refine (ckL_any l _).mono ?_
      rintro e w1 ⟨rfl, b1⟩
      rw [H2.out]
      have R1 : Hid (Row .u8 w1 w.heap.size 32 D) := Row.below Row.box b1 (by rw [World.size_alloc]; omega)
      have B1 : Hid (Below w.heap.size w w1) := ((Below.refl _ _).alloc (Nat.le_refl _) _).trans (b1.mono (by rw [World.size_alloc]; omega))
      have z1 : Hid (w.heap.size < w1.heap.size) := by have := b1.size; rw [World.size_alloc] at this; unfold Hid; omega
      clear b1
      go_wp2_with fail
      have CC := ckR_any x n c f w1 (HS.out.below B1.out (Nat.le_refl _))
      refine CC.mono ?_
      clear CC
      rintro e w2 ⟨rfl, b2⟩
      rw [K1.out]
      have R2 : Row .u8 w2 w.heap.size 32 D := R1.out.below b2 z1.out
      have B2 : Hid (Below w.heap.size w w2) := below_next B1.out b2
      clear b2 R1 B1 z1
      go_wp2_with (refine wpList_load_arr (by rfl) 28 (.tmp 4) (by rfl) w.heap.size (by rfl) R2 Tryd.und28 Tryd.sz28 ?_)
      have CC := hashOf_any x n c f D l w2 (HS.out.below B2.out (Nat.le_refl _)) k2 K3.out hl (HK.out.below B2.out)
      refine CC.mono ?_
      clear CC
      rintro e w3 ⟨rfl, b3⟩
      have B3 : Hid (Below w.heap.size w w3) := below_next B2.out b3
      have HM : Hid (mkS f n D l = ((dirS ++ hashP f n D l) ++ ⟨#[45]⟩) ++ l) := rfl
      have hs := hashP_size f n D l
      generalize hashP f n D l = HP at HM hs ⊢
      clear b3 B2 R2
      go_wp2
      go_ret2
      exact ⟨by rw [HM.out]; rfl, B3.out⟩
    · have hne : crf f n ≠ 0 := by rw [k1]; decide
      rw [iffy_no hne, k1]
      have K1 : Hid (crf f n = 133) := k1
      clear k1 hne
      go_enter Tryd.func5, Tryd.ntmps5
      go_wp2_with fail
      refine (ckL_any l _).mono ?_
      rintro e w1 ⟨rfl, b1⟩
      rw [H2.out]
      have B1 : Hid (Below w.heap.size w w1) := ((Below.refl _ _).alloc (Nat.le_refl _) _).trans (b1.mono (by rw [World.size_alloc]; omega))
      clear b1
      go_wp2_with fail
      have CC := ckR_any x n c f w1 (HS.out.below B1.out (Nat.le_refl _))
      refine CC.mono ?_
      clear CC
      rintro e w2 ⟨rfl, b2⟩
      rw [K1.out]
      have B2 : Hid (Below w.heap.size w w2) := below_next B1.out b2
      clear b2 B1
      go_wp2
      go_ret2
      exact ⟨rfl, B2.out⟩
    · have hne : crf f n ≠ 0 := by rw [k1]; decide
      rw [iffy_no hne, k1]
      have K1 : Hid (crf f n = 171) := k1
      clear k1 hne
      go_enter Tryd.func5, Tryd.ntmps5
      go_wp2_with fail
      refine (ckL_any l _).mono ?_
      rintro e w1 ⟨rfl, b1⟩
      rw [H2.out]
      have B1 : Hid (Below w.heap.size w w1) := ((Below.refl _ _).alloc (Nat.le_refl _) _).trans (b1.mono (by rw [World.size_alloc]; omega))
      clear b1
      go_wp2_with fail
      have CC := ckR_any x n c f w1 (HS.out.below B1.out (Nat.le_refl _))
      refine CC.mono ?_
      clear CC
      rintro e w2 ⟨rfl, b2⟩
      rw [K1.out]
      have B2 : Hid (Below w.heap.size w w2) := below_next B1.out b2
      clear b2 B1
      go_wp2
      go_ret2
      exact ⟨rfl, B2.out⟩
  · rw [mkC_lab h2, iffy_no (by decide)]
    have H2 : Hid (lab l = 130) := h2
    clear h1 h2
    go_enter Tryd.func5, Tryd.ntmps5
    go_wp2_with fail
    refine (ckL_any l _).mono ?_
    rintro e w1 ⟨rfl, b1⟩
    rw [H2.out]
    have B1 : Hid (Below w.heap.size w w1) := ((Below.refl _ _).alloc (Nat.le_refl _) _).trans (b1.mono (by rw [World.size_alloc]; omega))
    clear b1
    go_wp2
    go_ret2
    exact ⟨rfl, B1.out⟩

end Go.Proofs.YtnfcnfhchfmcpabDoor
