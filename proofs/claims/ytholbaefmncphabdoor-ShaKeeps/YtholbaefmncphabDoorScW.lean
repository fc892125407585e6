/- The law ShaCuts, walked. -/
import Derived.Test.YtholbaefmncphabDoorOfK
import Derived.Deep.Cut
import Derived.Deep.CutRange
import Derived.Deep.DeepCutAuto
namespace Go.Proofs.YtholbaefmncphabDoor
open Go.RowKit
theorem IRow.at {kd : IntKind} {lo hi : Int} {w w' : World} {x : Option Addr} {n c : Nat} {f : Nat → Int} (h : IRow kd lo hi w x n c f) (b : Below w.heap.size w w') (k : Nat) (hk : k < n) : ∃ a : Addr, x = some a ∧ w'.cell? (a.add k) = some (.int kd (f k)) := by
  obtain ⟨a, h1, h2, h3⟩ := h.cell k hk
  refine ⟨a, h1, ?_⟩
  rw [← h3]
  refine b.cell (p := a.add k) ?_
  have : (a.add k).block = a.block := by unfold Addr.add; split <;> rfl
  rw [this]; exact h2
theorem ext_app (t : ByteArray) (i j : Nat) (h : i ≤ j) : t.extract 0 i ++ t.extract i j = t.extract 0 j := by
  rw [ByteArray.extract_append_extract, Nat.min_eq_left (Nat.zero_le _), Nat.max_eq_right h]
theorem ext_all (t : ByteArray) : t.extract 0 t.size = t := ByteArray.extract_zero_size

set_option maxRecDepth 100000 in
set_option maxHeartbeats 4000000 in
theorem cuts_walk (t : ByteArray) (x : Option Addr) (n c : Nat) (f : Nat → Int) (w : World) (ht : t.size ≤ 140737488351232) (hX : IRow .i64 (-9223372036854775808) 9223372036854775807 w x n c f) (hm : c ≤ maxLen) (hK : KT w) :
    Calls Tryd.prog 3 #[.string t, .slice x n c] w fun e w' => e = .returned (.bool true) ∧ Below w.heap.size w w' := by
  have HK : Hid (KT w) := hK
  have hn : n ≤ 9223372036854775807 := Nat.le_trans hX.len (Nat.le_trans hm (by decide))
  clear hm
  have HX : Hid (IRow .i64 (-9223372036854775808) 9223372036854775807 w x n c f) := hX
  have z0 : 0 < w.heap.size := hK.lt
  clear hK hX
  go_enter Tryd.func3, Tryd.ntmps3
  go_wp2_with fail
  refine (awake_any _ HK.out).mono ?_
  rintro e w1 ⟨rfl, B1⟩
  have K1 : Hid (KT w1) := HK.out.below B1
  clear HK
  go_wp2_with fail
  refine (new_wrote _).mono ?_
  rintro e w2 ⟨g, rfl, hg, hg2, S2, b2⟩
  have K2 : Hid (KT w2) := K1.out.below b2
  have B2 := below_next B1 b2
  have z1 : w.heap.size ≤ g := Nat.le_trans B1.size hg
  have S2' : Hid (Wrote w2 g (t.extract 0 0)) := by
    have : t.extract 0 0 = ByteArray.empty := by simp
    unfold Hid
    rw [this]; exact S2
  clear b2 K1 B1 hg S2
  have zg : 0 < g := by omega
  go_wp2_with fail
  go_loopw [6, 16] (fun xa xi wr => ∃ (k m : Nat), k ≤ n ∧ m ≤ t.size ∧ xa = .int .i64 m ∧ xi = .int .i64 k ∧ Hid (Wrote wr g (t.extract 0 m)) ∧ Hid (KT wr) ∧ Hid (Below w.heap.size w wr)) (fun _ xi _ => n - (intOf xi).toNat)
  case atStart => exact ⟨0, 0, Nat.zero_le _, Nat.zero_le _, rfl, rfl, S2', K2, B2⟩
  case round =>
    obtain ⟨k, m, hk, hm, rfl, rfl, S, K, B⟩ := hrel
    clear S2' K2 B2 hg2
    by_cases hkn : k < n
    · obtain ⟨a, rfl, hcell⟩ := HX.out.at B.out k hkn
      have hb := HX.out.bd k hkn
      obtain ⟨z, hz⟩ : ∃ z, f k = z := ⟨_, rfl⟩
      rw [hz] at hcell hb
      clear hz
      obtain ⟨C, hC, hcase⟩ : ∃ C : Nat, m + C ≤ t.size ∧ ((z < 0 ∧ (C : Int) = (t.size : Int) - m) ∨ (0 ≤ z ∧ (t.size : Int) - m < z ∧ (C : Int) = (t.size : Int) - m) ∨ (z = C)) := by
        by_cases h1 : z < 0
        · exact ⟨t.size - m, by omega, .inl ⟨h1, by omega⟩⟩
        · by_cases h2 : (t.size : Int) - m < z
          · exact ⟨t.size - m, by omega, .inr (.inl ⟨by omega, h2, by omega⟩)⟩
          · exact ⟨z.toNat, by omega, .inr (.inr (by omega))⟩
      rcases hcase with ⟨h1, h2⟩ | ⟨h1, h2, h3⟩ | h1
      · go_wp2_with fail
        refine (writeText_wrote g (t.extract 0 m) (t.extract m (t.size)) _ S.out (by rw [ByteArray.size_extract, ByteArray.size_extract]; omega) K.out zg).mono ?_
        rintro e w3 ⟨rfl, S3, G3⟩
        rw [ext_app t m (t.size) (by omega)] at S3
        have K3 : Hid (KT w3) := K.out.grown G3 zg
        have B3 : Hid (Below w.heap.size w w3) := below_gb B.out G3 z1
        obtain ⟨M, hM⟩ : ∃ M : Nat, t.size = M := ⟨_, rfl⟩
        have hMt : M ≤ t.size := by omega
        rw [hM] at S3
        have H3 : Hid (Wrote w3 g (t.extract 0 M)) := S3
        have es : Hid ((((t.extract 0 M).size : Nat) : Int) = (M : Int)) := by
          unfold Hid
          rw [ByteArray.size_extract]
          omega
        have ez : Hid ((t.extract 0 M).size ≤ 140737488351232) := by
          unfold Hid
          rw [ByteArray.size_extract]
          omega
        have HM : Hid (t.size = M) := hM
        clear hM
        have q := dgs_same (t.extract 0 M)
        have b0 : Below w3.heap.size w3 w3 := Below.refl _ _
        have hD : Below w3.heap.size w3 w3.drew := b0.drew
        go_wp2_with fail
        rw [show ((m : Int) + ((t.size : Int) - (m : Int))) = (M : Int) from by have := HM.out; omega]
        have qn : ((M : Int) != (M : Int)) = false := by simp
        clear S K B G3 S3 hcell HM hm hC
        go_region_held3 (fun W => Below w3.heap.size w3 W)
          (first
            | exact b8
            | exact hD
            | exact b0)
          (first
            | (go_at_call 10; refine (size_b w3 g (t.extract 0 M) _ es.out _ ?_ H3.out).mono ?_; (first | exact b8 | exact hD); rintro e8 w8 ⟨rfl, b8⟩)
            | (go_at_call 11; refine (sum_b w3 g (t.extract 0 M) _ ?_ H3.out (by have := ez.out; omega) K3.out zg).mono ?_; (first | exact b8 | exact hD); rintro e8 w8 ⟨rfl, b8⟩)
            | (go_at_call 12; refine (of_b w3 (t.extract 0 M) _ ?_ (by have := ez.out; omega) K3.out).mono ?_; (first | exact b8 | exact hD); rintro e8 w8 ⟨rfl, b8⟩))
        all_goals go_wp2
        all_goals go_roundw
        all_goals first
          | exact ⟨k + 1, M, by omega, hMt, rfl, by simp, H3.out.below b8 H3.out.lt, K3.out.below b8, below_next B3.out b8⟩
          | (simp only [intOf]; omega)
      · go_wp2_with fail
        refine (writeText_wrote g (t.extract 0 m) (t.extract m (t.size)) _ S.out (by rw [ByteArray.size_extract, ByteArray.size_extract]; omega) K.out zg).mono ?_
        rintro e w3 ⟨rfl, S3, G3⟩
        rw [ext_app t m (t.size) (by omega)] at S3
        have K3 : Hid (KT w3) := K.out.grown G3 zg
        have B3 : Hid (Below w.heap.size w w3) := below_gb B.out G3 z1
        obtain ⟨M, hM⟩ : ∃ M : Nat, t.size = M := ⟨_, rfl⟩
        have hMt : M ≤ t.size := by omega
        rw [hM] at S3
        have H3 : Hid (Wrote w3 g (t.extract 0 M)) := S3
        have es : Hid ((((t.extract 0 M).size : Nat) : Int) = (M : Int)) := by
          unfold Hid
          rw [ByteArray.size_extract]
          omega
        have ez : Hid ((t.extract 0 M).size ≤ 140737488351232) := by
          unfold Hid
          rw [ByteArray.size_extract]
          omega
        have HM : Hid (t.size = M) := hM
        clear hM
        have q := dgs_same (t.extract 0 M)
        have b0 : Below w3.heap.size w3 w3 := Below.refl _ _
        have hD : Below w3.heap.size w3 w3.drew := b0.drew
        go_wp2_with fail
        rw [show ((m : Int) + ((t.size : Int) - (m : Int))) = (M : Int) from by have := HM.out; omega]
        have qn : ((M : Int) != (M : Int)) = false := by simp
        clear S K B G3 S3 hcell HM hm hC
        go_region_held3 (fun W => Below w3.heap.size w3 W)
          (first
            | exact b8
            | exact hD
            | exact b0)
          (first
            | (go_at_call 10; refine (size_b w3 g (t.extract 0 M) _ es.out _ ?_ H3.out).mono ?_; (first | exact b8 | exact hD); rintro e8 w8 ⟨rfl, b8⟩)
            | (go_at_call 11; refine (sum_b w3 g (t.extract 0 M) _ ?_ H3.out (by have := ez.out; omega) K3.out zg).mono ?_; (first | exact b8 | exact hD); rintro e8 w8 ⟨rfl, b8⟩)
            | (go_at_call 12; refine (of_b w3 (t.extract 0 M) _ ?_ (by have := ez.out; omega) K3.out).mono ?_; (first | exact b8 | exact hD); rintro e8 w8 ⟨rfl, b8⟩))
        all_goals go_wp2
        all_goals go_roundw
        all_goals first
          | exact ⟨k + 1, M, by omega, hMt, rfl, by simp, H3.out.below b8 H3.out.lt, K3.out.below b8, below_next B3.out b8⟩
          | (simp only [intOf]; omega)
      · subst h1
        go_wp2_with fail
        refine (writeText_wrote g (t.extract 0 m) (t.extract m (m + C)) _ S.out (by rw [ByteArray.size_extract, ByteArray.size_extract]; omega) K.out zg).mono ?_
        rintro e w3 ⟨rfl, S3, G3⟩
        rw [ext_app t m (m + C) (by omega)] at S3
        have K3 : Hid (KT w3) := K.out.grown G3 zg
        have B3 : Hid (Below w.heap.size w w3) := below_gb B.out G3 z1
        obtain ⟨M, hM⟩ : ∃ M : Nat, m + C = M := ⟨_, rfl⟩
        have hMt : M ≤ t.size := by omega
        rw [hM] at S3
        have H3 : Hid (Wrote w3 g (t.extract 0 M)) := S3
        have es : Hid ((((t.extract 0 M).size : Nat) : Int) = (M : Int)) := by
          unfold Hid
          rw [ByteArray.size_extract]
          omega
        have ez : Hid ((t.extract 0 M).size ≤ 140737488351232) := by
          unfold Hid
          rw [ByteArray.size_extract]
          omega
        have HM : Hid (m + C = M) := hM
        clear hM
        have q := dgs_same (t.extract 0 M)
        have b0 : Below w3.heap.size w3 w3 := Below.refl _ _
        have hD : Below w3.heap.size w3 w3.drew := b0.drew
        go_wp2_with fail
        rw [show ((m : Int) + (C : Int)) = (M : Int) from by have := HM.out; omega]
        have qn : ((M : Int) != (M : Int)) = false := by simp
        clear S K B G3 S3 hcell HM hm hC
        go_region_held3 (fun W => Below w3.heap.size w3 W)
          (first
            | exact b8
            | exact hD
            | exact b0)
          (first
            | (go_at_call 10; refine (size_b w3 g (t.extract 0 M) _ es.out _ ?_ H3.out).mono ?_; (first | exact b8 | exact hD); rintro e8 w8 ⟨rfl, b8⟩)
            | (go_at_call 11; refine (sum_b w3 g (t.extract 0 M) _ ?_ H3.out (by have := ez.out; omega) K3.out zg).mono ?_; (first | exact b8 | exact hD); rintro e8 w8 ⟨rfl, b8⟩)
            | (go_at_call 12; refine (of_b w3 (t.extract 0 M) _ ?_ (by have := ez.out; omega) K3.out).mono ?_; (first | exact b8 | exact hD); rintro e8 w8 ⟨rfl, b8⟩))
        all_goals go_wp2
        all_goals go_roundw
        all_goals first
          | exact ⟨k + 1, M, by omega, hMt, rfl, by simp, H3.out.below b8 H3.out.lt, K3.out.below b8, below_next B3.out b8⟩
          | (simp only [intOf]; omega)
    · obtain ⟨cc, w3, hcv, hcc, hB3, b3⟩ := conv_bytes wr (t.extract m t.size) g S.out.lt
      rw [ext_size t m] at hcv hcc hB3
      have S3 : Hid (Wrote w3 g (t.extract 0 m)) := S.out.below b3 S.out.lt
      have K3 : Hid (KT w3) := K.out.below b3
      have B3 : Hid (Below w.heap.size w w3) := below_next B.out b3
      have HB3 : Hid (BSl w3 g (some ⟨wr.heap.size, 0, none⟩) (t.size - m) (t.extract m t.size)) := hB3
      clear S K B hB3 b3
      generalize wr.heap.size = gc at *
      go_wp2_with fail
      refine (write_wrote g (t.extract 0 m) (t.extract m t.size) _ _ _ _ S3.out HB3.out hcc (by rw [ByteArray.size_extract, ByteArray.size_extract]; omega) K3.out zg).mono ?_
      rintro e w4 ⟨rfl, S4', G4⟩
      rw [ext_app t m t.size hm, ext_all] at S4'
      have S4 : Hid (Wrote w4 g t) := S4'
      have K4 : Hid (KT w4) := K3.out.grown G4 zg
      have B4 : Hid (Below w.heap.size w w4) := below_gb B3.out G4 z1
      clear S3 K3 B3 HB3 G4 S4' hcv hcc
      have b0 : Below w4.heap.size w4 w4 := Below.refl _ _
      have q := dgs_same t
      have dn : Hid (t.size ≤ 1152921504606846976) := by unfold Hid; omega
      go_wp2_with fail
      refine (sum_b w4 g t _ b0 S4.out dn.out K4.out zg).mono ?_
      rintro e w5 ⟨rfl, b5⟩
      go_wp2_with fail
      refine (of_b w4 t _ b5 dn.out K4.out).mono ?_
      rintro e w6 ⟨rfl, b6⟩
      clear b5
      go_wp2_with fail
      refine (size_b w4 g t _ rfl _ b6 S4.out).mono ?_
      rintro e w7 ⟨rfl, b7⟩
      clear b6
      go_wp2_with fail
      refine (sum_b w4 g t _ b7 S4.out dn.out K4.out zg).mono ?_
      rintro e w8 ⟨rfl, b8⟩
      clear b7
      go_wp2_with fail
      refine (sum_b w4 g t _ b8 S4.out dn.out K4.out zg).mono ?_
      rintro e w9 ⟨rfl, b9⟩
      clear b8
      go_wp2
      go_ret
      exact ⟨rfl, below_next B4.out b9⟩
#print axioms cuts_walk
end Go.Proofs.YtholbaefmncphabDoor
