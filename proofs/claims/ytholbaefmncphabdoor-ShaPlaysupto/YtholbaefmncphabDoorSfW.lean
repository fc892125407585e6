/- The law ShaForks, walked. -/
import Derived.Test.YtholbaefmncphabDoorOfJ
import Derived.Test.YtholbaefmncphabDoorShaE
namespace Go.Proofs.YtholbaefmncphabDoor
open Go.RowKit
theorem below_gb {w0 w w' : World} {g : Nat} (b : Below w0.heap.size w0 w) (G : w.grownBy w' (some g)) (hg : w0.heap.size ≤ g) : Below w0.heap.size w0 w' :=
  b.trans ⟨G.os, G.tape, G.output, G.size, fun k hk => G.block k (by have := b.size; omega) (by simp; omega)⟩
theorem below_next {w0 w w' : World} (b : Below w0.heap.size w0 w) (c : Below w.heap.size w w') : Below w0.heap.size w0 w' := b.trans (c.mono b.size)
theorem empty_app (a : ByteArray) : ByteArray.empty ++ a = a := by
  apply bytes_ext
  · rw [ByteArray.size_append]; show 0 + a.size = a.size; omega
  · intro k hk
    rw [ByteArray.size_append, size_empty] at hk
    have := bt_right ByteArray.empty a k (by omega)
    rw [size_empty, Nat.zero_add] at this
    exact this
theorem dgs_same (s : ByteArray) (w : World) : (Op.equalIn 10000 36 (.agg (dgs s)) (.agg (dgs s))).run Tryd.prog w = .ok true w :=
  run_equalIn_same w 9998 36 5 .u8 .u8 32 _ Tryd.und36 (by kernel_rfl) (by kernel_rfl) Tryd.underlying5

set_option maxRecDepth 100000 in
set_option maxHeartbeats 4000000 in
theorem forks_walk (a b c : ByteArray) (w : World) (ha : a.size ≤ 140737488351232) (hb : b.size ≤ 140737488351232) (hc : c.size ≤ 140737488351232) (hK : KT w) :
    Calls Tryd.prog 4 #[.string a, .string b, .string c] w fun e w' => e = .returned (.bool true) ∧ Below w.heap.size w w' := by
  have HK : Hid (KT w) := hK
  have z0 : 0 < w.heap.size := hK.lt
  clear hK
  go_enter Tryd.func4, Tryd.ntmps4
  go_wp2_with fail
  refine (awake_any _ HK.out).mono ?_
  rintro e w1 ⟨rfl, B1⟩
  have K1 : Hid (KT w1) := HK.out.below B1
  clear HK
  go_wp2_with fail
  refine (new_wrote _).mono ?_
  rintro e w2 ⟨g, rfl, hg, hg2, S2, b2⟩
  have K2 : Hid (KT w2) := K1.out.below b2
  have B2 := below_next B1 b2
  have z1 : w.heap.size ≤ g := Nat.le_trans B1.size hg
  clear b2 K1 B1 hg
  have zg : 0 < g := by omega
  go_wp2_with fail
  refine (writeText_wrote g ByteArray.empty a _ S2 (by rw [size_empty]; omega) K2.out zg).mono ?_
  rintro e w3 ⟨rfl, S3, G3⟩
  rw [empty_app] at S3
  have K3 : Hid (KT w3) := K2.out.grown G3 zg
  have B3 := below_gb B2 G3 z1
  clear S2 K2 B2 G3 hg2
  go_wp2_with fail
  refine (fork_wrote g a _ S3).mono ?_
  rintro e w4 ⟨f, rfl, hf1, hf2, F4, b4⟩
  have S4 := S3.below b4 S3.lt
  have K4 : Hid (KT w4) := K3.out.below b4
  have B4 := below_next B3 b4
  have z2 : g < f := Nat.lt_of_lt_of_le S3.lt hf1
  clear S3 b4 K3 B3 hf1 hf2
  go_wp2_with fail
  refine (writeText_wrote g a b _ S4 (by omega) K4.out zg).mono ?_
  rintro e w5 ⟨rfl, S5, G5⟩
  have F5 := F4.kept G5 (by omega)
  have K5 : Hid (KT w5) := K4.out.grown G5 zg
  have B5 := below_gb B4 G5 z1
  clear S4 F4 K4 B4 G5
  go_wp2_with fail
  refine (writeText_wrote f a c _ F5 (by omega) K5.out (by omega)).mono ?_
  rintro e w6 ⟨rfl, F6, G6⟩
  have S6 := S5.kept G6 (by omega)
  have K6 : Hid (KT w6) := K5.out.grown G6 (by omega)
  have B6 := below_gb B5 G6 (by omega)
  clear S5 F5 K5 B5 G6
  go_wp2_with fail
  refine (fork_wrote f (a ++ c) _ F6).mono ?_
  rintro e w7 ⟨h, rfl, hh1, hh2, H7, b7⟩
  have S7 := S6.below b7 S6.lt
  have F7 := F6.below b7 F6.lt
  have K7 : Hid (KT w7) := K6.out.below b7
  have B7 := below_next B6 b7
  have z3 : f < h := Nat.lt_of_lt_of_le F6.lt hh1
  clear S6 F6 b7 K6 B6 hh1 hh2
  go_wp2_with fail
  refine (reset_wrote g (a ++ b) _ S7).mono ?_
  rintro e w8 ⟨rfl, S8, G8⟩
  have F8 := F7.kept G8 (by omega)
  have H8 := H7.kept G8 (by omega)
  have K8 : Hid (KT w8) := K7.out.grown G8 zg
  have B8 := below_gb B7 G8 z1
  clear S7 F7 H7 K7 B7 G8
  go_wp2_with fail
  refine (writeText_wrote g ByteArray.empty c _ S8 (by rw [size_empty]; omega) K8.out zg).mono ?_
  rintro e w9 ⟨rfl, S9, G9⟩
  rw [empty_app] at S9
  have F9 := F8.kept G9 (by omega)
  have H9 := H8.kept G9 (by omega)
  have K9 : Hid (KT w9) := K8.out.grown G9 zg
  have B9 := below_gb B8 G9 z1
  clear S8 F8 H8 K8 B8 G9
  go_wp2_with fail
  refine (reset_wrote h (a ++ c) _ H9).mono ?_
  rintro e wa ⟨rfl, Ha, Ga⟩
  have Sa := S9.kept Ga (by omega)
  have Fa := F9.kept Ga (by omega)
  have Ka : Hid (KT wa) := K9.out.grown Ga (by omega)
  have Ba := below_gb B9 Ga (by omega)
  clear S9 F9 H9 K9 B9 Ga
  go_wp2_with fail
  refine (sum_wrote g c _ Sa (by omega) Ka.out zg).mono ?_
  rintro e wb ⟨rfl, bb⟩
  have Fb := Fa.below bb Fa.lt
  have Hb := Ha.below bb Ha.lt
  have Kb : Hid (KT wb) := Ka.out.below bb
  have Bb := below_next Ba bb
  clear Sa Fa Ha Ka Ba bb
  go_wp2_with fail
  refine (of_wrote c _ (by omega) Kb.out).mono ?_
  rintro e wc ⟨rfl, bc⟩
  have Fc := Fb.below bc Fb.lt
  have Hc := Hb.below bc Hb.lt
  have Kc : Hid (KT wc) := Kb.out.below bc
  have Bc := below_next Bb bc
  clear Fb Hb Kb Bb bc
  have q1 := dgs_same c
  generalize dgs c = D1 at q1 ⊢
  go_wp2_with fail
  refine (sum_wrote f (a ++ c) _ Fc (by rw [ByteArray.size_append]; omega) Kc.out (by omega)).mono ?_
  rintro e wd ⟨rfl, bd⟩
  have Fd := Fc.below bd Fc.lt
  have Hd := Hc.below bd Hc.lt
  have Kd : Hid (KT wd) := Kc.out.below bd
  have Bd := below_next Bc bd
  clear Fc Hc Kc Bc bd
  go_wp2_with fail
  refine (of_wrote (a ++ c) _ (by rw [ByteArray.size_append]; omega) Kd.out).mono ?_
  rintro e we ⟨rfl, be⟩
  have Fe := Fd.below be Fd.lt
  have He := Hd.below be Hd.lt
  have Ke : Hid (KT we) := Kd.out.below be
  have Be := below_next Bd be
  clear Fd Hd Kd Bd be q1
  have q2 := dgs_same (a ++ c)
  generalize dgs (a ++ c) = D2 at q2 ⊢
  go_wp2_with fail
  refine (size_wrote f (a ++ c) _ Fe).mono ?_
  rintro e wf ⟨rfl, rfl⟩
  have qs : Hid ((a ++ c).size = a.size + c.size) := ByteArray.size_append
  rw [qs.out]
  go_wp2_with fail
  refine (sum_wrote h ByteArray.empty _ He (by rw [size_empty]; omega) Ke.out (by omega)).mono ?_
  rintro e wg ⟨rfl, bg⟩
  have Hg := He.below bg He.lt
  have Kg : Hid (KT wg) := Ke.out.below bg
  have Bg := below_next Be bg
  clear Fe He Ke Be bg q2
  go_wp2_with fail
  refine (of_wrote ByteArray.empty _ (by rw [size_empty]; omega) Kg.out).mono ?_
  rintro e wh ⟨rfl, bh⟩
  have Hh := Hg.below bh Hg.lt
  have Bh := below_next Bg bh
  clear Hg Kg Bg bh
  have q3 := dgs_same ByteArray.empty
  generalize dgs ByteArray.empty = D3 at q3 ⊢
  go_wp2_with fail
  refine (size_wrote h ByteArray.empty _ Hh).mono ?_
  rintro e wi ⟨rfl, rfl⟩
  rw [size_empty]
  go_wp2
  go_ret
  exact ⟨rfl, Bh⟩
#print axioms forks_walk
end Go.Proofs.YtholbaefmncphabDoor
