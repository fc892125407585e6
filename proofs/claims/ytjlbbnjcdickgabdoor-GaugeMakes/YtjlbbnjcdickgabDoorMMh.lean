/- gauge.Make, the document's Make and the law GaugeMakes. -/
import Derived.Test.YtjlbbnjcdickgabDoorMMg
set_option maxRecDepth 4000
namespace Go.Proofs.YtjlbbnjcdickgabDoor
open Go.RowKit Ieee

/-- What Make answers. -/
def mkW (m e : Int) : Nat := double.nearest (decide (m < 0)) m.natAbs e

theorem float_ofW (m : Int) : floatOfInt .f64 m = ofW m := rfl

theorem make_any (m e : Int) (w : World) (h0 : -9223372036854775808 ≤ m) (h1 : m ≤ 9223372036854775807) :
    Calls Tryd.prog 11 #[.int .i64 m, .int .i64 e] w fun r w' => r = .returned (.float .f64 (mkW m e)) ∧ w' = w := by
  obtain ⟨E, hE⟩ : ∃ E : Int, E = min (max e (-1174)) 1024 := ⟨_, rfl⟩
  obtain ⟨CS, LK, LR⟩ := make_ways m e h0 h1 E hE
  have HE : min (max e (-1174)) 1024 = E := hE.symm
  have c0 : -1174 ≤ E := by omega
  have c1 : E ≤ 1024 := by omega
  have hN : m.natAbs < 2 ^ 64 := by omega
  have LN := fun w => len_any (m.natAbs : Int) w (by omega) (by omega)
  rw [Int.toNat_natCast] at LN
  have hb := bl_le m.natAbs 64 hN
  have FO := float_of m.natAbs hN
  have FM := float_ofW m
  unfold mkW
  have hn0 : (m < 0 → m = -(m.natAbs : Int)) ∧ (¬ m < 0 → m = (m.natAbs : Int)) := by omega
  have hn1 : (m.natAbs : Int) ≤ 9223372036854775808 := by omega
  have hn2 : (m < 0 → 0 < (m.natAbs : Int)) ∧ (¬ m < 0 → (m.natAbs : Int) < 9223372036854775808) := by omega
  have hn3 : 0 ≤ (m.natAbs : Int) := by omega
  have FR : ∀ R : Nat, R ≤ 4503599627370496 → floatOfInt .f64 (R : Int) = flR R := fun R h => float_of R (by omega)
  generalize double.nearest (decide (m < 0)) m.natAbs e = FIN at *
  generalize double.nearest false m.natAbs e = NR at *
  generalize ofW m = YM at *
  generalize flR m.natAbs = Y at *
  generalize bl m.natAbs = B at *
  generalize (m.natAbs : Int) = n at *
  clear hN hE
  by_cases hm : m < 0
  · obtain rfl := hn0.1 hm
    have hp := hn2.1 hm
    by_cases hd : 0 < -1074 - E
    · by_cases hk : (B : Int) - (-1074 - E) < 53
      · obtain ⟨R, hR, DR, LD⟩ := LR hd hk
        exact mk_n_mid n e E _ _ _ _ w hp hn1 HE c0 c1 hd FM B (by omega) (by omega) hk (R : Int) (by omega) (by omega) (FR R hR) LN DR LD CS
      · have LD := LK (Or.inl (by omega))
        exact mk_n_kep n e E _ _ _ _ w hp hn1 HE c0 c1 hd FM B (by omega) (by omega) hk FO LN LD CS
    · have LD := LK (Or.inr (by omega))
      exact mk_n_pos n e E _ _ _ _ w hp hn1 HE c0 c1 (by omega) FM FO LD CS
  · obtain rfl := hn0.2 hm
    have hp := hn2.2 hm
    by_cases hd : 0 < -1074 - E
    · by_cases hk : (B : Int) - (-1074 - E) < 53
      · obtain ⟨R, hR, DR, LD⟩ := LR hd hk
        exact mk_p_mid _ e E _ _ _ _ w hn3 hp HE c0 c1 hd FM B (by omega) (by omega) hk (R : Int) (by omega) (by omega) (FR R hR) LN DR LD CS
      · have LD := LK (Or.inl (by omega))
        have e1 : YM = Y := FM.symm.trans FO
        rw [e1] at CS
        exact mk_p_kep _ e E _ _ _ w hn3 hp HE c0 c1 hd B (by omega) (by omega) hk FO LN LD CS
    · have LD := LK (Or.inr (by omega))
      have e1 : YM = Y := FM.symm.trans FO
      rw [e1] at CS
      exact mk_p_pos _ e E _ _ _ w hn3 hp HE c0 c1 (by omega) FO LD CS

set_option maxHeartbeats 400000 in
theorem rmake_any (m e : Int) (w : World) (h0 : -9223372036854775808 ≤ m) (h1 : m ≤ 9223372036854775807) :
    Calls Tryd.prog 12 #[.int .i64 m, .int .i64 e] w fun r w' => r = .returned (.int .u64 (mkW m e)) ∧ w' = w := by
  have E : Hid (double.nearest (decide (m < 0)) (2 * m.natAbs + false.toNat) (e - 1) = mkW m e) := by
    unfold Hid mkW
    rw [show 2 * m.natAbs + false.toNat = 2 * m.natAbs from rfl, nearest_two]
  go_enter Tryd.func12, Tryd.ntmps12
  go_wp2_with fail
  refine (size_any m _ h0 h1).mono ?_
  rintro r w1 ⟨rfl, rfl⟩
  go_wp2_with fail
  refine (near_any _ _ e false _ (by omega) (fun h => by cases h)).mono ?_
  rintro r w1 ⟨rfl, rfl⟩
  rw [E.out]
  go_wp2
  go_ret
  exact ⟨rfl, rfl⟩

set_option maxHeartbeats 400000 in
theorem makes_walk (m e : Int) (w : World) (h0 : -9223372036854775808 ≤ m) (h1 : m ≤ 9223372036854775807) (_e0 : -9223372036854775808 ≤ e) (_e1 : e ≤ 9223372036854775807) (h : DT w) :
    Calls Tryd.prog 4 #[.int .i64 m, .int .i64 e] w fun e w' => e = .returned (.bool true) ∧ Below w.heap.size w w' := by
  have HD : Hid (DT w) := h
  clear h
  go_enter Tryd.func4, Tryd.ntmps4
  go_wp2_with fail
  refine (awake_any _ HD.out).mono ?_
  rintro r w1 ⟨rfl, rfl⟩
  go_wp2_with fail
  refine (make_any m e _ h0 h1).mono ?_
  rintro r w1 ⟨rfl, rfl⟩
  go_wp2_with fail
  refine (rmake_any m e _ h0 h1).mono ?_
  rintro r w1 ⟨rfl, rfl⟩
  go_wp2_with fail
  refine (same_self _ _).mono ?_
  rintro r w1 ⟨rfl, rfl⟩
  go_wp2
  go_ret
  exact ⟨rfl, Below.refl _ _⟩

end Go.Proofs.YtjlbbnjcdickgabDoor
