/- gauge.Make at the parts of a number, walked. -/
import Derived.Test.YtjlbbnjcdickgabDoorMKb
import Derived.Test.YtjlbbnjcdickgabDoorNNb
set_option maxRecDepth 4000
namespace Go.Proofs.YtjlbbnjcdickgabDoor
open Go.RowKit

theorem nearest_same (s : Bool) (m m' : Nat) (p p' : Int) (K : Nat) (hp : 0 ≤ p + K) (hp' : 0 ≤ p' + K) (h : m * 2 ^ (p + K).toNat = m' * 2 ^ (p' + K).toNat) : Ieee.double.nearest s m p = Ieee.double.nearest s m' p' := by
  have key : ∀ (a b : Nat) (i j : Int), i ≤ j → 0 ≤ i + K → a * 2 ^ (i + K).toNat = b * 2 ^ (j + K).toNat → Ieee.double.nearest s a i = Ieee.double.nearest s b j := by
    intro a b i j hij hi h
    obtain ⟨d, hd⟩ : ∃ d : Nat, j = i + d := ⟨(j - i).toNat, by omega⟩
    rw [hd, show (i + (d : Int) + (K : Int)).toNat = d + (i + K).toNat by omega, Nat.pow_add, ← Nat.mul_assoc] at h
    have h2 := Nat.eq_of_mul_eq_mul_right (Nat.two_pow_pos _) h
    have e := nearest_shift s b (i + (d : Int)) d
    rw [show i + (d : Int) - (d : Int) = i by omega] at e
    rw [h2, Nat.mul_comm b, hd, e]
  rcases Int.le_total p p' with h1 | h1
  · exact key m m' p p' h1 hp h
  · exact (key m' m p' p h1 hp' h.symm).symm

/-- A number's value, in units of the least place. -/
theorem num_value (x : Int) (he : exF x ≠ 2047) : mgF x * 2 ^ (plF x + 1074).toNat = (V Ieee.double.binade (x % 9223372036854775808).toNat : Nat) := by
  have hl : (x % 9223372036854775808).toNat < Ieee.double.infRung := by
    rw [dI]; have := exF_bd x; unfold exF at *; omega
  obtain ⟨m, i, e, hi, v⟩ := read_low Ieee.double _ hl
  have hr := read_num (x % 9223372036854775808) (by omega) (by omega) (by rw [← exF_low]; exact he)
  rw [← mgF_low, ← plF_low, e] at hr
  injection hr with _ hm hi2
  have hm0 : 0 ≤ mgF x := by have := frF_bd x; unfold mgF; split <;> omega
  rw [← v, hm, hi2, dL, show plF x - -1074 = plF x + 1074 by omega, Int.natCast_mul, Int.natCast_pow, show (((mgF x).toNat : Nat) : Int) = mgF x by omega]
  rfl

theorem pow_lt_imp (a b : Nat) (h : (2 : Int) ^ a < 2 ^ b) : a < b := by
  apply Nat.lt_of_not_le
  intro h2
  have := pow_mono_int b a h2
  omega

/-- The word that Make passes through. -/
theorem odd_word (o : Nat) (ho : 0 < o) (ho1 : o < 9007199254740992) : exF (flR o : Nat) ≠ 0 ∧ exF (flR o : Nat) ≠ 2047 ∧ sgF (flR o : Nat) = false ∧ mgF (flR o : Nat) * 2 ^ (plF (flR o : Nat) + 1074).toNat = (o : Int) * 2 ^ tt ∧ -52 ≤ plF (flR o : Nat) := by
  obtain ⟨fe, fs, fv⟩ := flR_fields' o (by omega)
  obtain ⟨T, hV, t1, t2, _⟩ := flR_int o (by omega)
  have hT : T = o := by
    have : o / 9007199254740992 = 0 := Nat.div_eq_of_lt ho1
    omega
  rw [hT] at hV
  have hv : mgF (flR o : Nat) * 2 ^ (plF (flR o : Nat) + 1074).toNat = (o : Int) * 2 ^ tt := by
    rw [fv, hV, Int.natCast_mul, Int.natCast_pow]; rfl
  have bf := frF_bd (flR o : Nat)
  have be := exF_bd (flR o : Nat)
  have p1 : 1 * (2 : Int) ^ tt ≤ (o : Int) * 2 ^ tt := Int.mul_le_mul_of_nonneg_right (by omega) (Int.le_of_lt (pow_pos_int _))
  have hmb : mgF (flR o : Nat) < 9007199254740992 := by unfold mgF; split <;> omega
  have hlow : -52 ≤ plF (flR o : Nat) := by
    have hp : -1074 ≤ plF (flR o : Nat) := by unfold plF; split <;> omega
    have q1 : mgF (flR o : Nat) * 2 ^ (plF (flR o : Nat) + 1074).toNat < 9007199254740992 * 2 ^ (plF (flR o : Nat) + 1074).toNat := Int.mul_lt_mul_of_pos_right hmb (pow_pos_int _)
    rw [hv, show (9007199254740992 : Int) = 2 ^ 53 by decide, ← Int.pow_add] at q1
    rw [Int.one_mul] at p1
    have q2 := pow_lt_imp _ _ (Int.lt_of_le_of_lt p1 q1)
    unfold tt at q2
    omega
  refine ⟨fun hz => ?_, fe, fs, hv, hlow⟩
  have hp : plF (flR o : Nat) = -1074 := by unfold plF; rw [if_pos hz]; rfl
  have hm : mgF (flR o : Nat) = frF (flR o : Nat) := by unfold mgF; rw [if_pos hz]
  rw [hp, hm, show ((-1074 : Int) + 1074).toNat = 0 by decide, Int.pow_zero, Int.mul_one] at hv
  have p2 := pow_mono_int 52 tt (by decide)
  rw [show (2 : Int) ^ 52 = 4503599627370496 by decide] at p2
  omega

set_option maxHeartbeats 1000000 in
theorem make_parts (x : Int) (o t : Nat) (w : World) (h0 : 0 ≤ x) (h1 : x ≤ 18446744073709551615) (he : exF x ≠ 2047) (ho : 0 < o) (hot : (o : Int) * 2 ^ t = mgF x) :
    Calls Tryd.prog 11 #[.int .i64 (if sgF x = true then -(o : Int) else o), .int .i64 (plF x + t)] w fun r w' => r = .returned (.float .f64 x.toNat) ∧ w' = w := by
  have be := exF_bd x
  have bm : mgF x < 9007199254740992 := by have := frF_bd x; unfold mgF; split <;> omega
  have bp : -1074 ≤ plF x ∧ plF x ≤ 971 := by unfold plF; split <;> omega
  have ho1 : (o : Int) < 9007199254740992 := by have := F_le (o : Int) _ t (by omega) hot; omega
  obtain ⟨yz, ye, ys, yv, yp⟩ := odd_word o ho (by omega)
  have hl := flR_lt o (by omega)
  have xv := num_value x he
  have hv : (o : Int) * 2 ^ (plF x + t + 1074).toNat = (V Ieee.double.binade (x % 9223372036854775808).toNat : Nat) := by
    rw [← xv, ← hot, Int.mul_assoc, ← Int.pow_add, show (plF x + (t : Int) + 1074).toNat = t + (plF x + 1074).toNat by omega]
  have my : 4503599627370496 ≤ mgF (flR o : Nat) := by have := frF_bd (flR o : Nat); unfold mgF; rw [if_neg yz]; omega
  have e1 : plF x + t + plF (flR o : Nat) + 52 ≤ 1023 := by
    have q0 : mgF x * 2 ^ (plF x + 1074).toNat < 2 ^ (53 + 2045) := by
      have a1 := pow_mono_int (plF x + 1074).toNat 2045 (by omega)
      have a2 : mgF x * 2 ^ (plF x + 1074).toNat ≤ 9007199254740991 * 2 ^ (plF x + 1074).toNat := Int.mul_le_mul_of_nonneg_right (by omega) (Int.le_of_lt (pow_pos_int _))
      have a3 : 9007199254740991 * (2 : Int) ^ (plF x + 1074).toNat ≤ 9007199254740991 * 2 ^ 2045 := Int.mul_le_mul_of_nonneg_left a1 (by decide)
      have a4 := pow_pos_int 2045
      rw [Int.pow_add, show (2 : Int) ^ 53 = 9007199254740992 by decide]
      generalize (2 : Int) ^ 2045 = Z at *
      generalize mgF x * 2 ^ (plF x + 1074).toNat = A at *
      generalize 9007199254740991 * (2 : Int) ^ (plF x + 1074).toNat = Bq at *
      omega
    rw [xv, ← hv] at q0
    have q1 : mgF (flR o : Nat) * 2 ^ (plF (flR o : Nat) + 1074).toNat * 2 ^ (plF x + t + 1074).toNat < 2 ^ (53 + 2045) * 2 ^ tt := by
      rw [yv, Int.mul_assoc, Int.mul_comm ((2 : Int) ^ tt), ← Int.mul_assoc]
      exact Int.mul_lt_mul_of_pos_right q0 (pow_pos_int _)
    rw [Int.mul_assoc, ← Int.pow_add, ← Int.pow_add] at q1
    have q2 : 4503599627370496 * (2 : Int) ^ ((plF (flR o : Nat) + 1074).toNat + (plF x + t + 1074).toNat) ≤ mgF (flR o : Nat) * 2 ^ ((plF (flR o : Nat) + 1074).toNat + (plF x + t + 1074).toNat) := Int.mul_le_mul_of_nonneg_right my (Int.le_of_lt (pow_pos_int _))
    rw [show (4503599627370496 : Int) = 2 ^ 52 by decide, ← Int.pow_add] at q2
    have q3 := pow_lt_imp _ _ (Int.lt_of_le_of_lt q2 q1)
    unfold tt at q3
    omega
  have hR : Ieee.double.nearest false (mgF (flR o : Nat)).toNat (plF (flR o : Nat) + (plF x + t)) = (x % 9223372036854775808).toNat := by
    have s1 : Ieee.double.nearest false (mgF (flR o : Nat)).toNat (plF (flR o : Nat) + (plF x + t)) = Ieee.double.nearest false o (plF x + t) := by
      apply nearest_same false _ _ _ _ 2148 (by omega) (by omega)
      have hh : ((((mgF (flR o : Nat)).toNat * 2 ^ (plF (flR o : Nat) + (plF x + t) + ((2148 : Nat) : Int)).toNat : Nat)) : Int) = ((o * 2 ^ (plF x + t + ((2148 : Nat) : Int)).toNat : Nat) : Int) := by
        rw [Int.natCast_mul, Int.natCast_mul, Int.natCast_pow, Int.natCast_pow, Int.toNat_of_nonneg (by omega)]
        rw [show (plF (flR o : Nat) + (plF x + (t : Int)) + ((2148 : Nat) : Int)).toNat = (plF (flR o : Nat) + 1074).toNat + (plF x + (t : Int) + 1074).toNat by omega, show (plF x + (t : Int) + ((2148 : Nat) : Int)).toNat = tt + (plF x + (t : Int) + 1074).toNat by unfold tt; omega]
        rw [Int.pow_add, Int.pow_add, ← Int.mul_assoc, ← Int.mul_assoc]
        congr 1
      exact Int.ofNat_inj.mp hh
    rw [s1, nearest_eq _ _ _ _ (by omega), word_f]
    have hr : rungOf Ieee.double o (plF x + t) = (x % 9223372036854775808).toNat := by
      apply rung_exact _ _ (by omega)
      rw [dL, show plF x + (t : Int) - -1074 = plF x + t + 1074 by omega, show ((-1074 : Int) - (plF x + t)).toNat = 0 by omega, Nat.pow_zero, Nat.mul_one]
      have : ((o * 2 ^ (plF x + (t : Int) + 1074).toNat : Nat) : Int) = (V Ieee.double.binade (x % 9223372036854775808).toNat : Nat) := by
        rw [← hv, Int.natCast_mul, Int.natCast_pow]; rfl
      exact Int.ofNat_inj.mp this
    rw [hr, dI]
    unfold exF at he be
    omega
  have LD := fun w => Ldexp_fin (flR o : Nat) (plF x + t) w (by omega) (by omega) ys yz ye (by omega) e1
  rw [hR, Int.toNat_natCast] at LD
  have OW : ∀ m : Int, -9007199254740992 < m → m < 9007199254740992 → m.natAbs = o → ((ofW m : Nat) : Int) = (if m < 0 then 9223372036854775808 else 0) + (flR o : Int) := by
    intro m a b c
    have := ofW_eq m (by omega) (by omega)
    rw [c] at this
    exact this
  have FO : floatOfInt .f64 (o : Int) = flR o := by
    show Ieee.double.nearest (decide ((o : Int) < 0)) (o : Int).natAbs 0 = _
    rw [decide_eq_false (by omega), show (o : Int).natAbs = o by omega, nearest_int o (by omega)]
  have E1 : -1174 ≤ plF x + (t : Int) ∧ plF x + (t : Int) ≤ 1024 ∧ -1074 - (plF x + (t : Int)) ≤ 0 := by omega
  clear hR hv xv e1 yv my yz ye ys yp hot bp bm
  have hsg : sgF x = decide (9223372036854775808 ≤ x) := by
    unfold sgF; rw [Bool.eq_iff_iff]; simp; omega
  generalize plF x + (t : Int) = E at *
  cases hs : sgF x
  · rw [if_neg (by decide)]
    have hx : x < 9223372036854775808 := by rw [hs] at hsg; simpa using hsg.symm
    have CS := fun w => copysign_any (x % 9223372036854775808) (ofW (o : Int) : Int) w (by omega) (by omega) (by omega) (by rw [OW o (by omega) (by omega) (by omega), if_neg (by omega)]; omega)
    rw [OW o (by omega) (by omega) (by omega), if_neg (by omega), show (0 : Int) + (flR o : Int) = (flR o : Int) by omega, Int.toNat_natCast, show ((flR o : Int) / 9223372036854775808 * 9223372036854775808 + x % 9223372036854775808 % 9223372036854775808).toNat = x.toNat by omega] at CS
    obtain ⟨Oi, hOi⟩ : ∃ Oi : Int, (o : Int) = Oi := ⟨_, rfl⟩
    have b0 : 0 < Oi := by omega
    have b1 : Oi < 9007199254740992 := by omega
    rw [hOi] at FO ⊢
    generalize flR o = Y at *
    generalize x.toNat = X at *
    generalize (x % 9223372036854775808).toNat = XL at *
    clear OW hOi hs hsg hx h0 h1 he be hl ho ho1
    obtain ⟨E2, E3, E4⟩ := E1
    go_enter Tryd.func11, Tryd.ntmps11
    go_wp2_with fail
    refine (LD _).mono ?_
    rintro r w1 ⟨rfl, rfl⟩
    go_wp2_with fail
    refine (CS _).mono ?_
    rintro r w1 ⟨rfl, rfl⟩
    clear LD CS
    go_wp2
    go_ret
    exact ⟨rfl, rfl⟩
  · rw [if_pos rfl]
    have hx : 9223372036854775808 ≤ x := by rw [hs] at hsg; simpa using hsg.symm
    have CS := fun w => copysign_any (x % 9223372036854775808) (ofW (-(o : Int)) : Int) w (by omega) (by omega) (by omega) (by rw [OW (-(o : Int)) (by omega) (by omega) (by omega), if_pos (by omega)]; omega)
    rw [show ((ofW (-(o : Int)) : Int) / 9223372036854775808 * 9223372036854775808 + x % 9223372036854775808 % 9223372036854775808).toNat = x.toNat by rw [OW (-(o : Int)) (by omega) (by omega) (by omega), if_pos (by omega)]; omega, Int.toNat_natCast] at CS
    have FM : floatOfInt .f64 (-(o : Int)) = ofW (-(o : Int)) := rfl
    obtain ⟨Oi, hOi⟩ : ∃ Oi : Int, (o : Int) = Oi := ⟨_, rfl⟩
    have b0 : 0 < Oi := by omega
    have b1 : Oi < 9007199254740992 := by omega
    have w1 : IntKind.u64.wrap (-Oi) = 18446744073709551616 - Oi := by rw [IntKind.wrap_u64]; omega
    have w2 : IntKind.u64.wrap (-(18446744073709551616 - Oi)) = Oi := by rw [IntKind.wrap_u64]; omega
    rw [hOi] at FO FM CS ⊢
    generalize flR o = Y at *
    generalize ofW (-Oi) = YM at *
    generalize x.toNat = X at *
    generalize (x % 9223372036854775808).toNat = XL at *
    clear OW hOi hs hsg hx h0 h1 he be hl ho ho1
    obtain ⟨E2, E3, E4⟩ := E1
    go_enter Tryd.func11, Tryd.ntmps11
    go_wp2_with fail
    refine (LD _).mono ?_
    rintro r w1 ⟨rfl, rfl⟩
    go_wp2_with fail
    refine (CS _).mono ?_
    rintro r w1 ⟨rfl, rfl⟩
    clear LD CS
    go_wp2
    go_ret
    exact ⟨rfl, rfl⟩

end Go.Proofs.YtjlbbnjcdickgabDoor
