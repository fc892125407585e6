/- gauge.ToInt and the document's ToInt at every word: the same. -/
import Derived.Test.YtjlbbnjcdickgabDoorGU
namespace Go.Proofs.YtjlbbnjcdickgabDoor
open Go.RowKit

/-- What ToInt tells of a word, and its error. -/
def tsN (x : Int) : Int := if exF x = 2047 then 0 else outN (sgF x) (trOE (mgF x) (plF x))
def tsE (x : Int) : Int := if exF x = 2047 then (if frF x = 0 then 1 else 40) else outE (sgF x) (trOE (mgF x) (plF x))

set_option maxHeartbeats 1000000 in
theorem toint_any (x : Int) (w : World) (h0 : 0 ≤ x) (h1 : x ≤ 18446744073709551615) :
    Calls Tryd.prog 13 #[.float .f64 x.toNat] w fun r w' => r = .returned (.tuple #[.int .i64 (tsN x), .int .i64 (tsE x)]) ∧ w' = w := by
  by_cases he : exF x = 2047
  · have hN : Hid (tsN x = 0) := by unfold Hid tsN; rw [if_pos he]
    by_cases hf : frF x = 0
    · have hE : Hid (tsE x = 1) := by unfold Hid tsE; rw [if_pos he, if_pos hf]
      have hr := read_inf x h0 h1 he hf
      have hnn : Hid (nn x.toNat = false) := by unfold Hid nn fnan; rw [hr]; rfl
      have a1 : (FloatKind.f64.format.order x.toNat 14114281232179134464 == some .lt) = sgF x := by
        obtain ⟨c1, c2, c3⟩ := size_lo
        rw [show FloatKind.f64.format = Ieee.double from rfl, Bool.eq_iff_iff, flt_iff, c1, c2, c3]
        unfold fnan fside fsize
        rw [hr]
        cases sgF x <;> simp [Ieee.Datum.isNaN, dside]
      have a2 : (FloatKind.f64.format.order x.toNat 4890909195324358656 == some .gt || FloatKind.f64.format.order x.toNat 4890909195324358656 == some .eq) = !sgF x := by
        obtain ⟨c1, c2, c3⟩ := size_hi
        rw [show FloatKind.f64.format = Ieee.double from rfl, Bool.eq_iff_iff, Bool.or_eq_true, fgt_iff, feq_iff, c1, c2, c3]
        unfold fnan fside fsize
        rw [hr]
        cases sgF x <;> simp [Ieee.Datum.isNaN, dside]
      clear he hf hr
      generalize x.toNat = X at *
      generalize sgF x = s at *
      cases s
      all_goals
        simp only [Bool.not_true, Bool.not_false] at a2
        go_enter Tryd.func13, Tryd.ntmps13
        go_wp2_with fail
        refine (isnan_any _ _).mono ?_
        rintro r w1 ⟨rfl, rfl⟩
        rw [hnn.out]
        go_wp2_with fail
        go_ret2
        exact ⟨by rw [hN.out, hE.out]; rfl, rfl⟩
    · have hE : Hid (tsE x = 40) := by unfold Hid tsE; rw [if_pos he, if_neg hf]
      have hnn : Hid (nn x.toNat = true) := read_nan x h0 h1 he hf
      generalize x.toNat = X at *
      go_enter Tryd.func13, Tryd.ntmps13
      go_wp2_with fail
      refine (isnan_any _ _).mono ?_
      rintro r w1 ⟨rfl, rfl⟩
      rw [hnn.out]
      go_wp2_with fail
      go_ret2
      exact ⟨by rw [hN.out, hE.out]; rfl, rfl⟩
  · refine (toint_num x w h0 h1 he).mono ?_
    rintro r w1 ⟨rfl, rfl⟩
    exact ⟨by unfold tsN tsE; rw [if_neg he, if_neg he], rfl⟩

set_option maxHeartbeats 1000000 in
theorem rtoint_any (x : Int) (w : World) (h0 : 0 ≤ x) (h1 : x ≤ 18446744073709551615) :
    Calls Tryd.prog 14 #[.int .u64 x] w fun r w' => r = .returned (.tuple #[.int .i64 (tsN x), .int .i64 (tsE x)]) ∧ w' = w := by
  by_cases he : exF x = 2047
  · have hN : Hid (tsN x = 0) := by unfold Hid tsN; rw [if_pos he]
    have RP := fun w => rparts_odd x w h0 h1 he
    by_cases hf : frF x = 0
    · have hE : Hid (tsE x = 1) := by unfold Hid tsE; rw [if_pos he, if_pos hf]
      simp only [hf, if_true] at RP
      clear he hf
      generalize sgF x = s at *
      cases s
      all_goals
        go_enter Tryd.func14, Tryd.ntmps14
        go_wp2_with fail
        refine (RP _).mono ?_
        rintro r w1 ⟨rfl, rfl⟩
        clear RP
        go_wp2
        go_ret2
        exact ⟨by rw [hN.out, hE.out]; rfl, rfl⟩
    · have hE : Hid (tsE x = 40) := by unfold Hid tsE; rw [if_pos he, if_neg hf]
      simp only [hf, if_false] at RP
      clear he hf
      go_enter Tryd.func14, Tryd.ntmps14
      go_wp2_with fail
      refine (RP _).mono ?_
      rintro r w1 ⟨rfl, rfl⟩
      clear RP
      go_wp2
      go_ret2
      exact ⟨by rw [hN.out, hE.out]; rfl, rfl⟩
  · by_cases hm : mgF x = 0
    · have hz : exF x = 0 ∧ frF x = 0 := by
        have := frF_bd x
        unfold mgF at hm
        split at hm
        · exact ⟨by assumption, hm⟩
        · omega
      have ht : trOE (mgF x) (plF x) = 0 := by rw [hm]; unfold trOE; simp
      have hN : Hid (tsN x = 0) := by unfold Hid tsN; rw [if_neg he, ht]; unfold outN; simp
      have hE : Hid (tsE x = 0) := by unfold Hid tsE; rw [if_neg he, ht]; unfold outE; simp
      have RP := fun w => rparts_zero x w h0 h1 hz.1 hz.2
      clear he hm hz ht
      go_enter Tryd.func14, Tryd.ntmps14
      go_wp2_with fail
      refine (RP _).mono ?_
      rintro r w1 ⟨rfl, rfl⟩
      clear RP
      go_wp2_with fail
      refine (size_any 0 _ (by omega) (by omega)).mono ?_
      rintro r w2 ⟨rfl, rfl⟩
      go_wp2_with fail
      go_loop [7, 8] (fun a b => a = .int .u64 0 ∧ b = .int .i64 0) (fun _ _ => 0)
      case atStart => exact ⟨rfl, rfl⟩
      case round =>
        obtain ⟨rfl, rfl⟩ := hrel
        go_wp2_with fail
        go_loop [7, 9] (fun a b => a = .int .u64 0 ∧ b = .int .i64 0) (fun _ _ => 0)
        case atStart => exact ⟨rfl, rfl⟩
        case round =>
          obtain ⟨rfl, rfl⟩ := hrel
          go_wp2
          go_ret2
          exact ⟨by rw [hN.out, hE.out]; rfl, rfl⟩
    · refine (rtoint_num x w h0 h1 he hm).mono ?_
      rintro r w1 ⟨⟨O, t, _, hO, hM, rfl⟩, rfl⟩
      refine ⟨?_, rfl⟩
      unfold tsN tsE
      rw [if_neg he, if_neg he, trOE_odd O _ _ t hM]

end Go.Proofs.YtjlbbnjcdickgabDoor
