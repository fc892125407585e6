/- gauge.ToInt and the document's ToInt at every word: the same. -/
import Derived.Test.YtjlbbnjcdickgacDoorGU
namespace Go.Proofs.YtjlbbnjcdickgacDoor
open Go.RowKit

/-- What ToInt tells of a word, and its error. -/
def tsN (x : Int) : Int := if exF x = 2047 then 0 else outN (sgF x) (trOE (mgF x) (plF x))
def tsE (x : Int) : Int := if exF x = 2047 then (if frF x = 0 then 1 else 40) else outE (sgF x) (trOE (mgF x) (plF x))

set_option maxHeartbeats 1000000 in
theorem toint_any (x : Int) (w : World) (h0 : 0 ≤ x) (h1 : x ≤ 18446744073709551615) :
    Calls Tryd.prog 19 #[.float .f64 x.toNat] w fun r w' => r = .returned (.tuple #[.int .i64 (tsN x), .int .i64 (tsE x)]) ∧ w' = w := by
  by_cases he : exF x = 2047
  · have hN : Hid (tsN x = 0) := by unfold Hid tsN; rw [if_pos he]
    by_cases hf : frF x = 0
    · have hE : Hid (tsE x = 1) := by unfold Hid tsE; rw [if_pos he, if_pos hf]
      have hr := read_inf x h0 h1 he hf
      have hnn : Hid (nn x.toNat = false) := by unfold Hid nn fnan; rw [hr]; rfl
      have a1 : (FloatKind.f64.format.order x.toNat 14114281232179134464 == some .lt) = sgF x := by
        obtain ⟨c1, c2, c3⟩ := size_lo
        rw [show FloatKind.f64.format = Ieee.double from rfl, Bool.eq_iff_iff, flt_iff, c1, c2, c3]
        unfold fnan fside fsize
        rw [hr]
        cases sgF x <;> simp [Ieee.Datum.isNaN, dside]
      have a2 : (FloatKind.f64.format.order x.toNat 4890909195324358656 == some .gt || FloatKind.f64.format.order x.toNat 4890909195324358656 == some .eq) = !sgF x := by
        obtain ⟨c1, c2, c3⟩ := size_hi
        rw [show FloatKind.f64.format = Ieee.double from rfl, Bool.eq_iff_iff, Bool.or_eq_true, fgt_iff, feq_iff, c1, c2, c3]
        unfold fnan fside fsize
        rw [hr]
        cases sgF x <;> simp [Ieee.Datum.isNaN, dside]
      clear he hf hr
      generalize x.toNat = X at *
      generalize sgF x = s at *
      cases s
      all_goals
        simp only [Bool.not_true, Bool.not_false] at a2
        go_enter Tryd.func19, Tryd.ntmps19
        go_wp2_with fail
        refine (isnan_any _ _).mono ?_
        rintro r w1 ⟨rfl, rfl⟩
        rw [hnn.out]
        go_wp2_with fail
        go_ret2
        exact ⟨by rw [hN.out, hE.out]; rfl, rfl⟩
    · have hE : Hid (tsE x = 40) := by unfold Hid tsE; rw [if_pos he, if_neg hf]
      have hnn : Hid (nn x.toNat = true) := read_nan x h0 h1 he hf
      generalize x.toNat = X at *
      go_enter Tryd.func19, Tryd.ntmps19
      go_wp2_with fail
      refine (isnan_any _ _).mono ?_
      rintro r w1 ⟨rfl, rfl⟩
      rw [hnn.out]
      go_wp2_with fail
      go_ret2
      exact ⟨by rw [hN.out, hE.out]; rfl, rfl⟩
  · refine (toint_num x w h0 h1 he).mono ?_
    rintro r w1 ⟨rfl, rfl⟩
    exact ⟨by unfold tsN tsE; rw [if_neg he, if_neg he], rfl⟩

end Go.Proofs.YtjlbbnjcdickgacDoor
