/- The document's Parse; spath.Base and Full, walked. -/
import Derived.Test.YtjhbfkckkinfjaaDoorPtE
namespace Go.Proofs.YtjhbfkckkinfjaaDoor
open Go.RowKit

theorem dirS_list : dirS.toList = [47, 100, 101, 112, 111, 116, 47, 115, 116, 111, 114, 101, 47] := by decide +kernel

theorem prC_size {p : ByteArray} (h : prC p = 0) : 46 ≤ p.size := by
  by_cases g : shp p
  · exact g.1
  · rw [prC_shape g] at h; omega

set_option maxHeartbeats 400000 in
theorem base_any (p : ByteArray) (w : World) :
    Calls Tryd.prog 27 #[.string p] w fun e w' => e = .returned (.tuple #[.string (iffy (prC p) (p.extract 13 p.size)), .int .i64 (prC p)]) ∧ Below w.heap.size w w' := by
  by_cases h : prC p = 0
  · have h13 : 13 ≤ p.size := by have := prC_size h; omega
    rw [iffy_yes h]
    have H : Hid (prC p = 0) := h
    rw [h]
    clear h
    go_enter Tryd.func27, Tryd.ntmps27
    go_wp2_with fail
    refine (parse_any _ _).mono ?_
    rintro e w1 ⟨rfl, B⟩
    rw [H.out]
    go_wp2
    go_ret2
    exact ⟨rfl, B⟩
  · rw [iffy_no h]
    have H : (prC p == 0) = false := by rw [beq_eq_false_iff_ne]; exact h
    have H' : (prC p != 0) = true := by simp only [bne, H]; rfl
    clear h
    go_enter Tryd.func27, Tryd.ntmps27
    go_wp2_with fail
    refine (parse_any _ _).mono ?_
    rintro e w1 ⟨rfl, B⟩
    go_wp2
    go_ret2
    exact ⟨rfl, B⟩

end Go.Proofs.YtjhbfkckkinfjaaDoor
