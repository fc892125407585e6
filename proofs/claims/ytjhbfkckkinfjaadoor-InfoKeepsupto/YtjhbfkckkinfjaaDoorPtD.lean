/- spath.Parse, Base, Full and the document's Parse, walked. -/
import Derived.Test.YtjhbfkckkinfjaaDoorPtC
namespace Go.Proofs.YtjhbfkckkinfjaaDoor
open Go.RowKit

/-- What every path begins with. -/
def dirS : ByteArray := ⟨#[47, 100, 101, 112, 111, 116, 47, 115, 116, 111, 114, 101, 47]⟩
/-- Does it begin so? -/
def pre (p : ByteArray) : Bool := (p.extract 0 13).toList == dirS.toList
def pHash (p : ByteArray) : ByteArray := p.extract 13 45
def pLab (p : ByteArray) : ByteArray := p.extract 46 p.size
/-- Has it a path's shape? -/
def shp (p : ByteArray) : Prop := 46 ≤ p.size ∧ pre p = true ∧ bt p 45 = 45
instance (p : ByteArray) : Decidable (shp p) := inferInstanceAs (Decidable (_ ∧ _ ∧ _))
def prC (p : ByteArray) : Int := if shp p then (if hshOk (pHash p) then lab (pLab p) else 131) else 132
/-- x where the path is good, else nothing. -/
def iffy (c : Int) (x : ByteArray) : ByteArray := if c = 0 then x else ⟨#[]⟩
def prH (p : ByteArray) : ByteArray := iffy (prC p) (pHash p)
def prL (p : ByteArray) : ByteArray := iffy (prC p) (pLab p)
theorem iffy_no {c : Int} (h : c ≠ 0) (x : ByteArray) : iffy c x = ⟨#[]⟩ := if_neg h
theorem iffy_yes {c : Int} (h : c = 0) (x : ByteArray) : iffy c x = x := if_pos h

theorem prC_shape {p : ByteArray} (h : ¬ shp p) : prC p = 132 := if_neg h
theorem prC_hash {p : ByteArray} (h : shp p) (g : ¬ hshOk (pHash p)) : prC p = 131 := by unfold prC; rw [if_pos h, if_neg g]
theorem prC_lab {p : ByteArray} (h : shp p) (g : hshOk (pHash p)) : prC p = lab (pLab p) := by unfold prC; rw [if_pos h, if_pos g]

set_option maxHeartbeats 400000 in
theorem hasP_yes (p : ByteArray) (w : World) (h0 : 13 ≤ p.size) (h : ((p.extract 0 13).toList == dirS.toList) = true) :
    Calls Tryd.prog 51 #[.string p, .string dirS] w fun e w' => e = .returned (.bool true) ∧ w' = w := by
  have hz : dirS.size = 13 := rfl
  go_enter Tryd.func51, Tryd.ntmps51
  go_wp2
  go_ret
  exact ⟨rfl, rfl⟩
set_option maxHeartbeats 400000 in
theorem hasP_no (p : ByteArray) (w : World) (h0 : 13 ≤ p.size) (h : ((p.extract 0 13).toList == dirS.toList) = false) :
    Calls Tryd.prog 51 #[.string p, .string dirS] w fun e w' => e = .returned (.bool false) ∧ w' = w := by
  have hz : dirS.size = 13 := rfl
  go_enter Tryd.func51, Tryd.ntmps51
  go_wp2
  go_ret
  exact ⟨rfl, rfl⟩
set_option maxHeartbeats 400000 in
theorem hasP_short (p : ByteArray) (w : World) (h0 : p.size < 13) :
    Calls Tryd.prog 51 #[.string p, .string dirS] w fun e w' => e = .returned (.bool false) ∧ w' = w := by
  have hz : dirS.size = 13 := rfl
  go_enter Tryd.func51, Tryd.ntmps51
  go_wp2
  go_ret
  exact ⟨rfl, rfl⟩

/-- Begins it with Dir? -/
def hpB (p : ByteArray) : Bool := decide (13 ≤ p.size) && pre p
theorem hasP_any (p : ByteArray) (w : World) :
    Calls Tryd.prog 51 #[.string p, .string dirS] w fun e w' => e = .returned (.bool (hpB p)) ∧ w' = w := by
  unfold hpB
  by_cases h0 : 13 ≤ p.size
  · rw [decide_eq_true h0, Bool.true_and]
    cases h : pre p
    · exact hasP_no p w h0 h
    · exact hasP_yes p w h0 h
  · rw [decide_eq_false h0, Bool.false_and]
    exact hasP_short p w (by omega)

set_option maxHeartbeats 400000 in
theorem scutP_any (p : ByteArray) (w : World) :
    Calls Tryd.prog 43 #[.string p, .string dirS] w fun e w' => e = .returned (.tuple #[.string (if hpB p then p.extract 13 p.size else p), .bool (hpB p)]) ∧ w' = w := by
  have hz : dirS.size = 13 := rfl
  cases h : hpB p
  · have H : Hid (hpB p = false) := h
    clear h
    rw [if_neg (by decide)]
    go_enter Tryd.func43, Tryd.ntmps43
    go_wp2_with fail
    refine (hasP_any _ _).mono ?_
    rintro e w1 ⟨rfl, rfl⟩
    rw [H.out]
    go_wp2
    go_ret2
    exact ⟨rfl, rfl⟩
  · have H : Hid (hpB p = true) := h
    have h13 : 13 ≤ p.size := by
      unfold hpB at h
      rw [Bool.and_eq_true, decide_eq_true_eq] at h
      exact h.1
    clear h
    rw [if_pos rfl]
    go_enter Tryd.func43, Tryd.ntmps43
    go_wp2_with fail
    refine (hasP_any _ _).mono ?_
    rintro e w1 ⟨rfl, rfl⟩
    rw [H.out]
    go_wp2
    go_ret2
    exact ⟨rfl, rfl⟩

set_option maxHeartbeats 400000 in
theorem cutP_any (p : ByteArray) (w : World) :
    Calls Tryd.prog 29 #[.string p, .string dirS] w fun e w' => e = .returned (.tuple #[.string (if hpB p then p.extract 13 p.size else p), .bool (hpB p)]) ∧ w' = w := by
  cases h : hpB p
  · have C := scutP_any p w
    rw [h, if_neg (by decide)] at C
    rw [if_neg (by decide)]
    have HC := C
    clear C h
    go_enter Tryd.func29, Tryd.ntmps29
    go_wp2_with fail
    refine HC.mono ?_
    rintro e w1 ⟨rfl, rfl⟩
    go_wp2
    go_ret2
    exact ⟨rfl, rfl⟩
  · have C := scutP_any p w
    rw [h, if_pos rfl] at C
    rw [if_pos rfl]
    have HC := C
    clear C h
    go_enter Tryd.func29, Tryd.ntmps29
    go_wp2_with fail
    refine HC.mono ?_
    rintro e w1 ⟨rfl, rfl⟩
    go_wp2
    go_ret2
    exact ⟨rfl, rfl⟩

end Go.Proofs.YtjhbfkckkinfjaaDoor
