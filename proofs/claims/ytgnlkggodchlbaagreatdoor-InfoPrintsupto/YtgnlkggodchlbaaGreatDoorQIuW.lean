/- The law InfoPrints walked. -/
import Derived.Test.YtgnlkggodchlbaaGreatDoorQInO
import Derived.Test.YtgnlkggodchlbaaGreatDoorQIuB
import Derived.Test.YtgnlkggodchlbaaGreatDoorQFpA
import Derived.Test.YtgnlkggodchlbaaGreatDoorQIuC
namespace Go.Proofs.YtgnlkggodchlbaaGreatDoor
open Go.RowKit Go.Shelf

set_option maxRecDepth 100000 in
set_option maxHeartbeats 4000000 in
theorem iprt_walk (P : ByteArray) (D : Nat → Int) (z : Int) (F : ByteArray) (xr : Option Addr) (nr cr : Nat) (fr : Nat → ByteArray) (xs : Option Addr) (ns cz : Nat) (fs : Nat → ByteArray) (w : World)
    (hr : SIs w xr nr fr) (hs : SIs w xs ns fs) (hnc : nr ≤ cr ∧ ns ≤ cz) (hm : nr ≤ 1048576 ∧ ns ≤ 1048576) (hsz : ∀ i, i < ns → (fs i).size ≤ 1048576) (_hrz : ∀ i, i < nr → (fr i).size ≤ 1048576) (_hD : ∀ j, 0 ≤ D j ∧ D j < 256) (_hPz : P.size ≤ 1048576) (_hFz : F.size ≤ 1048576) (hT : PT w) :
    Calls Tryz.prog 3 #[.agg (infC P D z (.slice xr nr cr) F (.slice xs ns cz))] w fun e w' => e = .returned (.bool true) ∧ Below w.heap.size w w' := by
  have I0 : Inf (w.alloc (.cells (infC P D z (.slice xr nr cr) F (.slice xs ns cz)) 26)) w.heap.size P D z (.slice xr nr cr) F (.slice xs ns cz) := Inf.box _ _ _ _ _ _ _ _
  have B0 : Below w.heap.size w (w.alloc (.cells (infC P D z (.slice xr nr cr) F (.slice xs ns cz)) 26)) := (Below.refl _ _).alloc (Nat.le_refl _) _
  have CA := fun W (b : Below w.heap.size w W) => iaw_any W (hT.below b)
  have CP := fun W (b : Below w.heap.size w W) => print_any P D z F xr nr cr fr xs ns cz fs W (hr.below b (Nat.le_refl _)) (hs.below b (Nat.le_refl _)) hnc.2 (by omega) (fun i hi => by have := hsz i hi; omega) (hT.below b)
  have CR := fun W (b : Below w.heap.size w W) => rprt_any P D z F xr nr cr fr xs ns cz fs W (hr.below b (Nat.le_refl _)) (hs.below b (Nat.le_refl _)) hm.2 hsz (hT.below b)
  have CF := fun W (b : Below w.heap.size w W) => fing_any P D z F xr nr cr fr xs ns cz W (hr.below b (Nat.le_refl _)) hnc.1 (hT.below b)
  have CG := fun W (b : Below w.heap.size w W) => rfng_any P D z F xr nr cr fr xs ns cz W (hr.below b (Nat.le_refl _)) (hT.below b)
  have CL := fun W => plain_any P D z F xr nr cr xs ns cz W
  generalize prS (ckC P z fr nr F fs ns) (prT P D z fr nr F fs ns) = T1 at CP CR
  generalize ckC P z fr nr F fs ns = c1 at CP CR
  generalize prS (fpC P z fr nr F) (fpT P D z fr nr) = T2 at CF CG
  generalize fpC P z fr nr F = c2 at CF CG
  have eT1 : (T1.toList == T1.toList) = true := by simp
  have eT2 : (T2.toList == T2.toList) = true := by simp
  have ec1 : (c1 == c1) = true := by simp
  have ec2 : (c2 == c2) = true := by simp
  clear hr hs hnc hm hsz hT _hrz _hD _hPz _hFz
  go_enter Tryz.func3, Tryz.ntmps3
  go_wp2_with fail
  generalize (w.alloc (.cells (infC P D z (.slice xr nr cr) F (.slice xs ns cz)) 26)) = w0 at I0 B0 ⊢
  refine (CA w0 B0).mono ?_
  rintro e w1 ⟨rfl, b1⟩
  have I1 := I0.below b1 I0.lt
  have B1 : Hid (Below w.heap.size w w1) := B0.trans (b1.mono B0.size)
  clear I0 B0 b1 CA
  go_wp2_with (first | (refine wpList_load_infG (by rfl) (.tmp 1) (by rfl) (by rfl) I1 ?_) | (refine wpList_load_infG (by rfl) (.tmp 2) (by rfl) (by rfl) I1 ?_))
  refine (CP w1 B1.out).mono ?_
  rintro e w2 ⟨rfl, b2⟩
  have I2 := I1.below b2 I1.lt
  have B2 : Hid (Below w.heap.size w w2) := B1.out.trans (b2.mono B1.out.size)
  clear I1 B1 b2 CP
  go_wp2_with (first | (refine wpList_load_infG (by rfl) (.tmp 1) (by rfl) (by rfl) I2 ?_) | (refine wpList_load_infG (by rfl) (.tmp 2) (by rfl) (by rfl) I2 ?_))
  refine (CL w2).mono ?_
  rintro e w3 ⟨rfl, b3⟩
  have I3 := I2.below b3 I2.lt
  have B3 : Hid (Below w.heap.size w w3) := B2.out.trans (b3.mono B2.out.size)
  clear I2 B2 b3
  go_wp2_with fail
  refine (CR w3 B3.out).mono ?_
  rintro e w4 ⟨rfl, b4⟩
  have I4 := I3.below b4 I3.lt
  have B4 : Hid (Below w.heap.size w w4) := B3.out.trans (b4.mono B3.out.size)
  clear I3 B3 b4 CR
  go_wp2_with (first | (refine wpList_load_infG (by rfl) (.tmp 1) (by rfl) (by rfl) I4 ?_) | (refine wpList_load_infG (by rfl) (.tmp 2) (by rfl) (by rfl) I4 ?_))
  refine (CF w4 B4.out).mono ?_
  rintro e w5 ⟨rfl, b5⟩
  have I5 := I4.below b5 I4.lt
  have B5 : Hid (Below w.heap.size w w5) := B4.out.trans (b5.mono B4.out.size)
  clear I4 B4 b5 CF
  go_wp2_with (first | (refine wpList_load_infG (by rfl) (.tmp 1) (by rfl) (by rfl) I5 ?_) | (refine wpList_load_infG (by rfl) (.tmp 2) (by rfl) (by rfl) I5 ?_))
  refine (CL w5).mono ?_
  rintro e w6 ⟨rfl, b6⟩
  have B6 : Hid (Below w.heap.size w w6) := B5.out.trans (b6.mono B5.out.size)
  clear I5 B5 b6 CL
  go_wp2_with fail
  refine (CG w6 B6.out).mono ?_
  rintro e w7 ⟨rfl, b7⟩
  have B7 : Hid (Below w.heap.size w w7) := B6.out.trans (b7.mono B6.out.size)
  clear B6 b7 CG
  go_wp2
  go_ret
  exact ⟨rfl, B7.out⟩
end Go.Proofs.YtgnlkggodchlbaaGreatDoor
