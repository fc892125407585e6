/- awake; Size, Fork and Reset of a State. -/
import Derived.Test.YtholbaefmncphaaDoorOfI
namespace Go.Proofs.YtholbaefmncphaaDoor
open Go.RowKit
theorem dig_cell {W : World} {g : Nat} {F : Nat → Int} (R : Row .u8 W g 32 F) (D : ∀ i, i < 32 → F i = abcD.getD i 0) (i : Nat) (hi : i < 32) {x : Int} (hx : abcD.getD i 0 = x) : W.cell? ⟨g, i, none⟩ = some (.int .u8 x) := by
  rw [R.cell i hi, D i hi, hx]
theorem awake_b {w w1 W2 : World} {o : Obj} (b1 : Below w.heap.size w w1) (U2 : Upd (w1.alloc o) W2 w1.heap.size) : Below w.heap.size w W2 :=
  U2.below (b1.alloc b1.size _) b1.size (by rw [World.size_alloc]; have := b1.size; omega)
set_option maxRecDepth 100000 in
set_option maxHeartbeats 1000000 in
theorem awake_any (w : World) (hK : KT w) : Calls Tryd.prog 14 #[] w fun e w' => e = .returned (.bool true) ∧ Below w.heap.size w w' := by
  have HK : Hid (KT w) := hK
  clear hK
  go_enter Tryd.func14, Tryd.ntmps14
  go_wp2_with fail
  refine (of_any abcS _ (by decide) HK.out).mono ?_
  rintro e w1 ⟨rfl, b1⟩
  have D : Hid (∀ i, i < 32 → dg (hw (bt (msg abcS)) (nb abcS)) i = abcD.getD i 0) := abc_digest
  generalize dg (hw (bt (msg abcS)) (nb abcS)) = F at D ⊢
  go_wp2_with (refine wpList_store_any (by rfl) 23 (.tmp 1) (.tmp 2) (by rfl) w1.heap.size (by rfl) (by rfl) (Row.rep (n := 32) (z := 0) rfl) Tryd.sz23 (by rfl) ?_; intro W2 R2 U2; have B2 := awake_b b1 U2; have c0 : W2.cell? ⟨w1.heap.size, 0, none⟩ = some (.int .u8 186) := dig_cell R2 D.out 0 (by omega) (by rfl); have c1 : W2.cell? ⟨w1.heap.size, 1, none⟩ = some (.int .u8 120) := dig_cell R2 D.out 1 (by omega) (by rfl); have c2 : W2.cell? ⟨w1.heap.size, 2, none⟩ = some (.int .u8 22) := dig_cell R2 D.out 2 (by omega) (by rfl); have c3 : W2.cell? ⟨w1.heap.size, 3, none⟩ = some (.int .u8 191) := dig_cell R2 D.out 3 (by omega) (by rfl); have c30 : W2.cell? ⟨w1.heap.size, 30, none⟩ = some (.int .u8 21) := dig_cell R2 D.out 30 (by omega) (by rfl); have c31 : W2.cell? ⟨w1.heap.size, 31, none⟩ = some (.int .u8 173) := dig_cell R2 D.out 31 (by omega) (by rfl); clear U2 R2 b1; generalize w1.heap.size = gd at *)
  go_ret
  exact ⟨rfl, B2⟩

theorem Stt.there {w : World} {g : Nat} {n : Int} {h f : Nat → Int} (s : Stt w g n h f) : w.there g 0 73 := fun j hj => by
  rw [Nat.zero_add]
  refine ⟨?_, s.fr j hj⟩
  have := s.range j ((sl n h f)[j]'(by rw [sl_length]; exact hj)) (List.getElem?_eq_getElem _)
  rw [Nat.zero_add] at this
  rw [this]
  rfl
theorem Stt.stored {w : World} {g : Nat} (th : w.there g 0 73) (n : Int) (h f : Nat → Int) : Stt (w.setCells g 0 (sl n h f)) g n h f := by
  refine Stt.of_range (World.rangeAt_setCells_same _ _ _ _ (by rw [sl_length]; exact th)) (fun j hj => ?_)
  rw [World.frozen?_setCells]
  have := (th j hj).2
  rw [Nat.zero_add] at this
  exact this

theorem hst_sl (h : Nat → Int) : hst h = (sl 0 h (fun _ => 0)).toArray := by kernel_rfl

end Go.Proofs.YtholbaefmncphaaDoor
