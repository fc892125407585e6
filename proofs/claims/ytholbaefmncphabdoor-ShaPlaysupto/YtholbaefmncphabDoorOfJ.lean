/- awake; Size, Fork and Reset of a State. -/
import Derived.Test.YtholbaefmncphabDoorOfI
namespace Go.Proofs.YtholbaefmncphabDoor
open Go.RowKit
theorem dig_cell {W : World} {g : Nat} {F : Nat → Int} (R : Row .u8 W g 32 F) (D : ∀ i, i < 32 → F i = abcD.getD i 0) (i : Nat) (hi : i < 32) {x : Int} (hx : abcD.getD i 0 = x) : W.cell? ⟨g, i, none⟩ = some (.int .u8 x) := by
  rw [R.cell i hi, D i hi, hx]
theorem awake_b {w w1 W2 : World} {o : Obj} (b1 : Below w.heap.size w w1) (U2 : Upd (w1.alloc o) W2 w1.heap.size) : Below w.heap.size w W2 :=
  U2.below (b1.alloc b1.size _) b1.size (by rw [World.size_alloc]; have := b1.size; omega)
set_option maxRecDepth 100000 in
set_option maxHeartbeats 1000000 in
theorem awake_any (w : World) (hK : KT w) : Calls Tryd.prog 7 #[] w fun e w' => e = .returned (.bool true) ∧ Below w.heap.size w w' := by
  have HK : Hid (KT w) := hK
  clear hK
  go_enter Tryd.func7, Tryd.ntmps7
  go_wp2_with fail
  refine (of_any abcS _ (by decide) HK.out).mono ?_
  rintro e w1 ⟨rfl, b1⟩
  have D : Hid (∀ i, i < 32 → dg (hw (bt (msg abcS)) (nb abcS)) i = abcD.getD i 0) := abc_digest
  generalize dg (hw (bt (msg abcS)) (nb abcS)) = F at D ⊢
  go_wp2_with (refine wpList_store_any (by rfl) 36 (.tmp 1) (.tmp 2) (by rfl) w1.heap.size (by rfl) (by rfl) (Row.rep (n := 32) (z := 0) rfl) Tryd.sz36 (by rfl) ?_; intro W2 R2 U2; have B2 := awake_b b1 U2; have c0 : W2.cell? ⟨w1.heap.size, 0, none⟩ = some (.int .u8 186) := dig_cell R2 D.out 0 (by omega) (by rfl); have c1 : W2.cell? ⟨w1.heap.size, 1, none⟩ = some (.int .u8 120) := dig_cell R2 D.out 1 (by omega) (by rfl); have c2 : W2.cell? ⟨w1.heap.size, 2, none⟩ = some (.int .u8 22) := dig_cell R2 D.out 2 (by omega) (by rfl); have c3 : W2.cell? ⟨w1.heap.size, 3, none⟩ = some (.int .u8 191) := dig_cell R2 D.out 3 (by omega) (by rfl); have c30 : W2.cell? ⟨w1.heap.size, 30, none⟩ = some (.int .u8 21) := dig_cell R2 D.out 30 (by omega) (by rfl); have c31 : W2.cell? ⟨w1.heap.size, 31, none⟩ = some (.int .u8 173) := dig_cell R2 D.out 31 (by omega) (by rfl); clear U2 R2 b1; generalize w1.heap.size = gd at *)
  go_ret
  exact ⟨rfl, B2⟩

theorem size_wrote (g : Nat) (s : ByteArray) (w : World) (H : Wrote w g s) : Calls Tryd.prog 10 #[.pointer (some ⟨g, 0, none⟩)] w fun e w' => e = .returned (.int .i64 s.size) ∧ w' = w := by
  have c0 := H.size
  clear H
  go_enter Tryd.func10, Tryd.ntmps10
  go_wp2
  go_ret
  exact ⟨rfl, rfl⟩

theorem Stt.there {w : World} {g : Nat} {n : Int} {h f : Nat → Int} (s : Stt w g n h f) : w.there g 0 73 := fun j hj => by
  rw [Nat.zero_add]
  refine ⟨?_, s.fr j hj⟩
  have := s.range j ((sl n h f)[j]'(by rw [sl_length]; exact hj)) (List.getElem?_eq_getElem _)
  rw [Nat.zero_add] at this
  rw [this]
  rfl
theorem Stt.stored {w : World} {g : Nat} (th : w.there g 0 73) (n : Int) (h f : Nat → Int) : Stt (w.setCells g 0 (sl n h f)) g n h f := by
  refine Stt.of_range (World.rangeAt_setCells_same _ _ _ _ (by rw [sl_length]; exact th)) (fun j hj => ?_)
  rw [World.frozen?_setCells]
  have := (th j hj).2
  rw [Nat.zero_add] at this
  exact this

set_option maxRecDepth 100000 in
set_option maxHeartbeats 1000000 in
theorem fork_wrote (g : Nat) (s : ByteArray) (w : World) (H : Wrote w g s) : Calls Tryd.prog 14 #[.pointer (some ⟨g, 0, none⟩)] w fun e w' => ∃ g', e = .returned (.pointer (some ⟨g', 0, none⟩)) ∧ w.heap.size ≤ g' ∧ g' < w'.heap.size ∧ Wrote w' g' s ∧ Below w.heap.size w w' := by
  have q1 := run_zero_st
  have q2 := zst_size
  obtain ⟨f, S0, F0⟩ := H
  have S : Hid (Stt w g s.size (hw (bt s) (s.size / 64)) f) := S0
  have F : Hid (FB (bt s) s.size f) := F0
  have hgl : g < w.heap.size := S0.lt
  clear S0 F0
  generalize hH : hw (bt s) (s.size / 64) = X at S
  have HH : Hid (hw (bt s) (s.size / 64) = X) := hH
  clear hH
  go_enter Tryd.func14, Tryd.ntmps14
  go_wp2_with (first
    | (refine wpList_load_mid (by rfl) 34 (.tmp 5) (by rfl) g 0 (by rfl) (sl s.size X f) _ (Stt.range S.out) Tryd.underlying34 rfl (by rw [Tryd.size34, sl_length]) ?_)
    | (refine wpList_store_mid (by rfl) 34 (.tmp 3) (.tmp 6) (by rfl) w.heap.size 0 (sl s.size X f).toArray (by rfl) (by rfl) (by rw [sl_size]; exact there_zst _) (by rw [Tryd.size34, sl_size]) (sl_one _ _ _) ?_; clear q1 q2; have R : Hid (Stt ((w.alloc (.cells zst 34)).setCells w.heap.size 0 (sl s.size X f)) w.heap.size s.size X f) := Stt.stored (there_zst w) _ _ _; have B : Hid (Below w.heap.size w ((w.alloc (.cells zst 34)).setCells w.heap.size 0 (sl s.size X f))) := setCells_below _ (Nat.le_refl _) _ _ _ _ ((Below.refl _ _).alloc (Nat.le_refl _) _); generalize (w.alloc (.cells zst 34)).setCells w.heap.size 0 (sl s.size X f) = W2 at R B ⊢))
  go_ret
  exact ⟨_, rfl, Nat.le_refl _, R.out.lt, ⟨f, by rw [HH.out]; exact R.out, F.out⟩, B.out⟩

theorem hst_sl (h : Nat → Int) : hst h = (sl 0 h (fun _ => 0)).toArray := by kernel_rfl

set_option maxRecDepth 100000 in
set_option maxHeartbeats 1000000 in
theorem reset_wrote (g : Nat) (s : ByteArray) (w : World) (H : Wrote w g s) : Calls Tryd.prog 15 #[.pointer (some ⟨g, 0, none⟩)] w fun e w' => e = .returned (.tuple #[]) ∧ Wrote w' g ByteArray.empty ∧ w.grownBy w' (some g) := by
  have q1 := run_zero_st
  have q2 := zst_size
  have q3 := hst_fold stw
  have q4 := cs_size .u32 8 stw
  have hgl := H.lt
  have HH : Hid (Wrote w g s) := H
  clear H
  go_enter Tryd.func15, Tryd.ntmps15
  go_wp2_with fail
  refine (startWords_any _).mono ?_
  rintro e w1 ⟨rfl, b1⟩
  have H1 : Hid (Wrote w1 g s) := HH.out.below b1 hgl
  have T1 : Hid (w1.there g 0 73) := by
    obtain ⟨f, S, _⟩ := H1.out
    exact S.there
  have G1 : w.grownBy w1 (some g) := gb_below b1 _
  clear b1 HH hgl H1
  go_wp2_with (refine wpList_store_mid (by rfl) 34 (.tmp 5) (.tmp 4) (by rfl) g 0 (hst stw) (by rfl) (by rfl) (by rw [hst_sl, sl_size]; exact T1.out) (by rw [Tryd.size34, hst_sl, sl_size]) (by rw [hst_sl]; exact sl_one _ _ _) ?_; rw [hst_sl, List.toList_toArray]; have R : Hid (Stt (w1.setCells g 0 (sl 0 stw (fun _ => 0))) g 0 stw (fun _ => 0)) := Stt.stored T1.out _ _ _; have G : Hid (w.grownBy (w1.setCells g 0 (sl 0 stw (fun _ => 0))) (some g)) := gb_trans G1 (gb_setCells _ _ _ _); generalize w1.setCells g 0 (sl 0 stw (fun _ => 0)) = W2 at R G ⊢)
  go_end0
  exact ⟨rfl, Wrote.none R.out (fun _ => ⟨Int.le_refl 0, by show (0 : Int) < 256; decide⟩), G.out⟩
end Go.Proofs.YtholbaefmncphabDoor
