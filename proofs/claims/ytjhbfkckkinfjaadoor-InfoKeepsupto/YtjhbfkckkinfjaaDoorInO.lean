/- The laws' awake; walked. -/
import Derived.Test.YtjhbfkckkinfjaaDoorInN
namespace Go.Proofs.YtjhbfkckkinfjaaDoor
open Go.RowKit Go.Shelf

theorem inf_first : (#[.string fsP, .int .u8 0, .int .u8 0, .int .u8 0, .int .u8 0, .int .u8 0, .int .u8 0, .int .u8 0, .int .u8 0, .int .u8 0, .int .u8 0, .int .u8 0, .int .u8 0, .int .u8 0, .int .u8 0, .int .u8 0, .int .u8 0, .int .u8 0, .int .u8 0, .int .u8 0, .int .u8 0, .int .u8 0, .int .u8 0, .int .u8 0, .int .u8 0, .int .u8 0, .int .u8 0, .int .u8 0, .int .u8 0, .int .u8 0, .int .u8 0, .int .u8 0, .int .u8 0, .int .i64 96, .slice none 0 0, .string ⟨#[]⟩, .slice none 0 0] : Array Value) = infC fsP (fun _ => 0) 96 (.slice none 0 0) ⟨#[]⟩ (.slice none 0 0) := by rfl
theorem fs_ck : ckC fsP 96 (fun _ => emp) 0 ⟨#[]⟩ (fun _ => emp) 0 = 0 := by decide +kernel
theorem fs_pr : prT fsP (fun _ => 0) 96 (fun _ => emp) 0 ⟨#[]⟩ (fun _ => emp) 0 = lnT := by decide +kernel

set_option maxRecDepth 100000 in
set_option maxHeartbeats 4000000 in
theorem iaw_any (w : World) (hT : PT w) : Calls Tryd.prog 4 #[] w fun e w' => e = .returned (.bool true) ∧ Below w.heap.size w w' := by
  have CP := print_any fsP (fun _ => 0) 96 ⟨#[]⟩ none 0 0 (fun _ => emp) none 0 0 (fun _ => emp) w (fun i hi => absurd hi (by omega)) (fun i hi => absurd hi (by omega)) (Nat.le_refl _) (by omega) (fun i hi => absurd hi (by omega)) hT
  rw [fs_ck, prS_z rfl, fs_pr] at CP
  have e1 : (lnT.toList == lnT.toList) = true := by simp
  have e2 : (fsP.toList == fsP.toList) = true := by simp
  clear hT
  go_enter Tryd.func4, Tryd.ntmps4
  rw [show (⟨((List.append ([80, 97, 116, 104, 58, 32, 47, 100, 101, 112, 111, 116, 47, 115, 116, 111, 114, 101, 47, 48, 49, 50, 51, 52, 53, 54, 55, 56, 57, 97, 98, 99, 100] : List UInt8) [102, 103, 104, 105, 106, 107, 108, 109, 110, 112, 113, 114, 115, 118, 119, 120, 121, 122, 45, 97, 10, 72, 97, 115, 104, 58, 32, 115, 104, 97, 50, 53, 54, 58]).append (List.append ([48, 48, 48, 48, 48, 48, 48, 48, 48, 48, 48, 48, 48, 48, 48, 48, 48, 48, 48, 48, 48, 48, 48, 48, 48, 48, 48, 48, 48, 48, 48, 48, 48, 48] : List UInt8) [48, 48, 48, 48, 48, 48, 48, 48, 48, 48, 48, 48, 48, 48, 48, 48, 48, 48, 10, 83, 105, 122, 101, 58, 32, 57, 54, 10, 82, 101, 102, 115, 58, 10])).toArray⟩ : ByteArray) = lnT from rfl, show (⟨#[47, 100, 101, 112, 111, 116, 47, 115, 116, 111, 114, 101, 47, 48, 49, 50, 51, 52, 53, 54, 55, 56, 57, 97, 98, 99, 100, 102, 103, 104, 105, 106, 107, 108, 109, 110, 112, 113, 114, 115, 118, 119, 120, 121, 122, 45, 97]⟩ : ByteArray) = fsP from rfl]
  go_wp2_with fail
  rw [inf_first]
  refine CP.mono ?_
  rintro e w1 ⟨rfl, b1⟩
  clear CP
  go_wp2_with fail
  refine (parse_ln w1).mono ?_
  rintro e w2 ⟨rfl, b2⟩
  have B2 : Hid (Below w.heap.size w w2) := b1.trans (b2.mono b1.size)
  clear b1 b2
  generalize rhD ln1 = E
  have J0 : Inf ((w2.alloc (.cells (infC ⟨#[]⟩ (fun _ => 0) 0 (.slice none 0 0) ⟨#[]⟩ (.slice none 0 0)) 26)).alloc (.cells #[.int .i64 0, .int .i64 0] 34)) w2.heap.size ⟨#[]⟩ (fun _ => 0) 0 (.slice none 0 0) ⟨#[]⟩ (.slice none 0 0) := (Inf.box w2 26 _ _ _ _ _ _).same (Below.heap_alloc _ _ _ (by rw [World.size_alloc]; omega))
  have F0 : Hid (Row .i64 ((w2.alloc (.cells (infC ⟨#[]⟩ (fun _ => 0) 0 (.slice none 0 0) ⟨#[]⟩ (.slice none 0 0)) 26)).alloc (.cells #[.int .i64 0, .int .i64 0] 34)) (w2.heap.size + 1) 2 (fun _ => 0)) := by
    have := Row.arr (k := .i64) (w := w2.alloc (.cells (infC ⟨#[]⟩ (fun _ => 0) 0 (.slice none 0 0) ⟨#[]⟩ (.slice none 0 0)) 26)) (e := 34) (C := #[.int .i64 0, .int .i64 0]) (n := 2) (f := fun _ => 0) (fun j hj => by rcases (show j = 0 ∨ j = 1 from by omega) with rfl | rfl <;> rfl)
    rw [World.size_alloc] at this
    exact this
  have B3 : Hid (Below w.heap.size w ((w2.alloc (.cells (infC ⟨#[]⟩ (fun _ => 0) 0 (.slice none 0 0) ⟨#[]⟩ (.slice none 0 0)) 26)).alloc (.cells #[.int .i64 0, .int .i64 0] 34))) := (B2.out.alloc B2.out.size _).alloc (by rw [World.size_alloc]; have := B2.out.size; omega) _
  go_wp2_with (refine wpList_store_inf (by rfl) (.tmp 3) (.tmp 12) (by rfl) (by rfl) (by rfl) J0 rfl rfl (by rfl) ?_; intro W5 R5 U5; refine Hid.out ?_)
  unfold Hid
  have F5 : Row .i64 W5 (w2.heap.size + 1) 2 (fun _ => 0) := F0.out.upd U5 (by rw [World.size_alloc, World.size_alloc]; omega) (by omega)
  have B5 : Hid (Below w.heap.size w W5) := U5.below B3.out B2.out.size (by rw [World.size_alloc, World.size_alloc]; have := B2.out.size; omega)
  have hw : Hid (w.heap.size ≤ w2.heap.size) := B2.out.size
  have p0 : W5.cell? ⟨w2.heap.size, 0, none⟩ = some (.string fsP) := by have := R5 0 _ rfl; simpa using this
  have p33 : W5.cell? ⟨w2.heap.size, 33, none⟩ = some (.int .i64 96) := by have := R5 33 _ (infL_tail _ _ _ _ _ _ 0); simpa using this
  have d0 := F5.cell 0 (by omega)
  have d1 := F5.cell 1 (by omega)
  have g0 := F5.free 0 (by omega)
  have g1 := F5.free 1 (by omega)
  clear J0 F0 B3 R5 U5 F5 B2
  generalize w2.heap.size = G at p0 p33 d0 d1 g0 g1 hw ⊢
  have n1 : G ≠ G + 1 := by omega
  have n2 : G + 1 ≠ G := by omega
  go_wp2
  go_ret
  exact ⟨rfl, (B5.out.setCell (by show _ ≤ G + 1; have := hw.out; omega) _).setCell (by show _ ≤ G + 1; have := hw.out; omega) _⟩

end Go.Proofs.YtjhbfkckkinfjaaDoor
