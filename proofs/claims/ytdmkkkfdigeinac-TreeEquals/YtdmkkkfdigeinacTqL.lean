/- The law TreeEquals, walked. -/
import Derived.Test.YtdmkkkfdigeinacTqC
namespace Go.Proofs.Ytdmkkkfdigeinac
open Go.RowKit

/-- Are two trees the same? -/
noncomputable def eqd (S T : Tr) : Bool := @decide (S = T) (Classical.propDecidable _)
theorem eqd_of {S T : Tr} {r : Bool} (h : r = true ↔ S = T) : r = eqd S T := by
  rw [Bool.eq_iff_iff, h]; unfold eqd; exact (@decide_eq_true_iff _ (Classical.propDecidable _)).symm
theorem eqd_self (S : Tr) : eqd S S = true := (eqd_of (r := true) ⟨fun _ => rfl, fun _ => rfl⟩).symm

theorem tequal_d (m : Nat) (u v : Value) (S T : Tr) (w : World) (h1 : At w m u S) (h2 : At w m v T) : Calls Try.prog 4 #[u, v] w fun e w' => e = .returned (.bool (eqd S T)) ∧ Below w.heap.size w w' :=
  (tequal_any m u v S T w h1 h2).mono fun _ _ ⟨⟨r, h, hr⟩, b⟩ => ⟨by rw [h, eqd_of hr], b⟩
theorem requal_d (m : Nat) (u v : Value) (S T : Tr) (w : World) (h1 : At w m u S) (h2 : At w m v T) : Calls Try.prog 6 #[u, v] w fun e w' => e = .returned (.bool (eqd S T)) ∧ Below w.heap.size w w' :=
  (requal_any m u v S T w h1 h2).mono fun _ _ ⟨⟨r, h, hr⟩, b⟩ => ⟨by rw [h, eqd_of hr], b⟩

theorem leaf_at (t : ByteArray) (w : World) : At w 1 (.agg #[.int .i64 1, .bool false, .string t, .slice none 0 0]) (.mk 1 false t [] []) :=
  ⟨none, 0, 0, rfl, rfl, rfl, Nat.le_refl _, by omega, Or.inl rfl⟩

set_option maxHeartbeats 1000000 in
theorem leaf_any (t : ByteArray) (w : World) : Calls Try.prog 5 #[.string t] w fun e w' => e = .returned (.agg #[.int .i64 1, .bool false, .string t, .slice none 0 0]) ∧ Below w.heap.size w w' := by
  have B : ∀ o, Below w.heap.size w (w.alloc o) := fun o => (Below.refl _ _).alloc (Nat.le_refl _) o
  go_enter Try.func5, Try.ntmps5
  go_wp2
  refine bodyPost_ret (v := .agg #[.int .i64 1, .bool false, .string t, .slice none 0 0]) (by simp [results, Try.results5, go_sem]) rfl ⟨rfl, B _⟩

theorem leaf_xy : eqd (.mk 1 false ⟨#[120]⟩ [] []) (.mk 1 false ⟨#[121]⟩ [] []) = false := by
  rw [Bool.eq_false_iff]; intro h
  have := (@decide_eq_true_iff _ (Classical.propDecidable _)).1 h
  injection this with _ _ h3
  exact absurd h3 (by decide +kernel)

theorem tequal_b (w7 : World) (m : Nat) (u v : Value) (S T : Tr) (w : World) (b : Below w7.heap.size w7 w) (h1 : At w7 m u S) (h2 : At w7 m v T) : Calls Try.prog 4 #[u, v] w fun e w' => e = .returned (.bool (eqd S T)) ∧ Below w7.heap.size w7 w' :=
  (tequal_d m u v S T w (h1.below b) (h2.below b)).mono fun _ _ ⟨h, c⟩ => ⟨h, b.trans (c.mono b.size)⟩
theorem requal_b (w7 : World) (m : Nat) (u v : Value) (S T : Tr) (w : World) (b : Below w7.heap.size w7 w) (h1 : At w7 m u S) (h2 : At w7 m v T) : Calls Try.prog 6 #[u, v] w fun e w' => e = .returned (.bool (eqd S T)) ∧ Below w7.heap.size w7 w' :=
  (requal_d m u v S T w (h1.below b) (h2.below b)).mono fun _ _ ⟨h, c⟩ => ⟨h, b.trans (c.mono b.size)⟩
theorem tself_b (w7 : World) (m : Nat) (u : Value) (S : Tr) (w : World) (b : Below w7.heap.size w7 w) (h1 : At w7 m u S) : Calls Try.prog 4 #[u, u] w fun e w' => e = .returned (.bool true) ∧ Below w7.heap.size w7 w' :=
  (tequal_b w7 m u u S S w b h1 h1).mono fun _ _ ⟨h, c⟩ => ⟨by rw [h, eqd_self], c⟩
theorem rcopy_b (w7 : World) (m : Nat) (u v : Value) (S : Tr) (w : World) (b : Below w7.heap.size w7 w) (h1 : At w7 m u S) (h2 : At w m v S) : Calls Try.prog 6 #[v, u] w fun e w' => e = .returned (.bool true) ∧ Below w7.heap.size w7 w' :=
  (requal_d m v u S S w h2 (h1.below b)).mono fun _ _ ⟨h, c⟩ => ⟨by rw [h, eqd_self], b.trans (c.mono b.size)⟩
theorem copy_b (w7 : World) (m : Nat) (u : Value) (S : Tr) (w : World) (b : Below w7.heap.size w7 w) (h1 : At w7 m u S) : Calls Try.prog 7 #[u] w fun e w' => (∃ v, e = .returned v ∧ At w' m v S) ∧ Below w7.heap.size w7 w' :=
  (copy_any m u S w (h1.below b)).mono fun _ _ ⟨⟨v, h, hv⟩, c⟩ => ⟨⟨v, h, hv.at⟩, b.trans (c.mono b.size)⟩
theorem leaf_b (w7 : World) (t : ByteArray) (w : World) (b : Below w7.heap.size w7 w) : Calls Try.prog 5 #[.string t] w fun e w' => e = .returned (.agg #[.int .i64 1, .bool false, .string t, .slice none 0 0]) ∧ Below w7.heap.size w7 w' :=
  (leaf_any t w).mono fun _ _ ⟨h, c⟩ => ⟨h, b.trans (c.mono b.size)⟩

set_option maxHeartbeats 8000000 in
theorem equals_walk (m : Nat) (k : Int) (e : Bool) (t : ByteArray) (x : Option Addr) (n c : Nat) (k' : Int) (e' : Bool) (t' : ByteArray) (x' : Option Addr) (n' c' : Nat) (S T : Tr) (w : World)
    (h1 : At w m (.agg #[.int .i64 k, .bool e, .string t, .slice x n c]) S) (h2 : At w m (.agg #[.int .i64 k', .bool e', .string t', .slice x' n' c']) T) :
    Calls Try.prog 3 #[.agg #[.int .i64 k, .bool e, .string t, .slice x n c], .agg #[.int .i64 k', .bool e', .string t', .slice x' n' c']] w fun e w' => e = .returned (.bool true) ∧ Below w.heap.size w w' := by
  have H1 : Hid (At w m (.agg #[.int .i64 k, .bool e, .string t, .slice x n c]) S) := h1
  have H2 : Hid (At w m (.agg #[.int .i64 k', .bool e', .string t', .slice x' n' c']) T) := h2
  clear h1 h2
  have BW : ∀ o1 o2, Below w.heap.size w ((w.alloc o1).alloc o2) := fun o1 o2 => ((Below.refl _ _).alloc (Nat.le_refl _) o1).alloc (by rw [World.size_alloc]; omega) o2
  go_enter Try.func3, Try.ntmps3
  go_wp2_with fail
  have hs1 : (w.alloc (Obj.cells #[Value.int IntKind.i64 k, Value.bool e, Value.string t, Value.slice x n c] 25)).heap.size = w.heap.size + 1 := World.size_alloc _ _
  have hs2 : ((w.alloc (Obj.cells #[Value.int IntKind.i64 k, Value.bool e, Value.string t, Value.slice x n c] 25)).alloc (Obj.cells #[Value.int IntKind.i64 k', Value.bool e', Value.string t', Value.slice x' n' c'] 25)).heap.size = w.heap.size + 1 + 1 := by rw [World.size_alloc, hs1]
  have C0 : ((w.alloc (Obj.cells #[Value.int IntKind.i64 k, Value.bool e, Value.string t, Value.slice x n c] 25)).alloc (Obj.cells #[Value.int IntKind.i64 k', Value.bool e', Value.string t', Value.slice x' n' c'] 25)).cell? ⟨w.heap.size, 0, none⟩ = some (.int .i64 k) := by rw [World.cell?_alloc_old _ _ _ (by rw [hs1]; show w.heap.size ≠ _; omega), World.cell?_alloc_new]; rfl
  have C1 : ((w.alloc (Obj.cells #[Value.int IntKind.i64 k, Value.bool e, Value.string t, Value.slice x n c] 25)).alloc (Obj.cells #[Value.int IntKind.i64 k', Value.bool e', Value.string t', Value.slice x' n' c'] 25)).cell? ⟨w.heap.size, 1, none⟩ = some (.bool e) := by rw [World.cell?_alloc_old _ _ _ (by rw [hs1]; show w.heap.size ≠ _; omega), World.cell?_alloc_new]; rfl
  have C2 : ((w.alloc (Obj.cells #[Value.int IntKind.i64 k, Value.bool e, Value.string t, Value.slice x n c] 25)).alloc (Obj.cells #[Value.int IntKind.i64 k', Value.bool e', Value.string t', Value.slice x' n' c'] 25)).cell? ⟨w.heap.size, 2, none⟩ = some (.string t) := by rw [World.cell?_alloc_old _ _ _ (by rw [hs1]; show w.heap.size ≠ _; omega), World.cell?_alloc_new]; rfl
  have C3 : ((w.alloc (Obj.cells #[Value.int IntKind.i64 k, Value.bool e, Value.string t, Value.slice x n c] 25)).alloc (Obj.cells #[Value.int IntKind.i64 k', Value.bool e', Value.string t', Value.slice x' n' c'] 25)).cell? ⟨w.heap.size, 3, none⟩ = some (.slice x n c) := by rw [World.cell?_alloc_old _ _ _ (by rw [hs1]; show w.heap.size ≠ _; omega), World.cell?_alloc_new]; rfl
  have D0 : ((w.alloc (Obj.cells #[Value.int IntKind.i64 k, Value.bool e, Value.string t, Value.slice x n c] 25)).alloc (Obj.cells #[Value.int IntKind.i64 k', Value.bool e', Value.string t', Value.slice x' n' c'] 25)).cell? ⟨w.heap.size + 1, 0, none⟩ = some (.int .i64 k') := by rw [← hs1, World.cell?_alloc_new]; rfl
  have D1 : ((w.alloc (Obj.cells #[Value.int IntKind.i64 k, Value.bool e, Value.string t, Value.slice x n c] 25)).alloc (Obj.cells #[Value.int IntKind.i64 k', Value.bool e', Value.string t', Value.slice x' n' c'] 25)).cell? ⟨w.heap.size + 1, 1, none⟩ = some (.bool e') := by rw [← hs1, World.cell?_alloc_new]; rfl
  have D2 : ((w.alloc (Obj.cells #[Value.int IntKind.i64 k, Value.bool e, Value.string t, Value.slice x n c] 25)).alloc (Obj.cells #[Value.int IntKind.i64 k', Value.bool e', Value.string t', Value.slice x' n' c'] 25)).cell? ⟨w.heap.size + 1, 2, none⟩ = some (.string t') := by rw [← hs1, World.cell?_alloc_new]; rfl
  have D3 : ((w.alloc (Obj.cells #[Value.int IntKind.i64 k, Value.bool e, Value.string t, Value.slice x n c] 25)).alloc (Obj.cells #[Value.int IntKind.i64 k', Value.bool e', Value.string t', Value.slice x' n' c'] 25)).cell? ⟨w.heap.size + 1, 3, none⟩ = some (.slice x' n' c') := by rw [← hs1, World.cell?_alloc_new]; rfl
  have G1 : Hid (At ((w.alloc (Obj.cells #[Value.int IntKind.i64 k, Value.bool e, Value.string t, Value.slice x n c] 25)).alloc (Obj.cells #[Value.int IntKind.i64 k', Value.bool e', Value.string t', Value.slice x' n' c'] 25)) m (.agg #[.int .i64 k, .bool e, .string t, .slice x n c]) S) := H1.out.below (BW _ _)
  have G2 : Hid (At ((w.alloc (Obj.cells #[Value.int IntKind.i64 k, Value.bool e, Value.string t, Value.slice x n c] 25)).alloc (Obj.cells #[Value.int IntKind.i64 k', Value.bool e', Value.string t', Value.slice x' n' c'] 25)) m (.agg #[.int .i64 k', .bool e', .string t', .slice x' n' c']) T) := H2.out.below (BW _ _)
  have B0 : Hid (Below w.heap.size w ((w.alloc (Obj.cells #[Value.int IntKind.i64 k, Value.bool e, Value.string t, Value.slice x n c] 25)).alloc (Obj.cells #[Value.int IntKind.i64 k', Value.bool e', Value.string t', Value.slice x' n' c'] 25))) := BW _ _
  obtain ⟨G, hG⟩ : ∃ G, w.heap.size = G := ⟨_, rfl⟩
  rw [hG] at C0 C1 C2 C3 D0 D1 D2 D3 hs2 ⊢
  clear H1 H2 BW hs1 hG
  generalize ((w.alloc (Obj.cells #[Value.int IntKind.i64 k, Value.bool e, Value.string t, Value.slice x n c] 25)).alloc (Obj.cells #[Value.int IntKind.i64 k', Value.bool e', Value.string t', Value.slice x' n' c'] 25)) = w7 at *
  have b7 : Below w7.heap.size w7 w7 := Below.refl _ _
  refine (leaf_b w7 _ w7 b7).mono ?_
  rintro _ w8 ⟨rfl, b8⟩
  go_wp2_with fail
  refine (leaf_b w7 _ w8 b8).mono ?_
  rintro _ w9 ⟨rfl, b9⟩
  go_wp2_with fail
  refine (tequal_d 1 _ _ _ _ w9 (leaf_at _ _) (leaf_at _ _)).mono ?_
  rintro _ w10 ⟨rfl, c10⟩
  have b10 : Below w7.heap.size w7 w10 := b9.trans (c10.mono b9.size)
  rw [leaf_xy]
  clear b8 b9 c10
  go_wp2_with fail
  refine (leaf_b w7 _ w10 b10).mono ?_
  rintro _ w11 ⟨rfl, b11⟩
  go_wp2_with fail
  refine (leaf_b w7 _ w11 b11).mono ?_
  rintro _ w12 ⟨rfl, b12⟩
  go_wp2_with fail
  refine (tequal_d 1 _ _ _ _ w12 (leaf_at _ _) (leaf_at _ _)).mono ?_
  rintro _ w13 ⟨rfl, c13⟩
  have b13 : Below w7.heap.size w7 w13 := b12.trans (c13.mono b12.size)
  rw [eqd_self]
  clear b10 b11 b12 c13
  go_wp2_with fail
  have c0 : w13.cell? ⟨G, 0, none⟩ = some (.int .i64 k) := (b13.cell (p := ⟨G, 0, none⟩) (by show G < _; omega)).trans C0
  have c1 : w13.cell? ⟨G, 1, none⟩ = some (.bool e) := (b13.cell (p := ⟨G, 1, none⟩) (by show G < _; omega)).trans C1
  have c2 : w13.cell? ⟨G, 2, none⟩ = some (.string t) := (b13.cell (p := ⟨G, 2, none⟩) (by show G < _; omega)).trans C2
  have c3 : w13.cell? ⟨G, 3, none⟩ = some (.slice x n c) := (b13.cell (p := ⟨G, 3, none⟩) (by show G < _; omega)).trans C3
  have d0 : w13.cell? ⟨G + 1, 0, none⟩ = some (.int .i64 k') := (b13.cell (p := ⟨G + 1, 0, none⟩) (by show G + 1 < _; omega)).trans D0
  have d1 : w13.cell? ⟨G + 1, 1, none⟩ = some (.bool e') := (b13.cell (p := ⟨G + 1, 1, none⟩) (by show G + 1 < _; omega)).trans D1
  have d2 : w13.cell? ⟨G + 1, 2, none⟩ = some (.string t') := (b13.cell (p := ⟨G + 1, 2, none⟩) (by show G + 1 < _; omega)).trans D2
  have d3 : w13.cell? ⟨G + 1, 3, none⟩ = some (.slice x' n' c') := (b13.cell (p := ⟨G + 1, 3, none⟩) (by show G + 1 < _; omega)).trans D3
  have F1 : Hid (At w13 m (.agg #[.int .i64 k, .bool e, .string t, .slice x n c]) S) := G1.out.below b13
  have F2 : Hid (At w13 m (.agg #[.int .i64 k', .bool e', .string t', .slice x' n' c']) T) := G2.out.below b13
  have BF : Hid (Below w.heap.size w w13) := B0.out.trans (b13.mono B0.out.size)
  have hz1 : G < w13.heap.size := by have := b13.size; omega
  have hz2 : G + 1 < w13.heap.size := by have := b13.size; omega
  have qq : (eqd S T == eqd S T) = true := by simp
  clear C0 C1 C2 C3 D0 D1 D2 D3 G1 G2 B0 b13 b7 hs2
  have b0 : Below w13.heap.size w13 w13 := Below.refl _ _
  have hD : Below w13.heap.size w13 w13.drew := b0.drew
  go_region_held3 (fun W => W.cell? ⟨G, 0, none⟩ = some (.int .i64 k) ∧ W.cell? ⟨G, 1, none⟩ = some (.bool e) ∧ W.cell? ⟨G, 2, none⟩ = some (.string t) ∧ W.cell? ⟨G, 3, none⟩ = some (.slice x n c) ∧ W.cell? ⟨G + 1, 0, none⟩ = some (.int .i64 k') ∧ W.cell? ⟨G + 1, 1, none⟩ = some (.bool e') ∧ W.cell? ⟨G + 1, 2, none⟩ = some (.string t') ∧ W.cell? ⟨G + 1, 3, none⟩ = some (.slice x' n' c') ∧ Below w13.heap.size w13 W)
    (first
      | (refine ⟨c0, c1, c2, c3, d0, d1, d2, d3, b0⟩)
      | (refine ⟨c0, c1, c2, c3, d0, d1, d2, d3, hD⟩)
      | (refine ⟨(b8.cell (p := ⟨G, 0, none⟩) hz1).trans c0, (b8.cell (p := ⟨G, 1, none⟩) hz1).trans c1, (b8.cell (p := ⟨G, 2, none⟩) hz1).trans c2, (b8.cell (p := ⟨G, 3, none⟩) hz1).trans c3, (b8.cell (p := ⟨G + 1, 0, none⟩) hz2).trans d0, (b8.cell (p := ⟨G + 1, 1, none⟩) hz2).trans d1, (b8.cell (p := ⟨G + 1, 2, none⟩) hz2).trans d2, (b8.cell (p := ⟨G + 1, 3, none⟩) hz2).trans d3, b8⟩))
    (first
      | (go_at_call 4; have mk := done4; clear mk; refine (tself_b w13 m (.agg #[.int .i64 k, .bool e, .string t, .slice x n c]) S _ ?_ F1.out).mono ?_; exact b8; rintro e8 w8 ⟨rfl, b8⟩)
      | (go_at_call 4; refine (tequal_b w13 m (.agg #[.int .i64 k, .bool e, .string t, .slice x n c]) (.agg #[.int .i64 k', .bool e', .string t', .slice x' n' c']) S T _ ?_ F1.out F2.out).mono ?_; (first | exact b8 | exact hD); rintro e8 w8 ⟨rfl, b8⟩; have done4 : True := trivial)
      | (go_at_call 6; have mk := done7; clear mk; refine (rcopy_b w13 m (.agg #[.int .i64 k, .bool e, .string t, .slice x n c]) _ S _ ?_ F1.out hv).mono ?_; exact b8; rintro e8 w8 ⟨rfl, b8⟩)
      | (go_at_call 6; refine (requal_b w13 m (.agg #[.int .i64 k, .bool e, .string t, .slice x n c]) (.agg #[.int .i64 k', .bool e', .string t', .slice x' n' c']) S T _ ?_ F1.out F2.out).mono ?_; (first | exact b8 | exact hD); rintro e8 w8 ⟨rfl, b8⟩)
      | (go_at_call 7; refine (copy_b w13 m (.agg #[.int .i64 k, .bool e, .string t, .slice x n c]) S _ ?_ F1.out).mono ?_; exact b8; rintro e8 w8 ⟨⟨v9, rfl, hv⟩, b8⟩; have done7 : True := trivial))
  all_goals go_wp2
  all_goals go_ret
  all_goals exact ⟨rfl, BF.out.trans (b8.mono BF.out.size)⟩

end Go.Proofs.Ytdmkkkfdigeinac
