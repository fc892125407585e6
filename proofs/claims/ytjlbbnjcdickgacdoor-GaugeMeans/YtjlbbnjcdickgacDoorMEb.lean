/- The running mean's methods. -/
import Derived.Test.YtjlbbnjcdickgacDoorMEa
namespace Go.Proofs.YtjlbbnjcdickgacDoor
open Go.RowKit

set_option maxHeartbeats 400000 in
theorem isinf_inf (x : Int) (w : World) (h0 : 0 ≤ x) (h1 : x ≤ 18446744073709551615) (he : exF x = 2047) (hf : frF x = 0) :
    Calls Tryd.prog 21 #[.float .f64 x.toNat, .int .i64 0] w fun e w' => e = .returned (.bool true) ∧ w' = w := by
  have hm : (x % 9223372036854775808).toNat = 9218868437227405312 := by unfold exF at he; unfold frF at hf; omega
  have g1 : (FloatKind.f64.format.order 9218868437227405312 9218868437227405311 == some .gt) = true := by decide +kernel
  have AB := fun w => abs_any x w h0 h1
  rw [hm] at AB
  generalize x.toNat = X at *
  clear hm
  go_enter Tryd.func21, Tryd.ntmps21
  go_wp2_with fail
  refine (AB _).mono ?_
  rintro r w1 ⟨rfl, rfl⟩
  clear AB
  go_wp2
  go_ret
  exact ⟨rfl, rfl⟩

theorem nn_num (x : Int) (h0 : 0 ≤ x) (h1 : x ≤ 18446744073709551615) (he : exF x ≠ 2047) : nn x.toNat = false := by
  have h := read_num x h0 h1 he
  show (Ieee.double.read x.toNat).isNaN = false
  rw [h]
  rfl
theorem nn_inf (x : Int) (h0 : 0 ≤ x) (h1 : x ≤ 18446744073709551615) (he : exF x = 2047) (hf : frF x = 0) : nn x.toNat = false := by
  have h := read_inf x h0 h1 he hf
  show (Ieee.double.read x.toNat).isNaN = false
  rw [h]
  rfl
theorem nn_nan (x : Int) (h0 : 0 ≤ x) (h1 : x ≤ 18446744073709551615) (he : exF x = 2047) (hf : frF x ≠ 0) : nn x.toNat = true := read_nan x h0 h1 he hf

/-- Block g is a mean: its value, its count. -/
structure MN (w : World) (g : Nat) (V n : Nat) : Prop where
  c0 : w.cell? ⟨g, 0, none⟩ = some (.float .f64 V)
  c1 : w.cell? ⟨g, 1, none⟩ = some (.int .i64 (n : Int))
  f0 : w.frozen? ⟨g, 0, none⟩ = false
  f1 : w.frozen? ⟨g, 1, none⟩ = false
theorem MN.same {w w' : World} {g V n : Nat} (h : MN w g V n) (e : w'.heap[g]? = w.heap[g]?) : MN w' g V n :=
  ⟨(World.cell?_of_block (w := w) (w' := w') (a := ⟨g, 0, none⟩) e).trans h.c0, (World.cell?_of_block (w := w) (w' := w') (a := ⟨g, 1, none⟩) e).trans h.c1, (World.frozen?_of_block (w := w) (w' := w') (a := ⟨g, 0, none⟩) e).trans h.f0, (World.frozen?_of_block (w := w) (w' := w') (a := ⟨g, 1, none⟩) e).trans h.f1⟩
theorem MN.lt {w : World} {g V n : Nat} (h : MN w g V n) : g < w.heap.size := World.block_lt_of_cell? _ _ h.c0
/-- What Add leaves alone. -/
structure MU (w w' : World) (g : Nat) : Prop where
  os : w'.os = w.os
  tape : w'.tape = w.tape
  output : w'.output = w.output
  size : w'.heap.size = w.heap.size
  block : ∀ k, k ≠ g → w'.heap[k]? = w.heap[k]?
theorem mn_put {w : World} {g V n : Nat} (h : MN w g V n) (q r m : Nat) : MN (((w.drewN q).setCell ⟨g, 0, none⟩ (.float .f64 r)).setCell ⟨g, 1, none⟩ (.int .i64 (m : Int))) g r m ∧ MU w (((w.drewN q).setCell ⟨g, 0, none⟩ (.float .f64 r)).setCell ⟨g, 1, none⟩ (.int .i64 (m : Int))) g := by
  have o1 : ∀ (w : World) (x : Value), (w.setCell ⟨g, 0, none⟩ x).cell? ⟨g, 1, none⟩ = w.cell? ⟨g, 1, none⟩ := fun w x => World.cell?_setCell_other _ _ _ _ (fun c => by cases c)
  have o0 : ∀ (w : World) (x : Value), (w.setCell ⟨g, 1, none⟩ x).cell? ⟨g, 0, none⟩ = w.cell? ⟨g, 0, none⟩ := fun w x => World.cell?_setCell_other _ _ _ _ (fun c => by cases c)
  have d0 : (w.drewN q).cell? ⟨g, 0, none⟩ = some (.float .f64 V) := h.c0
  have d1 : (w.drewN q).cell? ⟨g, 1, none⟩ = some (.int .i64 (n : Int)) := h.c1
  refine ⟨⟨?_, ?_, ?_, ?_⟩, ⟨rfl, rfl, rfl, ?_, fun k hk => ?_⟩⟩
  · rw [o0]; exact World.cell?_setCell_same _ _ _ d0
  · exact World.cell?_setCell_same _ _ _ ((o1 _ _).trans d1)
  · rw [World.frozen?_setCell, World.frozen?_setCell]; exact h.f0
  · rw [World.frozen?_setCell, World.frozen?_setCell]; exact h.f1
  · simp
  · rw [Below.heap_setCell _ _ _ k hk, Below.heap_setCell _ _ _ k hk]; rfl

set_option maxHeartbeats 800000 in
theorem madd_odd (x : Int) (g V n : Nat) (w : World) (h0 : 0 ≤ x) (h1 : x ≤ 18446744073709551615) (he : exF x = 2047) (M : MN w g V n) :
    Calls Tryd.prog 10 #[.pointer (some ⟨g, 0, none⟩), .float .f64 x.toNat] w fun e w' => e = .returned (.int .i64 40) ∧ w' = w := by
  have NA := isnan_any x.toNat
  by_cases hf : frF x = 0
  · rw [nn_inf x h0 h1 he hf] at NA
    have II := fun w => isinf_inf x w h0 h1 he hf
    generalize x.toNat = X at *
    go_enter Tryd.func10, Tryd.ntmps10
    go_wp2_with fail
    refine (NA _).mono ?_
    rintro r w1 ⟨rfl, rfl⟩
    go_wp2_with fail
    refine (II _).mono ?_
    rintro r w1 ⟨rfl, rfl⟩
    clear NA II
    go_wp2
    go_ret
    exact ⟨rfl, rfl⟩
  · rw [nn_nan x h0 h1 he hf] at NA
    generalize x.toNat = X at *
    go_enter Tryd.func10, Tryd.ntmps10
    go_wp2_with fail
    refine (NA _).mono ?_
    rintro r w1 ⟨rfl, rfl⟩
    clear NA
    go_wp2
    go_ret
    exact ⟨rfl, rfl⟩

/-- What Add of a number leaves. -/
def AddOK (w w' : World) (g V n X : Nat) : Prop := ∃ r, MN w' g r (n + 1) ∧ MU w w' g ∧ (n = 0 → r = X) ∧ (n ≠ 0 → Bl V X r)

set_option maxHeartbeats 800000 in
theorem madd_num (x : Int) (g V n : Nat) (w : World) (h0 : 0 ≤ x) (h1 : x ≤ 18446744073709551615) (he : exF x ≠ 2047) (M : MN w g V n) (hn : n ≤ 9223372036854775806) :
    Calls Tryd.prog 10 #[.pointer (some ⟨g, 0, none⟩), .float .f64 x.toNat] w fun e w' => e = .returned (.int .i64 0) ∧ AddOK w w' g V n x.toNat := by
  have NA := isnan_any x.toNat
  rw [nn_num x h0 h1 he] at NA
  have II := fun w => isinf_num x 0 w h0 h1 he (.inr (.inl rfl))
  generalize x.toNat = X at *
  have rsf : ∀ (a : Addr) (v : Nat) (w : World) (m : Mode), (store a (.float .f64 v) m).run Tryd.prog w = stored Tryd.prog w a (.float .f64 v) m := fun a v w m => run_store Tryd.prog w a _ m rfl
  have HM : Hid (MN w g V n) := M
  have c0 := M.c0
  have c1 := M.c1
  have f0 := M.f0
  have f1 := M.f1
  clear M
  go_enter Tryd.func10, Tryd.ntmps10
  go_wp2_with fail
  refine (NA _).mono ?_
  rintro r w1 ⟨rfl, rfl⟩
  go_wp2_with fail
  refine (II _).mono ?_
  rintro r w1 ⟨rfl, rfl⟩
  clear NA II
  by_cases h : n = 0
  · subst h
    have PP : Hid _ := mn_put HM.out 0 X 1
    go_wp2
    go_ret
    exact ⟨rfl, X, PP.out.1, PP.out.2, fun _ => rfl, fun h => absurd rfl h⟩
  · have hb : ((n : Int) == 0) = false := by simp; omega
    have hb2 : (n : Int) ≠ 0 := by omega
    go_wp2_with fail
    refine (blend_any V X _).mono ?_
    rintro e w2 ⟨r, q, rfl, rfl, HB⟩
    have HBl : Hid (Bl V X r) := HB
    have PP : Hid _ := mn_put HM.out q r (n + 1)
    have c0' : (w1.drewN q).cell? ⟨g, 0, none⟩ = some (.float .f64 V) := c0
    have c1' : (w1.drewN q).cell? ⟨g, 1, none⟩ = some (.int .i64 (n : Int)) := c1
    have f0' : (w1.drewN q).frozen? ⟨g, 0, none⟩ = false := f0
    have f1' : (w1.drewN q).frozen? ⟨g, 1, none⟩ = false := f1
    clear HB
    go_wp2
    go_ret
    refine ⟨rfl, r, ?_, ?_, fun h2 => absurd h2 h, fun _ => HBl.out⟩
    · exact PP.out.1
    · exact PP.out.2

set_option maxHeartbeats 400000 in
theorem mcount_any (g V n : Nat) (w : World) (M : MN w g V n) :
    Calls Tryd.prog 14 #[.pointer (some ⟨g, 0, none⟩)] w fun e w' => e = .returned (.int .i64 (n : Int)) ∧ w' = w := by
  have c1 := M.c1
  go_enter Tryd.func14, Tryd.ntmps14
  go_wp2
  go_ret
  exact ⟨rfl, rfl⟩
set_option maxHeartbeats 400000 in
theorem mvalue_any (g V n : Nat) (w : World) (M : MN w g V n) :
    Calls Tryd.prog 15 #[.pointer (some ⟨g, 0, none⟩)] w fun e w' => e = .returned (.float .f64 V) ∧ w' = w := by
  have c0 := M.c0
  go_enter Tryd.func15, Tryd.ntmps15
  go_wp2
  go_ret
  exact ⟨rfl, rfl⟩

end Go.Proofs.YtjlbbnjcdickgacDoor
