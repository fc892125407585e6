/- info.digestOf, SplitSign, CheckSign, checkNext, checkSigns; walked. -/
import Derived.Test.YtjhbfkckkinfjaaDoorInB
import Derived.Deep.RegionHeld3
import Derived.Laws.IdiomCopy
namespace Go.Proofs.YtjhbfkckkinfjaaDoor
open Go.RowKit

theorem undDIG : Tryd.prog.underlying 23 = some (.array 32 5) := by kernel_rfl
theorem results_ct {P : Program} {k : IntKind} {n e g : Nat} {f : Nat → Int} {fn : Func} {p q : Tmp} {ty : TypeId} (hr : fn.results = #[.cell p ty, .tmp q]) (tmps : Array Value) (w : World)
    (hp : tmps.getD p undef = .pointer (some ⟨g, 0, none⟩)) (h : Row k w g n f) (hu : P.underlying ty = some (.array n e)) (hi : (P.info? ty).map (·.size) = some n) :
    (results fn tmps).run P w = .ok (.tuple #[.agg (cs k n f), tmps.getD q undef]) w := by
  have hl := run_loadVar_row' ty h hu hi
  have hp' : tmps[p]?.getD undef = .pointer (some ⟨g, 0, none⟩) := by simpa using hp
  simp [results, hr, hp', asAddr, hl]
theorem results_tct {P : Program} {k : IntKind} {n e g : Nat} {f : Nat → Int} {fn : Func} {p q r : Tmp} {ty : TypeId} (hr : fn.results = #[.tmp r, .cell p ty, .tmp q]) (tmps : Array Value) (w : World)
    (hp : tmps.getD p undef = .pointer (some ⟨g, 0, none⟩)) (h : Row k w g n f) (hu : P.underlying ty = some (.array n e)) (hi : (P.info? ty).map (·.size) = some n) :
    (results fn tmps).run P w = .ok (.tuple #[tmps.getD r undef, .agg (cs k n f), tmps.getD q undef]) w := by
  have hl := run_loadVar_row' ty h hu hi
  have hp' : tmps[p]?.getD undef = .pointer (some ⟨g, 0, none⟩) := by simpa using hp
  simp [results, hr, hp', asAddr, hl]
theorem cs_zero32 : (#[.int .u8 0, .int .u8 0, .int .u8 0, .int .u8 0, .int .u8 0, .int .u8 0, .int .u8 0, .int .u8 0, .int .u8 0, .int .u8 0, .int .u8 0, .int .u8 0, .int .u8 0, .int .u8 0, .int .u8 0, .int .u8 0, .int .u8 0, .int .u8 0, .int .u8 0, .int .u8 0, .int .u8 0, .int .u8 0, .int .u8 0, .int .u8 0, .int .u8 0, .int .u8 0, .int .u8 0, .int .u8 0, .int .u8 0, .int .u8 0, .int .u8 0, .int .u8 0] : Array Value) = cs .u8 32 (fun _ => 0) := by rfl

theorem size5r : ∀ w, (Go.sizeOf 5).run Tryd.prog w = .ok 1 w := fun w => by
  obtain ⟨i0, hi, hz0, hz1, hz2⟩ := info_parts Tryd.hinfo5
  simp [Go.sizeOf, typeInfo, hi, hz1]
theorem setCells_only (g : Nat) : ∀ (l : List Value) (o : Nat) (w : World), (w.setCells g o l).heap.size = w.heap.size ∧ (∀ k, k ≠ g → (w.setCells g o l).heap[k]? = w.heap[k]?) ∧ (w.setCells g o l).os = w.os ∧ (w.setCells g o l).tape = w.tape ∧ (w.setCells g o l).output = w.output := by
  intro l
  induction l with
  | nil => intro o w; exact ⟨rfl, fun _ _ => rfl, rfl, rfl, rfl⟩
  | cons a l ih =>
    intro o w
    obtain ⟨h1, h2, h3, h4, h5⟩ := ih (o + 1) (w.setCell ⟨g, o, none⟩ a)
    exact ⟨h1.trans (by simp), fun k hk => (h2 k hk).trans (Below.heap_setCell w _ _ k hk), h3, h4, h5⟩
/-- copy(d[:], told), as many bytes as d has. -/
theorem copy_D (w : World) (t : ByteArray) (ht : t.size = 32) (g : Nat) (f0 : Nat → Int) (ty : TypeId) (R : Row .u8 w g 32 f0) :
    ∃ w', (Builtin.copy_ #[39, 9] ty #[.slice (some ⟨g, 0, none⟩) 32 32, .string t]).run Tryd.prog w = .ok (goInt 32) w' ∧ Row .u8 w' g 32 (bt t) ∧ Upd w w' g := by
  have hr := Go.run_copy_string (P := Tryd.prog) w 39 9 ty 5 g 0 32 32 t Tryd.underlying39 size5r (by rw [ht]; exact Nat.le_refl _) (fun j hj => by rw [Nat.zero_add, R.cell j (by omega)]; rfl) (fun j hj => by rw [Nat.zero_add]; exact R.free j (by omega))
  obtain ⟨s1, s2, s3, s4, s5⟩ := setCells_only g (t.data.toList.map fun x => Value.int .u8 (x.toNat : Int)) 0 w
  have hl : (t.data.toList.map fun x => Value.int .u8 (x.toNat : Int)).length = t.size := by rw [List.length_map, Array.length_toList]; rfl
  rw [ht] at hr
  refine ⟨_, hr, ⟨fun j hj => ?_, fun j hj => by rw [World.frozen?_setCells]; exact R.free j hj⟩, ⟨s3, s4, s5, s1, fun i _ hne => s2 i hne⟩⟩
  have := World.cell?_setCells_in g (t.data.toList.map fun x => Value.int .u8 (x.toNat : Int)) 0 w (fun i hi => by rw [Nat.zero_add, R.cell i (by omega)]; rfl) j (by omega)
  rw [Nat.zero_add] at this
  rw [this]
  unfold bt
  rw [dif_pos (by omega)]
  simp
  rfl

set_option maxRecDepth 100000 in
set_option maxHeartbeats 1000000 in
theorem dgO_any (t : ByteArray) (w : World) (ht : t.size ≤ 281474976710656) :
    Calls Tryd.prog 48 #[.string t] w fun e w' => e = .returned (.tuple #[.agg (cs .u8 32 (dFn t)), .bool (decide (dOk t))]) ∧ Below w.heap.size w w' := by
  have C0 := fun W => fb32_any t W ht
  by_cases hd : dOk t
  · rw [dFn_yes hd, decide_eq_true hd]
    obtain ⟨h1, h2⟩ := (dOk_iff t).1 hd
    generalize fbErr t = E at C0 h1
    generalize fbStr t = S at C0 h2 ⊢
    subst h1
    have h2' : ((S.size : Int) != 32) = false := by rw [h2]; rfl
    have h2'' : ((S.size : Int) == 32) = true := by rw [h2]; rfl
    have h2i : (S.size : Int) = 32 := by omega
    clear hd
    go_enter Tryd.func48, Tryd.ntmps48
    go_wp2_with fail
    rw [cs_zero32]
    have R0 : Row .u8 ((w.alloc (.cells (cs .u8 32 (fun _ => 0)) 23)).alloc (.cells (cs .u8 32 (fun _ => 0)) 23)) w.heap.size 32 (fun _ => 0) := Row.box.alloc (by rw [World.size_alloc]; omega) _
    have D0 : Row .u8 ((w.alloc (.cells (cs .u8 32 (fun _ => 0)) 23)).alloc (.cells (cs .u8 32 (fun _ => 0)) 23)) (w.heap.size + 1) 32 (fun _ => 0) := by
      have := Row.box (k := .u8) (w := w.alloc (.cells (cs .u8 32 (fun _ => 0)) 23)) (e := 23) (n := 32) (f := fun _ => 0)
      rw [World.size_alloc] at this
      exact this
    have B0 : Below w.heap.size w ((w.alloc (.cells (cs .u8 32 (fun _ => 0)) 23)).alloc (.cells (cs .u8 32 (fun _ => 0)) 23)) := ((Below.refl _ _).alloc (Nat.le_refl _) _).alloc (by rw [World.size_alloc]; omega) _
    have z0 : ((w.alloc (.cells (cs .u8 32 (fun _ => 0)) 23)).alloc (.cells (cs .u8 32 (fun _ => 0)) 23)).heap.size = w.heap.size + 1 + 1 := by rw [World.size_alloc, World.size_alloc]
    generalize (w.alloc (.cells (cs .u8 32 (fun _ => 0)) 23)).alloc (.cells (cs .u8 32 (fun _ => 0)) 23) = w0 at R0 D0 B0 z0 ⊢
    refine (C0 w0).mono ?_
    rintro e w1 ⟨rfl, b1⟩
    have R1 : Hid (Row .u8 w1 w.heap.size 32 (fun _ => 0)) := R0.below b1 (by omega)
    have D1 : Hid (Row .u8 w1 (w.heap.size + 1) 32 (fun _ => 0)) := D0.below b1 (by omega)
    have B1 : Hid (Below w.heap.size w w1) := B0.trans (b1.mono B0.size)
    have z1 : Hid (w.heap.size + 1 < w1.heap.size) := by have := b1.size; unfold Hid; omega
    clear R0 D0 B0 z0 b1 C0
    obtain ⟨w2, hrun, D2, U2⟩ := copy_D w1 S h2 (w.heap.size + 1) _ 3 D1.out
    have HR : Hid (_ = _) := hrun
    clear hrun
    go_wp2_with fail
    rw [HR.out]
    have R2 : Row .u8 w2 w.heap.size 32 (fun _ => 0) := R1.out.upd U2 (by have := z1.out; omega) (by omega)
    have B2 : Below w.heap.size w w2 := U2.below B1.out (by omega) B1.out.size
    have z2 : w.heap.size + 1 < w2.heap.size := by rw [U2.size]; exact z1.out
    clear HR R1 D1 B1 z1 U2
    go_wp2_with (first
      | (refine wpList_load_arr (by rfl) 23 (.tmp 4) (by rfl) (w.heap.size + 1) (by rfl) D2 undDIG szD32 ?_)
      | (refine wpList_store_any (by rfl) 23 (.tmp 2) (.tmp 23) (by rfl) w.heap.size (by rfl) (by rfl) R2 szD32 (by rfl) ?_; intro W5 R5 U5))
    exact bodyPost_ret (results_ct Tryd.results48 _ _ rfl R5 undDIG szD32) rfl ⟨rfl, U5.below B2 (Nat.le_refl _) (by omega)⟩
  · rw [dFn_no hd, decide_eq_false hd]
    have hd2 : ¬ (fbErr t = 0 ∧ (fbStr t).size = 32) := fun h => hd ((dOk_iff t).2 h)
    generalize fbErr t = E at C0 hd2
    generalize fbStr t = S at C0 hd2
    clear hd
    by_cases he : E = 0
    · subst he
      have h2 : (S.size : Int) ≠ 32 := by intro h; exact hd2 ⟨rfl, by omega⟩
      have h2' : ((S.size : Int) != 32) = true := by rw [bne_iff_ne]; exact h2
      have h2'' : ((S.size : Int) == 32) = false := by rw [beq_eq_false_iff_ne]; exact h2
      clear hd2 h2
      go_enter Tryd.func48, Tryd.ntmps48
      go_wp2_with fail
      rw [cs_zero32]
      have R0 : Row .u8 ((w.alloc (.cells (cs .u8 32 (fun _ => 0)) 23)).alloc (.cells (cs .u8 32 (fun _ => 0)) 23)) w.heap.size 32 (fun _ => 0) := Row.box.alloc (by rw [World.size_alloc]; omega) _
      have B0 : Below w.heap.size w ((w.alloc (.cells (cs .u8 32 (fun _ => 0)) 23)).alloc (.cells (cs .u8 32 (fun _ => 0)) 23)) := ((Below.refl _ _).alloc (Nat.le_refl _) _).alloc (by rw [World.size_alloc]; omega) _
      have z0 : ((w.alloc (.cells (cs .u8 32 (fun _ => 0)) 23)).alloc (.cells (cs .u8 32 (fun _ => 0)) 23)).heap.size = w.heap.size + 1 + 1 := by rw [World.size_alloc, World.size_alloc]
      generalize (w.alloc (.cells (cs .u8 32 (fun _ => 0)) 23)).alloc (.cells (cs .u8 32 (fun _ => 0)) 23) = w0 at R0 B0 z0 ⊢
      refine (C0 w0).mono ?_
      rintro e w1 ⟨rfl, b1⟩
      have R1 : Row .u8 w1 w.heap.size 32 (fun _ => 0) := R0.below b1 (by omega)
      have B1 : Below w.heap.size w w1 := B0.trans (b1.mono B0.size)
      have z1 : w.heap.size + 1 < w1.heap.size := by have := b1.size; omega
      clear R0 B0 z0 b1 C0
      go_wp2_with (refine wpList_store_any (by rfl) 23 (.tmp 2) (.tmp 19) (by rfl) w.heap.size (by rfl) (by exact congrArg Value.agg cs_zero32) R1 szD32 (by rfl) ?_; intro W5 R5 U5)
      exact bodyPost_ret (results_ct Tryd.results48 _ _ rfl R5 undDIG szD32) rfl ⟨rfl, U5.below B1 (Nat.le_refl _) (by omega)⟩
    · have h1' : (E != 0) = true := by rw [bne_iff_ne]; exact he
      have h1'' : (E == 0) = false := by rw [beq_eq_false_iff_ne]; exact he
      clear hd2 he
      go_enter Tryd.func48, Tryd.ntmps48
      go_wp2_with fail
      rw [cs_zero32]
      have R0 : Row .u8 ((w.alloc (.cells (cs .u8 32 (fun _ => 0)) 23)).alloc (.cells (cs .u8 32 (fun _ => 0)) 23)) w.heap.size 32 (fun _ => 0) := Row.box.alloc (by rw [World.size_alloc]; omega) _
      have B0 : Below w.heap.size w ((w.alloc (.cells (cs .u8 32 (fun _ => 0)) 23)).alloc (.cells (cs .u8 32 (fun _ => 0)) 23)) := ((Below.refl _ _).alloc (Nat.le_refl _) _).alloc (by rw [World.size_alloc]; omega) _
      have z0 : ((w.alloc (.cells (cs .u8 32 (fun _ => 0)) 23)).alloc (.cells (cs .u8 32 (fun _ => 0)) 23)).heap.size = w.heap.size + 1 + 1 := by rw [World.size_alloc, World.size_alloc]
      generalize (w.alloc (.cells (cs .u8 32 (fun _ => 0)) 23)).alloc (.cells (cs .u8 32 (fun _ => 0)) 23) = w0 at R0 B0 z0 ⊢
      refine (C0 w0).mono ?_
      rintro e w1 ⟨rfl, b1⟩
      have R1 : Row .u8 w1 w.heap.size 32 (fun _ => 0) := R0.below b1 (by omega)
      have B1 : Below w.heap.size w w1 := B0.trans (b1.mono B0.size)
      have z1 : w.heap.size + 1 < w1.heap.size := by have := b1.size; omega
      clear R0 B0 z0 b1 C0
      go_wp2_with (refine wpList_store_any (by rfl) 23 (.tmp 2) (.tmp 19) (by rfl) w.heap.size (by rfl) (by exact congrArg Value.agg cs_zero32) R1 szD32 (by rfl) ?_; intro W5 R5 U5)
      exact bodyPost_ret (results_ct Tryd.results48 _ _ rfl R5 undDIG szD32) rfl ⟨rfl, U5.below B1 (Nat.le_refl _) (by omega)⟩

end Go.Proofs.YtjhbfkckkinfjaaDoor
