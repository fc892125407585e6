/- Gathered: InC InD InE InF. -/
import Derived.Deep.RegionHeld3
import Derived.Laws.IdiomCopy
import Derived.Test.YtgnlkggodchlbaaGreatDoorQf
/- info.digestOf, SplitSign, CheckSign, checkNext, checkSigns; walked. -/
namespace Go.Proofs.YtgnlkggodchlbaaGreatDoor
open Go.RowKit

theorem undDIG : Tryz.prog.underlying 23 = some (.array 32 5) := by kernel_rfl
theorem results_ct {P : Program} {k : IntKind} {n e g : Nat} {f : Nat → Int} {fn : Func} {p q : Tmp} {ty : TypeId} (hr : fn.results = #[.cell p ty, .tmp q]) (tmps : Array Value) (w : World)
    (hp : tmps.getD p undef = .pointer (some ⟨g, 0, none⟩)) (h : Row k w g n f) (hu : P.underlying ty = some (.array n e)) (hi : (P.info? ty).map (·.size) = some n) :
    (results fn tmps).run P w = .ok (.tuple #[.agg (cs k n f), tmps.getD q undef]) w := by
  have hl := run_loadVar_row' ty h hu hi
  have hp' : tmps[p]?.getD undef = .pointer (some ⟨g, 0, none⟩) := by simpa using hp
  simp [results, hr, hp', asAddr, hl]
theorem results_tct {P : Program} {k : IntKind} {n e g : Nat} {f : Nat → Int} {fn : Func} {p q r : Tmp} {ty : TypeId} (hr : fn.results = #[.tmp r, .cell p ty, .tmp q]) (tmps : Array Value) (w : World)
    (hp : tmps.getD p undef = .pointer (some ⟨g, 0, none⟩)) (h : Row k w g n f) (hu : P.underlying ty = some (.array n e)) (hi : (P.info? ty).map (·.size) = some n) :
    (results fn tmps).run P w = .ok (.tuple #[tmps.getD r undef, .agg (cs k n f), tmps.getD q undef]) w := by
  have hl := run_loadVar_row' ty h hu hi
  have hp' : tmps[p]?.getD undef = .pointer (some ⟨g, 0, none⟩) := by simpa using hp
  simp [results, hr, hp', asAddr, hl]
theorem cs_zero32 : (#[.int .u8 0, .int .u8 0, .int .u8 0, .int .u8 0, .int .u8 0, .int .u8 0, .int .u8 0, .int .u8 0, .int .u8 0, .int .u8 0, .int .u8 0, .int .u8 0, .int .u8 0, .int .u8 0, .int .u8 0, .int .u8 0, .int .u8 0, .int .u8 0, .int .u8 0, .int .u8 0, .int .u8 0, .int .u8 0, .int .u8 0, .int .u8 0, .int .u8 0, .int .u8 0, .int .u8 0, .int .u8 0, .int .u8 0, .int .u8 0, .int .u8 0, .int .u8 0] : Array Value) = cs .u8 32 (fun _ => 0) := by rfl

theorem size5r : ∀ w, (Go.sizeOf 5).run Tryz.prog w = .ok 1 w := fun w => by
  obtain ⟨i0, hi, hz0, hz1, hz2⟩ := info_parts Tryz.hinfo5
  simp [Go.sizeOf, typeInfo, hi, hz1]
theorem setCells_only (g : Nat) : ∀ (l : List Value) (o : Nat) (w : World), (w.setCells g o l).heap.size = w.heap.size ∧ (∀ k, k ≠ g → (w.setCells g o l).heap[k]? = w.heap[k]?) ∧ (w.setCells g o l).os = w.os ∧ (w.setCells g o l).tape = w.tape ∧ (w.setCells g o l).output = w.output := by
  intro l
  induction l with
  | nil => intro o w; exact ⟨rfl, fun _ _ => rfl, rfl, rfl, rfl⟩
  | cons a l ih =>
    intro o w
    obtain ⟨h1, h2, h3, h4, h5⟩ := ih (o + 1) (w.setCell ⟨g, o, none⟩ a)
    exact ⟨h1.trans (by simp), fun k hk => (h2 k hk).trans (Below.heap_setCell w _ _ k hk), h3, h4, h5⟩
/-- copy(d[:], told), as many bytes as d has. -/
theorem copy_D (w : World) (t : ByteArray) (ht : t.size = 32) (g : Nat) (f0 : Nat → Int) (ty : TypeId) (R : Row .u8 w g 32 f0) :
    ∃ w', (Builtin.copy_ #[43, 9] ty #[.slice (some ⟨g, 0, none⟩) 32 32, .string t]).run Tryz.prog w = .ok (goInt 32) w' ∧ Row .u8 w' g 32 (bt t) ∧ Upd w w' g := by
  have hr := Go.run_copy_string (P := Tryz.prog) w 43 9 ty 5 g 0 32 32 t Tryz.underlying43 size5r (by rw [ht]; exact Nat.le_refl _) (fun j hj => by rw [Nat.zero_add, R.cell j (by omega)]; rfl) (fun j hj => by rw [Nat.zero_add]; exact R.free j (by omega))
  obtain ⟨s1, s2, s3, s4, s5⟩ := setCells_only g (t.data.toList.map fun x => Value.int .u8 (x.toNat : Int)) 0 w
  have hl : (t.data.toList.map fun x => Value.int .u8 (x.toNat : Int)).length = t.size := by rw [List.length_map, Array.length_toList]; rfl
  rw [ht] at hr
  refine ⟨_, hr, ⟨fun j hj => ?_, fun j hj => by rw [World.frozen?_setCells]; exact R.free j hj⟩, ⟨s3, s4, s5, s1, fun i _ hne => s2 i hne⟩⟩
  have := World.cell?_setCells_in g (t.data.toList.map fun x => Value.int .u8 (x.toNat : Int)) 0 w (fun i hi => by rw [Nat.zero_add, R.cell i (by omega)]; rfl) j (by omega)
  rw [Nat.zero_add] at this
  rw [this]
  unfold bt
  rw [dif_pos (by omega)]
  simp
  rfl

set_option maxRecDepth 100000 in
set_option maxHeartbeats 1000000 in
theorem dgO_any (t : ByteArray) (w : World) (ht : t.size ≤ 281474976710656) :
    Calls Tryz.prog 57 #[.string t] w fun e w' => e = .returned (.tuple #[.agg (cs .u8 32 (dFn t)), .bool (decide (dOk t))]) ∧ Below w.heap.size w w' := by
  have C0 := fun W => fb32_any t W ht
  by_cases hd : dOk t
  · rw [dFn_yes hd, decide_eq_true hd]
    obtain ⟨h1, h2⟩ := (dOk_iff t).1 hd
    generalize fbErr t = E at C0 h1
    generalize fbStr t = S at C0 h2 ⊢
    subst h1
    have h2' : ((S.size : Int) != 32) = false := by rw [h2]; rfl
    have h2'' : ((S.size : Int) == 32) = true := by rw [h2]; rfl
    have h2i : (S.size : Int) = 32 := by omega
    clear hd
    go_enter Tryz.func57, Tryz.ntmps57
    go_wp2_with fail
    rw [cs_zero32]
    have R0 : Row .u8 ((w.alloc (.cells (cs .u8 32 (fun _ => 0)) 23)).alloc (.cells (cs .u8 32 (fun _ => 0)) 23)) w.heap.size 32 (fun _ => 0) := Row.box.alloc (by rw [World.size_alloc]; omega) _
    have D0 : Row .u8 ((w.alloc (.cells (cs .u8 32 (fun _ => 0)) 23)).alloc (.cells (cs .u8 32 (fun _ => 0)) 23)) (w.heap.size + 1) 32 (fun _ => 0) := by
      have := Row.box (k := .u8) (w := w.alloc (.cells (cs .u8 32 (fun _ => 0)) 23)) (e := 23) (n := 32) (f := fun _ => 0)
      rw [World.size_alloc] at this
      exact this
    have B0 : Below w.heap.size w ((w.alloc (.cells (cs .u8 32 (fun _ => 0)) 23)).alloc (.cells (cs .u8 32 (fun _ => 0)) 23)) := ((Below.refl _ _).alloc (Nat.le_refl _) _).alloc (by rw [World.size_alloc]; omega) _
    have z0 : ((w.alloc (.cells (cs .u8 32 (fun _ => 0)) 23)).alloc (.cells (cs .u8 32 (fun _ => 0)) 23)).heap.size = w.heap.size + 1 + 1 := by rw [World.size_alloc, World.size_alloc]
    generalize (w.alloc (.cells (cs .u8 32 (fun _ => 0)) 23)).alloc (.cells (cs .u8 32 (fun _ => 0)) 23) = w0 at R0 D0 B0 z0 ⊢
    refine (C0 w0).mono ?_
    rintro e w1 ⟨rfl, b1⟩
    have R1 : Hid (Row .u8 w1 w.heap.size 32 (fun _ => 0)) := R0.below b1 (by omega)
    have D1 : Hid (Row .u8 w1 (w.heap.size + 1) 32 (fun _ => 0)) := D0.below b1 (by omega)
    have B1 : Hid (Below w.heap.size w w1) := B0.trans (b1.mono B0.size)
    have z1 : Hid (w.heap.size + 1 < w1.heap.size) := by have := b1.size; unfold Hid; omega
    clear R0 D0 B0 z0 b1 C0
    obtain ⟨w2, hrun, D2, U2⟩ := copy_D w1 S h2 (w.heap.size + 1) _ 3 D1.out
    have HR : Hid (_ = _) := hrun
    clear hrun
    go_wp2_with fail
    rw [HR.out]
    have R2 : Row .u8 w2 w.heap.size 32 (fun _ => 0) := R1.out.upd U2 (by have := z1.out; omega) (by omega)
    have B2 : Below w.heap.size w w2 := U2.below B1.out (by omega) B1.out.size
    have z2 : w.heap.size + 1 < w2.heap.size := by rw [U2.size]; exact z1.out
    clear HR R1 D1 B1 z1 U2
    go_wp2_with (first
      | (refine wpList_load_arr (by rfl) 23 (.tmp 4) (by rfl) (w.heap.size + 1) (by rfl) D2 undDIG szD32 ?_)
      | (refine wpList_store_any (by rfl) 23 (.tmp 2) (.tmp 23) (by rfl) w.heap.size (by rfl) (by rfl) R2 szD32 (by rfl) ?_; intro W5 R5 U5))
    exact bodyPost_ret (results_ct Tryz.results57 _ _ rfl R5 undDIG szD32) rfl ⟨rfl, U5.below B2 (Nat.le_refl _) (by omega)⟩
  · rw [dFn_no hd, decide_eq_false hd]
    have hd2 : ¬ (fbErr t = 0 ∧ (fbStr t).size = 32) := fun h => hd ((dOk_iff t).2 h)
    generalize fbErr t = E at C0 hd2
    generalize fbStr t = S at C0 hd2
    clear hd
    by_cases he : E = 0
    · subst he
      have h2 : (S.size : Int) ≠ 32 := by intro h; exact hd2 ⟨rfl, by omega⟩
      have h2' : ((S.size : Int) != 32) = true := by rw [bne_iff_ne]; exact h2
      have h2'' : ((S.size : Int) == 32) = false := by rw [beq_eq_false_iff_ne]; exact h2
      clear hd2 h2
      go_enter Tryz.func57, Tryz.ntmps57
      go_wp2_with fail
      rw [cs_zero32]
      have R0 : Row .u8 ((w.alloc (.cells (cs .u8 32 (fun _ => 0)) 23)).alloc (.cells (cs .u8 32 (fun _ => 0)) 23)) w.heap.size 32 (fun _ => 0) := Row.box.alloc (by rw [World.size_alloc]; omega) _
      have B0 : Below w.heap.size w ((w.alloc (.cells (cs .u8 32 (fun _ => 0)) 23)).alloc (.cells (cs .u8 32 (fun _ => 0)) 23)) := ((Below.refl _ _).alloc (Nat.le_refl _) _).alloc (by rw [World.size_alloc]; omega) _
      have z0 : ((w.alloc (.cells (cs .u8 32 (fun _ => 0)) 23)).alloc (.cells (cs .u8 32 (fun _ => 0)) 23)).heap.size = w.heap.size + 1 + 1 := by rw [World.size_alloc, World.size_alloc]
      generalize (w.alloc (.cells (cs .u8 32 (fun _ => 0)) 23)).alloc (.cells (cs .u8 32 (fun _ => 0)) 23) = w0 at R0 B0 z0 ⊢
      refine (C0 w0).mono ?_
      rintro e w1 ⟨rfl, b1⟩
      have R1 : Row .u8 w1 w.heap.size 32 (fun _ => 0) := R0.below b1 (by omega)
      have B1 : Below w.heap.size w w1 := B0.trans (b1.mono B0.size)
      have z1 : w.heap.size + 1 < w1.heap.size := by have := b1.size; omega
      clear R0 B0 z0 b1 C0
      go_wp2_with (refine wpList_store_any (by rfl) 23 (.tmp 2) (.tmp 19) (by rfl) w.heap.size (by rfl) (by exact congrArg Value.agg cs_zero32) R1 szD32 (by rfl) ?_; intro W5 R5 U5)
      exact bodyPost_ret (results_ct Tryz.results57 _ _ rfl R5 undDIG szD32) rfl ⟨rfl, U5.below B1 (Nat.le_refl _) (by omega)⟩
    · have h1' : (E != 0) = true := by rw [bne_iff_ne]; exact he
      have h1'' : (E == 0) = false := by rw [beq_eq_false_iff_ne]; exact he
      clear hd2 he
      go_enter Tryz.func57, Tryz.ntmps57
      go_wp2_with fail
      rw [cs_zero32]
      have R0 : Row .u8 ((w.alloc (.cells (cs .u8 32 (fun _ => 0)) 23)).alloc (.cells (cs .u8 32 (fun _ => 0)) 23)) w.heap.size 32 (fun _ => 0) := Row.box.alloc (by rw [World.size_alloc]; omega) _
      have B0 : Below w.heap.size w ((w.alloc (.cells (cs .u8 32 (fun _ => 0)) 23)).alloc (.cells (cs .u8 32 (fun _ => 0)) 23)) := ((Below.refl _ _).alloc (Nat.le_refl _) _).alloc (by rw [World.size_alloc]; omega) _
      have z0 : ((w.alloc (.cells (cs .u8 32 (fun _ => 0)) 23)).alloc (.cells (cs .u8 32 (fun _ => 0)) 23)).heap.size = w.heap.size + 1 + 1 := by rw [World.size_alloc, World.size_alloc]
      generalize (w.alloc (.cells (cs .u8 32 (fun _ => 0)) 23)).alloc (.cells (cs .u8 32 (fun _ => 0)) 23) = w0 at R0 B0 z0 ⊢
      refine (C0 w0).mono ?_
      rintro e w1 ⟨rfl, b1⟩
      have R1 : Row .u8 w1 w.heap.size 32 (fun _ => 0) := R0.below b1 (by omega)
      have B1 : Below w.heap.size w w1 := B0.trans (b1.mono B0.size)
      have z1 : w.heap.size + 1 < w1.heap.size := by have := b1.size; omega
      clear R0 B0 z0 b1 C0
      go_wp2_with (refine wpList_store_any (by rfl) 23 (.tmp 2) (.tmp 19) (by rfl) w.heap.size (by rfl) (by exact congrArg Value.agg cs_zero32) R1 szD32 (by rfl) ?_; intro W5 R5 U5)
      exact bodyPost_ret (results_ct Tryz.results57 _ _ rfl R5 undDIG szD32) rfl ⟨rfl, U5.below B1 (Nat.le_refl _) (by omega)⟩

end Go.Proofs.YtgnlkggodchlbaaGreatDoor
/- info.SplitSign, CheckSign; walked. -/
namespace Go.Proofs.YtgnlkggodchlbaaGreatDoor
open Go.RowKit

theorem yieldsIf_arr {P : Program} {ops : Array Oper} {S : World → Prop} {op : Oper} {a : Act} {k : IntKind} {n e : Nat} {f : Nat → Int} (hw : Region.wanted op (yielded ops a.tmps) = true) (ty : TypeId) (x : Operand) (ho : op.op = .load ty x)
    (g : Nat) (hx : a.eval x = .pointer (some ⟨g, 0, none⟩)) (hS : ∀ w, S w → Row k w g n f) (hu : P.underlying ty = some (.array n e)) (hi : (P.info? ty).map (·.size) = some n) : YieldsIf P ops S op (.agg (cs k n f)) a := by
  have h := yieldsIf_load_mid (P := P) (ops := ops) (S := S) hw ty x ho g 0 hx (cs k n f).toList (.array n e) (fun w hs => (hS w hs).range) hu rfl (by rw [hi]; simp [cs_size])
  simpa using h

theorem snOk_iff (s : ByteArray) : snOk s ↔ sgOk (ctA s 58) ∧ dOk (ctB s 58) := by
  unfold snOk ctA ctB snA snB
  by_cases h : fst s 58 < s.size
  · rw [if_pos h, if_pos h]
    exact ⟨fun x => x.2, fun x => ⟨h, x⟩⟩
  · rw [if_neg h, if_neg h]
    exact ⟨fun x => absurd x.1 h, fun x => absurd x.2.1 (by decide)⟩
theorem snA_ct {s : ByteArray} (h : snOk s) : ctA s 58 = snA s := by unfold ctA snA; rw [if_pos h.1]
theorem snB_ct {s : ByteArray} (h : snOk s) : ctB s 58 = snB s := by unfold ctB snB; rw [if_pos h.1]
theorem ctB_size (s : ByteArray) (c : Int) : (ctB s c).size ≤ s.size := by
  unfold ctB
  split
  · rw [ByteArray.size_extract]; omega
  · exact Nat.zero_le _
def colon : ByteArray := ⟨#[58]⟩
theorem colon_bt : bt colon 0 = 58 := by decide +kernel

set_option maxRecDepth 100000 in
set_option maxHeartbeats 2000000 in
theorem spS_any (s : ByteArray) (w : World) (hs : s.size ≤ 140737488351232) :
    Calls Tryz.prog 81 #[.string s] w fun e w' => e = .returned (.tuple #[.string (snN s), .agg (cs .u8 32 (snD s)), .int .i64 (snC s)]) ∧ Below w.heap.size w w' := by
  have C0 := fun W => cut_any s colon 58 W rfl colon_bt hs
  have hB := ctB_size s 58
  have C1 := fun W => dgO_any (ctB s 58) W (by omega)
  have R0 : Row .u8 (w.alloc (.cells (cs .u8 32 (fun _ => 0)) 23)) w.heap.size 32 (fun _ => 0) := Row.box
  have B0 : Below w.heap.size w (w.alloc (.cells (cs .u8 32 (fun _ => 0)) 23)) := (Below.refl _ _).alloc (Nat.le_refl _) _
  have z0 : (w.alloc (.cells (cs .u8 32 (fun _ => 0)) 23)).heap.size = w.heap.size + 1 := World.size_alloc _ _
  clear hB
  by_cases hA : sgOk (ctA s 58)
  · by_cases hD : dOk (ctB s 58)
    · have hok : snOk s := (snOk_iff s).2 ⟨hA, hD⟩
      have HC := sgC_yes hA
      have eA := snA_ct hok
      have eB := snB_ct hok
      have eD : Hid (dFn (ctB s 58) = snD s) := by unfold Hid; rw [dFn_yes hD, snD_yes hok, eB]
      rw [snN_yes hok, snC_yes hok, ← eA]
      have C1' := C1
      simp only [decide_eq_true hD, eD.out] at C1'
      clear hok hA hD eA eB C1 eD
      generalize ctA s 58 = a at C0 HC ⊢
      generalize ctB s 58 = b at C0 C1'
      generalize ctF s 58 = f at C0
      generalize snD s = D at C1' ⊢
      go_enter Tryz.func81, Tryz.ntmps81
      rw [show (⟨#[58]⟩ : ByteArray) = colon from rfl]
      go_wp2_with fail
      rw [cs_zero32]
      generalize w.alloc (.cells (cs .u8 32 (fun _ => 0)) 23) = w0 at R0 B0 z0 ⊢
      refine (C0 w0).mono ?_
      rintro e w1 ⟨rfl, b1⟩
      go_wp2_with fail
      refine (ckS_any _ _).mono ?_
      rintro e w2 ⟨rfl, rfl⟩
      rw [HC]
      go_wp2_with fail
      refine (C1' _).mono ?_
      rintro e w3 ⟨rfl, b3⟩
      have R3 : Hid (Row .u8 w3 w.heap.size 32 (fun _ => 0)) := (R0.below b1 (by omega)).below b3 (by have := b1.size; omega)
      have B3 : Hid (Below w.heap.size w w3) := (B0.trans (b1.mono B0.size)).trans (b3.mono (by have := b1.size; have := B0.size; omega))
      have z3 : Hid (w.heap.size < w3.heap.size) := by have := b1.size; have := b3.size; unfold Hid; omega
      clear C0 C1' HC R0 B0 z0 b1 b3
      go_wp2_with (refine wpList_store_any (by rfl) 23 (.tmp 9) (.tmp 26) (by rfl) w3.heap.size (by rfl) (by rfl) (Row.rep (by rfl)) szD32 (by rfl) ?_; intro W4 R4 U4; refine Hid.out ?_)
      unfold Hid
      have R4' : Hid (Row .u8 W4.drew w.heap.size 32 (fun _ => 0)) := ((R3.out.alloc z3.out _).upd U4 (by rw [World.size_alloc]; have := z3.out; omega) (by have := z3.out; omega)).drew
      have B4 : Hid (Below w.heap.size w W4.drew) := (U4.below (B3.out.alloc B3.out.size _) (by have := z3.out; omega) (by rw [World.size_alloc]; have := z3.out; omega)).drew
      have z4 : Hid (w.heap.size < W4.drew.heap.size) := by show w.heap.size < W4.heap.size; rw [U4.size, World.size_alloc]; have := z3.out; omega
      have z5 : Hid (w3.heap.size < W4.drew.heap.size) := by show w3.heap.size < W4.heap.size; rw [U4.size, World.size_alloc]; omega
      clear R3 B3 U4
      go_wp2
      refine wp_region_held_drew (S := fun W => Row .u8 W w3.heap.size 32 D) (by kernel_rfl) R4.drew (fun hH => ?_)
      generalize W4.drew = W at R4' B4 z4 z5 hH ⊢
      refine wpAnyH_take (i := 0) (oi := { dst := some 31, op := Op.move (Operand.tmp 5), type := 9, pos := "sign.go:49", after := #[], guard := none }) (v := .string a) rfl (by kernel_rfl) (by kernel_rfl) (by kernel_rfl) (fun _ _ _ h => h) (Or.inl ⟨by rfl, by intro w _; go_simp⟩) hH ?_
      simp only [Act.put, List.setIfInBounds_toArray, List.set_cons_zero, List.set_cons_succ]
      refine wpAnyH_take (i := 1) (oi := { dst := some 32, op := Op.load 23 (Operand.tmp 9), type := 23, pos := "sign.go:49", after := #[{ on := 2, ground := Ground.gcOnly Departure.lateStores }], guard := none }) rfl (by kernel_rfl) (by kernel_rfl) (by kernel_rfl) (fun _ _ _ h => h) (yieldsIf_arr (by rfl) 23 (.tmp 9) rfl w3.heap.size rfl (fun w' s => s) undDIG szD32) hH ?_
      simp only [Act.put, List.setIfInBounds_toArray, List.set_cons_zero, List.set_cons_succ]
      refine wpAnyH_ready (rs := [2]) (by kernel_rfl) (by decide) (AllReadyH.cons rfl (fun K hK => ?_) AllReadyH.nil)
      rw [if_pos (by rfl)]
      go_simp
      refine hK.out _ _ hH (fun hH2 => ?_)
      clear hK K
      try simp only [Act.put, List.setIfInBounds_toArray, List.set_cons_zero, List.set_cons_succ]
      refine wpAnyH_ready (rs := [3]) (by kernel_rfl) (by decide) (AllReadyH.cons rfl (fun K hK => ?_) AllReadyH.nil)
      rw [if_pos (by rfl)]
      refine wp_store_mid 23 (.tmp 3) (.tmp 32) rfl w.heap.size 0 (cs .u8 32 D) rfl rfl (by rw [cs_size]; exact R4'.out.thereAll) (by rw [cs_size]; exact szD32) (cs_all _ _ _) ?_
      have U6 := put_upd W w.heap.size .u8 32 D
      have R6 := put_row (f := D) R4'.out
      have R7 : Row .u8 (put W w.heap.size .u8 32 D) w3.heap.size 32 D := hH2.upd U6 z5.out (by have := z3.out; omega)
      change K _ (put W w.heap.size .u8 32 D)
      generalize put W w.heap.size .u8 32 D = W6 at U6 R6 R7 ⊢
      refine hK.out _ _ R7 (fun hH3 => ?_)
      clear hK K
      try simp only [Act.put]
      refine wpAnyH_ready (rs := [4]) (by kernel_rfl) (by decide) (AllReadyH.cons rfl (fun K hK => ?_) AllReadyH.nil)
      rw [if_pos (by rfl)]
      go_simp
      refine hK.out _ _ hH3 (fun hH4 => ?_)
      clear hK K
      try simp only [Act.put, List.setIfInBounds_toArray, List.set_cons_zero, List.set_cons_succ]
      refine wpAnyH_done (by kernel_rfl) ?_ _
      go_wp2
      exact bodyPost_ret (results_tct Tryz.results81 _ _ rfl R6 undDIG szD32) rfl ⟨rfl, U6.below B4.out (Nat.le_refl _) (by have := z4.out; omega)⟩
    · have hok : ¬ snOk s := fun h => hD ((snOk_iff s).1 h).2
      have HC := sgC_yes hA
      rw [snN_no hok, snC_no hok, snD_no hok]
      have C1' := C1
      simp only [decide_eq_false hD, dFn_no hD] at C1'
      clear hok hA hD C1
      generalize ctA s 58 = a at C0 HC
      generalize ctB s 58 = b at C0 C1'
      generalize ctF s 58 = f at C0
      go_enter Tryz.func81, Tryz.ntmps81
      rw [show (⟨#[58]⟩ : ByteArray) = colon from rfl]
      go_wp2_with fail
      rw [cs_zero32]
      generalize w.alloc (.cells (cs .u8 32 (fun _ => 0)) 23) = w0 at R0 B0 z0 ⊢
      refine (C0 w0).mono ?_
      rintro e w1 ⟨rfl, b1⟩
      go_wp2_with fail
      refine (ckS_any _ _).mono ?_
      rintro e w2 ⟨rfl, rfl⟩
      rw [HC]
      go_wp2_with fail
      refine (C1' _).mono ?_
      rintro e w3 ⟨rfl, b3⟩
      have R3 : Hid (Row .u8 w3 w.heap.size 32 (fun _ => 0)) := (R0.below b1 (by omega)).below b3 (by have := b1.size; omega)
      have B3 : Hid (Below w.heap.size w w3) := (B0.trans (b1.mono B0.size)).trans (b3.mono (by have := b1.size; have := B0.size; omega))
      have z3 : Hid (w.heap.size < w3.heap.size) := by have := b1.size; have := b3.size; unfold Hid; omega
      clear C0 C1' HC R0 B0 z0 b1 b3
      go_wp2_with (refine wpList_store_any (by rfl) 23 (.tmp 9) (.tmp 26) (by rfl) w3.heap.size (by rfl) (by rfl) (Row.rep (by rfl)) szD32 (by rfl) ?_; intro W4 R4 U4; refine Hid.out ?_)
      unfold Hid
      have R4' : Row .u8 W4 w.heap.size 32 (fun _ => 0) := ((R3.out.alloc z3.out _).upd U4 (by rw [World.size_alloc]; have := z3.out; omega) (by have := z3.out; omega))
      have B4 : Below w.heap.size w W4 := (U4.below (B3.out.alloc B3.out.size _) (by have := z3.out; omega) (by rw [World.size_alloc]; have := z3.out; omega))
      have z4 : w.heap.size < W4.heap.size := by rw [U4.size, World.size_alloc]; have := z3.out; omega
      clear R3 B3 U4 R4
      go_wp2_with (refine wpList_store_any (by rfl) 23 (.tmp 3) (.tmp 30) (by rfl) w.heap.size (by rfl) (by exact congrArg Value.agg cs_zero32) R4' szD32 (by rfl) ?_; intro W5 R5 U5)
      exact bodyPost_ret (results_tct Tryz.results81 _ _ rfl R5 undDIG szD32) rfl ⟨rfl, U5.below B4 (Nat.le_refl _) (by omega)⟩
  · have hok : ¬ snOk s := fun h => hA ((snOk_iff s).1 h).1
    have HC := sgC_no hA
    rw [snN_no hok, snC_no hok, snD_no hok]
    clear hok hA C1
    generalize ctA s 58 = a at C0 HC
    generalize ctB s 58 = b at C0
    generalize ctF s 58 = f at C0
    go_enter Tryz.func81, Tryz.ntmps81
    rw [show (⟨#[58]⟩ : ByteArray) = colon from rfl]
    go_wp2_with fail
    rw [cs_zero32]
    generalize w.alloc (.cells (cs .u8 32 (fun _ => 0)) 23) = w0 at R0 B0 z0 ⊢
    refine (C0 w0).mono ?_
    rintro e w1 ⟨rfl, b1⟩
    go_wp2_with fail
    refine (ckS_any _ _).mono ?_
    rintro e w2 ⟨rfl, rfl⟩
    rw [HC]
    have R4' : Row .u8 w2 w.heap.size 32 (fun _ => 0) := R0.below b1 (by omega)
    have B4 : Below w.heap.size w w2 := B0.trans (b1.mono B0.size)
    have z4 : w.heap.size < w2.heap.size := by have := b1.size; omega
    clear C0 HC R0 B0 z0 b1
    go_wp2_with (refine wpList_store_any (by rfl) 23 (.tmp 3) (.tmp 21) (by rfl) w.heap.size (by rfl) (by exact congrArg Value.agg cs_zero32) R4' szD32 (by rfl) ?_; intro W5 R5 U5)
    exact bodyPost_ret (results_tct Tryz.results81 _ _ rfl R5 undDIG szD32) rfl ⟨rfl, U5.below B4 (Nat.le_refl _) (by omega)⟩

set_option maxRecDepth 100000 in
set_option maxHeartbeats 1000000 in
theorem ckSn_any (s : ByteArray) (w : World) (hs : s.size ≤ 140737488351232) :
    Calls Tryz.prog 64 #[.string s] w fun e w' => e = .returned (.int .i64 (snC s)) ∧ Below w.heap.size w w' := by
  have C0 := spS_any s w hs
  generalize snD s = D at C0
  generalize snN s = n at C0
  generalize snC s = c at C0 ⊢
  go_enter Tryz.func64, Tryz.ntmps64
  go_wp2_with fail
  refine C0.mono ?_
  rintro e w1 ⟨rfl, b1⟩
  have B1 : Hid (Below w.heap.size w w1) := b1
  clear b1 C0
  go_wp2_with (refine wpList_store_any (by rfl) 23 (.tmp 4) (.tmp 10) (by rfl) w1.heap.size (by rfl) (by rfl) (Row.rep (by rfl)) szD32 (by rfl) ?_; intro W4 R4 U4; refine Hid.out ?_)
  unfold Hid
  have B4 : Hid (Below w.heap.size w W4) := U4.below (B1.out.alloc B1.out.size _) B1.out.size (by rw [World.size_alloc]; have := B1.out.size; omega)
  clear R4 U4
  go_wp2
  go_ret
  exact ⟨rfl, B4.out⟩

end Go.Proofs.YtgnlkggodchlbaaGreatDoor
/- info.checkNext, checkSigns; walked. -/
namespace Go.Proofs.YtgnlkggodchlbaaGreatDoor
open Go.RowKit

theorem snC_is (s : ByteArray) : snC s = 0 ∨ snC s = 151 := by rcases snC_cases s with h | h; exact Or.inl h.2; exact Or.inr h.2

set_option maxRecDepth 100000 in
set_option maxHeartbeats 1000000 in
theorem ckN_any (x : Option Addr) (n c : Nat) (f : Nat → ByteArray) (s : ByteArray) (w : World) (hS : SIs w x n f) (hn : n ≤ 1152921504606846976) (hs : s.size ≤ 140737488351232) :
    Calls Tryz.prog 48 #[.slice x n c, .string s] w fun e w' => e = .returned (.int .i64 (nxC f n s)) ∧ Below w.heap.size w w' := by
  have C0 := ckSn_any s w hs
  rcases snC_is s with h0 | h0
  · rw [h0] at C0
    by_cases hz : n = 0
    · subst hz
      have hh : Hid (nxC f 0 s = 0) := nxC_yes h0 (fun h => absurd h (by omega))
      clear h0
      go_enter Tryz.func48, Tryz.ntmps48
      go_wp2_with fail
      refine C0.mono ?_
      rintro e w1 ⟨rfl, b1⟩
      go_wp2
      go_ret
      exact ⟨by rw [hh.out]; rfl, b1⟩
    · obtain ⟨m, rfl⟩ : ∃ m, n = m + 1 := ⟨n - 1, by omega⟩
      obtain ⟨a, rfl, c0⟩ := hS m (by omega)
      have hj0 : (0 : Int) < (m : Int) + 1 := by omega
      have hj1 : ((m : Int) + 1 - 1) = (m : Int) := by omega
      have hj3 : m < m + 1 := by omega
      have hj6 : IntKind.i64.wrap ((m : Nat) : Int) = (m : Int) := by rw [IntKind.wrap_i64]; omega
      cases h2 : Op.bytesLess (f m).toList s.toList
      · have hh : Hid (nxC f (m + 1) s = 151) := nxC_no2 (by omega) h2
        have LE : (Op.bytesLess s.toList (f m).toList || s.toList == (f m).toList) = true := by rw [le_not, h2]; rfl
        clear h0 h2 hz hS
        go_enter Tryz.func48, Tryz.ntmps48
        go_wp2_with fail
        refine C0.mono ?_
        rintro e w1 ⟨rfl, b1⟩
        have c1 : w1.cell? (a.add m) = some (.string (f m)) := by rw [b1.cell (World.block_lt_of_cell? _ _ c0)]; exact c0
        have B1 : Hid (Below w.heap.size w w1) := b1
        clear b1 c0 C0
        go_wp2
        go_ret
        exact ⟨by rw [hh.out]; rfl, B1.out⟩
      · have hh : Hid (nxC f (m + 1) s = 0) := nxC_yes h0 (fun _ => by rw [Nat.add_sub_cancel]; exact h2)
        have LE : (Op.bytesLess s.toList (f m).toList || s.toList == (f m).toList) = false := by rw [le_not, h2]; rfl
        clear h0 h2 hz hS
        go_enter Tryz.func48, Tryz.ntmps48
        go_wp2_with fail
        refine C0.mono ?_
        rintro e w1 ⟨rfl, b1⟩
        have c1 : w1.cell? (a.add m) = some (.string (f m)) := by rw [b1.cell (World.block_lt_of_cell? _ _ c0)]; exact c0
        have B1 : Hid (Below w.heap.size w w1) := b1
        clear b1 c0 C0
        go_wp2
        go_ret
        exact ⟨by rw [hh.out]; rfl, B1.out⟩
  · rw [h0] at C0
    have hh : Hid (nxC f n s = 151) := nxC_no1 (by rw [h0]; decide)
    clear h0
    go_enter Tryz.func48, Tryz.ntmps48
    go_wp2_with fail
    refine C0.mono ?_
    rintro e w1 ⟨rfl, b1⟩
    go_wp2
    go_ret
    exact ⟨by rw [hh.out]; rfl, b1⟩

theorem SIs.take {w : World} {x : Option Addr} {n k : Nat} {f : Nat → ByteArray} (h : SIs w x n f) (hk : k ≤ n) : SIs w x k f := fun i hi => h i (by omega)
theorem nxC_ok {f : Nat → ByteArray} {k : Nat} (h : nxC f k (f k) = 0) : snC (f k) = 0 ∧ (0 < k → Op.bytesLess (f (k - 1)).toList (f k).toList = true) := by
  rcases nxC_cases f k (f k) with ⟨_, a⟩ | ⟨a, _⟩
  · exact a
  · rw [a] at h; exact absurd h (by decide)
theorem nxC_is (f : Nat → ByteArray) (k : Nat) (s : ByteArray) : nxC f k s = 0 ∨ nxC f k s = 151 := by
  rcases nxC_cases f k s with h | h
  · exact Or.inl h.1
  · exact Or.inr h.1
theorem nxC_bad {f : Nat → ByteArray} {k n : Nat} (hk : k < n) (h : nxC f k (f k) = 151) : ¬ ssOk f n := fun g => by
  rcases nxC_cases f k (f k) with ⟨a, _⟩ | ⟨_, a⟩
  · rw [a] at h; exact absurd h (by decide)
  · exact a (g k hk)

set_option maxRecDepth 100000 in
set_option maxHeartbeats 1000000 in
theorem ckSs_any (x : Option Addr) (n c : Nat) (f : Nat → ByteArray) (w : World) (hS : SIs w x n f) (hnc : n ≤ c) (hn : n ≤ 1152921504606846976) (hs : ∀ i, i < n → (f i).size ≤ 140737488351232) :
    Calls Tryz.prog 27 #[.slice x n c] w fun e w' => e = .returned (.int .i64 (ssC f n)) ∧ Below w.heap.size w w' := by
  have HS : Hid (SIs w x n f) := hS
  have HZ : Hid (∀ i, i < n → (f i).size ≤ 140737488351232) := hs
  clear hS hs
  go_enter Tryz.func27, Tryz.ntmps27
  go_wp2
  go_loopw [8] (fun i wr => ∃ k : Nat, k ≤ n ∧ i = .int .i64 k ∧ Hid (ssOk f k) ∧ Hid (Below w.heap.size w wr)) (fun i _ => n - (intOf i).toNat)
  case atStart => exact ⟨0, Nat.zero_le _, rfl, fun i hi => absurd hi (by omega), Below.refl _ _⟩
  case round =>
    obtain ⟨k, hk, rfl, hok, B⟩ := hrel
    by_cases hlt : k < n
    · have S1 := HS.out.below B.out (Nat.le_refl _)
      have CN := ckN_any x k c f (f k) wr (S1.take hk) (by omega) (HZ.out k hlt)
      obtain ⟨a, rfl, c0⟩ := S1 k hlt
      have hkc : k ≤ c := by omega
      have hkc2 : (k : Int) ≤ (c : Int) := by omega
      rcases nxC_is f k (f k) with h1 | h1
      · have hok2 : Hid (ssOk f (k + 1)) := ssOk_succ hok.out (nxC_ok h1).1 (nxC_ok h1).2
        rw [h1] at CN
        clear h1 S1
        go_wp2_with fail
        refine CN.mono ?_
        rintro e w1 ⟨rfl, b1⟩
        have B1 : Hid (Below w.heap.size w w1) := B.out.trans (b1.mono B.out.size)
        clear b1 B
        go_wp2
        go_roundw
        case rel => exact ⟨k + 1, by omega, by go_num, hok2, B1⟩
        case measure => simp [intOf]; omega
      · have hh : Hid (ssC f n = 151) := ssC_no (nxC_bad hlt h1)
        rw [h1] at CN
        clear h1 S1
        go_wp2_with fail
        refine CN.mono ?_
        rintro e w1 ⟨rfl, b1⟩
        have B1 : Hid (Below w.heap.size w w1) := B.out.trans (b1.mono B.out.size)
        clear b1 B
        go_wp2
        go_ret
        exact ⟨by rw [hh.out]; rfl, B1.out⟩
    · obtain rfl : k = n := by omega
      have hh : Hid (ssC f k = 0) := ssC_yes hok.out
      go_wp2
      go_ret
      exact ⟨by rw [hh.out]; rfl, B.out⟩

end Go.Proofs.YtgnlkggodchlbaaGreatDoor
/- An info in memory; info.Check; walked. -/
namespace Go.Proofs.YtgnlkggodchlbaaGreatDoor
open Go.RowKit

/-- An info's cells. -/
def infL (P : ByteArray) (D : Nat → Int) (z : Int) (vr : Value) (F : ByteArray) (vs : Value) : List Value := .string P :: ((List.range 32).map (fun i => Value.int .u8 (D i)) ++ [.int .i64 z, vr, .string F, vs])
def infC (P : ByteArray) (D : Nat → Int) (z : Int) (vr : Value) (F : ByteArray) (vs : Value) : Array Value := (infL P D z vr F vs).toArray
theorem infL_len (P : ByteArray) (D : Nat → Int) (z : Int) (vr : Value) (F : ByteArray) (vs : Value) : (infL P D z vr F vs).length = 37 := by simp [infL]
theorem infC_size (P : ByteArray) (D : Nat → Int) (z : Int) (vr : Value) (F : ByteArray) (vs : Value) : (infC P D z vr F vs).size = 37 := by rw [infC, List.size_toArray, infL_len]
theorem infL_dig (P : ByteArray) (D : Nat → Int) (z : Int) (vr : Value) (F : ByteArray) (vs : Value) (j : Nat) (hj : j < 32) : (infL P D z vr F vs)[1 + j]? = some (.int .u8 (D j)) := by
  unfold infL
  rw [Nat.add_comm, List.getElem?_cons_succ, List.getElem?_append_left (by simp; omega)]
  simp [hj]
theorem infL_tail (P : ByteArray) (D : Nat → Int) (z : Int) (vr : Value) (F : ByteArray) (vs : Value) (j : Nat) : (infL P D z vr F vs)[33 + j]? = [Value.int .i64 z, vr, .string F, vs][j]? := by
  unfold infL
  rw [show 33 + j = (32 + j) + 1 from by omega, List.getElem?_cons_succ, List.getElem?_append_right (by simp)]
  simp

/-- Block g is an info. -/
structure Inf (w : World) (g : Nat) (P : ByteArray) (D : Nat → Int) (z : Int) (vr : Value) (F : ByteArray) (vs : Value) : Prop where
  path : w.cell? ⟨g, 0, none⟩ = some (.string P)
  dig : ∀ j, j < 32 → w.cell? ⟨g, 1 + j, none⟩ = some (.int .u8 (D j))
  size : w.cell? ⟨g, 33, none⟩ = some (.int .i64 z)
  refs : w.cell? ⟨g, 34, none⟩ = some vr
  from_ : w.cell? ⟨g, 35, none⟩ = some (.string F)
  signs : w.cell? ⟨g, 36, none⟩ = some vs
  free : ∀ j, j < 37 → w.frozen? ⟨g, j, none⟩ = false
theorem Inf.same {w w' : World} {g : Nat} {P : ByteArray} {D : Nat → Int} {z : Int} {vr : Value} {F : ByteArray} {vs : Value} (h : Inf w g P D z vr F vs) (e : w'.heap[g]? = w.heap[g]?) : Inf w' g P D z vr F vs := by
  have c : ∀ j, w'.cell? ⟨g, j, none⟩ = w.cell? ⟨g, j, none⟩ := fun j => World.cell?_of_block (w := w) (w' := w') (a := ⟨g, j, none⟩) e
  have f : ∀ j, w'.frozen? ⟨g, j, none⟩ = w.frozen? ⟨g, j, none⟩ := fun j => World.frozen?_of_block (w := w) (w' := w') (a := ⟨g, j, none⟩) e
  exact ⟨(c _).trans h.path, fun j hj => (c _).trans (h.dig j hj), (c _).trans h.size, (c _).trans h.refs, (c _).trans h.from_, (c _).trans h.signs, fun j hj => (f _).trans (h.free j hj)⟩
theorem Inf.lt {w : World} {g : Nat} {P : ByteArray} {D : Nat → Int} {z : Int} {vr : Value} {F : ByteArray} {vs : Value} (h : Inf w g P D z vr F vs) : g < w.heap.size := World.block_lt_of_cell? _ _ h.path
theorem Inf.below {w w' : World} {g B : Nat} {P : ByteArray} {D : Nat → Int} {z : Int} {vr : Value} {F : ByteArray} {vs : Value} (h : Inf w g P D z vr F vs) (b : Below B w w') (hg : g < B) : Inf w' g P D z vr F vs := h.same (b.block g hg)
theorem Inf.box (w : World) (t : TypeId) (P : ByteArray) (D : Nat → Int) (z : Int) (vr : Value) (F : ByteArray) (vs : Value) : Inf (w.alloc (.cells (infC P D z vr F vs) t)) w.heap.size P D z vr F vs := by
  have c : ∀ j v, (infL P D z vr F vs)[j]? = some v → (w.alloc (.cells (infC P D z vr F vs) t)).cell? ⟨w.heap.size, j, none⟩ = some v := fun j v h => by
    rw [World.cell?_alloc_new]
    unfold infC
    simpa using h
  exact ⟨c 0 _ rfl, fun j hj => c _ _ (infL_dig _ _ _ _ _ _ j hj), c 33 _ (infL_tail _ _ _ _ _ _ 0), c 34 _ (infL_tail _ _ _ _ _ _ 1), c 35 _ (infL_tail _ _ _ _ _ _ 2), c 36 _ (infL_tail _ _ _ _ _ _ 3), fun j _ => World.frozen?_alloc_new w _ _ _⟩

theorem prC_is (p : ByteArray) : prC p = 0 ∨ (prC p != 0) = true := by
  by_cases h : prC p = 0
  · exact Or.inl h
  · exact Or.inr (by rw [bne_iff_ne]; exact h)
theorem crf_is (f : Nat → ByteArray) (n : Nat) : crf f n = 0 ∨ (crf f n != 0) = true := by
  by_cases h : crf f n = 0
  · exact Or.inl h
  · exact Or.inr (by rw [bne_iff_ne]; exact h)

set_option maxRecDepth 100000 in
set_option maxHeartbeats 2000000 in
theorem ick_any (P : ByteArray) (D : Nat → Int) (z : Int) (F : ByteArray) (xr : Option Addr) (nr cr : Nat) (fr : Nat → ByteArray) (xs : Option Addr) (ns cs' : Nat) (fs : Nat → ByteArray) (w : World)
    (hr : SIs w xr nr fr) (hs : SIs w xs ns fs) (hnc : ns ≤ cs') (hns : ns ≤ 1152921504606846976) (hsz : ∀ i, i < ns → (fs i).size ≤ 140737488351232) :
    Calls Tryz.prog 11 #[.agg (infC P D z (.slice xr nr cr) F (.slice xs ns cs'))] w fun e w' => e = .returned (.int .i64 (ckC P z fr nr F fs ns)) ∧ Below w.heap.size w w' := by
  have I0 : Inf (w.alloc (.cells (infC P D z (.slice xr nr cr) F (.slice xs ns cs')) 26)) w.heap.size P D z (.slice xr nr cr) F (.slice xs ns cs') := Inf.box _ _ _ _ _ _ _ _
  have B0 : Below w.heap.size w (w.alloc (.cells (infC P D z (.slice xr nr cr) F (.slice xs ns cs')) 26)) := (Below.refl _ _).alloc (Nat.le_refl _) _
  have z0 : w.heap.size < (w.alloc (.cells (infC P D z (.slice xr nr cr) F (.slice xs ns cs')) 26)).heap.size := by rw [World.size_alloc]; omega
  have HR : Hid (SIs w xr nr fr) := hr
  have HS : Hid (SIs w xs ns fs) := hs
  have HZ : Hid (∀ i, i < ns → (fs i).size ≤ 140737488351232) := hsz
  have HK : Hid (ckC P z fr nr F fs ns = ckC P z fr nr F fs ns) := rfl
  clear hr hs hsz
  generalize hC : ckC P z fr nr F fs ns = C
  have HC : Hid (ckC P z fr nr F fs ns = C) := hC
  clear hC HK
  unfold ckC unC at HC
  have p0 := I0.path
  have CP := fun W => parse_any P W
  rcases prC_is P with hP | hP
  · rw [hP] at CP
    by_cases hz0 : 0 ≤ z
    · have hz0' : ¬ z < 0 := by omega
      by_cases hz1 : z ≤ 1048576
      · have hz1' : ¬ 1048576 < z := by omega
        have HC1 : Hid (orC (orC (crf fr nr) (frC F)) (ssC fs ns) = C) := by
          have h1 := HC.out
          rw [orC_z hP, orC_z (szC_yes hz0 hz1)] at h1
          exact h1
        rcases crf_is fr nr with hR | hR
        · have HC2 : Hid (orC (frC F) (ssC fs ns) = C) := by
            have h1 := HC1.out
            rw [orC_z hR] at h1
            exact h1
          by_cases hF : F.size = 0
          · have hc : Hid (C = ssC fs ns) := by
              have h1 := HC2.out
              rw [frC_z hF, orC_z rfl] at h1
              exact h1.symm
            obtain rfl : F = ⟨#[]⟩ := bytes_ext (by rw [hF]; rfl) (fun k hk => absurd hk (by omega))
            clear HC HC1 HC2 hF
            go_enter Tryz.func11, Tryz.ntmps11
            go_wp2_with fail
            generalize w.alloc (.cells (infC P D z (.slice xr nr cr) ⟨#[]⟩ (.slice xs ns cs')) 26) = w0 at I0 B0 z0 p0 ⊢
            refine (CP w0).mono ?_
            rintro e w1 ⟨rfl, b1⟩
            have I1 := I0.below b1 z0
            have B1 : Hid (Below w.heap.size w w1) := B0.trans (b1.mono B0.size)
            have z1 : Hid (w.heap.size < w1.heap.size) := Nat.lt_of_lt_of_le z0 b1.size
            clear b1 I0 B0 z0 p0 CP
            have c33 := I1.size
            have c34 := I1.refs
            have CR := ckR_any xr nr cr fr w1 (HR.out.below B1.out (Nat.le_refl _))
            rw [hR] at CR
            go_wp2_with fail
            refine CR.mono ?_
            rintro e w2 ⟨rfl, b2⟩
            have I2 := I1.below b2 z1.out
            have B2 : Hid (Below w.heap.size w w2) := B1.out.trans (b2.mono B1.out.size)
            have z2 : Hid (w.heap.size < w2.heap.size) := Nat.lt_of_lt_of_le z1.out b2.size
            clear b2 CR c33 c34 I1 B1 z1
            have c35 := I2.from_
            have c36 := I2.signs
            have CS := ckSs_any xs ns cs' fs w2 (HS.out.below B2.out (Nat.le_refl _)) hnc hns HZ.out
            go_wp2_with fail
            refine CS.mono ?_
            rintro e w4 ⟨rfl, b4⟩
            have B4 : Hid (Below w.heap.size w w4) := B2.out.trans (b4.mono B2.out.size)
            clear b4 CS
            go_wp2
            go_ret
            exact ⟨by rw [hc.out]; rfl, B4.out⟩
          · have f1 : (F.toList == []) = false := by
              rw [beq_eq_false_iff_ne]
              intro h
              exact hF ((empty_iff F).1 (by rw [h]; rfl))
            have f2 : (F.toList != []) = true := by rw [bne_iff_ne]; rw [beq_eq_false_iff_ne] at f1; exact f1
            have f3 : ¬ F.toList = [] := by rw [beq_eq_false_iff_ne] at f1; exact f1
            have f4 : F.toList.isEmpty = false := by
              cases h : F.toList.isEmpty
              · rfl
              · exact absurd ((empty_iff F).1 h) hF
            rcases prC_is F with hF2 | hF2
            · have hc : Hid (C = ssC fs ns) := by
                have h1 := HC2.out
                rw [frC_n hF, orC_z hF2] at h1
                exact h1.symm
              have HF2 : Hid (prC F = 0) := hF2
              clear HC HC1 HC2 hF hF2
              go_enter Tryz.func11, Tryz.ntmps11
              go_wp2_with fail
              generalize w.alloc (.cells (infC P D z (.slice xr nr cr) F (.slice xs ns cs')) 26) = w0 at I0 B0 z0 p0 ⊢
              refine (CP w0).mono ?_
              rintro e w1 ⟨rfl, b1⟩
              have I1 := I0.below b1 z0
              have B1 : Hid (Below w.heap.size w w1) := B0.trans (b1.mono B0.size)
              have z1 : Hid (w.heap.size < w1.heap.size) := Nat.lt_of_lt_of_le z0 b1.size
              clear b1 I0 B0 z0 p0 CP
              have c33 := I1.size
              have c34 := I1.refs
              have CR := ckR_any xr nr cr fr w1 (HR.out.below B1.out (Nat.le_refl _))
              rw [hR] at CR
              go_wp2_with fail
              refine CR.mono ?_
              rintro e w2 ⟨rfl, b2⟩
              have I2 := I1.below b2 z1.out
              have B2 : Hid (Below w.heap.size w w2) := B1.out.trans (b2.mono B1.out.size)
              have z2 : Hid (w.heap.size < w2.heap.size) := Nat.lt_of_lt_of_le z1.out b2.size
              clear b2 CR c33 c34 I1 B1 z1
              have c35 := I2.from_
              go_wp2_with fail
              refine (parse_any F w2).mono ?_
              rintro e w3 ⟨rfl, b3⟩
              rw [HF2.out]
              have I3 := I2.below b3 z2.out
              have B3 : Hid (Below w.heap.size w w3) := B2.out.trans (b3.mono B2.out.size)
              have z3 : Hid (w.heap.size < w3.heap.size) := Nat.lt_of_lt_of_le z2.out b3.size
              clear b3 c35 I2 B2 z2
              have c36 := I3.signs
              have CS := ckSs_any xs ns cs' fs w3 (HS.out.below B3.out (Nat.le_refl _)) hnc hns HZ.out
              go_wp2_with fail
              refine CS.mono ?_
              rintro e w4 ⟨rfl, b4⟩
              have B4 : Hid (Below w.heap.size w w4) := B3.out.trans (b4.mono B3.out.size)
              clear b4 CS
              go_wp2
              go_ret
              exact ⟨by rw [hc.out]; rfl, B4.out⟩
            · have hc : Hid (C = prC F) := by
                have h1 := HC2.out
                rw [bne_iff_ne] at hF2
                rw [frC_n hF, orC_n hF2] at h1
                exact h1.symm
              clear HC HC1 HC2 hF
              go_enter Tryz.func11, Tryz.ntmps11
              go_wp2_with fail
              generalize w.alloc (.cells (infC P D z (.slice xr nr cr) F (.slice xs ns cs')) 26) = w0 at I0 B0 z0 p0 ⊢
              refine (CP w0).mono ?_
              rintro e w1 ⟨rfl, b1⟩
              have I1 := I0.below b1 z0
              have B1 : Hid (Below w.heap.size w w1) := B0.trans (b1.mono B0.size)
              have z1 : Hid (w.heap.size < w1.heap.size) := Nat.lt_of_lt_of_le z0 b1.size
              clear b1 I0 B0 z0 p0 CP
              have c33 := I1.size
              have c34 := I1.refs
              have CR := ckR_any xr nr cr fr w1 (HR.out.below B1.out (Nat.le_refl _))
              rw [hR] at CR
              go_wp2_with fail
              refine CR.mono ?_
              rintro e w2 ⟨rfl, b2⟩
              have I2 := I1.below b2 z1.out
              have B2 : Hid (Below w.heap.size w w2) := B1.out.trans (b2.mono B1.out.size)
              have z2 : Hid (w.heap.size < w2.heap.size) := Nat.lt_of_lt_of_le z1.out b2.size
              clear b2 CR c33 c34 I1 B1 z1
              have c35 := I2.from_
              go_wp2_with fail
              refine (parse_any F w2).mono ?_
              rintro e w3 ⟨rfl, b3⟩
              have I3 := I2.below b3 z2.out
              have B3 : Hid (Below w.heap.size w w3) := B2.out.trans (b3.mono B2.out.size)
              have z3 : Hid (w.heap.size < w3.heap.size) := Nat.lt_of_lt_of_le z2.out b3.size
              clear b3 c35 I2 B2 z2
              go_wp2
              go_ret
              exact ⟨by rw [hc.out]; rfl, B3.out⟩
        · have hc : Hid (C = crf fr nr) := by
            have h1 := HC1.out
            rw [bne_iff_ne] at hR
            rw [orC_n (a := orC (crf fr nr) _) (by rw [orC_n hR]; exact hR), orC_n hR] at h1
            exact h1.symm
          clear HC HC1
          go_enter Tryz.func11, Tryz.ntmps11
          go_wp2_with fail
          generalize w.alloc (.cells (infC P D z (.slice xr nr cr) F (.slice xs ns cs')) 26) = w0 at I0 B0 z0 p0 ⊢
          refine (CP w0).mono ?_
          rintro e w1 ⟨rfl, b1⟩
          have I1 := I0.below b1 z0
          have B1 : Hid (Below w.heap.size w w1) := B0.trans (b1.mono B0.size)
          have z1 : Hid (w.heap.size < w1.heap.size) := Nat.lt_of_lt_of_le z0 b1.size
          clear b1 I0 B0 z0 p0 CP
          have c33 := I1.size
          have c34 := I1.refs
          have CR := ckR_any xr nr cr fr w1 (HR.out.below B1.out (Nat.le_refl _))
          go_wp2_with fail
          refine CR.mono ?_
          rintro e w2 ⟨rfl, b2⟩
          have I2 := I1.below b2 z1.out
          have B2 : Hid (Below w.heap.size w w2) := B1.out.trans (b2.mono B1.out.size)
          have z2 : Hid (w.heap.size < w2.heap.size) := Nat.lt_of_lt_of_le z1.out b2.size
          clear b2 CR c33 c34 I1 B1 z1
          go_wp2
          go_ret
          exact ⟨by rw [hc.out]; rfl, B2.out⟩
      · have hz1' : 1048576 < z := by omega
        have hc : Hid (C = 152) := by
          have h1 := HC.out
          have h2 := szC_no (z := z) (by omega)
          rw [orC_z hP, h2, orC_n (a := orC 152 _) (by rw [orC_n (by decide)]; decide), orC_n (by decide)] at h1
          exact h1.symm
        clear HC
        go_enter Tryz.func11, Tryz.ntmps11
        go_wp2_with fail
        generalize w.alloc (.cells (infC P D z (.slice xr nr cr) F (.slice xs ns cs')) 26) = w0 at I0 B0 z0 p0 ⊢
        refine (CP w0).mono ?_
        rintro e w1 ⟨rfl, b1⟩
        have I1 := I0.below b1 z0
        have B1 : Hid (Below w.heap.size w w1) := B0.trans (b1.mono B0.size)
        have z1 : Hid (w.heap.size < w1.heap.size) := Nat.lt_of_lt_of_le z0 b1.size
        clear b1 I0 B0 z0 p0 CP
        have c33 := I1.size
        go_wp2
        go_ret
        exact ⟨by rw [hc.out]; rfl, B1.out⟩
    · have hz0' : z < 0 := by omega
      have hc : Hid (C = 152) := by
        have h1 := HC.out
        have h2 := szC_no (z := z) (by omega)
        rw [orC_z hP, h2, orC_n (a := orC 152 _) (by rw [orC_n (by decide)]; decide), orC_n (by decide)] at h1
        exact h1.symm
      clear HC
      go_enter Tryz.func11, Tryz.ntmps11
      go_wp2_with fail
      generalize w.alloc (.cells (infC P D z (.slice xr nr cr) F (.slice xs ns cs')) 26) = w0 at I0 B0 z0 p0 ⊢
      refine (CP w0).mono ?_
      rintro e w1 ⟨rfl, b1⟩
      have I1 := I0.below b1 z0
      have B1 : Hid (Below w.heap.size w w1) := B0.trans (b1.mono B0.size)
      have z1 : Hid (w.heap.size < w1.heap.size) := Nat.lt_of_lt_of_le z0 b1.size
      clear b1 I0 B0 z0 p0 CP
      have c33 := I1.size
      go_wp2
      go_ret
      exact ⟨by rw [hc.out]; rfl, B1.out⟩
  · have hc : Hid (C = prC P) := by
      have h1 := HC.out
      rw [bne_iff_ne] at hP
      unfold Hid
      rw [orC_n (a := orC (prC P) _) (by rw [orC_n hP]; exact hP), orC_n hP] at h1
      exact h1.symm
    go_enter Tryz.func11, Tryz.ntmps11
    go_wp2_with fail
    generalize w.alloc (.cells (infC P D z (.slice xr nr cr) F (.slice xs ns cs')) 26) = w0 at I0 B0 z0 p0 ⊢
    refine (CP w0).mono ?_
    rintro e w1 ⟨rfl, b1⟩
    go_wp2
    go_ret
    exact ⟨by rw [hc.out]; rfl, B0.trans (b1.mono B0.size)⟩

end Go.Proofs.YtgnlkggodchlbaaGreatDoor
