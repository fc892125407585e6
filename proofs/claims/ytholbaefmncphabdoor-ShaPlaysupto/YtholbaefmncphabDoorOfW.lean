/- copy from bytes into a State's block; what Write does. -/
import Derived.Test.YtholbaefmncphabDoorOfJ
import Derived.Laws.IdiomCopy
namespace Go.Proofs.YtholbaefmncphabDoor
open Go.RowKit
/-- The slice at x, n bytes long, holds u; it doesn't lie in block g. -/
def BSl (w : World) (g : Nat) (x : Option Addr) (n : Nat) (u : ByteArray) : Prop :=
  u.size = n ∧ (n = 0 ∨ ∃ b o, x = some ⟨b, o, none⟩ ∧ b ≠ g ∧ b < w.heap.size ∧ ∀ j, j < n → w.cell? ⟨b, o + j, none⟩ = some (.int .u8 (bt u j)))
theorem BSl.kept {w w' : World} {g : Nat} {x : Option Addr} {n : Nat} {u : ByteArray} (h : BSl w g x n u) (G : w.grownBy w' (some g)) : BSl w' g x n u := by
  refine ⟨h.1, ?_⟩
  rcases h.2 with h0 | ⟨b, o, hx, hb, hl, hc⟩
  · exact .inl h0
  · refine .inr ⟨b, o, hx, hb, Nat.lt_of_lt_of_le hl G.size, fun j hj => ?_⟩
    rw [World.cell?_of_block (w := w) (w' := w') (a := ⟨b, o + j, none⟩) (G.block b hl (by simpa using hb))]
    exact hc j hj
theorem BSl.drop {w : World} {g : Nat} {x y : Option Addr} {n q : Nat} {u : ByteArray} (h : BSl w g x n u) (hq : q ≤ n) (hy : q < n → ∀ a, x = some a → y = some (a.add q)) : BSl w g y (n - q) (u.extract q u.size) := by
  refine ⟨by rw [ext_size, h.1], ?_⟩
  by_cases e : q = n
  · exact .inl (by omega)
  · rcases h.2 with h0 | ⟨b, o, hx, hb, hl, hc⟩
    · exact .inl (by omega)
    · refine .inr ⟨b, o + q, ?_, hb, hl, fun j hj => ?_⟩
      · rw [hy (by omega) _ hx, Addr.add_lit]
      · rw [ext_bt u q j (by rw [h.1]; omega), show o + q + j = o + (q + j) from by omega]
        exact hc (q + j) (by omega)
theorem bcs_get (u : ByteArray) (q j : Nat) (hj : j < q) : (bcs u q)[j]? = some (.int .u8 (bt u j)) := by simp [bcs, hj]
theorem info_byte : (Tryd.prog.info? 5).map (·.size) = some 1 := by kernel_rfl

theorem step_copy_bytes {ops : Array Oper} {o : Oper} {a : Act} {w : World} {K : Act → World → Prop} {Q : Exit → Act → World → Prop} {E : Prop}
    (hg : o.guard = none) (d x : Operand) (dT sT : TypeId) (hop : o.op = Op.call { callee := Callee.builtin Builtin.copy, args := #[d, x], argTypes := #[dT, sT] })
    (hu : Tryd.prog.underlying dT = some (.slice 5)) (g : Nat) (y : Option Addr) (n c : Nat) (u : ByteArray) (hB : BSl w g y n u) (h0 : 0 < n)
    (off dLen dCap q : Nat) (hd : a.eval d = .slice (some ⟨g, off, none⟩) dLen dCap) (hx : a.eval x = .slice y n c) (hq : Nat.min n dLen = q)
    (hc : ∀ j, j < q → (w.cell? ⟨g, off + j, none⟩).isSome = true) (hf : ∀ j, j < q → w.frozen? ⟨g, off + j, none⟩ = false) (dt : Tmp) (hdst : o.dst = some dt)
    (hK : K (a.put (some dt) (goInt q)) (w.setCells g off (bcs u q))) :
    if Region.wanted o (yielded ops a.tmps) = true then Oper.wp Tryd.prog o a w K Q else E := by
  have hw : Region.wanted o (yielded ops a.tmps) = true := by simp [Region.wanted, hg]
  rw [if_pos hw]
  rcases hB.2 with e0 | ⟨b, o2, hy, hb, hl, hcell⟩
  · omega
  · subst hy
    have hqn : q ≤ n := by rw [← hq]; exact Nat.min_le_left _ _
    have hrun := run_copy_cells (P := Tryd.prog) w dT sT o.type 5 g off dLen dCap ⟨b, o2, none⟩ n c (bcs u q) hu info_byte (by rw [bcs_length]; exact hq.symm)
      (fun j v hj => by
        have hjq : j < q := by have := (List.getElem?_eq_some_iff.1 hj).1; rw [bcs_length] at this; exact this
        rw [bcs_get u q j hjq] at hj
        rw [Addr.add_lit, hcell j (by omega), hj])
      (by rw [bcs_length]; exact hc) (by rw [bcs_length]; exact hf) (fun v hv => by obtain ⟨_, _, rfl⟩ := List.mem_map.1 hv; rfl)
    rw [bcs_length] at hrun
    unfold Oper.wp
    simp [execOp, hop, resolve, invoke, builtin, hd, hx, hrun, Result.andThen]
    rw [← hdst] at hK
    exact hK

/-- Where a slice's rest begins. -/
def dropA (y : Option Addr) (d q : Nat) : Option Addr := if d = q then y else y.map (·.add q)
theorem run_drop_bytes (y : Option Addr) (k d q : Nat) (hq : q ≤ k) (w : World) : (Instr.slice 40 (.slice y k d) (some (.int .i64 (q : Int))) none none).run Tryd.prog w = .ok (.slice (dropA y d q) (k - q) (d - q)) w := by
  obtain ⟨i0, hi, hz0, hz1, hz2⟩ := info_parts Tryd.info5
  have he : Tryd.prog.elem 40 = 5 := by kernel_rfl
  rw [run_slice_l (P := Tryd.prog) w 40 y k d (by rw [he]; exact Tryd.underlying40) .i64 (q : Int) (by omega) (by omega), he]
  simp [sizeOf, typeInfo, hi, hz1, sliced, dropA, Result.andThen]

set_option maxHeartbeats 4000000 in
theorem write_any (g N : Nat) (x : Option Addr) (n c : Nat) (t : ByteArray) (m f : Nat → Int) (w : World) (hX : BSl w g x n t) (hnc : n ≤ c) (S : Stt w g N (hw m (N / 64)) f) (hf : FB m N f) (hm : ∀ i, i < t.size → m (N + i) = bt t i) (hN : N + t.size ≤ 2305843009213693952) (hK : KT w) (hg : 0 < g) :
    Calls Tryd.prog 13 #[.pointer (some ⟨g, 0, none⟩), .slice x n c] w fun e w' => e = .returned (.tuple #[]) ∧ (∃ f', Stt w' g ((N + t.size : Nat) : Int) (hw m ((N + t.size) / 64)) f' ∧ FB m (N + t.size) f') ∧ w.grownBy w' (some g) := by
  have hz : ∀ w, (Go.sizeOf 5).run Tryd.prog w = .ok 1 w := fun w => by
    obtain ⟨i0, hi, hz0, hz1, hz2⟩ := info_parts Tryd.info5
    simp [sizeOf, typeInfo, hi, hz1]
  go_enter Tryd.func13, Tryd.ntmps13
  go_wp2
  go_loopw [1] (fun v wr => ∃ (y : Option Addr) (k d : Nat) (u : ByteArray) (N' : Nat) (f' : Nat → Int), v = .slice y k d ∧ BSl wr g y k u ∧ k ≤ d ∧ N' + u.size = N + t.size ∧ (∀ i, i < u.size → m (N' + i) = bt u i) ∧ Stt wr g N' (hw m (N' / 64)) f' ∧ FB m N' f' ∧ KT wr ∧ w.grownBy wr (some g)) (fun v _ => match v with | .slice _ k _ => k | _ => 0)
  case atStart => exact ⟨x, n, c, t, N, f, rfl, hX, hnc, rfl, hm, S, hf, hK, World.grownBy.refl _ _⟩
  case round =>
    obtain ⟨y, k, d, u, N', f', rfl, hB', hkd, hsz, hm', S', hf', hK', G⟩ := hrel
    have hk : u.size = k := hB'.1
    clear S hf hm hK hX
    by_cases hu : 0 < u.size
    · obtain ⟨r, hr⟩ : ∃ r, r = N' % 64 := ⟨_, rfl⟩
      obtain ⟨q, hq⟩ : ∃ q, q = Nat.min u.size (64 - r) := ⟨_, rfl⟩
      have hq1 : q ≤ u.size := by rw [hq]; exact Nat.min_le_left _ _
      have hq2 : q ≤ 64 - r := by rw [hq]; exact Nat.min_le_right _ _
      have hq0 : 0 < q := by rw [hq]; exact Nat.lt_min.2 ⟨hu, by omega⟩
      have c0 := S'.c0
      have er : (N' : Int) % 64 = (r : Int) := by omega
      have hr64 : r < 64 := by omega
      have HB : Hid (BSl wr g y k u) := hB'
      clear hB'
      have HS : Hid (Stt wr g N' (hw m (N' / 64)) f') := S'
      have HR : Hid (r = N' % 64) := hr
      have HQ : Hid (q = Nat.min u.size (64 - r)) := hq
      have HM : Hid (∀ i, i < u.size → m (N' + i) = bt u i) := hm'
      clear S' hr hq hm'
      go_wp2
      refine wp_region_held_drew (S := fun W => W.cell? ⟨g, 0, none⟩ = some (.int .i64 (N' : Int))) (by kernel_rfl) c0 (fun hHeld => ?_)
      have HS1 : Hid (Stt wr.drew g N' (hw m (N' / 64)) f') := HS.out.drew
      have HK1 : Hid (KT wr.drew) := fun i hi => hK' i hi
      have G1 : w.grownBy wr.drew (some g) := gb_drew G
      have HB1 : Hid (BSl wr.drew g y k u) := HB.out.kept (gb_drew (World.grownBy.refl _ _))
      generalize wr.drew = W1 at hHeld HS1 HK1 G1 HB1 ⊢
      clear c0
      refine wpAnyH_take (i := 0) (oi := { dst := some 8, op := Op.move (Operand.tmp 0), type := 24, pos := "sha.go:43", after := #[], guard := none }) (v := .pointer (some ⟨g, 0, none⟩)) rfl (by kernel_rfl) (by kernel_rfl) (by kernel_rfl) (fun _ _ _ h => h) (Or.inl ⟨by rfl, by intro w hS; go_simp⟩) hHeld ?_
      simp only [Act.put, List.setIfInBounds_toArray, List.set_cons_zero, List.set_cons_succ]
      refine wpAnyH_take (i := 3) (oi := { dst := some 11, op := Op.move (Operand.tmp 0), type := 24, pos := "sha.go:43", after := #[], guard := none }) (v := .pointer (some ⟨g, 0, none⟩)) rfl (by kernel_rfl) (by kernel_rfl) (by kernel_rfl) (fun _ _ _ h => h) (Or.inl ⟨by rfl, by intro w hS; go_simp⟩) hHeld ?_
      simp only [Act.put, List.setIfInBounds_toArray, List.set_cons_zero, List.set_cons_succ]
      refine wpAnyH_take (i := 10) (oi := { dst := some 18, op := Op.move (Operand.tmp 1), type := 40, pos := "sha.go:43", after := #[], guard := none }) (v := .slice y k d) rfl (by kernel_rfl) (by kernel_rfl) (by kernel_rfl) (fun _ _ _ h => h) (Or.inl ⟨by rfl, by intro w hS; go_simp⟩) hHeld ?_
      simp only [Act.put, List.setIfInBounds_toArray, List.set_cons_zero, List.set_cons_succ]
      refine wpAnyH_take (i := 1) (oi := { dst := some 9, op := Op.nilCheck (Operand.tmp 8), type := 0, pos := "sha.go:43", after := #[{ on := 0, ground := Ground.data }], guard := none }) (v := .pointer (some ⟨g, 0, none⟩)) rfl (by kernel_rfl) (by kernel_rfl) (by kernel_rfl) (fun _ _ _ h => h) (Or.inl ⟨by rfl, by intro w hS; go_simp⟩) hHeld ?_
      simp only [Act.put, List.setIfInBounds_toArray, List.set_cons_zero, List.set_cons_succ]
      refine wpAnyH_take (i := 4) (oi := { dst := some 12, op := Op.nilCheck (Operand.tmp 11), type := 0, pos := "sha.go:43", after := #[{ on := 3, ground := Ground.data }], guard := none }) (v := .pointer (some ⟨g, 0, none⟩)) rfl (by kernel_rfl) (by kernel_rfl) (by kernel_rfl) (fun _ _ _ h => h) (Or.inl ⟨by rfl, by intro w hS; go_simp⟩) hHeld ?_
      simp only [Act.put, List.setIfInBounds_toArray, List.set_cons_zero, List.set_cons_succ]
      refine wpAnyH_take (i := 2) (oi := { dst := some 10, op := Op.fieldAddr 34 (Operand.tmp 9) 2, type := 0, pos := "sha.go:43", after := #[{ on := 1, ground := Ground.data }], guard := none }) (v := .pointer (some ⟨g, 9, none⟩)) rfl (by kernel_rfl) (by kernel_rfl) (by kernel_rfl) (fun _ _ _ h => h) (Or.inl ⟨by rfl, by intro w hS; go_simp⟩) hHeld ?_
      simp only [Act.put, List.setIfInBounds_toArray, List.set_cons_zero, List.set_cons_succ]
      refine wpAnyH_take (i := 5) (oi := { dst := some 13, op := Op.fieldAddr 34 (Operand.tmp 12) 0, type := 0, pos := "sha.go:43", after := #[{ on := 4, ground := Ground.data }], guard := none }) (v := .pointer (some ⟨g, 0, none⟩)) rfl (by kernel_rfl) (by kernel_rfl) (by kernel_rfl) (fun _ _ _ h => h) (Or.inl ⟨by rfl, by intro w hS; go_simp⟩) hHeld ?_
      simp only [Act.put, List.setIfInBounds_toArray, List.set_cons_zero, List.set_cons_succ]
      refine wpAnyH_take (i := 6) (oi := { dst := some 14, op := Op.fieldAddr 29 (Operand.tmp 13) 0, type := 0, pos := "sha.go:43", after := #[{ on := 5, ground := Ground.data }], guard := none }) (v := .pointer (some ⟨g, 0, none⟩)) rfl (by kernel_rfl) (by kernel_rfl) (by kernel_rfl) (fun _ _ _ h => h) (Or.inl ⟨by rfl, by intro w hS; go_simp⟩) hHeld ?_
      simp only [Act.put, List.setIfInBounds_toArray, List.set_cons_zero, List.set_cons_succ]
      refine wpAnyH_take (i := 7) (oi := { dst := some 15, op := Op.load 3 (Operand.tmp 14), type := 3, pos := "sha.go:43", after := #[{ on := 6, ground := Ground.data }], guard := none }) (v := .int .i64 (N' : Int)) rfl (by kernel_rfl) (by kernel_rfl) (by kernel_rfl) (fun _ _ _ h => h) (Or.inl ⟨by rfl, by intro w hS; go_simp⟩) hHeld ?_
      simp only [Act.put, List.setIfInBounds_toArray, List.set_cons_zero, List.set_cons_succ]
      refine wpAnyH_take (i := 8) (oi := { dst := some 16, op := Op.binOp BinOp.rem 3 (Operand.tmp 15) (Operand.const (Value.int IntKind.i64 64)) 3, type := 3, pos := "sha.go:43", after := #[{ on := 7, ground := Ground.data }], guard := none }) (v := .int .i64 (r : Int)) rfl (by kernel_rfl) (by kernel_rfl) (by kernel_rfl) (fun _ _ _ h => h) (Or.inl ⟨by rfl, by intro w hS; go_simp; rw [Int.tmod_eq_emod_of_nonneg (by omega)]; exact er⟩) hHeld ?_
      simp only [Act.put, List.setIfInBounds_toArray, List.set_cons_zero, List.set_cons_succ]
      refine wpAnyH_take (i := 9) (oi := { dst := some 17, op := Op.slice 32 (Operand.tmp 10) (some (Operand.tmp 16)) none none, type := 40, pos := "sha.go:43", after := #[{ on := 2, ground := Ground.data }, { on := 8, ground := Ground.data }], guard := none }) (v := .slice (some ⟨g, 9 + r, none⟩) (64 - r) (64 - r)) rfl (by kernel_rfl) (by kernel_rfl) (by kernel_rfl) (fun _ _ _ h => h) (Or.inl ⟨by rfl, by intro w hS; have hsl := run_slice_blk g r w hr64; go_simp⟩) hHeld ?_
      simp only [Act.put, List.setIfInBounds_toArray, List.set_cons_zero, List.set_cons_succ]
      have hcell : ∀ j, j < q → (W1.cell? ⟨g, 9 + r + j, none⟩).isSome = true := fun j hj => by
        rw [show 9 + r + j = 9 + (r + j) from by omega, HS1.out.cb (r + j) (by omega)]
        rfl
      have hfree : ∀ j, j < q → W1.frozen? ⟨g, 9 + r + j, none⟩ = false := fun j hj => HS1.out.fr (9 + r + j) (by omega)
      refine wpAnyH_ready (rs := [11]) (by kernel_rfl) (by decide) (AllReadyH.cons rfl (fun K hK => ?_) AllReadyH.nil)
      refine step_copy_bytes rfl (.tmp 17) (.tmp 18) 40 40 rfl Tryd.underlying40 g y k d u HB1.out (by omega) (9 + r) (64 - r) (64 - r) q rfl rfl (by rw [← hk]; exact HQ.out.symm) hcell hfree 19 rfl ?_
      have S2 := HS1.out.putB u r q (by omega)
      have G2 := gb_trans G1 (gb_setCells W1 g (9 + r) (bcs u q))
      have K2 := HK1.out.grown (gb_setCells W1 g (9 + r) (bcs u q)) hg
      have B2 : Hid (BSl (W1.setCells g (9 + r) (bcs u q)) g y k u) := HB1.out.kept (gb_setCells W1 g (9 + r) (bcs u q))
      generalize W1.setCells g (9 + r) (bcs u q) = W2 at S2 G2 K2 B2 ⊢
      refine hK.out _ _ S2.c0 (fun hHeld2 => ?_)
      clear hK K hcell hfree HS1 HK1 G1 HS hK' G HB HB1
      simp only [Act.put, List.setIfInBounds_toArray, List.set_cons_zero, List.set_cons_succ]
      refine wpAnyH_ready (rs := [12]) (by kernel_rfl) (by decide) (AllReadyH.cons rfl (fun K hK => ?_) AllReadyH.nil)
      rw [if_pos (by rfl)]
      go_simp
      refine hK.out _ _ S2.c0 (fun _ => ?_)
      clear hK K
      refine wpAnyH_done (by kernel_rfl) ?_ _
      have HS2 : Hid (Stt W2 g N' (hw m (N' / 64)) (putF f' u r q)) := S2
      have HK2 : Hid (KT W2) := K2
      clear S2 K2
      go_wp2_with fail
      refine (advance_any g N' q _ _ W2 HS2.out (by omega) (by omega) (by omega) (hw_w _ _) (putF_bd _ _ _ _ hf'.1) HK2.out hg).mono ?_
      rintro e w4 ⟨rfl, S4, G4⟩
      have G5 := gb_trans G2 G4
      have K5 : Hid (KT w4) := HK2.out.grown G4 hg
      have B5 : Hid (BSl w4 g y k u) := B2.out.kept G4
      have hst := wt_step m f' u N' r q hf' HR.out (by omega) hq0 hq1 HM.out
      rw [show ((N' : Int) + (q : Int)) = ((N' + q : Nat) : Int) from by omega, hst.1] at S4
      have HS4 : Hid (Stt w4 g ((N' + q : Nat) : Int) (hw m ((N' + q) / 64)) (putF f' u r q)) := S4
      have HF4 : Hid (FB m (N' + q) (putF f' u r q)) := hst.2
      clear S4 hst HS2 HK2 G2 G4 hHeld hHeld2 hf' B2
      have hx := ext_size u q
      have hsl := run_drop_bytes y k d q (by omega)
      go_wp2
      go_roundw
      case rel =>
        refine ⟨_, _, _, u.extract q u.size, N' + q, _, rfl, B5.out.drop (by omega) (fun hlt a ha => ?_), by omega, by rw [hx]; omega, fun i hi => ?_, HS4.out, HF4.out, K5.out, G5⟩
        · unfold dropA
          rw [if_neg (by omega), ha]
          rfl
        rw [hx] at hi
        rw [ext_bt u q i hi, ← HM.out (q + i) (by omega)]
        congr 1
        omega
      case measure =>
        show k - q < k
        omega
    · obtain rfl : N' = N + t.size := by omega
      have hu0 : u.size = 0 := by omega
      clear hu
      go_wp2
      go_end0
      exact ⟨rfl, ⟨f', S', hf'⟩, G⟩
#print axioms write_any
end Go.Proofs.YtholbaefmncphabDoor
