/- Gathered: OfF OfG OfH Abc OfI. -/
import Derived.Lib.LazyBuf
import Derived.Test.YtojefckhefanhabDoorQj
/- copy from a string into a State's block; what WriteText does. -/
namespace Go.Proofs.YtojefckhefanhabDoor
open Go.RowKit
/-- The first q bytes of a string, as cells. -/
def bcs (t : ByteArray) (q : Nat) : List Value := (List.range q).map (fun j => Value.int .u8 (bt t j))
theorem bcs_length (t : ByteArray) (q : Nat) : (bcs t q).length = q := by simp [bcs]
theorem bcs_take (t : ByteArray) (q : Nat) (hq : q ≤ t.size) : (t.data.toList.map fun x => Value.int .u8 (x.toNat : Int)).take q = bcs t q := by
  apply List.ext_getElem?
  intro i
  unfold bcs
  rw [List.getElem?_take]
  by_cases h : i < q
  · rw [if_pos h]
    have hs : i < t.size := by omega
    have hs' : i < t.data.size := hs
    simp only [List.getElem?_map, Array.getElem?_toList, Array.getElem?_eq_getElem hs', List.getElem?_range h, Option.map_some]
    congr 2
    unfold bt
    rw [dif_pos hs]
    rfl
  · rw [if_neg h, List.getElem?_eq_none (by simp; omega)]

/-- copy(dst, t), t a string: as many bytes as there is room for. -/
theorem run_copy_min {P : Program} (w : World) (dT sT ty elem : TypeId) (b o dLen dCap q : Nat) (t : ByteArray)
    (hu : P.underlying dT = some (.slice elem)) (hz : ∀ w, (Go.sizeOf elem).run P w = .ok 1 w) (hq : Nat.min t.size dLen = q)
    (hc : ∀ j, j < q → (w.cell? ⟨b, o + j, none⟩).isSome = true) (hf : ∀ j, j < q → w.frozen? ⟨b, o + j, none⟩ = false) :
    (Builtin.copy_ #[dT, sT] ty #[.slice (some ⟨b, o, none⟩) dLen dCap, .string t]).run P w = .ok (goInt q) (w.setCells b o (bcs t q)) := by
  have hqs : q ≤ t.size := by rw [← hq]; exact Nat.min_le_left _ _
  have hst := run_storeCells_cells (P := P) b o (bcs t q) 0 w (by rw [bcs_length]; simpa using hc) (by rw [bcs_length]; simpa using hf) (by
    intro v hv
    obtain ⟨x, _, rfl⟩ := List.mem_map.1 hv
    rfl)
  simp [Builtin.copy_, run_underlying hu, Builtin.lenOf, Builtin.firstCells, hz, hq]
  rw [bcs_take t q hqs, hst]
  rfl

theorem step_copy_min {P : Program} {ops : Array Oper} {o : Oper} {a : Act} {w : World} {K : Act → World → Prop} {Q : Exit → Act → World → Prop} {E : Prop}
    (hg : o.guard = none) (d x : Operand) (dT sT : TypeId) (hop : o.op = Op.call { callee := Callee.builtin Builtin.copy, args := #[d, x], argTypes := #[dT, sT] })
    (elem : TypeId) (hu : P.underlying dT = some (.slice elem)) (hz : ∀ w, (Go.sizeOf elem).run P w = .ok 1 w)
    (b off dLen dCap q : Nat) (hd : a.eval d = .slice (some ⟨b, off, none⟩) dLen dCap) (t : ByteArray) (hx : a.eval x = .string t) (hq : Nat.min t.size dLen = q)
    (hc : ∀ j, j < q → (w.cell? ⟨b, off + j, none⟩).isSome = true) (hf : ∀ j, j < q → w.frozen? ⟨b, off + j, none⟩ = false) (dt : Tmp) (hdst : o.dst = some dt)
    (hK : K (a.put (some dt) (goInt q)) (w.setCells b off (bcs t q))) :
    if Region.wanted o (yielded ops a.tmps) = true then Oper.wp P o a w K Q else E := by
  have hw : Region.wanted o (yielded ops a.tmps) = true := by simp [Region.wanted, hg]
  rw [if_pos hw]
  have hrun := run_copy_min (P := P) w dT sT o.type elem b off dLen dCap q t hu hz hq hc hf
  unfold Oper.wp
  simp [execOp, hop, resolve, invoke, builtin, hd, hx, hrun, Result.andThen]
  rw [← hdst] at hK
  exact hK

/-- The block f with q bytes of t put in from r on. -/
def putF (f : Nat → Int) (t : ByteArray) (r q j : Nat) : Int := if r ≤ j ∧ j < r + q then bt t (j - r) else f j
theorem Stt.putB {w : World} {g : Nat} {n : Int} {h f : Nat → Int} (s : Stt w g n h f) (t : ByteArray) (r q : Nat) (hr : r + q ≤ 64) : Stt (w.setCells g (9 + r) (bcs t q)) g n h (putF f t r q) :=
  ⟨by rw [World.cell?_setCells_out _ _ _ _ _ (fun _ _ => .inl (by show 0 < 9 + r; omega))]; exact s.c0,
   fun j hj => by rw [World.cell?_setCells_out _ _ _ _ _ (fun _ _ => .inl (by show 1 + j < 9 + r; omega))]; exact s.cw j hj,
   fun j hj => by
    unfold putF
    by_cases e : r ≤ j ∧ j < r + q
    · rw [if_pos e]
      have h1 := World.cell?_setCells_in g (bcs t q) (9 + r) w (fun i hi => by
        rw [bcs_length] at hi
        have := s.cb (r + i) (by omega)
        rw [show 9 + r + i = 9 + (r + i) from by omega, this]
        rfl) (j - r) (by rw [bcs_length]; omega)
      rw [show 9 + r + (j - r) = 9 + j from by omega] at h1
      rw [h1]
      simp [bcs]
    · rw [if_neg e, World.cell?_setCells_out _ _ _ _ _ (fun _ _ => by
        rw [bcs_length]
        show 9 + j < 9 + r ∨ 9 + r + q ≤ 9 + j
        omega)]
      exact s.cb j hj,
   fun j hj => by rw [World.frozen?_setCells]; exact s.fr j hj⟩
theorem sch_congr (b b' : Nat → Int) (hb : ∀ j, j < 64 → b j = b' j) (k : Nat) : sch b k = sch b' k := by
  induction k with
  | zero => rfl
  | succ k ih =>
    funext j
    rw [sch, sch, ih]
    unfold nxt
    by_cases h : k < 16
    · rw [if_pos h, if_pos h]
      unfold wd
      rw [hb (4 * k) (by omega), hb (4 * k + 1) (by omega), hb (4 * k + 2) (by omega), hb (4 * k + 3) (by omega)]
    · rw [if_neg h, if_neg h]
theorem blk_congr (h b b' : Nat → Int) (hb : ∀ j, j < 64 → b j = b' j) : blk kk h b = blk kk h b' := by
  funext j
  unfold blk
  rw [sch_congr b b' hb]
/-- The block holds what has been written behind the whole blocks. -/
def FB (m : Nat → Int) (N : Nat) (f : Nat → Int) : Prop := (∀ j, 0 ≤ f j ∧ f j < 256) ∧ ∀ j, j < N % 64 → f j = m (64 * (N / 64) + j)
theorem putF_bd (f : Nat → Int) (t : ByteArray) (r q : Nat) (hf : ∀ j, 0 ≤ f j ∧ f j < 256) (j : Nat) : 0 ≤ putF f t r q j ∧ putF f t r q j < 256 := by
  unfold putF
  split
  · exact bt_bd t _
  · exact hf j
theorem wt_step (m f : Nat → Int) (u : ByteArray) (N r q : Nat) (hf : FB m N f) (hr : r = N % 64) (hq : r + q ≤ 64) (h0 : 0 < q) (hu : q ≤ u.size) (hm : ∀ i, i < u.size → m (N + i) = bt u i) :
    adv (hw m (N / 64)) (putF f u r q) ((N + q : Nat) : Int) = hw m ((N + q) / 64) ∧ FB m (N + q) (putF f u r q) := by
  have hp : ∀ j, j < r + q → putF f u r q j = m (64 * (N / 64) + j) := fun j hj => by
    unfold putF
    by_cases e : r ≤ j
    · rw [if_pos ⟨e, hj⟩, ← hm (j - r) (by omega)]
      congr 1
      omega
    · rw [if_neg (by omega)]
      exact hf.2 j (by omega)
  by_cases h64 : r + q = 64
  · refine ⟨?_, putF_bd _ _ _ _ hf.1, fun j hj => absurd hj (by omega)⟩
    unfold adv
    rw [if_pos (by omega), show (N + q) / 64 = N / 64 + 1 from by omega, hw]
    exact blk_congr _ _ _ (fun j hj => hp j (by omega))
  · refine ⟨?_, putF_bd _ _ _ _ hf.1, fun j hj => ?_⟩
    · unfold adv
      rw [if_neg (by omega), show (N + q) / 64 = N / 64 from by omega]
    · rw [show (N + q) / 64 = N / 64 from by omega]
      exact hp j (by omega)

theorem ext_size (u : ByteArray) (q : Nat) : (u.extract q u.size).size = u.size - q := by
  rw [ByteArray.size_extract, Nat.min_self]
theorem ext_bt (u : ByteArray) (q i : Nat) (hi : i < u.size - q) : bt (u.extract q u.size) i = bt u (q + i) := by
  unfold bt
  rw [dif_pos (by rw [ext_size]; exact hi), dif_pos (by omega), ByteArray.getElem_extract]

theorem run_slice_blk (g r : Nat) (w : World) (hr : r < 64) : (Instr.sliceAt 69 (.pointer (some ⟨g, 9, none⟩)) (some (.int .i64 (r : Int))) none none).run Tryd.prog w = .ok (.slice (some ⟨g, 9 + r, none⟩) (64 - r) (64 - r)) w := by
  have hl : Tryd.prog.arrayLen 69 = 64 := by kernel_rfl
  have he : Tryd.prog.elem 69 = 5 := by kernel_rfl
  obtain ⟨i0, hi, hz0, hz1, hz2⟩ := info_parts Tryd.infoS5
  rw [run_sliceAt_array_l (P := Tryd.prog) w 69 ⟨g, 9, none⟩ (by kernel_rfl) .i64 (r : Int) (by omega) (by rw [hl]; omega), he, hl]
  simp only [sizeOf, typeInfo, Sem.run_bind]
  simp [hi, hz1, slicedAt, show ¬ (64 = r) from by omega, Addr.add_mid]

set_option maxRecDepth 10000 in
set_option maxHeartbeats 4000000 in
theorem writeText_any (g N : Nat) (t : ByteArray) (m f : Nat → Int) (w : World) (S : Stt w g N (hw m (N / 64)) f) (hf : FB m N f) (hm : ∀ i, i < t.size → m (N + i) = bt t i) (hN : N + t.size ≤ 2305843009213693952) (hK : KT w) (hg : 0 < g) :
    Calls Tryd.prog 12 #[.pointer (some ⟨g, 0, none⟩), .string t] w fun e w' => e = .returned (.tuple #[]) ∧ (∃ f', Stt w' g ((N + t.size : Nat) : Int) (hw m ((N + t.size) / 64)) f' ∧ FB m (N + t.size) f') ∧ w.grownBy w' (some g) := by
  have hz : ∀ w, (Go.sizeOf 5).run Tryd.prog w = .ok 1 w := fun w => by
    obtain ⟨i0, hi, hz0, hz1, hz2⟩ := info_parts Tryd.infoS5
    simp [sizeOf, typeInfo, hi, hz1]
  go_enter Tryd.func12, Tryd.ntmps12
  go_wp2
  go_loopw [1] (fun v wr => ∃ (u : ByteArray) (N' : Nat) (f' : Nat → Int), v = .string u ∧ N' + u.size = N + t.size ∧ (∀ i, i < u.size → m (N' + i) = bt u i) ∧ Stt wr g N' (hw m (N' / 64)) f' ∧ FB m N' f' ∧ KT wr ∧ w.grownBy wr (some g)) (fun v _ => match v with | .string s => s.size | _ => 0)
  case atStart => exact ⟨t, N, f, rfl, rfl, hm, S, hf, hK, World.grownBy.refl _ _⟩
  case round =>
    obtain ⟨u, N', f', rfl, hsz, hm', S', hf', hK', G⟩ := hrel
    clear S hf hm hK
    by_cases hu : 0 < u.size
    · obtain ⟨r, hr⟩ : ∃ r, r = N' % 64 := ⟨_, rfl⟩
      obtain ⟨q, hq⟩ : ∃ q, q = Nat.min u.size (64 - r) := ⟨_, rfl⟩
      have hq1 : q ≤ u.size := by rw [hq]; exact Nat.min_le_left _ _
      have hq2 : q ≤ 64 - r := by rw [hq]; exact Nat.min_le_right _ _
      have hq0 : 0 < q := by rw [hq]; exact Nat.lt_min.2 ⟨hu, by omega⟩
      have c0 := S'.c0
      have er : (N' : Int) % 64 = (r : Int) := by omega
      have hr64 : r < 64 := by omega
      have HS : Hid (Stt wr g N' (hw m (N' / 64)) f') := S'
      have HR : Hid (r = N' % 64) := hr
      have HQ : Hid (q = Nat.min u.size (64 - r)) := hq
      have HM : Hid (∀ i, i < u.size → m (N' + i) = bt u i) := hm'
      clear S' hr hq hm'
      go_wp2
      refine wp_region_held_drew (S := fun W => W.cell? ⟨g, 0, none⟩ = some (.int .i64 (N' : Int))) (by kernel_rfl) c0 (fun hHeld => ?_)
      have HS1 : Hid (Stt wr.drew g N' (hw m (N' / 64)) f') := HS.out.drew
      have HK1 : Hid (KT wr.drew) := fun i hi => hK' i hi
      have G1 : w.grownBy wr.drew (some g) := gb_drew G
      generalize wr.drew = W1 at hHeld HS1 HK1 G1 ⊢
      clear c0
      refine wpAnyH_take (i := 0) (oi := { dst := some 8, op := Op.move (Operand.tmp 0), type := 40, pos := "sha.go:52", after := #[], guard := none }) (v := .pointer (some ⟨g, 0, none⟩)) rfl (by kernel_rfl) (by kernel_rfl) (by kernel_rfl) (fun _ _ _ h => h) (Or.inl ⟨by rfl, by intro w hS; go_simp⟩) hHeld ?_
      simp only [Act.put, List.setIfInBounds_toArray, List.set_cons_zero, List.set_cons_succ]
      refine wpAnyH_take (i := 3) (oi := { dst := some 11, op := Op.move (Operand.tmp 0), type := 40, pos := "sha.go:52", after := #[], guard := none }) (v := .pointer (some ⟨g, 0, none⟩)) rfl (by kernel_rfl) (by kernel_rfl) (by kernel_rfl) (fun _ _ _ h => h) (Or.inl ⟨by rfl, by intro w hS; go_simp⟩) hHeld ?_
      simp only [Act.put, List.setIfInBounds_toArray, List.set_cons_zero, List.set_cons_succ]
      refine wpAnyH_take (i := 10) (oi := { dst := some 18, op := Op.move (Operand.tmp 1), type := 9, pos := "sha.go:52", after := #[], guard := none }) (v := .string u) rfl (by kernel_rfl) (by kernel_rfl) (by kernel_rfl) (fun _ _ _ h => h) (Or.inl ⟨by rfl, by intro w hS; go_simp⟩) hHeld ?_
      simp only [Act.put, List.setIfInBounds_toArray, List.set_cons_zero, List.set_cons_succ]
      refine wpAnyH_take (i := 1) (oi := { dst := some 9, op := Op.nilCheck (Operand.tmp 8), type := 0, pos := "sha.go:52", after := #[{ on := 0, ground := Ground.data }], guard := none }) (v := .pointer (some ⟨g, 0, none⟩)) rfl (by kernel_rfl) (by kernel_rfl) (by kernel_rfl) (fun _ _ _ h => h) (Or.inl ⟨by rfl, by intro w hS; go_simp⟩) hHeld ?_
      simp only [Act.put, List.setIfInBounds_toArray, List.set_cons_zero, List.set_cons_succ]
      refine wpAnyH_take (i := 4) (oi := { dst := some 12, op := Op.nilCheck (Operand.tmp 11), type := 0, pos := "sha.go:52", after := #[{ on := 3, ground := Ground.data }], guard := none }) (v := .pointer (some ⟨g, 0, none⟩)) rfl (by kernel_rfl) (by kernel_rfl) (by kernel_rfl) (fun _ _ _ h => h) (Or.inl ⟨by rfl, by intro w hS; go_simp⟩) hHeld ?_
      simp only [Act.put, List.setIfInBounds_toArray, List.set_cons_zero, List.set_cons_succ]
      refine wpAnyH_take (i := 2) (oi := { dst := some 10, op := Op.fieldAddr 71 (Operand.tmp 9) 2, type := 0, pos := "sha.go:52", after := #[{ on := 1, ground := Ground.data }], guard := none }) (v := .pointer (some ⟨g, 9, none⟩)) rfl (by kernel_rfl) (by kernel_rfl) (by kernel_rfl) (fun _ _ _ h => h) (Or.inl ⟨by rfl, by intro w hS; go_simp⟩) hHeld ?_
      simp only [Act.put, List.setIfInBounds_toArray, List.set_cons_zero, List.set_cons_succ]
      refine wpAnyH_take (i := 5) (oi := { dst := some 13, op := Op.fieldAddr 71 (Operand.tmp 12) 0, type := 0, pos := "sha.go:52", after := #[{ on := 4, ground := Ground.data }], guard := none }) (v := .pointer (some ⟨g, 0, none⟩)) rfl (by kernel_rfl) (by kernel_rfl) (by kernel_rfl) (fun _ _ _ h => h) (Or.inl ⟨by rfl, by intro w hS; go_simp⟩) hHeld ?_
      simp only [Act.put, List.setIfInBounds_toArray, List.set_cons_zero, List.set_cons_succ]
      refine wpAnyH_take (i := 6) (oi := { dst := some 14, op := Op.fieldAddr 68 (Operand.tmp 13) 0, type := 0, pos := "sha.go:52", after := #[{ on := 5, ground := Ground.data }], guard := none }) (v := .pointer (some ⟨g, 0, none⟩)) rfl (by kernel_rfl) (by kernel_rfl) (by kernel_rfl) (fun _ _ _ h => h) (Or.inl ⟨by rfl, by intro w hS; go_simp⟩) hHeld ?_
      simp only [Act.put, List.setIfInBounds_toArray, List.set_cons_zero, List.set_cons_succ]
      refine wpAnyH_take (i := 7) (oi := { dst := some 15, op := Op.load 3 (Operand.tmp 14), type := 3, pos := "sha.go:52", after := #[{ on := 6, ground := Ground.data }], guard := none }) (v := .int .i64 (N' : Int)) rfl (by kernel_rfl) (by kernel_rfl) (by kernel_rfl) (fun _ _ _ h => h) (Or.inl ⟨by rfl, by intro w hS; go_simp⟩) hHeld ?_
      simp only [Act.put, List.setIfInBounds_toArray, List.set_cons_zero, List.set_cons_succ]
      refine wpAnyH_take (i := 8) (oi := { dst := some 16, op := Op.binOp BinOp.rem 3 (Operand.tmp 15) (Operand.const (Value.int IntKind.i64 64)) 3, type := 3, pos := "sha.go:52", after := #[{ on := 7, ground := Ground.data }], guard := none }) (v := .int .i64 (r : Int)) rfl (by kernel_rfl) (by kernel_rfl) (by kernel_rfl) (fun _ _ _ h => h) (Or.inl ⟨by rfl, by intro w hS; go_simp; rw [Int.tmod_eq_emod_of_nonneg (by omega)]; exact er⟩) hHeld ?_
      simp only [Act.put, List.setIfInBounds_toArray, List.set_cons_zero, List.set_cons_succ]
      refine wpAnyH_take (i := 9) (oi := { dst := some 17, op := Op.slice 69 (Operand.tmp 10) (some (Operand.tmp 16)) none none, type := 38, pos := "sha.go:52", after := #[{ on := 2, ground := Ground.data }, { on := 8, ground := Ground.data }], guard := none }) (v := .slice (some ⟨g, 9 + r, none⟩) (64 - r) (64 - r)) rfl (by kernel_rfl) (by kernel_rfl) (by kernel_rfl) (fun _ _ _ h => h) (Or.inl ⟨by rfl, by intro w hS; have hsl := run_slice_blk g r w hr64; go_simp⟩) hHeld ?_
      simp only [Act.put, List.setIfInBounds_toArray, List.set_cons_zero, List.set_cons_succ]
      have hcell : ∀ j, j < q → (W1.cell? ⟨g, 9 + r + j, none⟩).isSome = true := fun j hj => by
        rw [show 9 + r + j = 9 + (r + j) from by omega, HS1.out.cb (r + j) (by omega)]
        rfl
      have hfree : ∀ j, j < q → W1.frozen? ⟨g, 9 + r + j, none⟩ = false := fun j hj => HS1.out.fr (9 + r + j) (by omega)
      refine wpAnyH_ready (rs := [11]) (by kernel_rfl) (by decide) (AllReadyH.cons rfl (fun K hK => ?_) AllReadyH.nil)
      refine step_copy_min rfl (.tmp 17) (.tmp 18) 38 9 rfl 5 Tryd.underlying38 hz g (9 + r) (64 - r) (64 - r) q rfl u rfl HQ.out.symm hcell hfree 19 rfl ?_
      have S2 := HS1.out.putB u r q (by omega)
      have G2 := gb_trans G1 (gb_setCells W1 g (9 + r) (bcs u q))
      have K2 := HK1.out.grown (gb_setCells W1 g (9 + r) (bcs u q)) hg
      generalize W1.setCells g (9 + r) (bcs u q) = W2 at S2 G2 K2 ⊢
      refine hK.out _ _ S2.c0 (fun hHeld2 => ?_)
      clear hK K hcell hfree HS1 HK1 G1 HS hK' G
      simp only [Act.put, List.setIfInBounds_toArray, List.set_cons_zero, List.set_cons_succ]
      refine wpAnyH_ready (rs := [12]) (by kernel_rfl) (by decide) (AllReadyH.cons rfl (fun K hK => ?_) AllReadyH.nil)
      rw [if_pos (by rfl)]
      go_simp
      refine hK.out _ _ S2.c0 (fun _ => ?_)
      clear hK K
      refine wpAnyH_done (by kernel_rfl) ?_ _
      have HS2 : Hid (Stt W2 g N' (hw m (N' / 64)) (putF f' u r q)) := S2
      have HK2 : Hid (KT W2) := K2
      clear S2 K2
      go_wp2_with fail
      refine (advance_any g N' q _ _ W2 HS2.out (by omega) (by omega) (by omega) (hw_w _ _) (putF_bd _ _ _ _ hf'.1) HK2.out hg).mono ?_
      rintro e w4 ⟨rfl, S4, G4⟩
      have G5 := gb_trans G2 G4
      have K5 : Hid (KT w4) := HK2.out.grown G4 hg
      have hst := wt_step m f' u N' r q hf' HR.out (by omega) hq0 hq1 HM.out
      rw [show ((N' : Int) + (q : Int)) = ((N' + q : Nat) : Int) from by omega, hst.1] at S4
      have HS4 : Hid (Stt w4 g ((N' + q : Nat) : Int) (hw m ((N' + q) / 64)) (putF f' u r q)) := S4
      have HF4 : Hid (FB m (N' + q) (putF f' u r q)) := hst.2
      clear S4 hst HS2 HK2 G2 G4 hHeld hHeld2 hf'
      have hx := ext_size u q
      go_wp2
      go_roundw
      case rel =>
        refine ⟨_, N' + q, _, rfl, by rw [hx]; omega, fun i hi => ?_, HS4.out, HF4.out, K5.out, G5⟩
        rw [hx] at hi
        rw [ext_bt u q i hi, ← HM.out (q + i) (by omega)]
        congr 1
        omega
      case measure =>
        show (u.extract q u.size).size < u.size
        rw [hx]
        omega
    · obtain rfl : N' = N + t.size := by omega
      have hu0 : u.size = 0 := by omega
      clear hu
      go_wp2
      go_end0
      exact ⟨rfl, ⟨f', S', hf'⟩, G⟩
#print axioms writeText_any
end Go.Proofs.YtojefckhefanhabDoor
/- (*sha.State).Sum, walked. -/
namespace Go.Proofs.YtojefckhefanhabDoor
open Go.RowKit
/-- A State's cells. -/
def sl (n : Int) (h f : Nat → Int) : List Value := Value.int .i64 n :: ((List.range 8).map (fun i => Value.int .u32 (h i)) ++ (List.range 64).map (fun i => Value.int .u8 (f i)))
theorem sl_length (n : Int) (h f : Nat → Int) : (sl n h f).length = 73 := by simp [sl]
theorem sl_size (n : Int) (h f : Nat → Int) : (sl n h f).toArray.size = 73 := by rw [List.size_toArray, sl_length]
theorem sl_zero (n : Int) (h f : Nat → Int) : (sl n h f)[0]? = some (.int .i64 n) := rfl
theorem sl_word (n : Int) (h f : Nat → Int) (j : Nat) (hj : j < 8) : (sl n h f)[1 + j]? = some (.int .u32 (h j)) := by
  unfold sl
  rw [Nat.add_comm 1 j, List.getElem?_cons_succ, List.getElem?_append_left (by simp; omega)]
  simp [hj]
theorem sl_byte (n : Int) (h f : Nat → Int) (j : Nat) (hj : j < 64) : (sl n h f)[9 + j]? = some (.int .u8 (f j)) := by
  unfold sl
  rw [show 9 + j = (8 + j) + 1 from by omega, List.getElem?_cons_succ, List.getElem?_append_right (by simp)]
  simp [hj]
theorem Stt.range {w : World} {g : Nat} {n : Int} {h f : Nat → Int} (s : Stt w g n h f) : w.rangeAt g 0 (sl n h f) := fun j v hv => by
  have hj : j < 73 := by
    have := (List.getElem?_eq_some_iff.1 hv).1
    rw [sl_length] at this; exact this
  rw [Nat.zero_add]
  by_cases h0 : j = 0
  · subst h0; rw [s.c0, ← hv]; rfl
  · by_cases h1 : j < 9
    · obtain ⟨i, rfl⟩ : ∃ i, j = 1 + i := ⟨j - 1, by omega⟩
      rw [s.cw i (by omega), ← hv, sl_word n h f i (by omega)]
    · obtain ⟨i, rfl⟩ : ∃ i, j = 9 + i := ⟨j - 9, by omega⟩
      rw [s.cb i (by omega), ← hv, sl_byte n h f i (by omega)]
theorem Stt.of_range {w : World} {g : Nat} {n : Int} {h f : Nat → Int} (r : w.rangeAt g 0 (sl n h f)) (fr : ∀ j, j < 73 → w.frozen? ⟨g, j, none⟩ = false) : Stt w g n h f :=
  ⟨by have := r 0 _ (sl_zero n h f); simpa using this, fun j hj => by have := r (1 + j) _ (sl_word n h f j hj); simpa using this, fun j hj => by have := r (9 + j) _ (sl_byte n h f j hj); simpa using this, fr⟩
theorem sl_one (n : Int) (h f : Nat → Int) : (sl n h f).toArray.all (·.oneCell') = true := by
  apply all_oneCell_toArray
  intro v hv
  unfold sl at hv
  simp only [List.mem_cons, List.mem_append, List.mem_map] at hv
  rcases hv with rfl | ⟨_, _, rfl⟩ | ⟨_, _, rfl⟩ <;> rfl
theorem zst_get (j : Nat) (hj : j < 73) : (zst[j]?).isSome = true := by rw [Array.getElem?_eq_getElem (by rw [zst_size]; exact hj)]; rfl
theorem there_zst (w : World) : (w.alloc (.cells zst 71)).there w.heap.size 0 73 := fun j hj => by
  rw [Nat.zero_add, World.cell?_alloc_new]
  exact ⟨zst_get j hj, World.frozen?_alloc_new w _ _ _⟩
theorem Tryd.size71 : (Tryd.prog.info? 71).map (·.size) = some 73 := by kernel_rfl

/-- Behind the copy. -/
structure Cp (w : World) (g : Nat) (n : Int) (h f : Nat → Int) (W : World) : Prop where
  old : Stt W g n h f
  new : Stt W (w.heap.size + 1) n h f
  res : Row .u8 W w.heap.size 32 (fun _ => 0)
  bel : Below w.heap.size w W
  sz : w.heap.size + 1 + 1 ≤ W.heap.size
theorem there_zst2 (w : World) (o : Obj) : ((w.alloc o).alloc (.cells zst 71)).there (w.heap.size + 1) 0 73 := by
  have := there_zst (w.alloc o)
  rw [World.size_alloc] at this
  exact this
theorem cp_of (w : World) (C : Array Value) (hC : C = Array.replicate 32 (.int .u8 0)) (g : Nat) (n : Int) (h f : Nat → Int) (S : Stt w g n h f) :
    Cp w g n h f (((w.alloc (.cells C 24)).alloc (.cells zst 71)).setCells (w.heap.size + 1) 0 (sl n h f)) := by
  have hs : (w.alloc (.cells C 24)).heap.size = w.heap.size + 1 := World.size_alloc _ _
  have th := there_zst2 w (.cells C 24)
  have B : Below w.heap.size w ((w.alloc (.cells C 24)).alloc (.cells zst 71)) := ((Below.refl _ _).alloc (Nat.le_refl _) _).alloc (by rw [hs]; omega) _
  have R : Row .u8 ((w.alloc (.cells C 24)).alloc (.cells zst 71)) w.heap.size 32 (fun _ => 0) := (Row.rep hC).alloc (by rw [hs]; omega) _
  refine ⟨?_, ?_, ?_, ?_, ?_⟩
  · exact (S.below B S.lt).same (World.heap_setCells_other _ _ _ _ (by rw [World.size_alloc, hs]; have := S.lt; omega) (by have := S.lt; omega))
  · refine Stt.of_range (World.rangeAt_setCells_same _ _ _ _ (by rw [sl_length]; exact th)) (fun j hj => ?_)
    rw [World.frozen?_setCells]
    have := (th j hj).2
    rw [Nat.zero_add] at this
    exact this
  · exact R.same (World.heap_setCells_other _ _ _ _ (by rw [World.size_alloc, hs]; omega) (by omega))
  · exact setCells_below _ (by omega) _ _ _ _ B
  · have := (gb_setCells ((w.alloc (.cells C 24)).alloc (.cells zst 71)) (w.heap.size + 1) 0 (sl n h f)).size
    rw [World.size_alloc, hs] at this
    omega

theorem wpList_store_copy {ops : Array Oper} {rest : List Oper} {o : Oper} {a : Act} {w : World} {Q : Exit → Act → World → Prop} (hgd : o.guard = none) (ho : o.op = .store 71 (.tmp 3) (.tmp 6)) (w0 : World) (C : Array Value) (hC : C = Array.replicate 32 (.int .u8 0))
    (hw : w = (w0.alloc (.cells C 24)).alloc (.cells zst 71)) (g : Nat) (n : Int) (h f : Nat → Int) (hx : a.eval (.tmp 3) = .pointer (some ⟨w0.heap.size + 1, 0, none⟩)) (hy : a.eval (.tmp 6) = .agg (sl n h f).toArray) (hdst : o.dst = none) (S : Stt w0 g n h f)
    (hK : ∀ W, Cp w0 g n h f W → wpList Tryd.prog ops Q rest a W) : wpList Tryd.prog ops Q (o :: rest) a w := by
  subst hw
  refine wpList_store_mid hgd 71 (.tmp 3) (.tmp 6) ho (w0.heap.size + 1) 0 (sl n h f).toArray hx hy (by rw [sl_size]; exact there_zst2 _ _) (by rw [Tryd.size71, sl_size]) (sl_one _ _ _) ?_
  rw [hdst]
  exact hK _ (cp_of w0 C hC g n h f S)

set_option maxRecDepth 100000 in
set_option maxHeartbeats 1000000 in
theorem sum_any (g N : Nat) (m f : Nat → Int) (w : World) (S : Stt w g N (hw m (N / 64)) f) (hf : FB m N f) (hm : ∀ i, i < (padStr N).size → m (N + i) = bt (padStr N) i) (hN : N ≤ 1152921504606846976) (hK : KT w) (hg : 0 < g) :
    Calls Tryd.prog 14 #[.pointer (some ⟨g, 0, none⟩)] w fun e w' => e = .returned (.agg (cs .u8 32 (dg (hw m ((N + (padStr N).size) / 64))))) ∧ Below w.heap.size w w' := by
  have q1 := run_zero_st
  have q2 := zst_size
  have HF : Hid (FB m N f) := hf
  have HM : Hid (∀ i, i < (padStr N).size → m (N + i) = bt (padStr N) i) := hm
  have HS : Hid (Stt w g N (hw m (N / 64)) f) := S
  have HKT : Hid (KT w) := hK
  have hgl : g < w.heap.size := S.lt
  clear hf hm hK S
  generalize hH : hw m (N / 64) = H at *
  have HH : Hid (hw m (N / 64) = H) := hH
  clear hH
  go_enter Tryd.func14, Tryd.ntmps14
  go_wp2_with (first
    | (refine wpList_load_mid (by rfl) 71 (.tmp 5) (by rfl) g 0 (by rfl) (sl N H f) _ (Stt.range (HS.out.same (Below.heap_alloc _ _ g hgl))) Tryd.underlying71 rfl (by rw [Tryd.size71, sl_length]) ?_)
    | (refine wpList_store_copy (by rfl) (by rfl) w _ rfl rfl g N H f (by rfl) (by rfl) (by rfl) HS.out ?_; intro W1 CP1; have c0 := CP1.old.c0; clear q1 q2))
  refine (pad_all (N : Int) _ (by omega)).mono ?_
  rintro e w2 ⟨rfl, b2⟩
  have KT2 : KT w2 := (HKT.out.grown (gb_below CP1.bel (some g)) hg).grown (gb_below b2 (some g)) hg
  have S2 : Stt w2 (w.heap.size + 1) N (hw m (N / 64)) f := by rw [HH.out]; exact CP1.new.below b2 (by have := CP1.sz; omega)
  have R2 : Row .u8 w2 w.heap.size 32 (fun _ => 0) := CP1.res.below b2 (by have := CP1.sz; omega)
  have B2 : Below w.heap.size w w2 := CP1.bel.trans (b2.mono (by have := CP1.sz; omega))
  have z2 : w.heap.size + 1 + 1 ≤ w2.heap.size := by have := CP1.sz; have := b2.size; omega
  have hps : (padStr (N : Int)).size ≤ 72 := by rw [padStr_size N]; omega
  clear b2 CP1 c0 HKT HS
  go_wp2_with fail
  refine (writeText_any (w.heap.size + 1) N (padStr (N : Int)) m f w2 S2 HF.out HM.out (by omega) KT2 (by omega)).mono ?_
  rintro e w3 ⟨rfl, ⟨f', S3, _⟩, G3⟩
  have R3 : Row .u8 w3 w.heap.size 32 (fun _ => 0) := R2.same (G3.block _ (by omega) (by simp))
  have B3 : Below w.heap.size w w3 := B2.trans ⟨G3.os, G3.tape, G3.output, G3.size, fun k hk => G3.block k (by omega) (by simp; omega)⟩
  have z3 : w.heap.size + 1 + 1 ≤ w3.heap.size := by have := G3.size; omega
  clear S2 R2 B2 z2 G3 KT2 HF HM
  generalize hH2 : hw m ((N + (padStr (N : Int)).size) / 64) = H2 at S3 ⊢
  have HW2 : Hid (∀ j, W32 (H2 j)) := fun j => by rw [← hH2]; exact hw_w _ _ _
  have HH2 : Hid (hw m ((N + (padStr (N : Int)).size) / 64) = H2) := hH2
  clear hH2 HH
  go_wp2_with (first
    | (refine wpList_load_mid (by rfl) 65 (.tmp 14) (by rfl) (w.heap.size + 1) 1 (by rfl) (cs .u32 8 H2).toList _ S3.rangeW Tryd.underlying65 rfl (by rw [Tryd.sz65]; simp [cs_size]) ?_; rw [Array.toArray_toList])
    | fail)
  refine (digestOf_any H2 _ HW2.out).mono ?_
  rintro e w4 ⟨rfl, b4⟩
  have R4 : Row .u8 w4 w.heap.size 32 (fun _ => 0) := R3.below b4 (by omega)
  have B4 : Below w.heap.size w w4 := B3.trans (b4.mono (by omega))
  have z4 : w.heap.size < w4.heap.size := by have := b4.size; omega
  clear R3 B3 b4 S3 z3
  go_wp2_with (refine wpList_store_any (by rfl) 24 (.tmp 2) (.tmp 16) (by rfl) w.heap.size (by rfl) (by rfl) R4 Tryd.sz24 (by rfl) ?_; intro W5 R5 U5)
  exact bodyPost_ret (results_arr Tryd.results14 _ _ rfl R5 Tryd.und24 Tryd.sz24) rfl ⟨by rw [HH2.out], U5.below B4 (Nat.le_refl _) (by omega)⟩

end Go.Proofs.YtojefckhefanhabDoor
/- sha.Of, walked. -/
namespace Go.Proofs.YtojefckhefanhabDoor
open Go.RowKit

theorem bt_left (a b : ByteArray) (i : Nat) (hi : i < a.size) : bt (a ++ b) i = bt a i := by
  rw [← get_bt a i hi, ← get_bt (a ++ b) i (by rw [ByteArray.size_append]; omega), ByteArray.getElem_append_left hi]
theorem bt_right (a b : ByteArray) (i : Nat) (hi : i < b.size) : bt (a ++ b) (a.size + i) = bt b i := by
  rw [← get_bt b i hi, ← get_bt (a ++ b) (a.size + i) (by rw [ByteArray.size_append]; omega), ByteArray.getElem_append_right (by omega)]
  simp

end Go.Proofs.YtojefckhefanhabDoor
/- The digest of the text abc: its schedule and its rounds, word by word. -/
namespace Go.Proofs.YtojefckhefanhabDoor
open Go.RowKit
/-- The message's bytes, the schedule, the eight words ahead of each round. -/
def abcM : List Int := [97, 98, 99, 128, 0, 0, 0, 0, 0, 0, 0, 0, 0, 0, 0, 0, 0, 0, 0, 0, 0, 0, 0, 0, 0, 0, 0, 0, 0, 0, 0, 0, 0, 0, 0, 0, 0, 0, 0, 0, 0, 0, 0, 0, 0, 0, 0, 0, 0, 0, 0, 0, 0, 0, 0, 0, 0, 0, 0, 0, 0, 0, 0, 24]
def abcW : List Int := [1633837952, 0, 0, 0, 0, 0, 0, 0, 0, 0, 0, 0, 0, 0, 0, 24, 1633837952, 983040, 2108187653, 1610613702, 1050508152, 25426944, 316456923, 3806512014, 3357629466, 3073800610, 3854317833, 845560923, 2636160359, 3968280267, 1881225380, 3552024379, 2482346367, 996719219, 2952069057, 4043988066, 176896406, 1924104970, 2483675966, 610538786, 2672279444, 4037431130, 1042573945, 657669027, 206005234, 2215296807, 2049510749, 106709978, 4215179723, 3430291419, 3118885940, 2845390439, 2226839261, 3256115900, 344409900, 2987358873, 4015503821, 3957764664, 2682456414, 2025622859, 2755645205, 1720397816, 4004225740, 313650667]
def abcV : List Int := [1779033703, 3144134277, 1013904242, 2773480762, 1359893119, 2600822924, 528734635, 1541459225, 1567288269, 1779033703, 3144134277, 1013904242, 4197074466, 1359893119, 2600822924, 528734635, 1516951981, 1567288269, 1779033703, 3144134277, 2026797449, 4197074466, 1359893119, 2600822924, 3368241063, 1516951981, 1567288269, 1779033703, 4180228587, 2026797449, 4197074466, 1359893119, 3578852966, 3368241063, 1516951981, 1567288269, 618661968, 4180228587, 2026797449, 4197074466, 71342698, 3578852966, 3368241063, 1516951981, 1135452741, 618661968, 4180228587, 2026797449, 725748213, 71342698, 3578852966, 3368241063, 1900175533, 1135452741, 618661968, 4180228587, 3842179968, 725748213, 71342698, 3578852966, 2603066369, 1900175533, 1135452741, 618661968, 2241887071, 3842179968, 725748213, 71342698, 207977081, 2603066369, 1900175533, 1135452741, 2382687417, 2241887071, 3842179968, 725748213, 852110732, 207977081, 2603066369, 1900175533, 2357671019, 2382687417, 2241887071, 3842179968, 482944406, 852110732, 207977081, 2603066369, 1201185780, 2357671019, 2382687417, 2241887071, 1131095016, 482944406, 852110732, 207977081, 4146054569, 1201185780, 2357671019, 2382687417, 2171590377, 1131095016, 482944406, 852110732, 2274437520, 4146054569, 1201185780, 2357671019, 509051416, 2171590377, 1131095016, 482944406, 3643992854, 2274437520, 4146054569, 1201185780, 1952073950, 509051416, 2171590377, 1131095016, 3227803614, 3643992854, 2274437520, 4146054569, 194179596, 1952073950, 509051416, 2171590377, 2969183118, 3227803614, 3643992854, 2274437520, 123276749, 194179596, 1952073950, 509051416, 567974555, 2969183118, 3227803614, 3643992854, 2150900380, 123276749, 194179596, 1952073950, 3271285201, 567974555, 2969183118, 3227803614, 2221859924, 2150900380, 123276749, 194179596, 4269243327, 3271285201, 567974555, 2969183118, 3431569761, 2221859924, 2150900380, 123276749, 3790736435, 4269243327, 3271285201, 567974555, 2959311225, 3431569761, 2221859924, 2150900380, 2647034723, 3790736435, 4269243327, 3271285201, 2329577776, 2959311225, 3431569761, 2221859924, 3261099373, 2647034723, 3790736435, 4269243327, 3777329520, 2329577776, 2959311225, 3431569761, 2812502591, 3261099373, 2647034723, 3790736435, 1240797514, 3777329520, 2329577776, 2959311225, 3319086477, 2812502591, 3261099373, 2647034723, 2856829767, 1240797514, 3777329520, 2329577776, 472655928, 3319086477, 2812502591, 3261099373, 673443729, 2856829767, 1240797514, 3777329520, 3454534525, 472655928, 3319086477, 2812502591, 339230094, 673443729, 2856829767, 1240797514, 3056518332, 3454534525, 472655928, 3319086477, 3343672598, 339230094, 673443729, 2856829767, 2010346792, 3056518332, 3454534525, 472655928, 3992961016, 3343672598, 339230094, 673443729, 909411017, 2010346792, 3056518332, 3454534525, 1628611511, 3992961016, 3343672598, 339230094, 2684750640, 909411017, 2010346792, 3056518332, 2917635127, 1628611511, 3992961016, 3343672598, 3935906338, 2684750640, 909411017, 2010346792, 17410874, 2917635127, 1628611511, 3992961016, 1941126133, 3935906338, 2684750640, 909411017, 3126399250, 17410874, 2917635127, 1628611511, 2564891911, 1941126133, 3935906338, 2684750640, 2631529974, 3126399250, 17410874, 2917635127, 4267724277, 2564891911, 1941126133, 3935906338, 1495571923, 2631529974, 3126399250, 17410874, 2846323596, 4267724277, 2564891911, 1941126133, 140458035, 1495571923, 2631529974, 3126399250, 1705037796, 2846323596, 4267724277, 2564891911, 4105175766, 140458035, 1495571923, 2631529974, 1101421745, 1705037796, 2846323596, 4267724277, 124953195, 4105175766, 140458035, 1495571923, 887035396, 1101421745, 1705037796, 2846323596, 2768741693, 124953195, 4105175766, 140458035, 1841658506, 887035396, 1101421745, 1705037796, 4034403272, 2768741693, 124953195, 4105175766, 2045405306, 1841658506, 887035396, 1101421745, 519815328, 4034403272, 2768741693, 124953195, 3597076326, 2045405306, 1841658506, 887035396, 641019235, 519815328, 4034403272, 2768741693, 3745932591, 3597076326, 2045405306, 1841658506, 2206934801, 641019235, 519815328, 4034403272, 397020670, 3745932591, 3597076326, 2045405306, 3737995029, 2206934801, 641019235, 519815328, 2638983059, 397020670, 3745932591, 3597076326, 4255271982, 3737995029, 2206934801, 641019235, 643991573, 2638983059, 397020670, 3745932591, 2819559920, 4255271982, 3737995029, 2206934801, 1923828625, 643991573, 2638983059, 397020670, 3077922209, 2819559920, 4255271982, 3737995029, 2706117808, 1923828625, 643991573, 2638983059, 3581645993, 3077922209, 2819559920, 4255271982, 1098003085, 2706117808, 1923828625, 643991573, 4274981830, 3581645993, 3077922209, 2819559920, 91585771, 1098003085, 2706117808, 1923828625, 3178315832, 4274981830, 3581645993, 3077922209, 4045142696, 91585771, 1098003085, 2706117808, 1851537676, 3178315832, 4274981830, 3581645993, 2047150241, 4045142696, 91585771, 1098003085, 1391578359, 1851537676, 3178315832, 4274981830, 2288941602, 2047150241, 4045142696, 91585771, 1227037726, 1391578359, 1851537676, 3178315832, 270520975, 2288941602, 2047150241, 4045142696, 1386118400, 1227037726, 1391578359, 1851537676, 4117770203, 270520975, 2288941602, 2047150241, 2672265155, 1386118400, 1227037726, 1391578359, 1053056219, 4117770203, 270520975, 2288941602, 3842906959, 2672265155, 1386118400, 1227037726, 952932627, 1053056219, 4117770203, 270520975, 1422599787, 3842906959, 2672265155, 1386118400, 4241590395, 952932627, 1053056219, 4117770203, 2606665836, 1422599787, 3842906959, 2672265155, 3227702383, 4241590395, 952932627, 1053056219, 2118385806, 2606665836, 1422599787, 3842906959, 4290184306, 3227702383, 4241590395, 952932627, 1837350854, 2118385806, 2606665836, 1422599787, 3064893439, 4290184306, 3227702383, 4241590395, 2988158269, 1837350854, 2118385806, 2606665836, 3093179625, 3064893439, 4290184306, 3227702383, 2518632596, 2988158269, 1837350854, 2118385806, 80891244, 3093179625, 3064893439, 4290184306, 2492278198, 2518632596, 2988158269, 1837350854, 3550093669, 80891244, 3093179625, 3064893439, 4212265488, 2492278198, 2518632596, 2988158269, 1349398616, 3550093669, 80891244, 3093179625, 1593118500, 4212265488, 2492278198, 2518632596]
def abcS : ByteArray := ⟨#[97, 98, 99]⟩
theorem abc_msg : ∀ j, j < 64 → bt (msg abcS) j = abcM.getD j 0 := by decide +kernel
theorem abc_nb : nb abcS = 1 := by decide +kernel
theorem nxt_congr (b b' f f' : Nat → Int) (k : Nat) (hk : k < 64) (hb : ∀ j, j < 64 → b j = b' j) (hf : ∀ j, j < k → f j = f' j) : nxt b f k = nxt b' f' k := by
  unfold nxt
  by_cases h : k < 16
  · rw [if_pos h, if_pos h]
    unfold wd
    rw [hb _ (by omega), hb _ (by omega), hb _ (by omega), hb _ (by omega)]
  · rw [if_neg h, if_neg h, hf _ (by omega), hf _ (by omega), hf _ (by omega), hf _ (by omega)]
theorem abc_sched : ∀ k, k < 64 → nxt (fun j => abcM.getD j 0) (fun j => abcW.getD j 0) k = abcW.getD k 0 := by decide +kernel
theorem abc_sch (b : Nat → Int) (hb : ∀ j, j < 64 → b j = abcM.getD j 0) (k : Nat) : k ≤ 64 → ∀ j, j < k → sch b k j = abcW.getD j 0 := by
  induction k with
  | zero => intro _ j hj; omega
  | succ k ih =>
    intro hk j hj
    rw [sch]
    by_cases e : j = k
    · rw [if_pos e, e, ← abc_sched k (by omega)]
      exact nxt_congr _ _ _ _ k (by omega) hb (ih (by omega))
    · rw [if_neg e]
      exact ih (by omega) j (by omega)
theorem t1_congr (v v' : Nat → Int) (x : Int) (hv : ∀ j, j < 8 → v j = v' j) : t1 v x = t1 v' x := by
  unfold t1; rw [hv 7 (by omega), hv 4 (by omega), hv 5 (by omega), hv 6 (by omega)]
theorem t2_congr (v v' : Nat → Int) (hv : ∀ j, j < 8 → v j = v' j) : t2 v = t2 v' := by
  unfold t2; rw [hv 0 (by omega), hv 1 (by omega), hv 2 (by omega)]
theorem stp_congr (v v' : Nat → Int) (x : Int) (hv : ∀ j, j < 8 → v j = v' j) (j : Nat) (hj : j < 8) : stp v x j = stp v' x j := by
  rcases (show j = 0 ∨ j = 1 ∨ j = 2 ∨ j = 3 ∨ j = 4 ∨ j = 5 ∨ j = 6 ∨ j = 7 from by omega) with rfl | rfl | rfl | rfl | rfl | rfl | rfl | rfl
  · show (t1 v x + t2 v) % 4294967296 = (t1 v' x + t2 v') % 4294967296
    rw [t1_congr v v' x hv, t2_congr v v' hv]
  · exact hv 0 (by omega)
  · exact hv 1 (by omega)
  · exact hv 2 (by omega)
  · show (v 3 + t1 v x) % 4294967296 = (v' 3 + t1 v' x) % 4294967296
    rw [t1_congr v v' x hv, hv 3 (by omega)]
  · exact hv 4 (by omega)
  · exact hv 5 (by omega)
  · exact hv 6 (by omega)
theorem abc_rounds : ∀ k, k < 64 → ∀ j, j < 8 → stp (fun j => abcV.getD (8 * k + j) 0) (pl (kk k) (abcW.getD k 0)) j = abcV.getD (8 * (k + 1) + j) 0 := by decide +kernel
theorem abc_first : ∀ j, j < 8 → stw j = abcV.getD j 0 := by decide +kernel
theorem abc_rnd (s : Nat → Int) (hs : ∀ j, j < 64 → s j = abcW.getD j 0) (k : Nat) : k ≤ 64 → ∀ j, j < 8 → rnd kk stw s k j = abcV.getD (8 * k + j) 0 := by
  induction k with
  | zero => intro _ j hj; show stw j = abcV.getD (8 * 0 + j) 0; rw [Nat.mul_zero, Nat.zero_add]; exact abc_first j hj
  | succ k ih =>
    intro hk j hj
    rw [← abc_rounds k (by omega) j hj]
    show stp (rnd kk stw s k) (pl (kk k) (s k)) j = _
    rw [hs k (by omega)]
    exact stp_congr _ _ _ (ih (by omega)) j hj
def abcD : List Int := [186, 120, 22, 191, 143, 1, 207, 234, 65, 65, 64, 222, 93, 174, 34, 35, 176, 3, 97, 163, 150, 23, 122, 156, 180, 16, 255, 97, 242, 0, 21, 173]
theorem abc_last : ∀ i, i < 32 → (pl (stw (i / 4)) (abcV.getD (512 + i / 4) 0)) / 2 ^ (8 * (3 - i % 4)) % 256 = abcD.getD i 0 := by decide +kernel
/-- The digest of abc, byte by byte. -/
theorem abc_digest (i : Nat) (hi : i < 32) : dg (hw (bt (msg abcS)) (nb abcS)) i = abcD.getD i 0 := by
  rw [abc_nb, ← abc_last i hi]
  unfold dg
  have : hw (bt (msg abcS)) 1 (i / 4) = pl (stw (i / 4)) (abcV.getD (512 + i / 4) 0) := by
    show blk kk stw (fun j => bt (msg abcS) (64 * 0 + j)) (i / 4) = _
    unfold blk
    rw [abc_rnd _ (abc_sch _ (fun j hj => by rw [Nat.mul_zero, Nat.zero_add]; exact abc_msg j hj) 64 (Nat.le_refl _)) 64 (Nat.le_refl _) (i / 4) (by omega)]
  rw [this]
#print axioms abc_digest
end Go.Proofs.YtojefckhefanhabDoor
/- A digest's State, said by what has been written: New, WriteText, Sum. -/
namespace Go.Proofs.YtojefckhefanhabDoor
open Go.RowKit
/-- The digest of a text, as cells. -/
def dgs (s : ByteArray) : Array Value := cs .u8 32 (dg (hw (bt (msg s)) (nb s)))
/-- Block g is a State in which s has been written. -/
def Wrote (w : World) (g : Nat) (s : ByteArray) : Prop := ∃ f, Stt w g s.size (hw (bt s) (s.size / 64)) f ∧ FB (bt s) s.size f
theorem hw_congr (m m' : Nat → Int) (t : Nat) : (∀ i, i < 64 * t → m i = m' i) → hw m t = hw m' t := by
  induction t with
  | zero => intro _; rfl
  | succ t ih =>
    intro h
    show blk kk (hw m t) (fun j => m (64 * t + j)) = blk kk (hw m' t) (fun j => m' (64 * t + j))
    rw [ih (fun i hi => h i (by omega))]
    exact blk_congr _ _ _ (fun j hj => h _ (by omega))
theorem FB.congr {m m' : Nat → Int} {N : Nat} {f : Nat → Int} (h : FB m N f) (e : ∀ i, i < N → m i = m' i) : FB m' N f :=
  ⟨h.1, fun j hj => by rw [h.2 j hj]; exact e _ (by omega)⟩
theorem Wrote.lt {w : World} {g : Nat} {s : ByteArray} (h : Wrote w g s) : g < w.heap.size := by obtain ⟨f, S, _⟩ := h; exact S.lt
theorem Wrote.same {w w' : World} {g : Nat} {s : ByteArray} (h : Wrote w g s) (e : w'.heap[g]? = w.heap[g]?) : Wrote w' g s := by
  obtain ⟨f, S, F⟩ := h; exact ⟨f, S.same e, F⟩
theorem Wrote.below {w w' : World} {g B : Nat} {s : ByteArray} (h : Wrote w g s) (b : Below B w w') (hg : g < B) : Wrote w' g s := h.same (b.block g hg)
theorem Wrote.kept {w w' : World} {g g' : Nat} {s : ByteArray} (h : Wrote w g s) (b : w.grownBy w' (some g')) (hg : g ≠ g') : Wrote w' g s := by
  obtain ⟨f, S, F⟩ := h; exact ⟨f, S.kept b hg, F⟩
theorem Wrote.size {w : World} {g : Nat} {s : ByteArray} (h : Wrote w g s) : w.cell? ⟨g, 0, none⟩ = some (.int .i64 s.size) := by obtain ⟨f, S, _⟩ := h; exact S.c0
theorem Wrote.none {w : World} {g : Nat} {f : Nat → Int} (S : Stt w g 0 stw f) (hf : ∀ j, 0 ≤ f j ∧ f j < 256) : Wrote w g ByteArray.empty :=
  ⟨f, S, hf, fun j hj => absurd hj (by show ¬ j < 0 % 64; omega)⟩
theorem size_emptyS : ByteArray.empty.size = 0 := rfl

theorem new_wrote (w : World) : Calls Tryd.prog 11 #[] w fun e w' => ∃ g, e = .returned (.pointer (some ⟨g, 0, none⟩)) ∧ w.heap.size ≤ g ∧ g < w'.heap.size ∧ Wrote w' g ByteArray.empty ∧ Below w.heap.size w w' :=
  (new_any w).mono fun _ _ ⟨g, h1, h2, h3, S, b⟩ => ⟨g, h1, h2, h3, Wrote.none S (fun _ => ⟨Int.le_refl 0, by show (0 : Int) < 256; decide⟩), b⟩

theorem writeText_wrote (g : Nat) (s t : ByteArray) (w : World) (H : Wrote w g s) (hN : s.size + t.size ≤ 2305843009213693952) (hK : KT w) (hg : 0 < g) :
    Calls Tryd.prog 12 #[.pointer (some ⟨g, 0, none⟩), .string t] w fun e w' => e = .returned (.tuple #[]) ∧ Wrote w' g (s ++ t) ∧ w.grownBy w' (some g) := by
  obtain ⟨f, S, F⟩ := H
  have e1 : hw (bt s) (s.size / 64) = hw (bt (s ++ t)) (s.size / 64) := hw_congr _ _ _ (fun i hi => (bt_left s t i (by omega)).symm)
  rw [e1] at S
  refine (writeText_any g s.size t (bt (s ++ t)) f w S (F.congr (fun i hi => (bt_left s t i hi).symm)) (fun i hi => bt_right s t i hi) hN hK hg).mono ?_
  rintro e w' ⟨rfl, ⟨f', S', F'⟩, G⟩
  refine ⟨rfl, ⟨f', ?_, ?_⟩, G⟩
  · rw [ByteArray.size_append]; exact S'
  · rw [ByteArray.size_append]; exact F'

theorem nb_pad (s : ByteArray) : (s.size + (padStr s.size).size) / 64 = nb s := by
  have := msg_size s
  unfold msg at this
  rw [ByteArray.size_append] at this
  omega
theorem sum_wrote (g : Nat) (s : ByteArray) (w : World) (H : Wrote w g s) (hN : s.size ≤ 1152921504606846976) (hK : KT w) (hg : 0 < g) :
    Calls Tryd.prog 14 #[.pointer (some ⟨g, 0, none⟩)] w fun e w' => e = .returned (.agg (dgs s)) ∧ Below w.heap.size w w' := by
  obtain ⟨f, S, F⟩ := H
  have e1 : hw (bt s) (s.size / 64) = hw (bt (msg s)) (s.size / 64) := hw_congr _ _ _ (fun i hi => (bt_left s _ i (by omega)).symm)
  rw [e1] at S
  refine (sum_any g s.size (bt (msg s)) f w S (F.congr (fun i hi => (bt_left s _ i hi).symm)) (fun i hi => bt_right s _ i hi) hN hK hg).mono ?_
  rintro e w' ⟨rfl, b⟩
  refine ⟨?_, b⟩
  rw [nb_pad]
  rfl

end Go.Proofs.YtojefckhefanhabDoor
