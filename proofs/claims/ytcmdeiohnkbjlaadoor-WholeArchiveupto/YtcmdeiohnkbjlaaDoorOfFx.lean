/- copy from a string into a State's block; what WriteText does. -/
import Derived.Test.YtcmdeiohnkbjlaaDoorOfEx
import Derived.Lib.LazyBuf
namespace Go.Proofs.YtcmdeiohnkbjlaaDoor
open Go.RowKit
/-- The first q bytes of a string, as cells. -/
def bcs (t : ByteArray) (q : Nat) : List Value := (List.range q).map (fun j => Value.int .u8 (bt t j))
theorem bcs_length (t : ByteArray) (q : Nat) : (bcs t q).length = q := by simp [bcs]
theorem bcs_take (t : ByteArray) (q : Nat) (hq : q ≤ t.size) : (t.data.toList.map fun x => Value.int .u8 (x.toNat : Int)).take q = bcs t q := by
  apply List.ext_getElem?
  intro i
  unfold bcs
  rw [List.getElem?_take]
  by_cases h : i < q
  · rw [if_pos h]
    have hs : i < t.size := by omega
    have hs' : i < t.data.size := hs
    simp only [List.getElem?_map, Array.getElem?_toList, Array.getElem?_eq_getElem hs', List.getElem?_range h, Option.map_some]
    congr 2
    unfold bt
    rw [dif_pos hs]
    rfl
  · rw [if_neg h, List.getElem?_eq_none (by simp; omega)]

/-- copy(dst, t), t a string: as many bytes as there is room for. -/
theorem run_copy_min {P : Program} (w : World) (dT sT ty elem : TypeId) (b o dLen dCap q : Nat) (t : ByteArray)
    (hu : P.underlying dT = some (.slice elem)) (hz : ∀ w, (Go.sizeOf elem).run P w = .ok 1 w) (hq : Nat.min t.size dLen = q)
    (hc : ∀ j, j < q → (w.cell? ⟨b, o + j, none⟩).isSome = true) (hf : ∀ j, j < q → w.frozen? ⟨b, o + j, none⟩ = false) :
    (Builtin.copy_ #[dT, sT] ty #[.slice (some ⟨b, o, none⟩) dLen dCap, .string t]).run P w = .ok (goInt q) (w.setCells b o (bcs t q)) := by
  have hqs : q ≤ t.size := by rw [← hq]; exact Nat.min_le_left _ _
  have hst := run_storeCells_cells (P := P) b o (bcs t q) 0 w (by rw [bcs_length]; simpa using hc) (by rw [bcs_length]; simpa using hf) (by
    intro v hv
    obtain ⟨x, _, rfl⟩ := List.mem_map.1 hv
    rfl)
  simp [Builtin.copy_, run_underlying hu, Builtin.lenOf, Builtin.firstCells, hz, hq]
  rw [bcs_take t q hqs, hst]
  rfl

theorem step_copy_min {P : Program} {ops : Array Oper} {o : Oper} {a : Act} {w : World} {K : Act → World → Prop} {Q : Exit → Act → World → Prop} {E : Prop}
    (hg : o.guard = none) (d x : Operand) (dT sT : TypeId) (hop : o.op = Op.call { callee := Callee.builtin Builtin.copy, args := #[d, x], argTypes := #[dT, sT] })
    (elem : TypeId) (hu : P.underlying dT = some (.slice elem)) (hz : ∀ w, (Go.sizeOf elem).run P w = .ok 1 w)
    (b off dLen dCap q : Nat) (hd : a.eval d = .slice (some ⟨b, off, none⟩) dLen dCap) (t : ByteArray) (hx : a.eval x = .string t) (hq : Nat.min t.size dLen = q)
    (hc : ∀ j, j < q → (w.cell? ⟨b, off + j, none⟩).isSome = true) (hf : ∀ j, j < q → w.frozen? ⟨b, off + j, none⟩ = false) (dt : Tmp) (hdst : o.dst = some dt)
    (hK : K (a.put (some dt) (goInt q)) (w.setCells b off (bcs t q))) :
    if Region.wanted o (yielded ops a.tmps) = true then Oper.wp P o a w K Q else E := by
  have hw : Region.wanted o (yielded ops a.tmps) = true := by simp [Region.wanted, hg]
  rw [if_pos hw]
  have hrun := run_copy_min (P := P) w dT sT o.type elem b off dLen dCap q t hu hz hq hc hf
  unfold Oper.wp
  simp [execOp, hop, resolve, invoke, builtin, hd, hx, hrun, Result.andThen]
  rw [← hdst] at hK
  exact hK

/-- The block f with q bytes of t put in from r on. -/
def putF (f : Nat → Int) (t : ByteArray) (r q j : Nat) : Int := if r ≤ j ∧ j < r + q then bt t (j - r) else f j
theorem Stt.putB {w : World} {g : Nat} {n : Int} {h f : Nat → Int} (s : Stt w g n h f) (t : ByteArray) (r q : Nat) (hr : r + q ≤ 64) : Stt (w.setCells g (9 + r) (bcs t q)) g n h (putF f t r q) :=
  ⟨by rw [World.cell?_setCells_out _ _ _ _ _ (fun _ _ => .inl (by show 0 < 9 + r; omega))]; exact s.c0,
   fun j hj => by rw [World.cell?_setCells_out _ _ _ _ _ (fun _ _ => .inl (by show 1 + j < 9 + r; omega))]; exact s.cw j hj,
   fun j hj => by
    unfold putF
    by_cases e : r ≤ j ∧ j < r + q
    · rw [if_pos e]
      have h1 := World.cell?_setCells_in g (bcs t q) (9 + r) w (fun i hi => by
        rw [bcs_length] at hi
        have := s.cb (r + i) (by omega)
        rw [show 9 + r + i = 9 + (r + i) from by omega, this]
        rfl) (j - r) (by rw [bcs_length]; omega)
      rw [show 9 + r + (j - r) = 9 + j from by omega] at h1
      rw [h1]
      simp [bcs]
    · rw [if_neg e, World.cell?_setCells_out _ _ _ _ _ (fun _ _ => by
        rw [bcs_length]
        show 9 + j < 9 + r ∨ 9 + r + q ≤ 9 + j
        omega)]
      exact s.cb j hj,
   fun j hj => by rw [World.frozen?_setCells]; exact s.fr j hj⟩
theorem sch_congr (b b' : Nat → Int) (hb : ∀ j, j < 64 → b j = b' j) (k : Nat) : sch b k = sch b' k := by
  induction k with
  | zero => rfl
  | succ k ih =>
    funext j
    rw [sch, sch, ih]
    unfold nxt
    by_cases h : k < 16
    · rw [if_pos h, if_pos h]
      unfold wd
      rw [hb (4 * k) (by omega), hb (4 * k + 1) (by omega), hb (4 * k + 2) (by omega), hb (4 * k + 3) (by omega)]
    · rw [if_neg h, if_neg h]
theorem blk_congr (h b b' : Nat → Int) (hb : ∀ j, j < 64 → b j = b' j) : blk kk h b = blk kk h b' := by
  funext j
  unfold blk
  rw [sch_congr b b' hb]
/-- The block holds what has been written behind the whole blocks. -/
def FB (m : Nat → Int) (N : Nat) (f : Nat → Int) : Prop := (∀ j, 0 ≤ f j ∧ f j < 256) ∧ ∀ j, j < N % 64 → f j = m (64 * (N / 64) + j)
theorem putF_bd (f : Nat → Int) (t : ByteArray) (r q : Nat) (hf : ∀ j, 0 ≤ f j ∧ f j < 256) (j : Nat) : 0 ≤ putF f t r q j ∧ putF f t r q j < 256 := by
  unfold putF
  split
  · exact bt_bd t _
  · exact hf j
theorem wt_step (m f : Nat → Int) (u : ByteArray) (N r q : Nat) (hf : FB m N f) (hr : r = N % 64) (hq : r + q ≤ 64) (h0 : 0 < q) (hu : q ≤ u.size) (hm : ∀ i, i < u.size → m (N + i) = bt u i) :
    adv (hw m (N / 64)) (putF f u r q) ((N + q : Nat) : Int) = hw m ((N + q) / 64) ∧ FB m (N + q) (putF f u r q) := by
  have hp : ∀ j, j < r + q → putF f u r q j = m (64 * (N / 64) + j) := fun j hj => by
    unfold putF
    by_cases e : r ≤ j
    · rw [if_pos ⟨e, hj⟩, ← hm (j - r) (by omega)]
      congr 1
      omega
    · rw [if_neg (by omega)]
      exact hf.2 j (by omega)
  by_cases h64 : r + q = 64
  · refine ⟨?_, putF_bd _ _ _ _ hf.1, fun j hj => absurd hj (by omega)⟩
    unfold adv
    rw [if_pos (by omega), show (N + q) / 64 = N / 64 + 1 from by omega, hw]
    exact blk_congr _ _ _ (fun j hj => hp j (by omega))
  · refine ⟨?_, putF_bd _ _ _ _ hf.1, fun j hj => ?_⟩
    · unfold adv
      rw [if_neg (by omega), show (N + q) / 64 = N / 64 from by omega]
    · rw [show (N + q) / 64 = N / 64 from by omega]
      exact hp j (by omega)

theorem ext_size (u : ByteArray) (q : Nat) : (u.extract q u.size).size = u.size - q := by
  rw [ByteArray.size_extract, Nat.min_self]
theorem ext_bt (u : ByteArray) (q i : Nat) (hi : i < u.size - q) : bt (u.extract q u.size) i = bt u (q + i) := by
  unfold bt
  rw [dif_pos (by rw [ext_size]; exact hi), dif_pos (by omega), ByteArray.getElem_extract]

theorem run_slice_blk (g r : Nat) (w : World) (hr : r < 64) : (Instr.sliceAt 78 (.pointer (some ⟨g, 9, none⟩)) (some (.int .i64 (r : Int))) none none).run Tryd.prog w = .ok (.slice (some ⟨g, 9 + r, none⟩) (64 - r) (64 - r)) w := by
  have hl : Tryd.prog.arrayLen 78 = 64 := by kernel_rfl
  have he : Tryd.prog.elem 78 = 5 := by kernel_rfl
  obtain ⟨i0, hi, hz0, hz1, hz2⟩ := info_parts Tryd.infoS5
  rw [run_sliceAt_array_l (P := Tryd.prog) w 78 ⟨g, 9, none⟩ (by kernel_rfl) .i64 (r : Int) (by omega) (by rw [hl]; omega), he, hl]
  simp only [sizeOf, typeInfo, Sem.run_bind]
  simp [hi, hz1, slicedAt, show ¬ (64 = r) from by omega, Addr.add_mid]

set_option maxRecDepth 10000 in
set_option maxHeartbeats 4000000 in
theorem writeText_any (g N : Nat) (t : ByteArray) (m f : Nat → Int) (w : World) (S : Stt w g N (hw m (N / 64)) f) (hf : FB m N f) (hm : ∀ i, i < t.size → m (N + i) = bt t i) (hN : N + t.size ≤ 2305843009213693952) (hK : KT w) (hg : 0 < g) :
    Calls Tryd.prog 12 #[.pointer (some ⟨g, 0, none⟩), .string t] w fun e w' => e = .returned (.tuple #[]) ∧ (∃ f', Stt w' g ((N + t.size : Nat) : Int) (hw m ((N + t.size) / 64)) f' ∧ FB m (N + t.size) f') ∧ w.grownBy w' (some g) := by
  have hz : ∀ w, (Go.sizeOf 5).run Tryd.prog w = .ok 1 w := fun w => by
    obtain ⟨i0, hi, hz0, hz1, hz2⟩ := info_parts Tryd.infoS5
    simp [sizeOf, typeInfo, hi, hz1]
  go_enter Tryd.func12, Tryd.ntmps12
  go_wp2
  go_loopw [1] (fun v wr => ∃ (u : ByteArray) (N' : Nat) (f' : Nat → Int), v = .string u ∧ N' + u.size = N + t.size ∧ (∀ i, i < u.size → m (N' + i) = bt u i) ∧ Stt wr g N' (hw m (N' / 64)) f' ∧ FB m N' f' ∧ KT wr ∧ w.grownBy wr (some g)) (fun v _ => match v with | .string s => s.size | _ => 0)
  case atStart => exact ⟨t, N, f, rfl, rfl, hm, S, hf, hK, World.grownBy.refl _ _⟩
  case round =>
    obtain ⟨u, N', f', rfl, hsz, hm', S', hf', hK', G⟩ := hrel
    clear S hf hm hK
    by_cases hu : 0 < u.size
    · obtain ⟨r, hr⟩ : ∃ r, r = N' % 64 := ⟨_, rfl⟩
      obtain ⟨q, hq⟩ : ∃ q, q = Nat.min u.size (64 - r) := ⟨_, rfl⟩
      have hq1 : q ≤ u.size := by rw [hq]; exact Nat.min_le_left _ _
      have hq2 : q ≤ 64 - r := by rw [hq]; exact Nat.min_le_right _ _
      have hq0 : 0 < q := by rw [hq]; exact Nat.lt_min.2 ⟨hu, by omega⟩
      have c0 := S'.c0
      have er : (N' : Int) % 64 = (r : Int) := by omega
      have hr64 : r < 64 := by omega
      have HS : Hid (Stt wr g N' (hw m (N' / 64)) f') := S'
      have HR : Hid (r = N' % 64) := hr
      have HQ : Hid (q = Nat.min u.size (64 - r)) := hq
      have HM : Hid (∀ i, i < u.size → m (N' + i) = bt u i) := hm'
      clear S' hr hq hm'
      go_wp2
      refine wp_region_held_drew (S := fun W => W.cell? ⟨g, 0, none⟩ = some (.int .i64 (N' : Int))) (by kernel_rfl) c0 (fun hHeld => ?_)
      have HS1 : Hid (Stt wr.drew g N' (hw m (N' / 64)) f') := HS.out.drew
      have HK1 : Hid (KT wr.drew) := fun i hi => hK' i hi
      have G1 : w.grownBy wr.drew (some g) := gb_drew G
      generalize wr.drew = W1 at hHeld HS1 HK1 G1 ⊢
      clear c0
      refine wpAnyH_take (i := 0) (oi := { dst := some 8, op := Op.move (Operand.tmp 0), type := 33, pos := "sha.go:52", after := #[], guard := none }) (v := .pointer (some ⟨g, 0, none⟩)) rfl (by kernel_rfl) (by kernel_rfl) (by kernel_rfl) (fun _ _ _ h => h) (Or.inl ⟨by rfl, by intro w hS; go_simp⟩) hHeld ?_
      simp only [Act.put, List.setIfInBounds_toArray, List.set_cons_zero, List.set_cons_succ]
      refine wpAnyH_take (i := 3) (oi := { dst := some 11, op := Op.move (Operand.tmp 0), type := 33, pos := "sha.go:52", after := #[], guard := none }) (v := .pointer (some ⟨g, 0, none⟩)) rfl (by kernel_rfl) (by kernel_rfl) (by kernel_rfl) (fun _ _ _ h => h) (Or.inl ⟨by rfl, by intro w hS; go_simp⟩) hHeld ?_
      simp only [Act.put, List.setIfInBounds_toArray, List.set_cons_zero, List.set_cons_succ]
      refine wpAnyH_take (i := 10) (oi := { dst := some 18, op := Op.move (Operand.tmp 1), type := 9, pos := "sha.go:52", after := #[], guard := none }) (v := .string u) rfl (by kernel_rfl) (by kernel_rfl) (by kernel_rfl) (fun _ _ _ h => h) (Or.inl ⟨by rfl, by intro w hS; go_simp⟩) hHeld ?_
      simp only [Act.put, List.setIfInBounds_toArray, List.set_cons_zero, List.set_cons_succ]
      refine wpAnyH_take (i := 1) (oi := { dst := some 9, op := Op.nilCheck (Operand.tmp 8), type := 0, pos := "sha.go:52", after := #[{ on := 0, ground := Ground.data }], guard := none }) (v := .pointer (some ⟨g, 0, none⟩)) rfl (by kernel_rfl) (by kernel_rfl) (by kernel_rfl) (fun _ _ _ h => h) (Or.inl ⟨by rfl, by intro w hS; go_simp⟩) hHeld ?_
      simp only [Act.put, List.setIfInBounds_toArray, List.set_cons_zero, List.set_cons_succ]
      refine wpAnyH_take (i := 4) (oi := { dst := some 12, op := Op.nilCheck (Operand.tmp 11), type := 0, pos := "sha.go:52", after := #[{ on := 3, ground := Ground.data }], guard := none }) (v := .pointer (some ⟨g, 0, none⟩)) rfl (by kernel_rfl) (by kernel_rfl) (by kernel_rfl) (fun _ _ _ h => h) (Or.inl ⟨by rfl, by intro w hS; go_simp⟩) hHeld ?_
      simp only [Act.put, List.setIfInBounds_toArray, List.set_cons_zero, List.set_cons_succ]
      refine wpAnyH_take (i := 2) (oi := { dst := some 10, op := Op.fieldAddr 80 (Operand.tmp 9) 2, type := 0, pos := "sha.go:52", after := #[{ on := 1, ground := Ground.data }], guard := none }) (v := .pointer (some ⟨g, 9, none⟩)) rfl (by kernel_rfl) (by kernel_rfl) (by kernel_rfl) (fun _ _ _ h => h) (Or.inl ⟨by rfl, by intro w hS; go_simp⟩) hHeld ?_
      simp only [Act.put, List.setIfInBounds_toArray, List.set_cons_zero, List.set_cons_succ]
      refine wpAnyH_take (i := 5) (oi := { dst := some 13, op := Op.fieldAddr 80 (Operand.tmp 12) 0, type := 0, pos := "sha.go:52", after := #[{ on := 4, ground := Ground.data }], guard := none }) (v := .pointer (some ⟨g, 0, none⟩)) rfl (by kernel_rfl) (by kernel_rfl) (by kernel_rfl) (fun _ _ _ h => h) (Or.inl ⟨by rfl, by intro w hS; go_simp⟩) hHeld ?_
      simp only [Act.put, List.setIfInBounds_toArray, List.set_cons_zero, List.set_cons_succ]
      refine wpAnyH_take (i := 6) (oi := { dst := some 14, op := Op.fieldAddr 77 (Operand.tmp 13) 0, type := 0, pos := "sha.go:52", after := #[{ on := 5, ground := Ground.data }], guard := none }) (v := .pointer (some ⟨g, 0, none⟩)) rfl (by kernel_rfl) (by kernel_rfl) (by kernel_rfl) (fun _ _ _ h => h) (Or.inl ⟨by rfl, by intro w hS; go_simp⟩) hHeld ?_
      simp only [Act.put, List.setIfInBounds_toArray, List.set_cons_zero, List.set_cons_succ]
      refine wpAnyH_take (i := 7) (oi := { dst := some 15, op := Op.load 3 (Operand.tmp 14), type := 3, pos := "sha.go:52", after := #[{ on := 6, ground := Ground.data }], guard := none }) (v := .int .i64 (N' : Int)) rfl (by kernel_rfl) (by kernel_rfl) (by kernel_rfl) (fun _ _ _ h => h) (Or.inl ⟨by rfl, by intro w hS; go_simp⟩) hHeld ?_
      simp only [Act.put, List.setIfInBounds_toArray, List.set_cons_zero, List.set_cons_succ]
      refine wpAnyH_take (i := 8) (oi := { dst := some 16, op := Op.binOp BinOp.rem 3 (Operand.tmp 15) (Operand.const (Value.int IntKind.i64 64)) 3, type := 3, pos := "sha.go:52", after := #[{ on := 7, ground := Ground.data }], guard := none }) (v := .int .i64 (r : Int)) rfl (by kernel_rfl) (by kernel_rfl) (by kernel_rfl) (fun _ _ _ h => h) (Or.inl ⟨by rfl, by intro w hS; go_simp; rw [Int.tmod_eq_emod_of_nonneg (by omega)]; exact er⟩) hHeld ?_
      simp only [Act.put, List.setIfInBounds_toArray, List.set_cons_zero, List.set_cons_succ]
      refine wpAnyH_take (i := 9) (oi := { dst := some 17, op := Op.slice 78 (Operand.tmp 10) (some (Operand.tmp 16)) none none, type := 38, pos := "sha.go:52", after := #[{ on := 2, ground := Ground.data }, { on := 8, ground := Ground.data }], guard := none }) (v := .slice (some ⟨g, 9 + r, none⟩) (64 - r) (64 - r)) rfl (by kernel_rfl) (by kernel_rfl) (by kernel_rfl) (fun _ _ _ h => h) (Or.inl ⟨by rfl, by intro w hS; have hsl := run_slice_blk g r w hr64; go_simp⟩) hHeld ?_
      simp only [Act.put, List.setIfInBounds_toArray, List.set_cons_zero, List.set_cons_succ]
      have hcell : ∀ j, j < q → (W1.cell? ⟨g, 9 + r + j, none⟩).isSome = true := fun j hj => by
        rw [show 9 + r + j = 9 + (r + j) from by omega, HS1.out.cb (r + j) (by omega)]
        rfl
      have hfree : ∀ j, j < q → W1.frozen? ⟨g, 9 + r + j, none⟩ = false := fun j hj => HS1.out.fr (9 + r + j) (by omega)
      refine wpAnyH_ready (rs := [11]) (by kernel_rfl) (by decide) (AllReadyH.cons rfl (fun K hK => ?_) AllReadyH.nil)
      refine step_copy_min rfl (.tmp 17) (.tmp 18) 38 9 rfl 5 Tryd.underlying38 hz g (9 + r) (64 - r) (64 - r) q rfl u rfl HQ.out.symm hcell hfree 19 rfl ?_
      have S2 := HS1.out.putB u r q (by omega)
      have G2 := gb_trans G1 (gb_setCells W1 g (9 + r) (bcs u q))
      have K2 := HK1.out.grown (gb_setCells W1 g (9 + r) (bcs u q)) hg
      generalize W1.setCells g (9 + r) (bcs u q) = W2 at S2 G2 K2 ⊢
      refine hK.out _ _ S2.c0 (fun hHeld2 => ?_)
      clear hK K hcell hfree HS1 HK1 G1 HS hK' G
      simp only [Act.put, List.setIfInBounds_toArray, List.set_cons_zero, List.set_cons_succ]
      refine wpAnyH_ready (rs := [12]) (by kernel_rfl) (by decide) (AllReadyH.cons rfl (fun K hK => ?_) AllReadyH.nil)
      rw [if_pos (by rfl)]
      go_simp
      refine hK.out _ _ S2.c0 (fun _ => ?_)
      clear hK K
      refine wpAnyH_done (by kernel_rfl) ?_ _
      have HS2 : Hid (Stt W2 g N' (hw m (N' / 64)) (putF f' u r q)) := S2
      have HK2 : Hid (KT W2) := K2
      clear S2 K2
      go_wp2_with fail
      refine (advance_any g N' q _ _ W2 HS2.out (by omega) (by omega) (by omega) (hw_w _ _) (putF_bd _ _ _ _ hf'.1) HK2.out hg).mono ?_
      rintro e w4 ⟨rfl, S4, G4⟩
      have G5 := gb_trans G2 G4
      have K5 : Hid (KT w4) := HK2.out.grown G4 hg
      have hst := wt_step m f' u N' r q hf' HR.out (by omega) hq0 hq1 HM.out
      rw [show ((N' : Int) + (q : Int)) = ((N' + q : Nat) : Int) from by omega, hst.1] at S4
      have HS4 : Hid (Stt w4 g ((N' + q : Nat) : Int) (hw m ((N' + q) / 64)) (putF f' u r q)) := S4
      have HF4 : Hid (FB m (N' + q) (putF f' u r q)) := hst.2
      clear S4 hst HS2 HK2 G2 G4 hHeld hHeld2 hf'
      have hx := ext_size u q
      go_wp2
      go_roundw
      case rel =>
        refine ⟨_, N' + q, _, rfl, by rw [hx]; omega, fun i hi => ?_, HS4.out, HF4.out, K5.out, G5⟩
        rw [hx] at hi
        rw [ext_bt u q i hi, ← HM.out (q + i) (by omega)]
        congr 1
        omega
      case measure =>
        show (u.extract q u.size).size < u.size
        rw [hx]
        omega
    · obtain rfl : N' = N + t.size := by omega
      have hu0 : u.size = 0 := by omega
      clear hu
      go_wp2
      go_end0
      exact ⟨rfl, ⟨f', S', hf'⟩, G⟩
#print axioms writeText_any
end Go.Proofs.YtcmdeiohnkbjlaaDoor
