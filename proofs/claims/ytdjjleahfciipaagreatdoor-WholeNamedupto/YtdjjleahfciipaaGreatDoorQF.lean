/- Gathered: OfF OfG OfH. -/
import Derived.Lib.LazyBuf
import Derived.Test.YtdjjleahfciipaaGreatDoorQE
/- copy from a string into a State's block; what WriteText does. -/
namespace Go.Proofs.YtdjjleahfciipaaGreatDoor
open Go.RowKit
/-- The first q bytes of a string, as cells. -/
def bcs (t : ByteArray) (q : Nat) : List Value := (List.range q).map (fun j => Value.int .u8 (bt t j))
theorem bcs_length (t : ByteArray) (q : Nat) : (bcs t q).length = q := by simp [bcs]
theorem bcs_take (t : ByteArray) (q : Nat) (hq : q ≤ t.size) : (t.data.toList.map fun x => Value.int .u8 (x.toNat : Int)).take q = bcs t q := by
  apply List.ext_getElem?
  intro i
  unfold bcs
  rw [List.getElem?_take]
  by_cases h : i < q
  · rw [if_pos h]
    have hs : i < t.size := by omega
    have hs' : i < t.data.size := hs
    simp only [List.getElem?_map, Array.getElem?_toList, Array.getElem?_eq_getElem hs', List.getElem?_range h, Option.map_some]
    congr 2
    unfold bt
    rw [dif_pos hs]
    rfl
  · rw [if_neg h, List.getElem?_eq_none (by simp; omega)]

/-- copy(dst, t), t a string: as many bytes as there is room for. -/
theorem run_copy_min {P : Program} (w : World) (dT sT ty elem : TypeId) (b o dLen dCap q : Nat) (t : ByteArray)
    (hu : P.underlying dT = some (.slice elem)) (hz : ∀ w, (Go.sizeOf elem).run P w = .ok 1 w) (hq : Nat.min t.size dLen = q)
    (hc : ∀ j, j < q → (w.cell? ⟨b, o + j, none⟩).isSome = true) (hf : ∀ j, j < q → w.frozen? ⟨b, o + j, none⟩ = false) :
    (Builtin.copy_ #[dT, sT] ty #[.slice (some ⟨b, o, none⟩) dLen dCap, .string t]).run P w = .ok (goInt q) (w.setCells b o (bcs t q)) := by
  have hqs : q ≤ t.size := by rw [← hq]; exact Nat.min_le_left _ _
  have hst := run_storeCells_cells (P := P) b o (bcs t q) 0 w (by rw [bcs_length]; simpa using hc) (by rw [bcs_length]; simpa using hf) (by
    intro v hv
    obtain ⟨x, _, rfl⟩ := List.mem_map.1 hv
    rfl)
  simp [Builtin.copy_, run_underlying hu, Builtin.lenOf, Builtin.firstCells, hz, hq]
  rw [bcs_take t q hqs, hst]
  rfl

theorem step_copy_min {P : Program} {ops : Array Oper} {o : Oper} {a : Act} {w : World} {K : Act → World → Prop} {Q : Exit → Act → World → Prop} {E : Prop}
    (hg : o.guard = none) (d x : Operand) (dT sT : TypeId) (hop : o.op = Op.call { callee := Callee.builtin Builtin.copy, args := #[d, x], argTypes := #[dT, sT] })
    (elem : TypeId) (hu : P.underlying dT = some (.slice elem)) (hz : ∀ w, (Go.sizeOf elem).run P w = .ok 1 w)
    (b off dLen dCap q : Nat) (hd : a.eval d = .slice (some ⟨b, off, none⟩) dLen dCap) (t : ByteArray) (hx : a.eval x = .string t) (hq : Nat.min t.size dLen = q)
    (hc : ∀ j, j < q → (w.cell? ⟨b, off + j, none⟩).isSome = true) (hf : ∀ j, j < q → w.frozen? ⟨b, off + j, none⟩ = false) (dt : Tmp) (hdst : o.dst = some dt)
    (hK : K (a.put (some dt) (goInt q)) (w.setCells b off (bcs t q))) :
    if Region.wanted o (yielded ops a.tmps) = true then Oper.wp P o a w K Q else E := by
  have hw : Region.wanted o (yielded ops a.tmps) = true := by simp [Region.wanted, hg]
  rw [if_pos hw]
  have hrun := run_copy_min (P := P) w dT sT o.type elem b off dLen dCap q t hu hz hq hc hf
  unfold Oper.wp
  simp [execOp, hop, resolve, invoke, builtin, hd, hx, hrun, Result.andThen]
  rw [← hdst] at hK
  exact hK

/-- The block f with q bytes of t put in from r on. -/
def putF (f : Nat → Int) (t : ByteArray) (r q j : Nat) : Int := if r ≤ j ∧ j < r + q then bt t (j - r) else f j
theorem Stt.putB {w : World} {g : Nat} {n : Int} {h f : Nat → Int} (s : Stt w g n h f) (t : ByteArray) (r q : Nat) (hr : r + q ≤ 64) : Stt (w.setCells g (9 + r) (bcs t q)) g n h (putF f t r q) :=
  ⟨by rw [World.cell?_setCells_out _ _ _ _ _ (fun _ _ => .inl (by show 0 < 9 + r; omega))]; exact s.c0,
   fun j hj => by rw [World.cell?_setCells_out _ _ _ _ _ (fun _ _ => .inl (by show 1 + j < 9 + r; omega))]; exact s.cw j hj,
   fun j hj => by
    unfold putF
    by_cases e : r ≤ j ∧ j < r + q
    · rw [if_pos e]
      have h1 := World.cell?_setCells_in g (bcs t q) (9 + r) w (fun i hi => by
        rw [bcs_length] at hi
        have := s.cb (r + i) (by omega)
        rw [show 9 + r + i = 9 + (r + i) from by omega, this]
        rfl) (j - r) (by rw [bcs_length]; omega)
      rw [show 9 + r + (j - r) = 9 + j from by omega] at h1
      rw [h1]
      simp [bcs]
    · rw [if_neg e, World.cell?_setCells_out _ _ _ _ _ (fun _ _ => by
        rw [bcs_length]
        show 9 + j < 9 + r ∨ 9 + r + q ≤ 9 + j
        omega)]
      exact s.cb j hj,
   fun j hj => by rw [World.frozen?_setCells]; exact s.fr j hj⟩
theorem sch_congr (b b' : Nat → Int) (hb : ∀ j, j < 64 → b j = b' j) (k : Nat) : sch b k = sch b' k := by
  induction k with
  | zero => rfl
  | succ k ih =>
    funext j
    rw [sch, sch, ih]
    unfold nxt
    by_cases h : k < 16
    · rw [if_pos h, if_pos h]
      unfold wd
      rw [hb (4 * k) (by omega), hb (4 * k + 1) (by omega), hb (4 * k + 2) (by omega), hb (4 * k + 3) (by omega)]
    · rw [if_neg h, if_neg h]
theorem blk_congr (h b b' : Nat → Int) (hb : ∀ j, j < 64 → b j = b' j) : blk kk h b = blk kk h b' := by
  funext j
  unfold blk
  rw [sch_congr b b' hb]
/-- The block holds what has been written behind the whole blocks. -/
def FB (m : Nat → Int) (N : Nat) (f : Nat → Int) : Prop := (∀ j, 0 ≤ f j ∧ f j < 256) ∧ ∀ j, j < N % 64 → f j = m (64 * (N / 64) + j)
theorem putF_bd (f : Nat → Int) (t : ByteArray) (r q : Nat) (hf : ∀ j, 0 ≤ f j ∧ f j < 256) (j : Nat) : 0 ≤ putF f t r q j ∧ putF f t r q j < 256 := by
  unfold putF
  split
  · exact bt_bd t _
  · exact hf j
theorem wt_step (m f : Nat → Int) (u : ByteArray) (N r q : Nat) (hf : FB m N f) (hr : r = N % 64) (hq : r + q ≤ 64) (h0 : 0 < q) (hu : q ≤ u.size) (hm : ∀ i, i < u.size → m (N + i) = bt u i) :
    adv (hw m (N / 64)) (putF f u r q) ((N + q : Nat) : Int) = hw m ((N + q) / 64) ∧ FB m (N + q) (putF f u r q) := by
  have hp : ∀ j, j < r + q → putF f u r q j = m (64 * (N / 64) + j) := fun j hj => by
    unfold putF
    by_cases e : r ≤ j
    · rw [if_pos ⟨e, hj⟩, ← hm (j - r) (by omega)]
      congr 1
      omega
    · rw [if_neg (by omega)]
      exact hf.2 j (by omega)
  by_cases h64 : r + q = 64
  · refine ⟨?_, putF_bd _ _ _ _ hf.1, fun j hj => absurd hj (by omega)⟩
    unfold adv
    rw [if_pos (by omega), show (N + q) / 64 = N / 64 + 1 from by omega, hw]
    exact blk_congr _ _ _ (fun j hj => hp j (by omega))
  · refine ⟨?_, putF_bd _ _ _ _ hf.1, fun j hj => ?_⟩
    · unfold adv
      rw [if_neg (by omega), show (N + q) / 64 = N / 64 from by omega]
    · rw [show (N + q) / 64 = N / 64 from by omega]
      exact hp j (by omega)

theorem ext_size (u : ByteArray) (q : Nat) : (u.extract q u.size).size = u.size - q := by
  rw [ByteArray.size_extract, Nat.min_self]
theorem ext_bt (u : ByteArray) (q i : Nat) (hi : i < u.size - q) : bt (u.extract q u.size) i = bt u (q + i) := by
  unfold bt
  rw [dif_pos (by rw [ext_size]; exact hi), dif_pos (by omega), ByteArray.getElem_extract]

theorem run_slice_blk (g r : Nat) (w : World) (hr : r < 64) : (Instr.sliceAt 110 (.pointer (some ⟨g, 9, none⟩)) (some (.int .i64 (r : Int))) none none).run Tryz.prog w = .ok (.slice (some ⟨g, 9 + r, none⟩) (64 - r) (64 - r)) w := by
  have hl : Tryz.prog.arrayLen 110 = 64 := by kernel_rfl
  have he : Tryz.prog.elem 110 = 5 := by kernel_rfl
  obtain ⟨i0, hi, hz0, hz1, hz2⟩ := info_parts Tryz.infoS5
  rw [run_sliceAt_array_l (P := Tryz.prog) w 110 ⟨g, 9, none⟩ (by kernel_rfl) .i64 (r : Int) (by omega) (by rw [hl]; omega), he, hl]
  simp only [sizeOf, typeInfo, Sem.run_bind]
  simp [hi, hz1, slicedAt, show ¬ (64 = r) from by omega, Addr.add_mid]

set_option maxRecDepth 10000 in
set_option maxHeartbeats 4000000 in
theorem writeText_any (g N : Nat) (t : ByteArray) (m f : Nat → Int) (w : World) (S : Stt w g N (hw m (N / 64)) f) (hf : FB m N f) (hm : ∀ i, i < t.size → m (N + i) = bt t i) (hN : N + t.size ≤ 2305843009213693952) (hK : KT w) (hg : 0 < g) :
    Calls Tryz.prog 19 #[.pointer (some ⟨g, 0, none⟩), .string t] w fun e w' => e = .returned (.tuple #[]) ∧ (∃ f', Stt w' g ((N + t.size : Nat) : Int) (hw m ((N + t.size) / 64)) f' ∧ FB m (N + t.size) f') ∧ w.grownBy w' (some g) := by
  have hz : ∀ w, (Go.sizeOf 5).run Tryz.prog w = .ok 1 w := fun w => by
    obtain ⟨i0, hi, hz0, hz1, hz2⟩ := info_parts Tryz.infoS5
    simp [sizeOf, typeInfo, hi, hz1]
  go_enter Tryz.func19, Tryz.ntmps19
  go_wp2
  go_loopw [1] (fun v wr => ∃ (u : ByteArray) (N' : Nat) (f' : Nat → Int), v = .string u ∧ N' + u.size = N + t.size ∧ (∀ i, i < u.size → m (N' + i) = bt u i) ∧ Stt wr g N' (hw m (N' / 64)) f' ∧ FB m N' f' ∧ KT wr ∧ w.grownBy wr (some g)) (fun v _ => match v with | .string s => s.size | _ => 0)
  case atStart => exact ⟨t, N, f, rfl, rfl, hm, S, hf, hK, World.grownBy.refl _ _⟩
  case round =>
    obtain ⟨u, N', f', rfl, hsz, hm', S', hf', hK', G⟩ := hrel
    clear S hf hm hK
    by_cases hu : 0 < u.size
    · obtain ⟨r, hr⟩ : ∃ r, r = N' % 64 := ⟨_, rfl⟩
      obtain ⟨q, hq⟩ : ∃ q, q = Nat.min u.size (64 - r) := ⟨_, rfl⟩
      have hq1 : q ≤ u.size := by rw [hq]; exact Nat.min_le_left _ _
      have hq2 : q ≤ 64 - r := by rw [hq]; exact Nat.min_le_right _ _
      have hq0 : 0 < q := by rw [hq]; exact Nat.lt_min.2 ⟨hu, by omega⟩
      have c0 := S'.c0
      have er : (N' : Int) % 64 = (r : Int) := by omega
      have hr64 : r < 64 := by omega
      have HS : Hid (Stt wr g N' (hw m (N' / 64)) f') := S'
      have HR : Hid (r = N' % 64) := hr
      have HQ : Hid (q = Nat.min u.size (64 - r)) := hq
      have HM : Hid (∀ i, i < u.size → m (N' + i) = bt u i) := hm'
      clear S' hr hq hm'
      go_wp2
      refine wp_region_held_drew (S := fun W => W.cell? ⟨g, 0, none⟩ = some (.int .i64 (N' : Int))) (by kernel_rfl) c0 (fun hHeld => ?_)
      have HS1 : Hid (Stt wr.drew g N' (hw m (N' / 64)) f') := HS.out.drew
      have HK1 : Hid (KT wr.drew) := fun i hi => hK' i hi
      have G1 : w.grownBy wr.drew (some g) := gb_drew G
      generalize wr.drew = W1 at hHeld HS1 HK1 G1 ⊢
      clear c0
      refine wpAnyH_take (i := 0) (oi := { dst := some 8, op := Op.move (Operand.tmp 0), type := 60, pos := "sha.go:52", after := #[], guard := none }) (v := .pointer (some ⟨g, 0, none⟩)) rfl (by kernel_rfl) (by kernel_rfl) (by kernel_rfl) (fun _ _ _ h => h) (Or.inl ⟨by rfl, by intro w hS; go_simp⟩) hHeld ?_
      simp only [Act.put, List.setIfInBounds_toArray, List.set_cons_zero, List.set_cons_succ]
      refine wpAnyH_take (i := 3) (oi := { dst := some 11, op := Op.move (Operand.tmp 0), type := 60, pos := "sha.go:52", after := #[], guard := none }) (v := .pointer (some ⟨g, 0, none⟩)) rfl (by kernel_rfl) (by kernel_rfl) (by kernel_rfl) (fun _ _ _ h => h) (Or.inl ⟨by rfl, by intro w hS; go_simp⟩) hHeld ?_
      simp only [Act.put, List.setIfInBounds_toArray, List.set_cons_zero, List.set_cons_succ]
      refine wpAnyH_take (i := 10) (oi := { dst := some 18, op := Op.move (Operand.tmp 1), type := 9, pos := "sha.go:52", after := #[], guard := none }) (v := .string u) rfl (by kernel_rfl) (by kernel_rfl) (by kernel_rfl) (fun _ _ _ h => h) (Or.inl ⟨by rfl, by intro w hS; go_simp⟩) hHeld ?_
      simp only [Act.put, List.setIfInBounds_toArray, List.set_cons_zero, List.set_cons_succ]
      refine wpAnyH_take (i := 1) (oi := { dst := some 9, op := Op.nilCheck (Operand.tmp 8), type := 0, pos := "sha.go:52", after := #[{ on := 0, ground := Ground.data }], guard := none }) (v := .pointer (some ⟨g, 0, none⟩)) rfl (by kernel_rfl) (by kernel_rfl) (by kernel_rfl) (fun _ _ _ h => h) (Or.inl ⟨by rfl, by intro w hS; go_simp⟩) hHeld ?_
      simp only [Act.put, List.setIfInBounds_toArray, List.set_cons_zero, List.set_cons_succ]
      refine wpAnyH_take (i := 4) (oi := { dst := some 12, op := Op.nilCheck (Operand.tmp 11), type := 0, pos := "sha.go:52", after := #[{ on := 3, ground := Ground.data }], guard := none }) (v := .pointer (some ⟨g, 0, none⟩)) rfl (by kernel_rfl) (by kernel_rfl) (by kernel_rfl) (fun _ _ _ h => h) (Or.inl ⟨by rfl, by intro w hS; go_simp⟩) hHeld ?_
      simp only [Act.put, List.setIfInBounds_toArray, List.set_cons_zero, List.set_cons_succ]
      refine wpAnyH_take (i := 2) (oi := { dst := some 10, op := Op.fieldAddr 112 (Operand.tmp 9) 2, type := 0, pos := "sha.go:52", after := #[{ on := 1, ground := Ground.data }], guard := none }) (v := .pointer (some ⟨g, 9, none⟩)) rfl (by kernel_rfl) (by kernel_rfl) (by kernel_rfl) (fun _ _ _ h => h) (Or.inl ⟨by rfl, by intro w hS; go_simp⟩) hHeld ?_
      simp only [Act.put, List.setIfInBounds_toArray, List.set_cons_zero, List.set_cons_succ]
      refine wpAnyH_take (i := 5) (oi := { dst := some 13, op := Op.fieldAddr 112 (Operand.tmp 12) 0, type := 0, pos := "sha.go:52", after := #[{ on := 4, ground := Ground.data }], guard := none }) (v := .pointer (some ⟨g, 0, none⟩)) rfl (by kernel_rfl) (by kernel_rfl) (by kernel_rfl) (fun _ _ _ h => h) (Or.inl ⟨by rfl, by intro w hS; go_simp⟩) hHeld ?_
      simp only [Act.put, List.setIfInBounds_toArray, List.set_cons_zero, List.set_cons_succ]
      refine wpAnyH_take (i := 6) (oi := { dst := some 14, op := Op.fieldAddr 109 (Operand.tmp 13) 0, type := 0, pos := "sha.go:52", after := #[{ on := 5, ground := Ground.data }], guard := none }) (v := .pointer (some ⟨g, 0, none⟩)) rfl (by kernel_rfl) (by kernel_rfl) (by kernel_rfl) (fun _ _ _ h => h) (Or.inl ⟨by rfl, by intro w hS; go_simp⟩) hHeld ?_
      simp only [Act.put, List.setIfInBounds_toArray, List.set_cons_zero, List.set_cons_succ]
      refine wpAnyH_take (i := 7) (oi := { dst := some 15, op := Op.load 3 (Operand.tmp 14), type := 3, pos := "sha.go:52", after := #[{ on := 6, ground := Ground.data }], guard := none }) (v := .int .i64 (N' : Int)) rfl (by kernel_rfl) (by kernel_rfl) (by kernel_rfl) (fun _ _ _ h => h) (Or.inl ⟨by rfl, by intro w hS; go_simp⟩) hHeld ?_
      simp only [Act.put, List.setIfInBounds_toArray, List.set_cons_zero, List.set_cons_succ]
      refine wpAnyH_take (i := 8) (oi := { dst := some 16, op := Op.binOp BinOp.rem 3 (Operand.tmp 15) (Operand.const (Value.int IntKind.i64 64)) 3, type := 3, pos := "sha.go:52", after := #[{ on := 7, ground := Ground.data }], guard := none }) (v := .int .i64 (r : Int)) rfl (by kernel_rfl) (by kernel_rfl) (by kernel_rfl) (fun _ _ _ h => h) (Or.inl ⟨by rfl, by intro w hS; go_simp; rw [Int.tmod_eq_emod_of_nonneg (by omega)]; exact er⟩) hHeld ?_
      simp only [Act.put, List.setIfInBounds_toArray, List.set_cons_zero, List.set_cons_succ]
      refine wpAnyH_take (i := 9) (oi := { dst := some 17, op := Op.slice 110 (Operand.tmp 10) (some (Operand.tmp 16)) none none, type := 45, pos := "sha.go:52", after := #[{ on := 2, ground := Ground.data }, { on := 8, ground := Ground.data }], guard := none }) (v := .slice (some ⟨g, 9 + r, none⟩) (64 - r) (64 - r)) rfl (by kernel_rfl) (by kernel_rfl) (by kernel_rfl) (fun _ _ _ h => h) (Or.inl ⟨by rfl, by intro w hS; have hsl := run_slice_blk g r w hr64; go_simp⟩) hHeld ?_
      simp only [Act.put, List.setIfInBounds_toArray, List.set_cons_zero, List.set_cons_succ]
      have hcell : ∀ j, j < q → (W1.cell? ⟨g, 9 + r + j, none⟩).isSome = true := fun j hj => by
        rw [show 9 + r + j = 9 + (r + j) from by omega, HS1.out.cb (r + j) (by omega)]
        rfl
      have hfree : ∀ j, j < q → W1.frozen? ⟨g, 9 + r + j, none⟩ = false := fun j hj => HS1.out.fr (9 + r + j) (by omega)
      refine wpAnyH_ready (rs := [11]) (by kernel_rfl) (by decide) (AllReadyH.cons rfl (fun K hK => ?_) AllReadyH.nil)
      refine step_copy_min rfl (.tmp 17) (.tmp 18) 45 9 rfl 5 Tryz.underlying45 hz g (9 + r) (64 - r) (64 - r) q rfl u rfl HQ.out.symm hcell hfree 19 rfl ?_
      have S2 := HS1.out.putB u r q (by omega)
      have G2 := gb_trans G1 (gb_setCells W1 g (9 + r) (bcs u q))
      have K2 := HK1.out.grown (gb_setCells W1 g (9 + r) (bcs u q)) hg
      generalize W1.setCells g (9 + r) (bcs u q) = W2 at S2 G2 K2 ⊢
      refine hK.out _ _ S2.c0 (fun hHeld2 => ?_)
      clear hK K hcell hfree HS1 HK1 G1 HS hK' G
      simp only [Act.put, List.setIfInBounds_toArray, List.set_cons_zero, List.set_cons_succ]
      refine wpAnyH_ready (rs := [12]) (by kernel_rfl) (by decide) (AllReadyH.cons rfl (fun K hK => ?_) AllReadyH.nil)
      rw [if_pos (by rfl)]
      go_simp
      refine hK.out _ _ S2.c0 (fun _ => ?_)
      clear hK K
      refine wpAnyH_done (by kernel_rfl) ?_ _
      have HS2 : Hid (Stt W2 g N' (hw m (N' / 64)) (putF f' u r q)) := S2
      have HK2 : Hid (KT W2) := K2
      clear S2 K2
      go_wp2_with fail
      refine (advance_any g N' q _ _ W2 HS2.out (by omega) (by omega) (by omega) (hw_w _ _) (putF_bd _ _ _ _ hf'.1) HK2.out hg).mono ?_
      rintro e w4 ⟨rfl, S4, G4⟩
      have G5 := gb_trans G2 G4
      have K5 : Hid (KT w4) := HK2.out.grown G4 hg
      have hst := wt_step m f' u N' r q hf' HR.out (by omega) hq0 hq1 HM.out
      rw [show ((N' : Int) + (q : Int)) = ((N' + q : Nat) : Int) from by omega, hst.1] at S4
      have HS4 : Hid (Stt w4 g ((N' + q : Nat) : Int) (hw m ((N' + q) / 64)) (putF f' u r q)) := S4
      have HF4 : Hid (FB m (N' + q) (putF f' u r q)) := hst.2
      clear S4 hst HS2 HK2 G2 G4 hHeld hHeld2 hf'
      have hx := ext_size u q
      go_wp2
      go_roundw
      case rel =>
        refine ⟨_, N' + q, _, rfl, by rw [hx]; omega, fun i hi => ?_, HS4.out, HF4.out, K5.out, G5⟩
        rw [hx] at hi
        rw [ext_bt u q i hi, ← HM.out (q + i) (by omega)]
        congr 1
        omega
      case measure =>
        show (u.extract q u.size).size < u.size
        rw [hx]
        omega
    · obtain rfl : N' = N + t.size := by omega
      have hu0 : u.size = 0 := by omega
      clear hu
      go_wp2
      go_end0
      exact ⟨rfl, ⟨f', S', hf'⟩, G⟩
#print axioms writeText_any
end Go.Proofs.YtdjjleahfciipaaGreatDoor
/- (*sha.State).Sum, walked. -/
namespace Go.Proofs.YtdjjleahfciipaaGreatDoor
open Go.RowKit
/-- A State's cells. -/
def sl (n : Int) (h f : Nat → Int) : List Value := Value.int .i64 n :: ((List.range 8).map (fun i => Value.int .u32 (h i)) ++ (List.range 64).map (fun i => Value.int .u8 (f i)))
theorem sl_length (n : Int) (h f : Nat → Int) : (sl n h f).length = 73 := by simp [sl]
theorem sl_size (n : Int) (h f : Nat → Int) : (sl n h f).toArray.size = 73 := by rw [List.size_toArray, sl_length]
theorem sl_zero (n : Int) (h f : Nat → Int) : (sl n h f)[0]? = some (.int .i64 n) := rfl
theorem sl_word (n : Int) (h f : Nat → Int) (j : Nat) (hj : j < 8) : (sl n h f)[1 + j]? = some (.int .u32 (h j)) := by
  unfold sl
  rw [Nat.add_comm 1 j, List.getElem?_cons_succ, List.getElem?_append_left (by simp; omega)]
  simp [hj]
theorem sl_byte (n : Int) (h f : Nat → Int) (j : Nat) (hj : j < 64) : (sl n h f)[9 + j]? = some (.int .u8 (f j)) := by
  unfold sl
  rw [show 9 + j = (8 + j) + 1 from by omega, List.getElem?_cons_succ, List.getElem?_append_right (by simp)]
  simp [hj]
theorem Stt.range {w : World} {g : Nat} {n : Int} {h f : Nat → Int} (s : Stt w g n h f) : w.rangeAt g 0 (sl n h f) := fun j v hv => by
  have hj : j < 73 := by
    have := (List.getElem?_eq_some_iff.1 hv).1
    rw [sl_length] at this; exact this
  rw [Nat.zero_add]
  by_cases h0 : j = 0
  · subst h0; rw [s.c0, ← hv]; rfl
  · by_cases h1 : j < 9
    · obtain ⟨i, rfl⟩ : ∃ i, j = 1 + i := ⟨j - 1, by omega⟩
      rw [s.cw i (by omega), ← hv, sl_word n h f i (by omega)]
    · obtain ⟨i, rfl⟩ : ∃ i, j = 9 + i := ⟨j - 9, by omega⟩
      rw [s.cb i (by omega), ← hv, sl_byte n h f i (by omega)]
theorem Stt.of_range {w : World} {g : Nat} {n : Int} {h f : Nat → Int} (r : w.rangeAt g 0 (sl n h f)) (fr : ∀ j, j < 73 → w.frozen? ⟨g, j, none⟩ = false) : Stt w g n h f :=
  ⟨by have := r 0 _ (sl_zero n h f); simpa using this, fun j hj => by have := r (1 + j) _ (sl_word n h f j hj); simpa using this, fun j hj => by have := r (9 + j) _ (sl_byte n h f j hj); simpa using this, fr⟩
theorem sl_one (n : Int) (h f : Nat → Int) : (sl n h f).toArray.all (·.oneCell') = true := by
  apply all_oneCell_toArray
  intro v hv
  unfold sl at hv
  simp only [List.mem_cons, List.mem_append, List.mem_map] at hv
  rcases hv with rfl | ⟨_, _, rfl⟩ | ⟨_, _, rfl⟩ <;> rfl
theorem zst_get (j : Nat) (hj : j < 73) : (zst[j]?).isSome = true := by rw [Array.getElem?_eq_getElem (by rw [zst_size]; exact hj)]; rfl
theorem there_zst (w : World) : (w.alloc (.cells zst 112)).there w.heap.size 0 73 := fun j hj => by
  rw [Nat.zero_add, World.cell?_alloc_new]
  exact ⟨zst_get j hj, World.frozen?_alloc_new w _ _ _⟩
theorem Tryz.size112 : (Tryz.prog.info? 112).map (·.size) = some 73 := by kernel_rfl

/-- Behind the copy. -/
structure Cp (w : World) (g : Nat) (n : Int) (h f : Nat → Int) (W : World) : Prop where
  old : Stt W g n h f
  new : Stt W (w.heap.size + 1) n h f
  res : Row .u8 W w.heap.size 32 (fun _ => 0)
  bel : Below w.heap.size w W
  sz : w.heap.size + 1 + 1 ≤ W.heap.size
theorem there_zst2 (w : World) (o : Obj) : ((w.alloc o).alloc (.cells zst 112)).there (w.heap.size + 1) 0 73 := by
  have := there_zst (w.alloc o)
  rw [World.size_alloc] at this
  exact this
theorem cp_of (w : World) (C : Array Value) (hC : C = Array.replicate 32 (.int .u8 0)) (g : Nat) (n : Int) (h f : Nat → Int) (S : Stt w g n h f) :
    Cp w g n h f (((w.alloc (.cells C 31)).alloc (.cells zst 112)).setCells (w.heap.size + 1) 0 (sl n h f)) := by
  have hs : (w.alloc (.cells C 31)).heap.size = w.heap.size + 1 := World.size_alloc _ _
  have th := there_zst2 w (.cells C 31)
  have B : Below w.heap.size w ((w.alloc (.cells C 31)).alloc (.cells zst 112)) := ((Below.refl _ _).alloc (Nat.le_refl _) _).alloc (by rw [hs]; omega) _
  have R : Row .u8 ((w.alloc (.cells C 31)).alloc (.cells zst 112)) w.heap.size 32 (fun _ => 0) := (Row.rep hC).alloc (by rw [hs]; omega) _
  refine ⟨?_, ?_, ?_, ?_, ?_⟩
  · exact (S.below B S.lt).same (World.heap_setCells_other _ _ _ _ (by rw [World.size_alloc, hs]; have := S.lt; omega) (by have := S.lt; omega))
  · refine Stt.of_range (World.rangeAt_setCells_same _ _ _ _ (by rw [sl_length]; exact th)) (fun j hj => ?_)
    rw [World.frozen?_setCells]
    have := (th j hj).2
    rw [Nat.zero_add] at this
    exact this
  · exact R.same (World.heap_setCells_other _ _ _ _ (by rw [World.size_alloc, hs]; omega) (by omega))
  · exact setCells_below _ (by omega) _ _ _ _ B
  · have := (gb_setCells ((w.alloc (.cells C 31)).alloc (.cells zst 112)) (w.heap.size + 1) 0 (sl n h f)).size
    rw [World.size_alloc, hs] at this
    omega

theorem wpList_store_copy {ops : Array Oper} {rest : List Oper} {o : Oper} {a : Act} {w : World} {Q : Exit → Act → World → Prop} (hgd : o.guard = none) (ho : o.op = .store 112 (.tmp 3) (.tmp 6)) (w0 : World) (C : Array Value) (hC : C = Array.replicate 32 (.int .u8 0))
    (hw : w = (w0.alloc (.cells C 31)).alloc (.cells zst 112)) (g : Nat) (n : Int) (h f : Nat → Int) (hx : a.eval (.tmp 3) = .pointer (some ⟨w0.heap.size + 1, 0, none⟩)) (hy : a.eval (.tmp 6) = .agg (sl n h f).toArray) (hdst : o.dst = none) (S : Stt w0 g n h f)
    (hK : ∀ W, Cp w0 g n h f W → wpList Tryz.prog ops Q rest a W) : wpList Tryz.prog ops Q (o :: rest) a w := by
  subst hw
  refine wpList_store_mid hgd 112 (.tmp 3) (.tmp 6) ho (w0.heap.size + 1) 0 (sl n h f).toArray hx hy (by rw [sl_size]; exact there_zst2 _ _) (by rw [Tryz.size112, sl_size]) (sl_one _ _ _) ?_
  rw [hdst]
  exact hK _ (cp_of w0 C hC g n h f S)

set_option maxRecDepth 100000 in
set_option maxHeartbeats 1000000 in
theorem sum_any (g N : Nat) (m f : Nat → Int) (w : World) (S : Stt w g N (hw m (N / 64)) f) (hf : FB m N f) (hm : ∀ i, i < (padStr N).size → m (N + i) = bt (padStr N) i) (hN : N ≤ 1152921504606846976) (hK : KT w) (hg : 0 < g) :
    Calls Tryz.prog 21 #[.pointer (some ⟨g, 0, none⟩)] w fun e w' => e = .returned (.agg (cs .u8 32 (dg (hw m ((N + (padStr N).size) / 64))))) ∧ Below w.heap.size w w' := by
  have q1 := run_zero_st
  have q2 := zst_size
  have HF : Hid (FB m N f) := hf
  have HM : Hid (∀ i, i < (padStr N).size → m (N + i) = bt (padStr N) i) := hm
  have HS : Hid (Stt w g N (hw m (N / 64)) f) := S
  have HKT : Hid (KT w) := hK
  have hgl : g < w.heap.size := S.lt
  clear hf hm hK S
  generalize hH : hw m (N / 64) = H at *
  have HH : Hid (hw m (N / 64) = H) := hH
  clear hH
  go_enter Tryz.func21, Tryz.ntmps21
  go_wp2_with (first
    | (refine wpList_load_mid (by rfl) 112 (.tmp 5) (by rfl) g 0 (by rfl) (sl N H f) _ (Stt.range (HS.out.same (Below.heap_alloc _ _ g hgl))) Tryz.underlying112 rfl (by rw [Tryz.size112, sl_length]) ?_)
    | (refine wpList_store_copy (by rfl) (by rfl) w _ rfl rfl g N H f (by rfl) (by rfl) (by rfl) HS.out ?_; intro W1 CP1; have c0 := CP1.old.c0; clear q1 q2))
  refine (pad_all (N : Int) _ (by omega)).mono ?_
  rintro e w2 ⟨rfl, b2⟩
  have KT2 : KT w2 := (HKT.out.grown (gb_below CP1.bel (some g)) hg).grown (gb_below b2 (some g)) hg
  have S2 : Stt w2 (w.heap.size + 1) N (hw m (N / 64)) f := by rw [HH.out]; exact CP1.new.below b2 (by have := CP1.sz; omega)
  have R2 : Row .u8 w2 w.heap.size 32 (fun _ => 0) := CP1.res.below b2 (by have := CP1.sz; omega)
  have B2 : Below w.heap.size w w2 := CP1.bel.trans (b2.mono (by have := CP1.sz; omega))
  have z2 : w.heap.size + 1 + 1 ≤ w2.heap.size := by have := CP1.sz; have := b2.size; omega
  have hps : (padStr (N : Int)).size ≤ 72 := by rw [padStr_size N]; omega
  clear b2 CP1 c0 HKT HS
  go_wp2_with fail
  refine (writeText_any (w.heap.size + 1) N (padStr (N : Int)) m f w2 S2 HF.out HM.out (by omega) KT2 (by omega)).mono ?_
  rintro e w3 ⟨rfl, ⟨f', S3, _⟩, G3⟩
  have R3 : Row .u8 w3 w.heap.size 32 (fun _ => 0) := R2.same (G3.block _ (by omega) (by simp))
  have B3 : Below w.heap.size w w3 := B2.trans ⟨G3.os, G3.tape, G3.output, G3.size, fun k hk => G3.block k (by omega) (by simp; omega)⟩
  have z3 : w.heap.size + 1 + 1 ≤ w3.heap.size := by have := G3.size; omega
  clear S2 R2 B2 z2 G3 KT2 HF HM
  generalize hH2 : hw m ((N + (padStr (N : Int)).size) / 64) = H2 at S3 ⊢
  have HW2 : Hid (∀ j, W32 (H2 j)) := fun j => by rw [← hH2]; exact hw_w _ _ _
  have HH2 : Hid (hw m ((N + (padStr (N : Int)).size) / 64) = H2) := hH2
  clear hH2 HH
  go_wp2_with (first
    | (refine wpList_load_mid (by rfl) 106 (.tmp 14) (by rfl) (w.heap.size + 1) 1 (by rfl) (cs .u32 8 H2).toList _ S3.rangeW Tryz.underlying106 rfl (by rw [Tryz.sz106]; simp [cs_size]) ?_; rw [Array.toArray_toList])
    | fail)
  refine (digestOf_any H2 _ HW2.out).mono ?_
  rintro e w4 ⟨rfl, b4⟩
  have R4 : Row .u8 w4 w.heap.size 32 (fun _ => 0) := R3.below b4 (by omega)
  have B4 : Below w.heap.size w w4 := B3.trans (b4.mono (by omega))
  have z4 : w.heap.size < w4.heap.size := by have := b4.size; omega
  clear R3 B3 b4 S3 z3
  go_wp2_with (refine wpList_store_any (by rfl) 31 (.tmp 2) (.tmp 16) (by rfl) w.heap.size (by rfl) (by rfl) R4 Tryz.sz31 (by rfl) ?_; intro W5 R5 U5)
  exact bodyPost_ret (results_arr Tryz.results21 _ _ rfl R5 Tryz.und31 Tryz.sz31) rfl ⟨by rw [HH2.out], U5.below B4 (Nat.le_refl _) (by omega)⟩

end Go.Proofs.YtdjjleahfciipaaGreatDoor
/- sha.Of, walked. -/
namespace Go.Proofs.YtdjjleahfciipaaGreatDoor
open Go.RowKit

theorem bt_left (a b : ByteArray) (i : Nat) (hi : i < a.size) : bt (a ++ b) i = bt a i := by
  rw [← get_bt a i hi, ← get_bt (a ++ b) i (by rw [ByteArray.size_append]; omega), ByteArray.getElem_append_left hi]
theorem bt_right (a b : ByteArray) (i : Nat) (hi : i < b.size) : bt (a ++ b) (a.size + i) = bt b i := by
  rw [← get_bt b i hi, ← get_bt (a ++ b) (a.size + i) (by rw [ByteArray.size_append]; omega), ByteArray.getElem_append_right (by omega)]
  simp

end Go.Proofs.YtdjjleahfciipaaGreatDoor
