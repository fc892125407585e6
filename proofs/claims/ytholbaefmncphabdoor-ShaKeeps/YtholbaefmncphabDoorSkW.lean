/- The law ShaKeeps, walked. -/
import Derived.Test.YtholbaefmncphabDoorScW
namespace Go.Proofs.YtholbaefmncphabDoor
open Go.RowKit
/-- copy(q, p). -/
theorem copy_row (w : World) (x : Option Addr) (n c m g : Nat) (f z : Nat → Int) (ty : TypeId) (hx : IRow .u8 0 255 w x n c f) (V : Row .u8 w g m z) (hm : n ≤ m) :
    ∃ w', (Builtin.copy_ #[40, 40] ty #[.slice (some ⟨g, 0, none⟩) m m, .slice x n c]).run Tryd.prog w = .ok (goInt n) w' ∧ Row .u8 w' g m (fun j => if j < n then f j else z j) ∧ ∀ B, B ≤ g → Below B w w' := by
  by_cases h0 : n = 0
  · subst h0
    refine ⟨w, run_copy_none (P := Tryd.prog) w 40 40 ty 5 _ _ m m 0 c Tryd.underlying40 info_byte (by simp), V.congr (fun j _ => by simp), fun B _ => Below.refl _ _⟩
  · obtain ⟨a, rfl, _, _⟩ := hx.cell 0 (by omega)
    have hl : ((List.range n).map (fun j => Value.int .u8 (f j))).length = n := by simp
    have hsrc : ∀ j v, ((List.range n).map (fun j => Value.int .u8 (f j)))[j]? = some v → w.cell? (a.add j) = some v := fun j v hj => by
      have hjn : j < n := by rw [← hl]; exact (List.getElem?_eq_some_iff.1 hj).1
      obtain ⟨a', h1, _, h3⟩ := hx.cell j hjn
      cases h1
      rw [h3, ← hj]
      simp [hjn]
    have hrun := run_copy_cells (P := Tryd.prog) w 40 40 ty 5 g 0 m m a n c ((List.range n).map (fun j => Value.int .u8 (f j))) Tryd.underlying40 info_byte (by rw [hl]; exact (Nat.min_eq_left hm).symm) hsrc
      (fun j hj => by rw [Nat.zero_add, V.cell j (by omega)]; rfl) (fun j hj => by rw [Nat.zero_add]; exact V.free j (by omega)) (fun v hv => by obtain ⟨y, _, rfl⟩ := List.mem_map.1 hv; rfl)
    rw [hl] at hrun
    refine ⟨_, hrun, ⟨fun j hj => ?_, fun j hj => ?_⟩, fun B hB => setCells_below g hB _ 0 _ _ (Below.refl _ _)⟩
    · by_cases e : j < n
      · rw [if_pos e]
        have := World.cell?_setCells_in g ((List.range n).map (fun j => Value.int .u8 (f j))) 0 w (fun i hi => by rw [Nat.zero_add, V.cell i (by omega)]; rfl) j (by omega)
        rw [Nat.zero_add] at this
        rw [this]
        simp
      · rw [if_neg e, World.cell?_setCells_out g _ 0 w _ (fun _ _ => by right; rw [hl]; show 0 + n ≤ j; omega)]
        exact V.cell j hj
    · rw [World.frozen?_setCells]; exact V.free j hj
theorem conv_str (w : World) (x : Option Addr) (n c : Nat) (f : Nat → Int) (h : IRow .u8 0 255 w x n c f) : (convert 40 9 (.slice x n c)).run Tryd.prog w = .ok (.string (strFn n f)) w := by
  rw [run_convert_bytes_string w 40 9 5 x n c Tryd.underlying40 Tryd.underlying5 Tryd.underlying9]
  cases x with
  | none =>
    have : n = 0 := by
      by_cases e : n = 0
      · exact e
      · obtain ⟨a, h1, _⟩ := h.cell 0 (by omega)
        cases h1
    subst this
    simp [Conv.bytesToString]
    rfl
  | some a =>
    have hl := run_loadCells_list (P := Tryd.prog) w a ((List.range n).map (fun j => Value.int .u8 (f j))) (fun j v hj => by
      have hjn : j < n := by have := (List.getElem?_eq_some_iff.1 hj).1; simpa using this
      obtain ⟨a', h1, _, h3⟩ := h.cell j hjn
      cases h1
      rw [h3, ← hj]
      simp [hjn])
    rw [List.length_map, List.length_range] at hl
    rw [run_bytesToString w a n c ((List.range n).map f) (by rw [hl, List.map_map]; rfl), foldl_push_bytes]
    simp [strFn, strOfNums, ByteArray.empty, ByteArray.emptyWithCapacity]
    rfl
/-- A whole array read in a region that draws its order. -/
theorem yieldsIf_arr {P : Program} {ops : Array Oper} {S : World → Prop} {op : Oper} {a : Act} {k : IntKind} {n e : Nat} {f : Nat → Int} (hw : Region.wanted op (yielded ops a.tmps) = true) (ty : TypeId) (x : Operand) (ho : op.op = .load ty x)
    (g : Nat) (hx : a.eval x = .pointer (some ⟨g, 0, none⟩)) (hS : ∀ w, S w → Row k w g n f) (hu : P.underlying ty = some (.array n e)) (hi : (P.info? ty).map (·.size) = some n) : YieldsIf P ops S op (.agg (cs k n f)) a := by
  have h := yieldsIf_load_mid (P := P) (ops := ops) (S := S) hw ty x ho g 0 hx (cs k n f).toList (.array n e) (fun w hs => (hS w hs).range) hu rfl (by rw [hi]; simp [cs_size])
  simpa using h
/-- The bytes, then so many gaps. -/
def gpF (f : Nat → Int) (n k : Nat) (gap : Int) (j : Nat) : Int := if j < n then f j else if j < k then gap else 0
theorem gpF_set (f : Nat → Int) (n k : Nat) (gap : Int) (hk : n ≤ k) (j : Nat) : (if j = k then gap else gpF f n k gap j) = gpF f n (k + 1) gap j := by
  unfold gpF
  by_cases e : j = k
  · rw [if_pos e, if_neg (by omega), if_pos (by omega)]
  · rw [if_neg e]
    by_cases h : j < n
    · rw [if_pos h, if_pos h]
    · rw [if_neg h, if_neg h]
      by_cases h2 : j < k
      · rw [if_pos h2, if_pos (by omega)]
      · rw [if_neg h2, if_neg (by omega)]
theorem IRow.below {kd : IntKind} {lo hi : Int} {w w' : World} {x : Option Addr} {n c : Nat} {f : Nat → Int} (h : IRow kd lo hi w x n c f) (b : Below w.heap.size w w') : IRow kd lo hi w' x n c f :=
  ⟨h.len, fun k hk => by
    obtain ⟨a, h1, h2, _⟩ := h.cell k hk
    obtain ⟨a', h1', h3⟩ := h.at b k hk
    rw [h1] at h1'
    cases h1'
    exact ⟨a, h1, Nat.lt_of_lt_of_le h2 b.size, h3⟩, h.bd⟩
theorem Row.gb {k : IntKind} {w w' : World} {g g' n : Nat} {f : Nat → Int} (h : Row k w g n f) (G : w.grownBy w' (some g')) (hl : g < w.heap.size) (hne : g ≠ g') : Row k w' g n f := h.same (G.block g hl (by simpa using hne))

set_option maxRecDepth 100000 in
set_option maxHeartbeats 20000000 in
theorem keeps_walk (x : Option Addr) (n c : Nat) (f : Nat → Int) (gap : Int) (w : World) (hX : IRow .u8 0 255 w x n c f) (hc : c ≤ 140737488351232) (_g0 : 0 ≤ gap) (_g1 : gap ≤ 255) (hK : KT w) :
    Calls Tryd.prog 5 #[.slice x n c, .int .u8 gap] w fun e w' => e = .returned (.bool true) ∧ Below w.heap.size w w' := by
  have hn : n ≤ 140737488351232 := Nat.le_trans hX.len hc
  have HK : Hid (KT w) := hK
  have HX : Hid (IRow .u8 0 255 w x n c f) := hX
  have z0 : 0 < w.heap.size := hK.lt
  clear hK hX hc
  have HMK : Hid (∀ w : World, (Instr.makeSlice 40 (.int .i64 ((n : Int) + 80)) (.int .i64 ((n : Int) + 80))).run Tryd.prog w = .ok (.slice (some ⟨w.heap.size, 0, none⟩) (n + 80) (n + 80)) (w.alloc (.cells (madeCells (Value.int .u8 0).cells (n + 80)) 5))) := fun w => by
    obtain ⟨i0, hi, hz0, hz1, hz2⟩ := info_parts Tryd.info5
    rw [run_make (P := Tryd.prog) w 40 5 i0 (.int .u8 0) Tryd.underlying40 hi hz0 .i64 .i64 _ _ (by omega) (by omega) (by rw [hz2]; omega) (by omega), show (((n : Int) + 80) : Int).toNat = n + 80 by omega, hz1, Nat.mul_one]
  go_enter Tryd.func5, Tryd.ntmps5
  go_wp2_with fail
  refine (awake_any _ HK.out).mono ?_
  rintro e w1 ⟨rfl, B1⟩
  have K1 : Hid (KT w1) := HK.out.below B1
  have X1 : Hid (IRow .u8 0 255 w1 x n c f) := HX.out.below B1
  clear HK HX
  go_wp2_with fail
  rw [HMK.out]
  clear HMK
  have R2 : Row .u8 (w1.alloc (.cells (madeCells (Value.int .u8 0).cells (n + 80)) 5)) w1.heap.size (n + 80) (fun _ => 0) := Row.made rfl
  have b2 : Below w1.heap.size w1 (w1.alloc (.cells (madeCells (Value.int .u8 0).cells (n + 80)) 5)) := (Below.refl _ _).alloc (Nat.le_refl _) _
  have X2 : Hid (IRow .u8 0 255 (w1.alloc (.cells (madeCells (Value.int .u8 0).cells (n + 80)) 5)) x n c f) := X1.out.below b2
  generalize w1.alloc (.cells (madeCells (Value.int .u8 0).cells (n + 80)) 5) = w2 at *
  go_wp2_with fail
  obtain ⟨w3, hrun, V3, b3⟩ := copy_row w2 x n c (n + 80) w1.heap.size f _ 3 X2.out R2 (by omega)
  rw [hrun]
  clear hrun
  obtain ⟨Q, hQ⟩ : ∃ g, w1.heap.size = g := ⟨_, rfl⟩
  have BG : Hid (Below w1.heap.size w1 w3) := b2.trans (b3 _ (Nat.le_refl _))
  have HB1 : Hid (Below w.heap.size w w1) := B1
  have hwg : w.heap.size ≤ Q := hQ ▸ B1.size
  have HQ : Hid (w1.heap.size = Q) := hQ
  clear X2 R2 b2 b3 B1
  rw [hQ] at V3 ⊢
  clear hQ
  have V4 : Hid (Row .u8 w3 Q (n + 80) (gpF f n n gap)) := V3.congr (fun j _ => by unfold gpF; by_cases e : j < n; rw [if_pos e, if_pos e]; rw [if_neg e, if_neg e, if_neg e])
  clear V3
  go_wp2
  go_loopw [6] (fun xi wr => ∃ k : Nat, n ≤ k ∧ k ≤ n + 80 ∧ xi = .int .i64 k ∧ Hid (Row .u8 wr Q (n + 80) (gpF f n k gap)) ∧ Hid (Below w1.heap.size w1 wr)) (fun i _ => n + 80 - (intOf i).toNat)
  case atStart => exact ⟨n, Nat.le_refl _, by omega, rfl, V4, BG⟩
  case round =>
    obtain ⟨k, hk1, hk2, rfl, V, B⟩ := hrel
    clear V4 BG
    by_cases hlt : k < n + 80
    · have c1 := V.out.cell k hlt
      have f1 := V.out.free k hlt
      go_wp2
      go_roundw
      case rel =>
        exact ⟨k + 1, by omega, by omega, by go_num, (V.out.set k _ hlt).congr (fun j _ => gpF_set f n k gap hk1 j), B.out.setCell (Nat.le_of_eq HQ.out) _⟩
      case measure => simp [intOf]; omega
    · obtain rfl : k = n + 80 := by omega
      clear hk1 hk2
      go_wp2_with fail
      have hQw : Q < wr.heap.size := block_lt_of_cell (V.out.cell 0 (by omega))
      refine (new_wrote _).mono ?_
      rintro e w4 ⟨g, rfl, hg, hg2, S4', b4⟩
      have S4 : Hid (Wrote w4 g ByteArray.empty) := S4'
      have V5 : Hid (Row .u8 w4 Q (n + 80) (gpF f n (n + 80) gap)) := V.out.below b4 hQw
      have B5 : Hid (Below w1.heap.size w1 w4) := below_next B.out b4
      have K5 : Hid (KT w4) := K1.out.below B5.out
      have hQg : Q < g := by omega
      have zg : 0 < g := by omega
      have hQ5 : Q < w4.heap.size := by omega
      have HBS : Hid (BSl w4 g (some ⟨Q, 0, none⟩) n (strFn n f)) := by
        refine ⟨strFn_size _ _, ?_⟩
        by_cases e0 : n = 0
        · exact .inl e0
        · refine .inr ⟨Q, 0, rfl, by omega, hQ5, fun j hj => ?_⟩
          rw [Nat.zero_add, V5.out.cell j (by omega), bt_strFn n f j hj (X1.out.bd j hj).1 (by have := (X1.out.bd j hj).2; omega)]
          unfold gpF
          rw [if_pos hj]
      clear S4' b4 V B hg hg2 hQw hlt
      go_wp2_with fail
      refine (write_wrote g ByteArray.empty (strFn n f) _ _ _ _ S4.out HBS.out (by omega) (by rw [size_empty, strFn_size]; omega) K5.out zg).mono ?_
      rintro e w6 ⟨rfl, S6', G6⟩
      rw [empty_app] at S6'
      have S6 : Hid (Wrote w6 g (strFn n f)) := S6'
      have V6 : Hid (Row .u8 w6 Q (n + 80) (gpF f n (n + 80) gap)) := V5.out.gb G6 hQ5 (by omega)
      have B6 : Hid (Below w1.heap.size w1 w6) := below_gb B5.out G6 (by rw [HQ.out]; omega)
      have K6 : Hid (KT w6) := K5.out.grown G6 zg
      have hQ6 : Q < w6.heap.size := Nat.lt_of_lt_of_le hQ5 G6.size
      clear S4 V5 B5 K5 G6 S6' HBS hQ5
      have hps : Hid ((strFn n f).size ≤ 140737488351232) := by unfold Hid; rw [strFn_size]; exact hn
      go_wp2_with fail
      refine (sum_wrote g (strFn n f) _ S6.out (by have := hps.out; omega) K6.out zg).mono ?_
      rintro e w7 ⟨rfl, b7⟩
      have S7 : Hid (Wrote w7 g (strFn n f)) := S6.out.below b7 S6.out.lt
      have V7 : Hid (Row .u8 w7 Q (n + 80) (gpF f n (n + 80) gap)) := V6.out.below b7 hQ6
      have B7 : Hid (Below w1.heap.size w1 w7) := below_next B6.out b7
      have hQ7 : Q < w7.heap.size := Nat.lt_of_lt_of_le hQ6 b7.size
      clear S6 V6 B6 K6 b7 hQ6
      obtain ⟨DD, hDD⟩ : ∃ DD : Nat → Int, dgs (strFn n f) = cs .u8 32 DD := ⟨_, rfl⟩
      have HD : Hid (dgs (strFn n f) = cs .u8 32 DD) := hDD
      have hq : Hid (∀ w, (Op.equalIn 10000 36 (.agg (cs .u8 32 DD)) (.agg (cs .u8 32 DD))).run Tryd.prog w = .ok true w) := fun w => by rw [← hDD]; exact dgs_same _ w
      rw [hDD]
      clear hDD
      go_wp2_with (refine wpList_store_any (f := DD) (by rfl) 36 (.tmp 8) (.tmp 41) (by rfl) w7.heap.size (by rfl) (by rfl) (Row.rep (n := 32) (z := 0) rfl) Tryd.sz36 (by rfl) ?_; intro W8 R8 U8; have b8 := awake_b (Below.refl _ _) U8; have S8 : Hid (Wrote W8 g (strFn n f)) := S7.out.below b8 S7.out.lt; have V8 : Hid (Row .u8 W8 Q (n + 80) (gpF f n (n + 80) gap)) := V7.out.below b8 hQ7; have B8 : Hid (Below w1.heap.size w1 W8) := below_next B7.out b8; have HR8 : Hid (Row .u8 W8 w7.heap.size 32 DD) := R8; have hgF : Hid (g < w7.heap.size) := S7.out.lt; clear S7 V7 B7 b8 U8 R8; generalize w7.heap.size = F at *; clear w7)
      go_loopw [44] (fun xi wr => ∃ (k : Nat) (h : Nat → Int), k ≤ n + 80 ∧ xi = .int .i64 k ∧ Hid (Row .u8 wr Q (n + 80) h) ∧ Hid (∀ j, k ≤ j → h j = gpF f n (n + 80) gap j) ∧ Hid (Row .u8 wr F 32 DD) ∧ Hid (Wrote wr g (strFn n f)) ∧ Hid (Below w1.heap.size w1 wr)) (fun i _ => n + 80 - (intOf i).toNat)
      case atStart => exact ⟨0, _, Nat.zero_le _, rfl, V8, fun _ _ => rfl, HR8, S8, B8⟩
      case round =>
        obtain ⟨k, h, hk, rfl, V, E, RF, S, B⟩ := hrel
        clear S8 V8 B8 HR8
        by_cases hlt : k < n
        · obtain ⟨a, rfl, c0⟩ := X1.out.at B.out k hlt
          have c1 := V.out.cell k (by omega)
          have f1 := V.out.free k (by omega)
          rw [E.out k (Nat.le_refl _)] at c1
          have e1 : gpF f n (n + 80) gap k = f k := by unfold gpF; rw [if_pos hlt]
          rw [e1] at c1
          generalize f k = y at c0 c1
          have qn : (y != y) = false := by simp
          have qa : decide ((k : Int) < (n : Int)) = true := by simp; omega
          have qb : decide ((n : Int) ≤ (k : Int)) = false := by simp; omega
          have qc : decide (n ≤ k) = false := by simp; omega
          have qd : ¬ n ≤ k := by omega
          have hlt8 : k < n + 80 := by omega
          clear e1
          go_wp2_with fail
          go_quiet (fail)
          have V' : Hid (Row .u8 (wr.drewN nq) Q (n + 80) h) := V.out.same rfl
          have RF' : Hid (Row .u8 (wr.drewN nq) F 32 DD) := RF.out.same rfl
          have S' : Hid (Wrote (wr.drewN nq) g (strFn n f)) := S.out.same rfl
          have B' : Hid (Below w1.heap.size w1 (wr.drewN nq)) := bel_drewN B.out _
          have c1' : (wr.drewN nq).cell? ⟨Q, k, none⟩ = some (.int .u8 y) := c1
          have f1' : (wr.drewN nq).frozen? ⟨Q, k, none⟩ = false := f1
          have hFl : F < (wr.drewN nq).heap.size := block_lt_of_cell (RF'.out.cell 0 (by omega))
          clear c1 f1 V RF S B
          generalize wr.drewN nq = wq at *
          go_wp2
          go_roundw
          case rel =>
            exact ⟨k + 1, _, by omega, by go_num, V'.out.set k _ (by omega), fun j hj => by rw [if_neg (by omega)]; exact E.out j (by omega), RF'.out.gb (gb_set _ _ _ _) hFl (by have := hgF.out; omega), S'.out.kept (gb_set _ _ _ _) (by omega), B'.out.setCell (Nat.le_of_eq HQ.out) _⟩
          case measure => simp only [intOf]; omega
        · by_cases hlt8 : k < n + 80
          · have c1 := V.out.cell k (by omega)
            have f1 := V.out.free k (by omega)
            rw [E.out k (Nat.le_refl _)] at c1
            have e1 : gpF f n (n + 80) gap k = gap := by unfold gpF; rw [if_neg hlt, if_pos hlt8]
            rw [e1] at c1
            have qn : (gap != gap) = false := by simp
            have qa : decide ((k : Int) < (n : Int)) = false := by simp; omega
            have qb : decide ((n : Int) ≤ (k : Int)) = true := by simp; omega
            have qc : decide (n ≤ k) = true := by simp; omega
            have qd : n ≤ k := by omega
            clear e1
            go_wp2_with fail
            go_quiet (fail)
            have V' : Hid (Row .u8 (wr.drewN nq) Q (n + 80) h) := V.out.same rfl
            have RF' : Hid (Row .u8 (wr.drewN nq) F 32 DD) := RF.out.same rfl
            have S' : Hid (Wrote (wr.drewN nq) g (strFn n f)) := S.out.same rfl
            have B' : Hid (Below w1.heap.size w1 (wr.drewN nq)) := bel_drewN B.out _
            have c1' : (wr.drewN nq).cell? ⟨Q, k, none⟩ = some (.int .u8 gap) := c1
            have f1' : (wr.drewN nq).frozen? ⟨Q, k, none⟩ = false := f1
            have hFl : F < (wr.drewN nq).heap.size := block_lt_of_cell (RF'.out.cell 0 (by omega))
            clear c1 f1 V RF S B
            generalize wr.drewN nq = wq at *
            go_wp2
            go_roundw
            case rel =>
              exact ⟨k + 1, _, by omega, by go_num, V'.out.set k _ (by omega), fun j hj => by rw [if_neg (by omega)]; exact E.out j (by omega), RF'.out.gb (gb_set _ _ _ _) hFl (by have := hgF.out; omega), S'.out.kept (gb_set _ _ _ _) (by omega), B'.out.setCell (Nat.le_of_eq HQ.out) _⟩
            case measure => simp only [intOf]; omega
          · have KW : Hid (KT wr) := K1.out.below B.out
            have XW : Hid (IRow .u8 0 255 wr x n c f) := X1.out.below B.out
            have hFl : F < wr.heap.size := block_lt_of_cell (RF.out.cell 0 (by omega))
            have b0 : Below wr.heap.size wr wr := Below.refl _ _
            have hD : Below wr.heap.size wr wr.drew := b0.drew
            have hz := hps.out
            clear V E X1 K1
            go_wp2_with fail
            refine wp_region_held_drew (S := fun W => Below wr.heap.size wr W) (by kernel_rfl) hD (fun hH => ?_)
            refine wpAnyH_take (i := 0) rfl (by kernel_rfl) (by kernel_rfl) (by kernel_rfl) (fun _ _ _ h => h) (yieldsIf_arr (by rfl) 36 (.tmp 8) rfl F rfl (fun w' s => RF.out.below s hFl) Tryd.und36 Tryd.sz36) hH ?_
            try simp only [Act.put]
            refine wpAnyH_take (i := 1) (v := .slice x n c) rfl (by kernel_rfl) (by kernel_rfl) (by kernel_rfl) (fun _ _ _ h => h) (Or.inl ⟨by rfl, by intro w hS; go_simp⟩) hH ?_
            try simp only [Act.put]
            refine wpAnyH_take (i := 2) (v := .string (strFn n f)) rfl (by kernel_rfl) (by kernel_rfl) (by kernel_rfl) (fun _ _ _ h => h) (Or.inl ⟨by rfl, by intro w hS; have hcv := conv_str w x n c f (XW.out.below hS); go_simp⟩) hH ?_
            try simp only [Act.put]
            refine wpAnyH_ready (rs := [3]) (by kernel_rfl) (by decide) (AllReadyH.cons rfl (fun K hK => ?_) AllReadyH.nil)
            rw [if_pos (by rfl)]
            go_simp
            refine (of_b wr (strFn n f) _ hH (by omega) KW.out).mono ?_
            rintro e w9 ⟨rfl, b9⟩
            rw [HD.out]
            go_wp2_with fail
            refine hK.out _ _ b9 (fun hH2 => ?_)
            clear hK K
            try simp only [Act.put]
            refine wpAnyH_take (i := 4) (v := .bool true) rfl (by kernel_rfl) (by kernel_rfl) (by kernel_rfl) (fun _ _ _ h => h) (Or.inl ⟨by rfl, by intro w hS; have q := hq.out; go_simp⟩) hH2 ?_
            try simp only [Act.put]
            refine wpAnyH_take (i := 5) (v := .bool true) rfl (by kernel_rfl) (by kernel_rfl) (by kernel_rfl) (fun _ _ _ h => h) (Or.inl ⟨by rfl, by intro w hS; go_simp⟩) hH2 ?_
            try simp only [Act.put]
            refine wpAnyH_take (i := 6) (v := .pointer (some ⟨g, 0, none⟩)) rfl (by kernel_rfl) (by kernel_rfl) (by kernel_rfl) (fun _ _ _ h => h) (Or.inl ⟨by rfl, by intro w hS; go_simp⟩) hH2 ?_
            try simp only [Act.put]
            refine wpAnyH_take (i := 8) rfl (by kernel_rfl) (by kernel_rfl) (by kernel_rfl) (fun _ _ _ h => h) (yieldsIf_arr (by rfl) 36 (.tmp 8) rfl F rfl (fun w' s => RF.out.below s hFl) Tryd.und36 Tryd.sz36) hH2 ?_
            try simp only [Act.put]
            refine wpAnyH_ready (rs := [7]) (by kernel_rfl) (by decide) (AllReadyH.cons rfl (fun K hK => ?_) AllReadyH.nil)
            rw [if_pos (by rfl)]
            go_simp
            refine (sum_b wr g (strFn n f) _ hH2 S.out (by omega) KW.out zg).mono ?_
            rintro e w10 ⟨rfl, b10⟩
            rw [HD.out]
            go_wp2_with fail
            refine hK.out _ _ b10 (fun hH3 => ?_)
            clear hK K
            try simp only [Act.put]
            refine wpAnyH_take (i := 9) (v := .bool true) rfl (by kernel_rfl) (by kernel_rfl) (by kernel_rfl) (fun _ _ _ h => h) (Or.inl ⟨by rfl, by intro w hS; have q := hq.out; go_simp⟩) hH3 ?_
            try simp only [Act.put]
            refine wpAnyH_take (i := 10) (v := .bool true) rfl (by kernel_rfl) (by kernel_rfl) (by kernel_rfl) (fun _ _ _ h => h) (Or.inl ⟨by rfl, by intro w hS; go_simp⟩) hH3 ?_
            try simp only [Act.put]
            refine wpAnyH_ready (rs := [11]) (by kernel_rfl) (by decide) (AllReadyH.cons rfl (fun K hK => ?_) AllReadyH.nil)
            rw [if_pos (by rfl)]
            go_simp
            refine hK.out _ _ hH3 (fun hH4 => ?_)
            clear hK K
            try simp only [Act.put]
            refine wpAnyH_done (by kernel_rfl) ?_ _
            go_wp2
            go_ret
            exact ⟨rfl, HB1.out.trans ((below_next B.out b10).mono HB1.out.size)⟩
#print axioms keeps_walk
end Go.Proofs.YtholbaefmncphabDoor
