/- fedIn: what is read of a text fed in at any cuts. -/
import Derived.Test.YtjlbbnjcdickgaaWcA
import Derived.Deep.RegionWith
namespace Go.Proofs.Ytjlbbnjcdickgaa
open Go.RowKit

theorem take_add (tl : List UInt8) (a q : Nat) : tl.take (a + q) = tl.take a ++ (tl.drop a).take q := by rw [List.take_add]
/-- Numbers that came in. -/
structure CRow (w : World) (x : Option Addr) (n : Nat) (f : Nat → Int) : Prop where
  cell : ∀ k, k < n → ∃ b o : Nat, x = some ⟨b, o, none⟩ ∧ b < w.heap.size ∧ w.cell? ⟨b, o + k, none⟩ = some (.int .i64 (f k)) ∧ -9223372036854775808 ≤ f k ∧ f k ≤ 9223372036854775807

/-- The state between two pieces. -/
structure FI (w wr : World) (pl : List UInt8) (m : Nat) (A : List UInt8) (v v12 : Value) : Prop where
  rd : Rd wr (w.heap.size + 1) v (stP pl m A false)
  ok : (stP pl m A false).off = true ∨ (stP pl m A false).Inv
  own : OwnI wr (w.heap.size + 2) v12 (stP pl m A false).out
  bel : Below w.heap.size w wr
  res : wr.cell? ⟨w.heap.size, 0, none⟩ = some (.int .i64 0) ∧ wr.cell? ⟨w.heap.size, 1, none⟩ = some (.int .i64 0) ∧ wr.frozen? ⟨w.heap.size, 0, none⟩ = false ∧ wr.frozen? ⟨w.heap.size, 1, none⟩ = false
  sz : w.heap.size + 2 ≤ wr.heap.size
  vb : ∀ q, v.ownBlock = some q → w.heap.size + 2 ≤ q ∧ v12.ownBlock ≠ some q

/-- A piece more: fed in, its items behind the others. -/
theorem FI.more {w wr w5 w6 w7 : World} {pl : List UInt8} {m : Nat} {A u : List UInt8} {v v12 v6 v7 : Value} {L : List It} (h : FI w wr pl m A v v12) (b5 : Below wr.heap.size wr w5)
    (R6 : Rd w6 (w.heap.size + 1) v6 ((stP pl m A false).run u)) (I6 : ((stP pl m A false).run u).off = true ∨ ((stP pl m A false).run u).Inv) (M6 : Mv w5 w6 (w.heap.size + 1) v v6) (hO : ((stP pl m A false).run u).out = (stP pl m A false).out ++ L)
    (O7 : OwnI w7 (w.heap.size + 2) v7 ((stP pl m A false).out ++ L)) (G7 : w6.grownBy w7 v12.ownBlock) (N7 : ∀ k, v7.ownBlock = some k → v12.ownBlock = some k ∨ k = w6.heap.size) : FI w w7 pl m (A ++ u) v6 v7 := by
  rw [stP_on] at R6 I6 hO
  have h5 := b5.size
  have hs := h.sz
  have h6 := M6.size
  have h7 := G7.size
  have nb : ∀ k, v6.ownBlock = some k → w.heap.size + 2 ≤ k ∧ v12.ownBlock ≠ some k := fun k hk => by
    rcases M6.new k hk with e | e
    · exact h.vb k e
    · refine ⟨by omega, fun c => ?_⟩
      have := (h.own.lt k c).2
      omega
  have blk : ∀ k, k < wr.heap.size → k ≠ w.heap.size + 1 → v.ownBlock ≠ some k → v12.ownBlock ≠ some k → w7.heap[k]? = wr.heap[k]? := fun k hk h1 h2 h3 => by
    rw [G7.block k (by omega) (fun e => h3 e.symm), M6.block k (by omega) h1 h2, b5.block k hk]
  have v12lt : ∀ k, v12.ownBlock = some k → w.heap.size + 2 ≤ k := fun k hk => (h.own.lt k hk).1
  have low : ∀ k, k ≤ w.heap.size → w7.heap[k]? = wr.heap[k]? := fun k hk => blk k (by omega) (by omega) (fun e => by have := (h.vb k e).1; omega) (fun e => by have := v12lt k e; omega)
  have hc : ∀ j, w7.cell? ⟨w.heap.size, j, none⟩ = wr.cell? ⟨w.heap.size, j, none⟩ := fun j => World.cell?_of_block (w := wr) (w' := w7) (a := ⟨w.heap.size, j, none⟩) (low _ (Nat.le_refl _))
  have hf : ∀ j, w7.frozen? ⟨w.heap.size, j, none⟩ = wr.frozen? ⟨w.heap.size, j, none⟩ := fun j => World.frozen?_of_block (w := wr) (w' := w7) (a := ⟨w.heap.size, j, none⟩) (low _ (Nat.le_refl _))
  refine ⟨?_, I6, by rw [hO]; exact O7, ?_, ?_, by omega, fun k hk => ⟨(nb k hk).1, fun c => ?_⟩⟩
  · refine R6.same h7 (G7.block _ R6.lt (fun e => by have := v12lt _ e.symm; omega)) (fun k hk => G7.block k (R6.buf.lt k hk).2 (fun e => (nb k hk).2 e.symm))
  · exact h.bel.trans ⟨(G7.os.trans M6.os).trans b5.os, (G7.tape.trans M6.tape).trans b5.tape, (G7.output.trans M6.output).trans b5.output, by omega, fun k hk => low k (by omega)⟩
  · rw [hc, hc, hf, hf]; exact h.res
  · rcases N7 k c with e | e
    · exact (nb k hk).2 e
    · have := (R6.buf.lt k hk).2
      omega

set_option maxHeartbeats 8000000 in
set_option maxRecDepth 8000 in
theorem fedIn_any (tl pl : List UInt8) (most : Int) (x : Option Addr) (n c : Nat) (f : Nat → Int) (w : World) (hX : CRow w x n f) (ht : tl.length ≤ 1048576) (hpl : pl.length ≤ 1048576) (hm : most ≤ 9223372036854775807) (hn : n ≤ 1048576) :
    Calls Try.prog 25 #[.string (ba tl), .string (ba pl), .int .i64 most, .slice x n c] w fun e w' => ∃ r, e = .returned (.tuple #[r, .agg #[.int .i64 ((stP pl most.toNat tl true).code : Int), .int .i64 ((stP pl most.toNat tl true).fat : Int)], .int .i64 ((stP pl most.toNat tl true).tk : Int)]) ∧ OwnI w' (w.heap.size + 2) r (stP pl most.toNat tl false).out ∧ Below w.heap.size w w' := by
  have HX : Hid (CRow w x n f) := hX
  have NC : Hid (∀ w : World, Calls Try.prog 20 #[.string (ba pl), .int .i64 most] w fun e w' => e = .returned (.pointer (some ⟨w.heap.size, 0, none⟩)) ∧ Rd w' w.heap.size (.slice none 0 0) (stP pl most.toNat [] false) ∧ Below w.heap.size w w') := fun w => newReader_any pl most w (by omega) hm
  have HI0 : Hid ((stP pl most.toNat [] false).off = true ∨ (stP pl most.toNat [] false).Inv) := rsNew_ok pl most.toNat (by omega)
  have HO0 : Hid ((stP pl most.toNat [] false).out = []) := (rsNew_tk pl most.toNat).2
  have hts := ba_size tl
  clear hX hpl hm
  generalize most.toNat = m at *
  go_enter Try.func25, Try.ntmps25
  go_wp2_with fail
  refine (NC.out _).mono ?_
  rintro e w1 ⟨rfl, R1, b1⟩
  have hz0 : (w.alloc (.cells #[.int .i64 0, .int .i64 0] 31)).heap.size = w.heap.size + 1 := World.size_alloc _ _
  rw [hz0] at R1 b1 ⊢
  have HF0 : Hid (FI w w1 pl m [] (.slice none 0 0) (.slice none 0 0)) := ⟨R1, HI0.out, by rw [HO0.out]; exact OwnI.nil _ _, ((Below.refl w.heap.size w).alloc (Nat.le_refl _) _).trans (b1.mono (by omega)),
    ⟨(b1.cell (p := ⟨w.heap.size, 0, none⟩) (by show w.heap.size < _; omega)).trans ((World.cell?_alloc_new w _ _ 0).trans rfl), (b1.cell (p := ⟨w.heap.size, 1, none⟩) (by show w.heap.size < _; omega)).trans ((World.cell?_alloc_new w _ _ 1).trans rfl), (b1.frozen (p := ⟨w.heap.size, 0, none⟩) (by show w.heap.size < _; omega)).trans (World.frozen?_alloc_new w _ _ 0), (b1.frozen (p := ⟨w.heap.size, 1, none⟩) (by show w.heap.size < _; omega)).trans (World.frozen?_alloc_new w _ _ 1)⟩, by have := R1.lt; omega, fun q h => by cases h⟩
  clear R1 b1 hz0 NC HI0 HO0
  go_wp2
  go_loopw [12, 13, 15, 25] (fun v12 v13 _ ix wr => ∃ (k a : Nat) (v : Value), k ≤ n ∧ a ≤ tl.length ∧ ix = .int .i64 k ∧ v13 = .int .i64 (a : Int) ∧ Hid (FI w wr pl m (tl.take a) v v12)) (fun _ _ _ i _ => n - (intOf i).toNat)
  case atStart => exact ⟨0, 0, .slice none 0 0, Nat.zero_le _, Nat.zero_le _, rfl, rfl, HF0⟩
  case round =>
    clear HF0
    obtain ⟨k, a, v, hk, ha, rfl, rfl, HF⟩ := hrel
    by_cases hlt : k < n
    · obtain ⟨b, o, rfl, hb, c0, hf0, hf1⟩ := HX.out.cell k hlt
      have d0 : wr.cell? ⟨b, o + k, none⟩ = _ := (HF.out.bel.cell (p := ⟨b, o + k, none⟩) hb).trans c0
      generalize f k = fk at *
      clear c0
      by_cases h1 : fk < 0
      · obtain ⟨q, hq⟩ : ∃ q : Nat, tl.length = a + q := ⟨tl.length - a, by omega⟩
        have hqi : (tl.length : Int) - (a : Int) = (q : Int) := by omega
        clear hf0 hf1
        have HW : Hid (wr.heap.size = wr.heap.size) := rfl
        obtain ⟨cc, w5, hcv0, hps, b5⟩ := PSl.conv wr ((tl.drop a).take q) (w.heap.size + 1) v HF.out.rd.lt (fun k h => (HF.out.rd.buf.lt k h).2)
        have hcv : (convert 9 49 (.string ((ba tl).extract a (a + q)))).run Try.prog wr = .ok (.slice (some ⟨wr.heap.size, 0, none⟩) ((tl.drop a).take q).length cc) w5 := by
          rw [ext_ba, show (a + q) - a = q by omega]
          exact hcv0
        have HP5 : Hid (PSl w5 (w.heap.size + 1) v (some ⟨wr.heap.size, 0, none⟩) ((tl.drop a).take q)) := hps
        have hq1 : Hid (((tl.drop a).take q).length = q) := by unfold Hid; rw [List.length_take, List.length_drop]; omega
        have HB5 : Hid (Below wr.heap.size wr w5) := b5
        have hEx : Hid (tl.take (a + q) = tl.take a ++ (tl.drop a).take q) := take_add tl a q
        have HS : Hid ((stP pl m (tl.take a) false).tk ≤ a ∧ (stP pl m (tl.take a) false).out.length ≤ a ∧ (stP pl m (tl.take a ++ (tl.drop a).take q) false).out.length ≤ a + q) := ⟨by have := stP_tk pl m (tl.take a) false; rw [List.length_take] at this; omega, by have := stP_outs pl m (tl.take a) false; rw [List.length_take] at this; omega, by have := stP_outs pl m (tl.take a ++ (tl.drop a).take q) false; rw [List.length_append, List.length_take, hq1.out] at this; omega⟩
        clear hcv0 hps b5
        generalize (tl.drop a).take q = U at *
        go_wp2_with fail
        refine (feed_any (w.heap.size + 1) v (stP pl m (tl.take a) false) (some ⟨wr.heap.size, 0, none⟩) cc U w5 (HF.out.rd.below HB5.out) HF.out.ok HP5.out (by have := HS.out; have := hq1.out; omega)).mono ?_
        rintro e w6 ⟨v6, r, Lx, rfl, R6, I6, M6, O6, hOx, -⟩
        have OV : OwnI w6 (w.heap.size + 2) u12 (stP pl m (tl.take a) false).out := (HF.out.own.same (fun k hk => HB5.out.block k (HF.out.own.lt k hk).2)).same (fun k hk => M6.block k (by have := (HF.out.own.lt k hk).2; have := HB5.out.size; omega) (by have := (HF.out.own.lt k hk).1; omega) (fun e => (HF.out.vb k e).2 hk))
        have hlx : (stP pl m (tl.take a) false).out.length + Lx.length ≤ 1073741824 := by
          have h := HS.out.2.2
          rw [← stP_on, hOx, List.length_append] at h
          omega
        obtain ⟨v7, w7, hap, O7, G7, N7⟩ := append_items w6 28 (w.heap.size + 2) w5.heap.size u12 r _ Lx OV O6 (by have := HF.out.sz; have := HB5.out.size; have := M6.size; omega) hlx
        have HF7 : Hid (FI w w7 pl m (tl.take (a + q)) v6 v7) := by unfold Hid; rw [hEx.out]; exact HF.out.more HB5.out R6 I6 M6 hOx O7 G7 N7
        have HAP : Hid _ := hap
        clear OV hap O7 G7 N7 hlx R6 I6 M6 O6 hOx HF HB5 HP5 HS hcv HW
        go_wp2_with (at_builtin; refine wpList_append_li rfl _ _ rfl u12 r v7 w7 rfl rfl HAP.out ?_)
        clear HAP
        go_wp2
        go_roundw
        case rel => exact ⟨k + 1, a + q, v6, by omega, by omega, by go_num, by go_num, HF7⟩
        case measure => simp [intOf]; omega
      · by_cases h2 : (tl.length : Int) - (a : Int) < fk
        · obtain ⟨q, hq⟩ : ∃ q : Nat, tl.length = a + q := ⟨tl.length - a, by omega⟩
          have hqi : (tl.length : Int) - (a : Int) = (q : Int) := by omega
          clear hf0 hf1
          have HW : Hid (wr.heap.size = wr.heap.size) := rfl
          obtain ⟨cc, w5, hcv0, hps, b5⟩ := PSl.conv wr ((tl.drop a).take q) (w.heap.size + 1) v HF.out.rd.lt (fun k h => (HF.out.rd.buf.lt k h).2)
          have hcv : (convert 9 49 (.string ((ba tl).extract a (a + q)))).run Try.prog wr = .ok (.slice (some ⟨wr.heap.size, 0, none⟩) ((tl.drop a).take q).length cc) w5 := by
            rw [ext_ba, show (a + q) - a = q by omega]
            exact hcv0
          have HP5 : Hid (PSl w5 (w.heap.size + 1) v (some ⟨wr.heap.size, 0, none⟩) ((tl.drop a).take q)) := hps
          have hq1 : Hid (((tl.drop a).take q).length = q) := by unfold Hid; rw [List.length_take, List.length_drop]; omega
          have HB5 : Hid (Below wr.heap.size wr w5) := b5
          have hEx : Hid (tl.take (a + q) = tl.take a ++ (tl.drop a).take q) := take_add tl a q
          have HS : Hid ((stP pl m (tl.take a) false).tk ≤ a ∧ (stP pl m (tl.take a) false).out.length ≤ a ∧ (stP pl m (tl.take a ++ (tl.drop a).take q) false).out.length ≤ a + q) := ⟨by have := stP_tk pl m (tl.take a) false; rw [List.length_take] at this; omega, by have := stP_outs pl m (tl.take a) false; rw [List.length_take] at this; omega, by have := stP_outs pl m (tl.take a ++ (tl.drop a).take q) false; rw [List.length_append, List.length_take, hq1.out] at this; omega⟩
          clear hcv0 hps b5
          generalize (tl.drop a).take q = U at *
          go_wp2_with fail
          refine (feed_any (w.heap.size + 1) v (stP pl m (tl.take a) false) (some ⟨wr.heap.size, 0, none⟩) cc U w5 (HF.out.rd.below HB5.out) HF.out.ok HP5.out (by have := HS.out; have := hq1.out; omega)).mono ?_
          rintro e w6 ⟨v6, r, Lx, rfl, R6, I6, M6, O6, hOx, -⟩
          have OV : OwnI w6 (w.heap.size + 2) u12 (stP pl m (tl.take a) false).out := (HF.out.own.same (fun k hk => HB5.out.block k (HF.out.own.lt k hk).2)).same (fun k hk => M6.block k (by have := (HF.out.own.lt k hk).2; have := HB5.out.size; omega) (by have := (HF.out.own.lt k hk).1; omega) (fun e => (HF.out.vb k e).2 hk))
          have hlx : (stP pl m (tl.take a) false).out.length + Lx.length ≤ 1073741824 := by
            have h := HS.out.2.2
            rw [← stP_on, hOx, List.length_append] at h
            omega
          obtain ⟨v7, w7, hap, O7, G7, N7⟩ := append_items w6 28 (w.heap.size + 2) w5.heap.size u12 r _ Lx OV O6 (by have := HF.out.sz; have := HB5.out.size; have := M6.size; omega) hlx
          have HF7 : Hid (FI w w7 pl m (tl.take (a + q)) v6 v7) := by unfold Hid; rw [hEx.out]; exact HF.out.more HB5.out R6 I6 M6 hOx O7 G7 N7
          have HAP : Hid _ := hap
          clear OV hap O7 G7 N7 hlx R6 I6 M6 O6 hOx HF HB5 HP5 HS hcv HW
          go_wp2_with (at_builtin; refine wpList_append_li rfl _ _ rfl u12 r v7 w7 rfl rfl HAP.out ?_)
          clear HAP
          go_wp2
          go_roundw
          case rel => exact ⟨k + 1, a + q, v6, by omega, by omega, by go_num, by go_num, HF7⟩
          case measure => simp [intOf]; omega
        · obtain ⟨q, rfl⟩ : ∃ q : Nat, fk = (q : Int) := ⟨fk.toNat, by omega⟩
          have hq : a + q ≤ tl.length := by omega
          clear hf0 hf1
          have HW : Hid (wr.heap.size = wr.heap.size) := rfl
          obtain ⟨cc, w5, hcv0, hps, b5⟩ := PSl.conv wr ((tl.drop a).take q) (w.heap.size + 1) v HF.out.rd.lt (fun k h => (HF.out.rd.buf.lt k h).2)
          have hcv : (convert 9 49 (.string ((ba tl).extract a (a + q)))).run Try.prog wr = .ok (.slice (some ⟨wr.heap.size, 0, none⟩) ((tl.drop a).take q).length cc) w5 := by
            rw [ext_ba, show (a + q) - a = q by omega]
            exact hcv0
          have HP5 : Hid (PSl w5 (w.heap.size + 1) v (some ⟨wr.heap.size, 0, none⟩) ((tl.drop a).take q)) := hps
          have hq1 : Hid (((tl.drop a).take q).length = q) := by unfold Hid; rw [List.length_take, List.length_drop]; omega
          have HB5 : Hid (Below wr.heap.size wr w5) := b5
          have hEx : Hid (tl.take (a + q) = tl.take a ++ (tl.drop a).take q) := take_add tl a q
          have HS : Hid ((stP pl m (tl.take a) false).tk ≤ a ∧ (stP pl m (tl.take a) false).out.length ≤ a ∧ (stP pl m (tl.take a ++ (tl.drop a).take q) false).out.length ≤ a + q) := ⟨by have := stP_tk pl m (tl.take a) false; rw [List.length_take] at this; omega, by have := stP_outs pl m (tl.take a) false; rw [List.length_take] at this; omega, by have := stP_outs pl m (tl.take a ++ (tl.drop a).take q) false; rw [List.length_append, List.length_take, hq1.out] at this; omega⟩
          clear hcv0 hps b5
          generalize (tl.drop a).take q = U at *
          go_wp2_with fail
          refine (feed_any (w.heap.size + 1) v (stP pl m (tl.take a) false) (some ⟨wr.heap.size, 0, none⟩) cc U w5 (HF.out.rd.below HB5.out) HF.out.ok HP5.out (by have := HS.out; have := hq1.out; omega)).mono ?_
          rintro e w6 ⟨v6, r, Lx, rfl, R6, I6, M6, O6, hOx, -⟩
          have OV : OwnI w6 (w.heap.size + 2) u12 (stP pl m (tl.take a) false).out := (HF.out.own.same (fun k hk => HB5.out.block k (HF.out.own.lt k hk).2)).same (fun k hk => M6.block k (by have := (HF.out.own.lt k hk).2; have := HB5.out.size; omega) (by have := (HF.out.own.lt k hk).1; omega) (fun e => (HF.out.vb k e).2 hk))
          have hlx : (stP pl m (tl.take a) false).out.length + Lx.length ≤ 1073741824 := by
            have h := HS.out.2.2
            rw [← stP_on, hOx, List.length_append] at h
            omega
          obtain ⟨v7, w7, hap, O7, G7, N7⟩ := append_items w6 28 (w.heap.size + 2) w5.heap.size u12 r _ Lx OV O6 (by have := HF.out.sz; have := HB5.out.size; have := M6.size; omega) hlx
          have HF7 : Hid (FI w w7 pl m (tl.take (a + q)) v6 v7) := by unfold Hid; rw [hEx.out]; exact HF.out.more HB5.out R6 I6 M6 hOx O7 G7 N7
          have HAP : Hid _ := hap
          clear OV hap O7 G7 N7 hlx R6 I6 M6 O6 hOx HF HB5 HP5 HS hcv HW
          go_wp2_with (at_builtin; refine wpList_append_li rfl _ _ rfl u12 r v7 w7 rfl rfl HAP.out ?_)
          clear HAP
          go_wp2
          go_roundw
          case rel => exact ⟨k + 1, a + q, v6, by omega, by omega, by go_num, by go_num, HF7⟩
          case measure => simp [intOf]; omega
    · obtain rfl : k = n := by omega
      obtain ⟨q, hq⟩ : ∃ q : Nat, tl.length = a + q := ⟨tl.length - a, by omega⟩
      have HW : Hid (wr.heap.size = wr.heap.size) := rfl
      obtain ⟨cc, w5, hcv0, hps, b5⟩ := PSl.conv wr ((tl.drop a).take q) (w.heap.size + 1) v HF.out.rd.lt (fun k h => (HF.out.rd.buf.lt k h).2)
      have hcv : (convert 9 49 (.string ((ba tl).extract a (a + q)))).run Try.prog wr = .ok (.slice (some ⟨wr.heap.size, 0, none⟩) ((tl.drop a).take q).length cc) w5 := by
        rw [ext_ba, show (a + q) - a = q by omega]
        exact hcv0
      have HP5 : Hid (PSl w5 (w.heap.size + 1) v (some ⟨wr.heap.size, 0, none⟩) ((tl.drop a).take q)) := hps
      have hq1 : Hid (((tl.drop a).take q).length = q) := by unfold Hid; rw [List.length_take, List.length_drop]; omega
      have HB5 : Hid (Below wr.heap.size wr w5) := b5
      have hEx : Hid (tl.take (a + q) = tl.take a ++ (tl.drop a).take q) := take_add tl a q
      have HS : Hid ((stP pl m (tl.take a) false).tk ≤ a ∧ (stP pl m (tl.take a) false).out.length ≤ a ∧ (stP pl m (tl.take a ++ (tl.drop a).take q) false).out.length ≤ a + q) := ⟨by have := stP_tk pl m (tl.take a) false; rw [List.length_take] at this; omega, by have := stP_outs pl m (tl.take a) false; rw [List.length_take] at this; omega, by have := stP_outs pl m (tl.take a ++ (tl.drop a).take q) false; rw [List.length_append, List.length_take, hq1.out] at this; omega⟩
      clear hcv0 hps b5
      generalize (tl.drop a).take q = U at *
      go_wp2_with fail
      refine (feed_any (w.heap.size + 1) v (stP pl m (tl.take a) false) (some ⟨wr.heap.size, 0, none⟩) cc U w5 (HF.out.rd.below HB5.out) HF.out.ok HP5.out (by have := HS.out; have := hq1.out; omega)).mono ?_
      rintro e w6 ⟨v6, r, Lx, rfl, R6, I6, M6, O6, hOx, -⟩
      have OV : OwnI w6 (w.heap.size + 2) u12 (stP pl m (tl.take a) false).out := (HF.out.own.same (fun k hk => HB5.out.block k (HF.out.own.lt k hk).2)).same (fun k hk => M6.block k (by have := (HF.out.own.lt k hk).2; have := HB5.out.size; omega) (by have := (HF.out.own.lt k hk).1; omega) (fun e => (HF.out.vb k e).2 hk))
      have hlx : (stP pl m (tl.take a) false).out.length + Lx.length ≤ 1073741824 := by
        have h := HS.out.2.2
        rw [← stP_on, hOx, List.length_append] at h
        omega
      obtain ⟨v7, w7, hap, O7, G7, N7⟩ := append_items w6 28 (w.heap.size + 2) w5.heap.size u12 r _ Lx OV O6 (by have := HF.out.sz; have := HB5.out.size; have := M6.size; omega) hlx
      have HF7 : Hid (FI w w7 pl m (tl.take (a + q)) v6 v7) := by unfold Hid; rw [hEx.out]; exact HF.out.more HB5.out R6 I6 M6 hOx O7 G7 N7
      have HAP : Hid _ := hap
      clear OV hap O7 G7 N7 hlx R6 I6 M6 O6 hOx HF HB5 HP5 HS hcv HW
      go_wp2_with (at_builtin; refine wpList_append_li rfl _ _ rfl u12 r v7 w7 rfl rfl HAP.out ?_)
      clear HAP
      rw [← hq, List.take_length] at HF7
      go_wp2_with fail
      refine (close_any (w.heap.size + 1) v6 (stP pl m tl false) _ HF7.out.rd).mono ?_
      rintro e w8 ⟨v8, rfl, R8, M8⟩
      rw [stP_shut] at R8 ⊢
      have hW0 : w.heap.size < w7.heap.size := by have := HF7.out.sz; omega
      have nv0 : v6.ownBlock ≠ some w.heap.size := fun h => by have := (HF7.out.vb _ h).1; omega
      have HR8 : Hid (Rd w8 (w.heap.size + 1) v8 (stP pl m tl true)) := R8
      have HO8 : Hid (OwnI w8 (w.heap.size + 2) v7 (stP pl m tl false).out) := HF7.out.own.same (fun k hk => M8.block k (HF7.out.own.lt k hk).2 (by have := (HF7.out.own.lt k hk).1; omega) (fun e => (HF7.out.vb k e).2 hk))
      have HB8 : Hid (Below w.heap.size w w8) := HF7.out.bel.trans (M8.keeps w.heap.size (by omega) (by omega) (fun k hk => by have := (HF7.out.vb k hk).1; omega))
      have r0 : w8.cell? ⟨w.heap.size, 0, none⟩ = some (.int .i64 0) := (M8.cell _ _ hW0 (by omega) nv0).trans HF7.out.res.1
      have r1 : w8.cell? ⟨w.heap.size, 1, none⟩ = some (.int .i64 0) := (M8.cell _ _ hW0 (by omega) nv0).trans HF7.out.res.2.1
      have z0 : w8.frozen? ⟨w.heap.size, 0, none⟩ = false := (M8.free _ _ hW0 (by omega) nv0).trans HF7.out.res.2.2.1
      have z1 : w8.frozen? ⟨w.heap.size, 1, none⟩ = false := (M8.free _ _ hW0 (by omega) nv0).trans HF7.out.res.2.2.2
      have hz8 : w.heap.size < w8.heap.size := by have := M8.size; omega
      have o9 : Obj := .cells #[.int .i64 ((stP pl m tl true).code : Int), .int .i64 ((stP pl m tl true).fat : Int)] 31
      have f0 : (w8.alloc (.cells #[.int .i64 ((stP pl m tl true).code : Int), .int .i64 ((stP pl m tl true).fat : Int)] 31)).cell? ⟨w8.heap.size, 0, none⟩ = some (.int .i64 ((stP pl m tl true).code : Int)) := (World.cell?_alloc_new w8 _ _ 0).trans rfl
      have f1 : (w8.alloc (.cells #[.int .i64 ((stP pl m tl true).code : Int), .int .i64 ((stP pl m tl true).fat : Int)] 31)).cell? ⟨w8.heap.size, 1, none⟩ = some (.int .i64 ((stP pl m tl true).fat : Int)) := (World.cell?_alloc_new w8 _ _ 1).trans rfl
      have s0 : (w8.alloc (.cells #[.int .i64 ((stP pl m tl true).code : Int), .int .i64 ((stP pl m tl true).fat : Int)] 31)).cell? ⟨w.heap.size, 0, none⟩ = some (.int .i64 0) := (World.cell?_alloc_old _ _ _ (by show w.heap.size ≠ _; omega)).trans r0
      have s1 : (w8.alloc (.cells #[.int .i64 ((stP pl m tl true).code : Int), .int .i64 ((stP pl m tl true).fat : Int)] 31)).cell? ⟨w.heap.size, 1, none⟩ = some (.int .i64 0) := (World.cell?_alloc_old _ _ _ (by show w.heap.size ≠ _; omega)).trans r1
      have y0 : (w8.alloc (.cells #[.int .i64 ((stP pl m tl true).code : Int), .int .i64 ((stP pl m tl true).fat : Int)] 31)).frozen? ⟨w.heap.size, 0, none⟩ = false := (World.frozen?_of_block (w := w8) (a := ⟨w.heap.size, 0, none⟩) (Below.heap_alloc _ _ _ hz8)).trans z0
      have y1 : (w8.alloc (.cells #[.int .i64 ((stP pl m tl true).code : Int), .int .i64 ((stP pl m tl true).fat : Int)] 31)).frozen? ⟨w.heap.size, 1, none⟩ = false := (World.frozen?_of_block (w := w8) (a := ⟨w.heap.size, 1, none⟩) (Below.heap_alloc _ _ _ hz8)).trans z1
      have HR9 : Hid (Rd (w8.alloc (.cells #[.int .i64 ((stP pl m tl true).code : Int), .int .i64 ((stP pl m tl true).fat : Int)] 31)) (w.heap.size + 1) v8 (stP pl m tl true)) := HR8.out.alloc _
      have HO9 : Hid (OwnI (w8.alloc (.cells #[.int .i64 ((stP pl m tl true).code : Int), .int .i64 ((stP pl m tl true).fat : Int)] 31)) (w.heap.size + 2) v7 (stP pl m tl false).out) := HO8.out.alloc _
      have HB9 : Hid (Below w.heap.size w (w8.alloc (.cells #[.int .i64 ((stP pl m tl true).code : Int), .int .i64 ((stP pl m tl true).fat : Int)] 31))) := HB8.out.alloc HB8.out.size _
      have hne : w.heap.size ≠ w8.heap.size := by omega
      clear R8 M8 hW0 nv0 HR8 HO8 HB8 r0 r1 z0 z1 o9 HF7 hz8
      go_wp2
      generalize w8.alloc (.cells #[.int .i64 ((stP pl m tl true).code : Int), .int .i64 ((stP pl m tl true).fat : Int)] 31) = w9 at *
      generalize w8.heap.size = F8 at *
      go_region_with (go_at_call 24; first | refine (taken_any (w.heap.size + 1) v8 (stP pl m tl true) _ HR9.out).mono ?_ | refine (taken_any (w.heap.size + 1) v8 (stP pl m tl true) _ HR9.out.drew).mono ?_; rintro e w10 ⟨rfl, rfl⟩)
      all_goals go_wp2
      all_goals have q0 : ((w9.setCell ⟨w.heap.size, 0, none⟩ (.int .i64 ((stP pl m tl true).code : Int))).setCell ⟨w.heap.size, 1, none⟩ (.int .i64 ((stP pl m tl true).fat : Int))).drew.cell? ⟨w.heap.size, 0, none⟩ = some (.int .i64 ((stP pl m tl true).code : Int)) := (cell_other _ _ 0 1 _ (by decide)).trans (World.cell?_setCell_same _ _ _ s0)
      all_goals have q1 : ((w9.setCell ⟨w.heap.size, 0, none⟩ (.int .i64 ((stP pl m tl true).code : Int))).setCell ⟨w.heap.size, 1, none⟩ (.int .i64 ((stP pl m tl true).fat : Int))).drew.cell? ⟨w.heap.size, 1, none⟩ = some (.int .i64 ((stP pl m tl true).fat : Int)) := World.cell?_setCell_same _ _ _ ((cell_other _ _ 1 0 _ (by decide)).trans s1)
      all_goals have O10 : Hid (OwnI ((w9.setCell ⟨w.heap.size, 0, none⟩ (.int .i64 ((stP pl m tl true).code : Int))).setCell ⟨w.heap.size, 1, none⟩ (.int .i64 ((stP pl m tl true).fat : Int))).drew (w.heap.size + 2) v7 (stP pl m tl false).out) := HO9.out.same (fun k hk => (Below.heap_setCell _ _ _ k (by have := (HO9.out.lt k hk).1; show k ≠ w.heap.size; omega)).trans (Below.heap_setCell _ _ _ k (by have := (HO9.out.lt k hk).1; show k ≠ w.heap.size; omega)))
      all_goals have B10 : Hid (Below w.heap.size w ((w9.setCell ⟨w.heap.size, 0, none⟩ (.int .i64 ((stP pl m tl true).code : Int))).setCell ⟨w.heap.size, 1, none⟩ (.int .i64 ((stP pl m tl true).fat : Int))).drew) := ((HB9.out.setCell (Nat.le_refl _) _).setCell (Nat.le_refl _) _).drew
      all_goals generalize ((w9.setCell ⟨w.heap.size, 0, none⟩ (.int .i64 ((stP pl m tl true).code : Int))).setCell ⟨w.heap.size, 1, none⟩ (.int .i64 ((stP pl m tl true).fat : Int))).drew = w10 at q0 q1 O10 B10 ⊢
      all_goals exact bodyPost_ret (v := .tuple #[v7, .agg #[.int .i64 ((stP pl m tl true).code : Int), .int .i64 ((stP pl m tl true).fat : Int)], .int .i64 ((stP pl m tl true).tk : Int)]) (by simp [results, Try.results25, go_sem, q0, q1]) rfl ⟨v7, rfl, O10.out, B10.out⟩

end Go.Proofs.Ytjlbbnjcdickgaa
