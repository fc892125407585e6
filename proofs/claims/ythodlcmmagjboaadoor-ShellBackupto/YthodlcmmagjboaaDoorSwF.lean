/- depotref25.Escape, walked (own text of the verifier). -/
import Derived.Test.YthodlcmmagjboaaDoorSwA
import Derived.Deep.RegionWith
import Derived.Deep.RegionLaw
namespace Go.Proofs.YthodlcmmagjboaaDoor
open Go.RowKit

/-- v is a slice of these bytes, which the call itself made (blocks from B on). -/
def Rw (w : World) (B : Nat) (v : Value) (t : List UInt8) : Prop := w.ownsRow B 5 1 v t.length (Lib.byteCells t)
theorem Rw.nil (w : World) (B : Nat) : Rw w B (.slice none 0 0) [] := World.ownsRow_nil _ _ _ _
theorem Rw.txt {w : World} {B : Nat} {v : Value} {out : List UInt8} (h : Rw w B v out) : (convert 33 9 v).run Tryd.prog w = .ok (.string (ba out)) w := by
  rcases h.2 with ⟨rfl, h0⟩ | ⟨k, cap, cur, rfl, hb, hg, hn, hm, hz, ht⟩
  · have e : out = [] := List.eq_nil_of_length_eq_zero h0
    rw [e]
    exact run_convert_bytes_nil w 33 5 Tryd.underlying33 Tryd.underlying5 0 0 9 Tryd.underlying9
  · have r := run_string_row (P := Tryd.prog) (w := w) (src := 33) (dst := 9) (c := cap) Tryd.underlying33 Tryd.underlying5 Tryd.underlying9 (f := bt (ba out)) (g := k) (n := out.length) ⟨fun j hj => by
      have := World.ownsRow.cells (g := k) h rfl j (.int .u8 ((out[j]'hj).toNat : Int)) (by simp [Lib.byteCells, hj])
      rw [bt_ba _ _ hj]
      have e : (⟨k, 0, none⟩ : Addr).add j = ⟨k, j, none⟩ := by simp [Addr.add]; exact fun h => h.symm
      rw [e] at this
      exact this, fun j hj => Lib.frozen_of_heap hg j⟩
    rw [r, ← ba_size, strFn_bt]
theorem Rw.below {w w' : World} {B : Nat} {v : Value} {t : List UInt8} (h : Rw w B v t) (m : Below w.heap.size w w') : Rw w' B v t :=
  row_same h (fun k hk => m.block k (World.ownsRow.lt h k hk).2)
theorem Rw.shape {w : World} {B : Nat} {v : Value} {t : List UInt8} (h : Rw w B v t) : ∃ p c, v = .slice p t.length c := slice_of_row h
/-- Bytes put to it. -/
theorem Rw.put {w : World} {B : Nat} {v : Value} {out : List UInt8} (h : Rw w B v out) (hB : B ≤ w.heap.size) (u : List UInt8) (hl : out.length + u.length ≤ 1073741824) :
    ∃ p c w', (Builtin.append_ #[33, 33] 33 #[v, .slice (some ⟨w.heap.size, 0, none⟩) u.length u.length]).run Tryd.prog (w.alloc (.cells (Lib.byteCells u).toArray 5)) = .ok (.slice p (out ++ u).length c) w' ∧ Rw w' B (.slice p (out ++ u).length c) (out ++ u) ∧ w.grownBy w' v.ownBlock := by
  obtain ⟨i0, hi, hz0, hz1, hz2⟩ := info_parts infoU8
  obtain ⟨v', w2, hr, hown', hgrow, -, -⟩ := run_append_own_at (P := Tryd.prog) (w.alloc (.cells (Lib.byteCells u).toArray 5)) B 33 33 5 i0 (.int .u8 0) 1 1 undTB hi hz0 hz1 hz2 rfl (by decide) v out.length (Lib.byteCells out) (World.ownsRow.alloc h _) ⟨w.heap.size, 0, none⟩ u.length u.length (Lib.byteCells u) (by simp [Lib.byteCells]) (fun j x hj => by
      have e : (⟨w.heap.size, 0, none⟩ : Addr).add j = ⟨w.heap.size, j, none⟩ := by simp [Addr.add]; exact fun h => h.symm
      rw [e, World.cell?_alloc_new]
      simpa using hj) (by intro x hx; simp [Lib.byteCells] at hx; obtain ⟨b, _, rfl⟩ := hx; rfl) (by unfold maxLen; omega) (by omega) (by rw [World.size_alloc]; omega)
  have HO : Rw w2 B v' (out ++ u) := by
    unfold Rw
    rw [← bytes_app, List.length_append]
    exact hown'
  obtain ⟨p, c, rfl⟩ := HO.shape
  exact ⟨p, c, w2, hr, HO, (World.grownBy_alloc w _ _).trans hgrow⟩
theorem step_append_run {ops : Array Oper} {o : Oper} {a : Act} {w : World} {K : Act → World → Prop} {Q : Exit → Act → World → Prop} {E : Prop}
    (hg : o.guard = none) (s x : Operand) (t : TypeId) (hop : o.op = Op.call { callee := Callee.builtin Builtin.append, args := #[s, x], argTypes := #[t, t] }) (vs vx : Value) (hs : a.eval s = vs) (hx : a.eval x = vx) (v' : Value) (w' : World)
    (hrun : (Builtin.append_ #[t, t] o.type #[vs, vx]).run Tryd.prog w = .ok v' w') (hK : K (a.put o.dst v') w') :
    if Region.wanted o (yielded ops a.tmps) = true then Oper.wp Tryd.prog o a w K Q else E := by
  have hw : Region.wanted o (yielded ops a.tmps) = true := by simp [Region.wanted, hg]
  rw [if_pos hw]
  unfold Oper.wp
  simp [execOp, hop, resolve, invoke, builtin, hs, hx, hrun, Result.andThen]
  exact hK

set_option maxHeartbeats 8000000 in
set_option maxRecDepth 100000 in
theorem resc_any (l : List UInt8) (w : World) (hl : l.length ≤ 16777216) :
    Calls Tryd.prog 8 #[.string (ba l)] w fun e w' => e = .returned (.string (ba (eT l))) ∧ Below w.heap.size w w' := by
  have hsz := ba_size l
  have hgt : ∀ (n : Nat) (h : n < (ba l).size), (((ba l)[n]'h).toNat : Int) = bt (ba l) n := get_bt (ba l)
  have hBT : Hid (∀ i, i < l.length → bt (ba l) i = ((l.getD i 0).toNat : Int)) := bt_get l
  by_cases h0 : l = []
  · subst h0
    have hne : (ba []).size = 0 := rfl
    go_enter Tryd.func8, Tryd.ntmps8
    go_wp2
    try rw [Exit.noGoto_ret]
    go_ret
    exact ⟨rfl, Below.refl _ _⟩
  · have hne : ((l.length : Int) == 0) = false := by rw [beq_eq_false_iff_ne]; intro e; apply h0; exact List.eq_nil_of_length_eq_zero (by omega)
    have HE : Hid (eT l = l.flatMap eb) := by unfold Hid eT; rw [if_neg h0]
    clear h0
    have HB0 : Hid (Rw w w.heap.size (.slice none 0 0) ((l.take 0).flatMap eb)) := Rw.nil _ _
    have HL0 : Hid (Below w.heap.size w w) := Below.refl _ _
    go_enter Tryd.func8, Tryd.ntmps8
    go_wp2_with fail
    go_loopg [3, 4, 5] l.length (fun gk vo iv u5 wr => ∃ (i : Nat) (p : Option Addr) (c : Nat) (O : List UInt8), gk + i = l.length ∧ iv = .int .i64 (i : Int) ∧ vo = .slice p O.length c ∧ Hid (O = (l.take i).flatMap eb) ∧ Hid (Rw wr w.heap.size (.slice p O.length c) O) ∧ Hid (Below w.heap.size w wr))
    case atStart => exact ⟨0, none, 0, [], rfl, rfl, rfl, rfl, HB0, HL0⟩
    case round =>
      obtain ⟨i, p, c, O, hgk, rfl, rfl, hO, hB, hL⟩ := hrel
      clear HB0 HL0
      by_cases hi : i < l.length
      · have x1 := hBT.out i hi
        have hst := flat_take l i hi
        have hfl := flat_le (l.take i)
        rw [List.length_take] at hfl
        have hx1 := ba_one l i hi
        have hln : O.length ≤ 50331648 := by rw [hO.out]; omega
        clear hfl
        have hxb : (l.getD i 0).toNat < 256 := (l.getD i 0).toNat_lt
        generalize l.getD i 0 = x at x1 hst hx1 hxb
        have HS : Hid ((l.take (i + 1)).flatMap eb = O ++ eb x) := by rw [hO.out]; exact hst
        clear hst hO
        have hi' : (i : Int) < (l.length : Int) := by omega
        by_cases hp : 32 < x.toNat ∧ x.toNat < 127 ∧ x.toNat ≠ 37
        · have HEB : Hid (eb x = [x]) := by unfold Hid eb; rw [if_pos hp]
          obtain ⟨p1, p2, p3⟩ := hp
          have q1 : 32 < (x.toNat : Int) := by omega
          have q2 : (x.toNat : Int) < 127 := by omega
          have q3 : ((x.toNat : Int) != 37) = true := by rw [bne_iff_ne]; omega
          have q5 : ((x.toNat : Int) == 37) = false := by rw [beq_eq_false_iff_ne]; omega
          have q4 : ¬ ((x.toNat : Int) = 37) := by omega
          obtain ⟨p5, c5, w5, hr5, T5, G5⟩ := hB.out.put hL.out.size [x] (by show O.length + 1 ≤ _; omega)
          have hr6 : (Builtin.append_ #[33, 33] 33 #[.slice p O.length c, .slice (some ⟨wr.heap.size, 0, none⟩) 1 1]).run Tryd.prog (wr.alloc (.cells #[.int .u8 (x.toNat : Int)] 5)) = .ok (.slice p5 (O ++ [x]).length c5) w5 := hr5
          have HB5 : Hid (Rw w5 w.heap.size (.slice p5 (O ++ [x]).length c5) (O ++ [x])) := T5
          have HL5 : Hid (Below w.heap.size w w5) := hL.out.grown G5 hL.out.size (fun k hk => (World.ownsRow.lt hB.out k hk).1)
          clear hx1 T5 G5 hB hL hr5
          have HO5 : Hid (O ++ [x] = (l.take (i + 1)).flatMap eb) := by unfold Hid; rw [HS.out, HEB.out]
          generalize O ++ [x] = O5 at hr6 HB5 HO5
          clear HS HEB
          go_wp2_with (first | (refine wpList_app_is (by rfl) 33 33 (.tmp 31) (.tmp 35) (by rfl) _ _ _ _ (by rfl) (by rfl) hr6 ?_))
          go_roundg (gk - 1)
          case measure => omega
          case rel => exact ⟨i + 1, p5, c5, O5, by omega, by go_num, rfl, HO5, HB5, HL5⟩
        · have HEB : Hid (eb x = [37, dgB (x.toNat / 16), dgB (x.toNat % 16)]) := by unfold Hid eb; rw [if_neg hp]
          have HX := rhex_any (ba [x]) wr (by rw [ba_size]; show 1 ≤ _; omega)
          rw [hex_one] at HX
          have hxx : Hid ((ba l).extract i (i + 1) = ba [x]) := hx1
          have hc : (¬ 32 < x.toNat) ∨ (32 < x.toNat ∧ ¬ x.toNat < 127) ∨ (32 < x.toNat ∧ x.toNat < 127 ∧ x.toNat = 37) := by omega
          clear hp
          generalize dgB (x.toNat / 16) = d1 at HEB HX
          generalize dgB (x.toNat % 16) = d2 at HEB HX
          have hz2 : (ba [d1, d2]).size = 2 := ba_size _
          have hg2 : ∀ (n : Nat) (h : n < (ba [d1, d2]).size), (((ba [d1, d2])[n]'h).toNat : Int) = bt (ba [d1, d2]) n := get_bt _
          have hd1 : bt (ba [d1, d2]) 0 = (d1.toNat : Int) := bt_ba [d1, d2] 0 (by show 0 < 2; omega)
          have hd2 : bt (ba [d1, d2]) 1 = (d2.toNat : Int) := bt_ba [d1, d2] 1 (by show 1 < 2; omega)
          rcases hc with q1 | ⟨q1, q2⟩ | ⟨q1, q2, q3⟩
          · have q1' : ¬ 32 < (x.toNat : Int) := by omega
            go_wp2_with fail
            try rw [hxx.out]
            refine HX.mono ?_
            rintro e w2 ⟨rfl, L2⟩
            have HB2 : Hid (Rw w2 w.heap.size (.slice p O.length c) O) := hB.out.below L2
            have HL2 : Hid (Below w.heap.size w w2) := bel_trans hL.out L2
            clear L2 hB hL HX
            obtain ⟨p5, c5, w5, hr5, T5, G5⟩ := Rw.put (w := w2.drew) (B := w.heap.size) (v := .slice p O.length c) (out := O) HB2.out HL2.out.size [37, d1, d2] (by show O.length + 3 ≤ _; omega)
            have hr6 : (Builtin.append_ #[33, 33] 33 #[.slice p O.length c, .slice (some ⟨w2.heap.size, 0, none⟩) 3 3]).run Tryd.prog (w2.drew.alloc (.cells #[.int .u8 37, .int .u8 (d1.toNat : Int), .int .u8 (d2.toNat : Int)] 5)) = .ok (.slice p5 (O ++ [37, d1, d2]).length c5) w5 := hr5
            have HB5 : Hid (Rw w5 w.heap.size (.slice p5 (O ++ [37, d1, d2]).length c5) (O ++ [37, d1, d2])) := T5
            have HL5 : Hid (Below w.heap.size w w5) := (Below.drew HL2.out).grown G5 HL2.out.size (fun k hk => (World.ownsRow.lt HB2.out k hk).1)
            have HO5 : Hid (O ++ [37, d1, d2] = (l.take (i + 1)).flatMap eb) := by unfold Hid; rw [HS.out, HEB.out]
            generalize O ++ [37, d1, d2] = O5 at hr6 HB5 HO5
            clear HS HEB hr5 T5 G5 HB2 HL2
            go_wp2_with fail
            go_region_law (refine step_append_run rfl (.tmp 43) (.tmp 48) 33 rfl (.slice p O.length c) (.slice (some ⟨w2.heap.size, 0, none⟩) 3 3) rfl rfl (.slice p5 O5.length c5) w5 hr6 ?_)
            all_goals (
              go_wp2
              go_roundg (gk - 1)
              case measure => omega
              case rel => exact ⟨i + 1, p5, c5, O5, by omega, by go_num, rfl, HO5, HB5, HL5⟩)
          · have q1' : 32 < (x.toNat : Int) := by omega
            have q2' : ¬ (x.toNat : Int) < 127 := by omega
            go_wp2_with fail
            try rw [hxx.out]
            refine HX.mono ?_
            rintro e w2 ⟨rfl, L2⟩
            have HB2 : Hid (Rw w2 w.heap.size (.slice p O.length c) O) := hB.out.below L2
            have HL2 : Hid (Below w.heap.size w w2) := bel_trans hL.out L2
            clear L2 hB hL HX
            obtain ⟨p5, c5, w5, hr5, T5, G5⟩ := Rw.put (w := w2.drew) (B := w.heap.size) (v := .slice p O.length c) (out := O) HB2.out HL2.out.size [37, d1, d2] (by show O.length + 3 ≤ _; omega)
            have hr6 : (Builtin.append_ #[33, 33] 33 #[.slice p O.length c, .slice (some ⟨w2.heap.size, 0, none⟩) 3 3]).run Tryd.prog (w2.drew.alloc (.cells #[.int .u8 37, .int .u8 (d1.toNat : Int), .int .u8 (d2.toNat : Int)] 5)) = .ok (.slice p5 (O ++ [37, d1, d2]).length c5) w5 := hr5
            have HB5 : Hid (Rw w5 w.heap.size (.slice p5 (O ++ [37, d1, d2]).length c5) (O ++ [37, d1, d2])) := T5
            have HL5 : Hid (Below w.heap.size w w5) := (Below.drew HL2.out).grown G5 HL2.out.size (fun k hk => (World.ownsRow.lt HB2.out k hk).1)
            have HO5 : Hid (O ++ [37, d1, d2] = (l.take (i + 1)).flatMap eb) := by unfold Hid; rw [HS.out, HEB.out]
            generalize O ++ [37, d1, d2] = O5 at hr6 HB5 HO5
            clear HS HEB hr5 T5 G5 HB2 HL2
            go_wp2_with fail
            go_region_law (refine step_append_run rfl (.tmp 43) (.tmp 48) 33 rfl (.slice p O.length c) (.slice (some ⟨w2.heap.size, 0, none⟩) 3 3) rfl rfl (.slice p5 O5.length c5) w5 hr6 ?_)
            all_goals (
              go_wp2
              go_roundg (gk - 1)
              case measure => omega
              case rel => exact ⟨i + 1, p5, c5, O5, by omega, by go_num, rfl, HO5, HB5, HL5⟩)
          · have q1' : 32 < (x.toNat : Int) := by omega
            have q2' : (x.toNat : Int) < 127 := by omega
            have q3' : ((x.toNat : Int) == 37) = true := by rw [q3]; rfl
            have q5' : ((x.toNat : Int) != 37) = false := by rw [q3]; rfl
            have q4' : (x.toNat : Int) = 37 := by omega
            go_wp2_with fail
            try rw [hxx.out]
            refine HX.mono ?_
            rintro e w2 ⟨rfl, L2⟩
            have HB2 : Hid (Rw w2 w.heap.size (.slice p O.length c) O) := hB.out.below L2
            have HL2 : Hid (Below w.heap.size w w2) := bel_trans hL.out L2
            clear L2 hB hL HX
            obtain ⟨p5, c5, w5, hr5, T5, G5⟩ := Rw.put (w := w2.drew) (B := w.heap.size) (v := .slice p O.length c) (out := O) HB2.out HL2.out.size [37, d1, d2] (by show O.length + 3 ≤ _; omega)
            have hr6 : (Builtin.append_ #[33, 33] 33 #[.slice p O.length c, .slice (some ⟨w2.heap.size, 0, none⟩) 3 3]).run Tryd.prog (w2.drew.alloc (.cells #[.int .u8 37, .int .u8 (d1.toNat : Int), .int .u8 (d2.toNat : Int)] 5)) = .ok (.slice p5 (O ++ [37, d1, d2]).length c5) w5 := hr5
            have HB5 : Hid (Rw w5 w.heap.size (.slice p5 (O ++ [37, d1, d2]).length c5) (O ++ [37, d1, d2])) := T5
            have HL5 : Hid (Below w.heap.size w w5) := (Below.drew HL2.out).grown G5 HL2.out.size (fun k hk => (World.ownsRow.lt HB2.out k hk).1)
            have HO5 : Hid (O ++ [37, d1, d2] = (l.take (i + 1)).flatMap eb) := by unfold Hid; rw [HS.out, HEB.out]
            generalize O ++ [37, d1, d2] = O5 at hr6 HB5 HO5
            clear HS HEB hr5 T5 G5 HB2 HL2
            go_wp2_with fail
            go_region_law (refine step_append_run rfl (.tmp 43) (.tmp 48) 33 rfl (.slice p O.length c) (.slice (some ⟨w2.heap.size, 0, none⟩) 3 3) rfl rfl (.slice p5 O5.length c5) w5 hr6 ?_)
            all_goals (
              go_wp2
              go_roundg (gk - 1)
              case measure => omega
              case rel => exact ⟨i + 1, p5, c5, O5, by omega, by go_num, rfl, HO5, HB5, HL5⟩)
      · have hi' : ¬ (i : Int) < (l.length : Int) := by omega
        have HO5 : Hid (O = l.flatMap eb) := by unfold Hid; rw [hO.out, List.take_of_length_le (by omega)]
        have hcv := hB.out.txt
        go_wp2
        go_ret
        rw [HE.out, ← HO5.out]
        exact ⟨rfl, hL.out⟩

end Go.Proofs.YthodlcmmagjboaaDoor
