/- The law ShaPlays, walked. -/
import Derived.Test.YtholbaefmncphabDoorPlA
import Derived.Deep.Cut
import Derived.Deep.CutRange
import Derived.Deep.DeepCutAuto
namespace Go.Proofs.YtholbaefmncphabDoor
open Go.RowKit
/-- The texts' bytes of the first k calls. -/
def preS (t : Nat → ByteArray) : Nat → Nat
  | 0 => 0
  | k + 1 => preS t k + (t k).size
theorem preS_mono (t : Nat → ByteArray) (k n : Nat) (h : k ≤ n) : preS t k ≤ preS t n := by
  induction n with
  | zero => rw [show k = 0 by omega]; exact Nat.le_refl _
  | succ n ih =>
    by_cases e : k = n + 1
    · rw [e]; exact Nat.le_refl _
    · have := ih (by omega)
      show preS t k ≤ preS t n + (t n).size
      omega
/-- The first k pointers, nil behind them. -/
def liveF (G : Nat → Nat) (k j : Nat) : Value := if j < k then .pointer (some ⟨G j, 0, none⟩) else .pointer none
theorem tmod3 (x : Int) : -2 ≤ x.tmod 3 ∧ x.tmod 3 ≤ 2 := by
  rcases Int.le_total 0 x with h | h
  · rw [Int.tmod_eq_emod_of_nonneg h]; omega
  · have e : x = -(-x) := by omega
    rw [e, Int.neg_tmod, Int.tmod_eq_emod_of_nonneg (by omega)]; omega
/-- Behind a call's own cells. -/
theorem Tri.op {w0 w : World} {L D m : Nat} {G : Nat → Nat} {T U : Nat → ByteArray} (h : Tri w0 w L D G T U m) (o : Obj) : Tri w0 (w.alloc o) L D G T U m := h.below ((Below.refl _ _).alloc (Nat.le_refl _) _)
theorem info_ptr : (Tryd.prog.info? 24).map (·.size) = some 1 := by kernel_rfl
theorem run_index3 (w : World) (p0 p1 p2 : Option Addr) : (Instr.index 45 (.agg #[.pointer p0, .pointer p1, .pointer p2]) (.int .i64 0)).run Tryd.prog w = .ok (.pointer p0) w ∧ (Instr.index 45 (.agg #[.pointer p0, .pointer p1, .pointer p2]) (.int .i64 1)).run Tryd.prog w = .ok (.pointer p1) w ∧ (Instr.index 45 (.agg #[.pointer p0, .pointer p1, .pointer p2]) (.int .i64 2)).run Tryd.prog w = .ok (.pointer p2) w := by
  obtain ⟨i, hi, h1⟩ := Option.map_eq_some_iff.1 info_ptr
  refine ⟨?_, ?_, ?_⟩ <;> simp [Instr.index, asIntOf, run_underlying Tryd.underlying45, sizeOf, typeInfo, hi, h1, part, isAgg, run_underlying Tryd.underlying24]
/-- A slice of calls that came in: whom, which, the text. -/
structure ORow (w : World) (x : Option Addr) (n c : Nat) (who kind : Nat → Int) (t : Nat → ByteArray) : Prop where
  len : n ≤ c
  cell : ∀ k, k < n → ∃ b o : Nat, x = some ⟨b, o, none⟩ ∧ b < w.heap.size ∧ w.cell? ⟨b, o + k * 3, none⟩ = some (.int .i64 (who k)) ∧ w.cell? ⟨b, o + k * 3 + 1, none⟩ = some (.int .i64 (kind k)) ∧ w.cell? ⟨b, o + k * 3 + 2, none⟩ = some (.string (t k))
  bd : ∀ k, k < n → -9223372036854775808 ≤ who k ∧ who k ≤ 9223372036854775807

set_option maxRecDepth 100000 in
set_option maxHeartbeats 8000000 in
theorem plays_walk (x : Option Addr) (n c : Nat) (who kind : Nat → Int) (t : Nat → ByteArray) (w : World) (hX : ORow w x n c who kind t) (hn : n ≤ 1048576) (hS : preS t n ≤ 1048576) (hK : KT w) :
    Calls Tryd.prog 6 #[.slice x n c] w fun e w' => e = .returned (.bool true) ∧ Below w.heap.size w w' := by
  have HK : Hid (KT w) := hK
  have HX : Hid (ORow w x n c who kind t) := hX
  have z0 : 0 < w.heap.size := hK.lt
  clear hK hX
  go_enter Tryd.func6, Tryd.ntmps6
  go_wp2_with fail
  have z1 : (w.alloc (.cells #[.pointer none, .pointer none, .pointer none] 45)).heap.size = w.heap.size + 1 := World.size_alloc _ _
  have VL : VRow ((w.alloc (.cells #[.pointer none, .pointer none, .pointer none] 45)).alloc (.cells #[.string ⟨#[]⟩, .string ⟨#[]⟩, .string ⟨#[]⟩] 46)) w.heap.size 3 (fun _ => .pointer none) :=
    VRow.alloc (VRow.arr (fun j hj => by rcases (show j = 0 ∨ j = 1 ∨ j = 2 by omega) with rfl | rfl | rfl <;> rfl)) (by omega) _
  have VD : VRow ((w.alloc (.cells #[.pointer none, .pointer none, .pointer none] 45)).alloc (.cells #[.string ⟨#[]⟩, .string ⟨#[]⟩, .string ⟨#[]⟩] 46)) (w.heap.size + 1) 3 (fun _ => .string ByteArray.empty) := by
    rw [← z1]
    exact VRow.arr (fun j hj => by rcases (show j = 0 ∨ j = 1 ∨ j = 2 by omega) with rfl | rfl | rfl <;> rfl)
  have B0 : Below w.heap.size w ((w.alloc (.cells #[.pointer none, .pointer none, .pointer none] 45)).alloc (.cells #[.string ⟨#[]⟩, .string ⟨#[]⟩, .string ⟨#[]⟩] 46)) := ((Below.refl _ _).alloc (Nat.le_refl _) _).alloc (by omega) _
  generalize (w.alloc (.cells #[.pointer none, .pointer none, .pointer none] 45)).alloc (.cells #[.string ⟨#[]⟩, .string ⟨#[]⟩, .string ⟨#[]⟩] 46) = w1 at *
  clear z1
  obtain ⟨L, hL⟩ : ∃ L, w.heap.size = L := ⟨_, rfl⟩
  obtain ⟨D, hD⟩ : ∃ D, w.heap.size + 1 = D := ⟨_, rfl⟩
  have HL : Hid (w.heap.size = L ∧ D = L + 1) := ⟨hL, by omega⟩
  rw [hD] at VD ⊢
  rw [hL] at VL ⊢
  clear hL hD
  have hLD : L < D := by have := HL.out; omega
  go_loopw [13] (fun xi wr => ∃ (k : Nat) (G : Nat → Nat), k ≤ 3 ∧ xi = .int .i64 (k : Int) ∧ Hid (VRow wr L 3 (liveF G k)) ∧ Hid (VRow wr D 3 (fun _ => .string ByteArray.empty)) ∧ Hid (∀ j, j < k → Wrote wr (G j) ByteArray.empty ∧ D < G j) ∧ Hid (∀ i j, i < j → j < k → G i < G j) ∧ Hid (Below w.heap.size w wr)) (fun xi _ => 3 - (intOf xi).toNat)
  case atStart => exact ⟨0, fun _ => 0, by omega, rfl, VL.congr (fun j _ => by unfold liveF; rw [if_neg (by omega)]), VD, fun j hj => absurd hj (by omega), fun i j _ hj => absurd hj (by omega), B0⟩
  case round =>
    obtain ⟨k, G, hk, rfl, V, U, W, O, B⟩ := hrel
    clear VL VD B0
    by_cases hlt : k < 3
    · go_wp2_with fail
      refine (new_wrote _).mono ?_
      rintro e w3 ⟨g, rfl, hg1, hg2, S3, b3⟩
      have V3 : Hid (VRow w3 L 3 (liveF G k)) := V.out.below b3 (V.out.lt (by omega))
      have U3 : Hid (VRow w3 D 3 (fun _ => .string ByteArray.empty)) := U.out.below b3 (U.out.lt (by omega))
      have W3 : Hid (∀ j, j < k → Wrote w3 (G j) ByteArray.empty ∧ D < G j ∧ G j < g) := fun j hj => ⟨(W.out j hj).1.below b3 (W.out j hj).1.lt, (W.out j hj).2, Nat.lt_of_lt_of_le (W.out j hj).1.lt hg1⟩
      have B3 : Hid (Below w.heap.size w w3) := below_next B.out b3
      have hDg : D < g := Nat.lt_of_lt_of_le (U.out.lt (by omega)) hg1
      have H3 : Hid (Wrote w3 g ByteArray.empty) := S3
      have c1 := V3.out.cell k hlt
      unfold liveF at c1
      rw [if_neg (Nat.lt_irrefl _)] at c1
      have f1 := V3.out.free k hlt
      clear V U W B b3 S3 hg1 hg2
      go_wp2
      go_roundw
      case rel =>
        have gs := gb_set w3 L k (.pointer (some ⟨g, 0, none⟩))
        refine ⟨k + 1, upd G k g, by omega, by go_num, (V3.out.set k _ hlt).congr (fun j hj => ?_), U3.out.same (gs.block D (U3.out.lt (by omega)) (by simp; omega)), fun j hj => ?_, fun i j hij hj => ?_, B3.out.setCell (Nat.le_of_eq HL.out.1) _⟩
        · unfold liveF
          by_cases e : j = k
          · subst e; rw [if_pos rfl, if_pos (by omega), upd_same]
          · rw [if_neg e, upd_other _ _ _ _ e]
            by_cases h : j < k
            · rw [if_pos h, if_pos (by omega)]
            · rw [if_neg h, if_neg (by omega)]
        · by_cases e : j = k
          · subst e; rw [upd_same]; exact ⟨H3.out.kept gs (by omega), hDg⟩
          · rw [upd_other _ _ _ _ e]
            have := W3.out j (by omega)
            exact ⟨this.1.kept gs (by omega), this.2.1⟩
        · by_cases e : j = k
          · subst e; rw [upd_same, upd_other _ _ _ _ (by omega)]; exact (W3.out i hij).2.2
          · rw [upd_other _ _ _ _ e, upd_other _ _ _ _ (by omega)]; exact O.out i j hij (by omega)
      case measure => simp only [intOf]; omega
    · obtain rfl : k = 3 := by omega
      have TR : Hid (Tri w wr L D G (fun _ => ByteArray.empty) (fun _ => ByteArray.empty) 0) := by
        refine ⟨V.out.congr (fun j hj => by unfold liveF; rw [if_pos hj]), U.out, fun j hj => (W.out j hj).1, fun i j hi hj hij => ?_, fun j hj => ?_, fun _ _ => Nat.le_refl _, fun _ _ => Nat.le_refl _, ?_, ?_, B.out⟩
        · by_cases h : i < j
          · have := O.out i j h hj; omega
          · have := O.out j i (by omega) hi; omega
        · have := (W.out j hj).2; omega
        · have := HL.out; omega
        · exact HK.out.below B.out
      clear V U W O B HK hk hlt
      go_wp2_with fail
      go_loopw [26] (fun xi wr' => ∃ (k : Nat) (G : Nat → Nat) (T : Nat → ByteArray), k ≤ n ∧ xi = .int .i64 (k : Int) ∧ Hid (Tri w wr' L D G T T (preS t k))) (fun xi _ => n - (intOf xi).toNat)
      case atStart => exact ⟨0, G, _, Nat.zero_le _, rfl, TR⟩
      case round =>
        clear TR G
        obtain ⟨k, G, T, hk, rfl, TR⟩ := hrel
        by_cases hlt : k < n
        · obtain ⟨b, o, rfl, hab, hc0, hc1, hc2⟩ := HX.out.cell k hlt
          have hw := HX.out.bd k hlt
          have d0 : wr.cell? ⟨b, o + k * 3, none⟩ = some (.int .i64 (who k)) := (TR.out.bel.cell (p := ⟨b, o + k * 3, none⟩) hab).trans hc0
          have d1 : wr.cell? ⟨b, o + k * 3 + 1, none⟩ = some (.int .i64 (kind k)) := (TR.out.bel.cell (p := ⟨b, o + k * 3 + 1, none⟩) hab).trans hc1
          have d2 : wr.cell? ⟨b, o + k * 3 + 2, none⟩ = some (.string (t k)) := (TR.out.bel.cell (p := ⟨b, o + k * 3 + 2, none⟩) hab).trans hc2
          have hmn : preS t (k + 1) ≤ 1048576 := Nat.le_trans (preS_mono t (k + 1) n hlt) hS
          clear hc0 hc1 hc2
          obtain ⟨v, hv⟩ : ∃ v, (who k).tmod 3 = v := ⟨_, rfl⟩
          have hvb := tmod3 (who k)
          rw [hv] at hvb
          obtain ⟨kd, hkd⟩ : ∃ kd, kind k = kd := ⟨_, rfl⟩
          obtain ⟨wh, hwh⟩ : ∃ x, who k = x := ⟨_, rfl⟩
          obtain ⟨tx, htx⟩ : ∃ x, t k = x := ⟨_, rfl⟩
          have HTX : Hid (preS t (k + 1) = preS t k + tx.size) := by unfold Hid; rw [← htx]; rfl
          rw [hkd] at d1
          rw [htx] at d2
          rw [hwh] at d0 hv hw
          clear hkd hwh htx
          by_cases hneg : v < 0
          · obtain ⟨a, ha, rfl⟩ : ∃ a : Nat, a < 3 ∧ v = -(a : Int) := ⟨(-v).toNat, by omega, by omega⟩
            have TW : Hid (Tri w (wr.alloc (.cells #[.int .i64 wh, .int .i64 kd, .string tx] 48)) L D G T T (preS t (k + 1))) := (TR.out.op _).mono (by have := HTX.out; omega)
            have cL : (wr.alloc (.cells #[.int .i64 wh, .int .i64 kd, .string tx] 48)).cell? ⟨L, a, none⟩ = some (.pointer (some ⟨G a, 0, none⟩)) := TW.out.live.cell a ha
            have hTa : Hid ((T a).size + tx.size ≤ preS t (k + 1)) := by have := TR.out.sz a ha; have := HTX.out; unfold Hid; omega
            have c2 : (wr.alloc (.cells #[.int .i64 wh, .int .i64 kd, .string tx] 48)).cell? ⟨wr.heap.size, 2, none⟩ = some (.string tx) := by rw [World.cell?_alloc_new]; rfl
            have hTs : (T a).size ≤ 1048576 := by have := hTa.out; omega
            have hxs : tx.size ≤ 1048576 := by have := hTa.out; omega
            have hap : Hid ((T a ++ tx).size ≤ preS t (k + 1)) := by unfold Hid; rw [ByteArray.size_append]; exact hTa.out
            have hob : Hid (G a < wr.heap.size ∧ D < wr.heap.size) := ⟨(TR.out.st a ha).lt, TR.out.said.lt (by omega)⟩
            clear TR
            by_cases k0 : kd = 0
            · subst k0
              go_wp2_with fail
              clear d0 d1 d2 hw hv
              obtain ⟨cc, w3, hcv, hcc, hB3, b3⟩ := conv_bytes (wr.alloc (.cells #[.int .i64 wh, .int .i64 0, .string tx] 48)) tx (G a) (TW.out.st a ha).lt
              rw [hcv]
              have T3 : Hid (Tri w w3 L D G T T (preS t (k + 1))) := TW.out.below b3
              have c3 : w3.cell? ⟨wr.heap.size, 2, none⟩ = some (.string tx) := (b3.cell (p := ⟨wr.heap.size, 2, none⟩) (by show wr.heap.size < _; rw [World.size_alloc]; omega)).trans c2
              have l3 : wr.heap.size < w3.heap.size := World.block_lt_of_cell? _ _ c3
              have HB3 : Hid (BSl w3 (G a) (some ⟨(wr.alloc (.cells #[.int .i64 wh, .int .i64 0, .string tx] 48)).heap.size, 0, none⟩) tx.size tx) := hB3
              clear TW cL c2 b3 hB3 hcv
              generalize (wr.alloc (.cells #[.int .i64 wh, .int .i64 0, .string tx] 48)).heap.size = gc at *
              go_wp2_with fail
              refine (write_wrote (G a) (T a) tx _ _ _ _ (T3.out.st a ha) HB3.out hcc (by omega) T3.out.kt (T3.out.pos a ha).1).mono ?_
              rintro e w4 ⟨rfl, S4, g4⟩
              have T4 : Hid (Tri w w4 L D G (upd T a (T a ++ tx)) T (preS t (k + 1))) := T3.out.wrote a ha _ hap.out S4 g4
              have c4 : w4.cell? ⟨wr.heap.size, 2, none⟩ = some (.string tx) := by
                rw [World.cell?_of_block (w := w3) (w' := w4) (a := ⟨wr.heap.size, 2, none⟩) (g4.block _ l3 (by have := hob.out; simp; omega))]
                exact c3
              have cD : w4.cell? ⟨D, a, none⟩ = some (.string (T a)) := T4.out.said.cell a ha
              have fD : w4.frozen? ⟨D, a, none⟩ = false := T4.out.said.free a ha
              clear T3 HB3 S4 g4 c3 l3 hcc
              generalize wr.heap.size = ob at *
              generalize hT : T a = ta at *
              have HT : Hid (T a = ta) := hT
              clear hT
              go_wp2_with fail
              go_region
              all_goals go_wp2
              all_goals go_roundw
              all_goals first
                | exact ⟨k + 1, G, upd T a (ta ++ tx), by omega, by go_num, (T4.out.say a ha (ta ++ tx) hap.out).drewN 1⟩
                | (simp only [intOf]; omega)
            · by_cases k1 : kd = 1
              · subst k1
                go_wp2_with fail
                clear d0 d1 d2 hw hv
                have l3 : wr.heap.size < (wr.alloc (.cells #[.int .i64 wh, .int .i64 1, .string tx] 48)).heap.size := by rw [World.size_alloc]; omega
                generalize wr.alloc (.cells #[.int .i64 wh, .int .i64 1, .string tx] 48) = w3 at *
                refine (writeText_wrote (G a) (T a) tx _ (TW.out.st a ha) (by omega) TW.out.kt (TW.out.pos a ha).1).mono ?_
                rintro e w4 ⟨rfl, S4, g4⟩
                have T4 : Hid (Tri w w4 L D G (upd T a (T a ++ tx)) T (preS t (k + 1))) := TW.out.wrote a ha _ hap.out S4 g4
                have c4 : w4.cell? ⟨wr.heap.size, 2, none⟩ = some (.string tx) := by
                  rw [World.cell?_of_block (w := w3) (w' := w4) (a := ⟨wr.heap.size, 2, none⟩) (g4.block _ l3 (by have := hob.out; simp; omega))]
                  exact c2
                have cD : w4.cell? ⟨D, a, none⟩ = some (.string (T a)) := T4.out.said.cell a ha
                have fD : w4.frozen? ⟨D, a, none⟩ = false := T4.out.said.free a ha
                clear TW S4 g4 c2 l3 cL
                generalize wr.heap.size = ob at *
                generalize hT : T a = ta at *
                clear hT
                go_wp2_with fail
                go_region
                all_goals go_wp2
                all_goals go_roundw
                all_goals first
                  | exact ⟨k + 1, G, upd T a (ta ++ tx), by omega, by go_num, (T4.out.say a ha (ta ++ tx) hap.out).drewN 1⟩
                  | (simp only [intOf]; omega)
              · by_cases k2 : kd = 2
                · subst k2
                  go_wp2_with fail
                  clear d0 d1 d2 hw hv
                  have cD : (wr.alloc (.cells #[.int .i64 wh, .int .i64 2, .string tx] 48)).cell? ⟨D, a, none⟩ = some (.string (T a)) := TW.out.said.cell a ha
                  generalize wr.alloc (.cells #[.int .i64 wh, .int .i64 2, .string tx] 48) = w3 at *
                  have hDl : D < w3.heap.size := TW.out.said.lt (by omega)
                  have HS : Hid (Wrote w3 (G a) (T a)) := TW.out.st a ha
                  have hp : 0 < G a := (TW.out.pos a ha).1
                  have q := dgs_same (T a)
                  have qn : (((T a).size : Int) != ((T a).size : Int)) = false := by simp
                  have ha1 : (a : Int) < 3 := by omega
                  have ha2 : (0 : Int) ≤ (a : Int) := by omega
                  have b0 : Below w3.heap.size w3 w3 := Below.refl _ _
                  have hD : Below w3.heap.size w3 w3.drew := b0.drew
                  clear c2 cL
                  generalize hT : T a = ta at *
                  clear hT
                  go_region_held3 (fun W => W.cell? ⟨D, a, none⟩ = some (.string ta) ∧ Below w3.heap.size w3 W)
                    (first
                      | (refine ⟨(b8.cell (p := ⟨D, a, none⟩) hDl).trans cD, b8⟩)
                      | (refine ⟨cD, hD⟩)
                      | (refine ⟨cD, b0⟩))
                    (first
                      | (go_at_call 10; refine (size_b w3 (G a) ta _ rfl _ ?_ HS.out).mono ?_; (first | exact b8 | exact hD); rintro e8 w8 ⟨rfl, b8⟩)
                      | (go_at_call 11; refine (sum_b w3 (G a) ta _ ?_ HS.out (by omega) TW.out.kt hp).mono ?_; (first | exact b8 | exact hD); rintro e8 w8 ⟨rfl, b8⟩)
                      | (go_at_call 16; refine (rof_b w3 ta _ ?_ (by omega)).mono ?_; (first | exact b8 | exact hD); rintro e8 w8 ⟨rfl, b8⟩))
                  all_goals go_wp2
                  all_goals go_roundw
                  all_goals first
                    | exact ⟨k + 1, G, T, by omega, by go_num, TW.out.below b8⟩
                    | (simp only [intOf]; omega)
                · by_cases k3 : kd = 3
                  · subst k3
                    go_wp2_with fail
                    clear d0 d1 d2 hw hv
                    generalize wr.alloc (.cells #[.int .i64 wh, .int .i64 3, .string tx] 48) = w3 at *
                    refine (fork_wrote (G a) (T a) _ (TW.out.st a ha)).mono ?_
                    rintro e w4 ⟨g', rfl, hg1, hg2, S4, b4⟩
                    have T4 : Hid (Tri w w4 L D G T T (preS t (k + 1))) := TW.out.below b4
                    have HS4 : Hid (Wrote w4 g' (T a)) := S4
                    have hgb : Hid (∀ j, j < 3 → G j < g') := fun j hj => Nat.lt_of_lt_of_le (TW.out.st j hj).lt hg1
                    have cD : w4.cell? ⟨D, a, none⟩ = some (.string (T a)) := T4.out.said.cell a ha
                    have c40 : w4.cell? ⟨D, 0, none⟩ = some (.string (T 0)) := T4.out.said.cell 0 (by omega)
                    have c41 : w4.cell? ⟨D, 1, none⟩ = some (.string (T 1)) := T4.out.said.cell 1 (by omega)
                    have c42 : w4.cell? ⟨D, 2, none⟩ = some (.string (T 2)) := T4.out.said.cell 2 (by omega)
                    have f40 : w4.frozen? ⟨D, 0, none⟩ = false := T4.out.said.free 0 (by omega)
                    have f41 : w4.frozen? ⟨D, 1, none⟩ = false := T4.out.said.free 1 (by omega)
                    have f42 : w4.frozen? ⟨D, 2, none⟩ = false := T4.out.said.free 2 (by omega)
                    have e40 : w4.cell? ⟨L, 0, none⟩ = some (.pointer (some ⟨G 0, 0, none⟩)) := T4.out.live.cell 0 (by omega)
                    have e41 : w4.cell? ⟨L, 1, none⟩ = some (.pointer (some ⟨G 1, 0, none⟩)) := T4.out.live.cell 1 (by omega)
                    have e42 : w4.cell? ⟨L, 2, none⟩ = some (.pointer (some ⟨G 2, 0, none⟩)) := T4.out.live.cell 2 (by omega)
                    have h40 : w4.frozen? ⟨L, 0, none⟩ = false := T4.out.live.free 0 (by omega)
                    have h41 : w4.frozen? ⟨L, 1, none⟩ = false := T4.out.live.free 1 (by omega)
                    have h42 : w4.frozen? ⟨L, 2, none⟩ = false := T4.out.live.free 2 (by omega)
                    have hTm : Hid ((T a).size ≤ preS t (k + 1)) := by have := hTa.out; unfold Hid; omega
                    clear TW b4 S4 c2 cL hg1 hg2
                    rcases (show a = 0 ∨ a = 1 ∨ a = 2 from by omega) with rfl | rfl | rfl
                    · exact absurd hneg (by omega)
                    · go_wp2_with fail
                      go_region
                      all_goals go_wp2
                      all_goals go_roundw
                      all_goals first
                        | exact ⟨k + 1, upd G 2 g', upd T 2 (T 1), by omega, by go_num, ((T4.out.lay 2 (by omega) g' (T 1) hTm.out HS4.out hgb.out).say 2 (by omega) (T 1) hTm.out).drewN 1⟩
                        | (simp only [intOf]; omega)
                    · go_wp2_with fail
                      go_region
                      all_goals go_wp2
                      all_goals go_roundw
                      all_goals first
                        | exact ⟨k + 1, upd G 0 g', upd T 0 (T 2), by omega, by go_num, ((T4.out.lay 0 (by omega) g' (T 2) hTm.out HS4.out hgb.out).say 0 (by omega) (T 2) hTm.out).drewN 1⟩
                        | (simp only [intOf]; omega)
                  · by_cases k4 : kd = 4
                    · subst k4
                      go_wp2_with fail
                      clear d0 d1 d2 hw hv
                      generalize wr.alloc (.cells #[.int .i64 wh, .int .i64 4, .string tx] 48) = w3 at *
                      refine (reset_wrote (G a) (T a) _ (TW.out.st a ha)).mono ?_
                      rintro e w4 ⟨rfl, S4, g4⟩
                      have T4 : Hid (Tri w w4 L D G (upd T a ByteArray.empty) T (preS t (k + 1))) := TW.out.wrote a ha _ (Nat.zero_le _) S4 g4
                      have cD : w4.cell? ⟨D, a, none⟩ = some (.string (T a)) := T4.out.said.cell a ha
                      have fD : w4.frozen? ⟨D, a, none⟩ = false := T4.out.said.free a ha
                      clear TW S4 g4 c2 cL
                      go_wp2
                      go_roundw
                      case rel => exact ⟨k + 1, G, upd T a ByteArray.empty, by omega, by go_num, T4.out.say a ha ByteArray.empty (Nat.zero_le _)⟩
                      case measure => simp only [intOf]; omega
                    · go_wp2
                      go_roundw
                      case rel => exact ⟨k + 1, G, T, by omega, by go_num, TW⟩
                      case measure => simp only [intOf]; omega
          · obtain ⟨a, ha, rfl⟩ : ∃ a : Nat, a < 3 ∧ v = (a : Int) := ⟨v.toNat, by omega, by omega⟩
            have TW : Hid (Tri w (wr.alloc (.cells #[.int .i64 wh, .int .i64 kd, .string tx] 48)) L D G T T (preS t (k + 1))) := (TR.out.op _).mono (by have := HTX.out; omega)
            have cL : (wr.alloc (.cells #[.int .i64 wh, .int .i64 kd, .string tx] 48)).cell? ⟨L, a, none⟩ = some (.pointer (some ⟨G a, 0, none⟩)) := TW.out.live.cell a ha
            have hTa : Hid ((T a).size + tx.size ≤ preS t (k + 1)) := by have := TR.out.sz a ha; have := HTX.out; unfold Hid; omega
            have c2 : (wr.alloc (.cells #[.int .i64 wh, .int .i64 kd, .string tx] 48)).cell? ⟨wr.heap.size, 2, none⟩ = some (.string tx) := by rw [World.cell?_alloc_new]; rfl
            have hTs : (T a).size ≤ 1048576 := by have := hTa.out; omega
            have hxs : tx.size ≤ 1048576 := by have := hTa.out; omega
            have hap : Hid ((T a ++ tx).size ≤ preS t (k + 1)) := by unfold Hid; rw [ByteArray.size_append]; exact hTa.out
            have hob : Hid (G a < wr.heap.size ∧ D < wr.heap.size) := ⟨(TR.out.st a ha).lt, TR.out.said.lt (by omega)⟩
            clear TR
            by_cases k0 : kd = 0
            · subst k0
              go_wp2_with fail
              clear d0 d1 d2 hw hv
              obtain ⟨cc, w3, hcv, hcc, hB3, b3⟩ := conv_bytes (wr.alloc (.cells #[.int .i64 wh, .int .i64 0, .string tx] 48)) tx (G a) (TW.out.st a ha).lt
              rw [hcv]
              have T3 : Hid (Tri w w3 L D G T T (preS t (k + 1))) := TW.out.below b3
              have c3 : w3.cell? ⟨wr.heap.size, 2, none⟩ = some (.string tx) := (b3.cell (p := ⟨wr.heap.size, 2, none⟩) (by show wr.heap.size < _; rw [World.size_alloc]; omega)).trans c2
              have l3 : wr.heap.size < w3.heap.size := World.block_lt_of_cell? _ _ c3
              have HB3 : Hid (BSl w3 (G a) (some ⟨(wr.alloc (.cells #[.int .i64 wh, .int .i64 0, .string tx] 48)).heap.size, 0, none⟩) tx.size tx) := hB3
              clear TW cL c2 b3 hB3 hcv
              generalize (wr.alloc (.cells #[.int .i64 wh, .int .i64 0, .string tx] 48)).heap.size = gc at *
              go_wp2_with fail
              refine (write_wrote (G a) (T a) tx _ _ _ _ (T3.out.st a ha) HB3.out hcc (by omega) T3.out.kt (T3.out.pos a ha).1).mono ?_
              rintro e w4 ⟨rfl, S4, g4⟩
              have T4 : Hid (Tri w w4 L D G (upd T a (T a ++ tx)) T (preS t (k + 1))) := T3.out.wrote a ha _ hap.out S4 g4
              have c4 : w4.cell? ⟨wr.heap.size, 2, none⟩ = some (.string tx) := by
                rw [World.cell?_of_block (w := w3) (w' := w4) (a := ⟨wr.heap.size, 2, none⟩) (g4.block _ l3 (by have := hob.out; simp; omega))]
                exact c3
              have cD : w4.cell? ⟨D, a, none⟩ = some (.string (T a)) := T4.out.said.cell a ha
              have fD : w4.frozen? ⟨D, a, none⟩ = false := T4.out.said.free a ha
              clear T3 HB3 S4 g4 c3 l3 hcc
              generalize wr.heap.size = ob at *
              generalize hT : T a = ta at *
              have HT : Hid (T a = ta) := hT
              clear hT
              go_wp2_with fail
              go_region
              all_goals go_wp2
              all_goals go_roundw
              all_goals first
                | exact ⟨k + 1, G, upd T a (ta ++ tx), by omega, by go_num, (T4.out.say a ha (ta ++ tx) hap.out).drewN 1⟩
                | (simp only [intOf]; omega)
            · by_cases k1 : kd = 1
              · subst k1
                go_wp2_with fail
                clear d0 d1 d2 hw hv
                have l3 : wr.heap.size < (wr.alloc (.cells #[.int .i64 wh, .int .i64 1, .string tx] 48)).heap.size := by rw [World.size_alloc]; omega
                generalize wr.alloc (.cells #[.int .i64 wh, .int .i64 1, .string tx] 48) = w3 at *
                refine (writeText_wrote (G a) (T a) tx _ (TW.out.st a ha) (by omega) TW.out.kt (TW.out.pos a ha).1).mono ?_
                rintro e w4 ⟨rfl, S4, g4⟩
                have T4 : Hid (Tri w w4 L D G (upd T a (T a ++ tx)) T (preS t (k + 1))) := TW.out.wrote a ha _ hap.out S4 g4
                have c4 : w4.cell? ⟨wr.heap.size, 2, none⟩ = some (.string tx) := by
                  rw [World.cell?_of_block (w := w3) (w' := w4) (a := ⟨wr.heap.size, 2, none⟩) (g4.block _ l3 (by have := hob.out; simp; omega))]
                  exact c2
                have cD : w4.cell? ⟨D, a, none⟩ = some (.string (T a)) := T4.out.said.cell a ha
                have fD : w4.frozen? ⟨D, a, none⟩ = false := T4.out.said.free a ha
                clear TW S4 g4 c2 l3 cL
                generalize wr.heap.size = ob at *
                generalize hT : T a = ta at *
                clear hT
                go_wp2_with fail
                go_region
                all_goals go_wp2
                all_goals go_roundw
                all_goals first
                  | exact ⟨k + 1, G, upd T a (ta ++ tx), by omega, by go_num, (T4.out.say a ha (ta ++ tx) hap.out).drewN 1⟩
                  | (simp only [intOf]; omega)
              · by_cases k2 : kd = 2
                · subst k2
                  go_wp2_with fail
                  clear d0 d1 d2 hw hv
                  have cD : (wr.alloc (.cells #[.int .i64 wh, .int .i64 2, .string tx] 48)).cell? ⟨D, a, none⟩ = some (.string (T a)) := TW.out.said.cell a ha
                  generalize wr.alloc (.cells #[.int .i64 wh, .int .i64 2, .string tx] 48) = w3 at *
                  have hDl : D < w3.heap.size := TW.out.said.lt (by omega)
                  have HS : Hid (Wrote w3 (G a) (T a)) := TW.out.st a ha
                  have hp : 0 < G a := (TW.out.pos a ha).1
                  have q := dgs_same (T a)
                  have qn : (((T a).size : Int) != ((T a).size : Int)) = false := by simp
                  have ha1 : (a : Int) < 3 := by omega
                  have ha2 : (0 : Int) ≤ (a : Int) := by omega
                  have b0 : Below w3.heap.size w3 w3 := Below.refl _ _
                  have hD : Below w3.heap.size w3 w3.drew := b0.drew
                  clear c2 cL
                  generalize hT : T a = ta at *
                  clear hT
                  go_region_held3 (fun W => W.cell? ⟨D, a, none⟩ = some (.string ta) ∧ Below w3.heap.size w3 W)
                    (first
                      | (refine ⟨(b8.cell (p := ⟨D, a, none⟩) hDl).trans cD, b8⟩)
                      | (refine ⟨cD, hD⟩)
                      | (refine ⟨cD, b0⟩))
                    (first
                      | (go_at_call 10; refine (size_b w3 (G a) ta _ rfl _ ?_ HS.out).mono ?_; (first | exact b8 | exact hD); rintro e8 w8 ⟨rfl, b8⟩)
                      | (go_at_call 11; refine (sum_b w3 (G a) ta _ ?_ HS.out (by omega) TW.out.kt hp).mono ?_; (first | exact b8 | exact hD); rintro e8 w8 ⟨rfl, b8⟩)
                      | (go_at_call 16; refine (rof_b w3 ta _ ?_ (by omega)).mono ?_; (first | exact b8 | exact hD); rintro e8 w8 ⟨rfl, b8⟩))
                  all_goals go_wp2
                  all_goals go_roundw
                  all_goals first
                    | exact ⟨k + 1, G, T, by omega, by go_num, TW.out.below b8⟩
                    | (simp only [intOf]; omega)
                · by_cases k3 : kd = 3
                  · subst k3
                    go_wp2_with fail
                    clear d0 d1 d2 hw hv
                    generalize wr.alloc (.cells #[.int .i64 wh, .int .i64 3, .string tx] 48) = w3 at *
                    refine (fork_wrote (G a) (T a) _ (TW.out.st a ha)).mono ?_
                    rintro e w4 ⟨g', rfl, hg1, hg2, S4, b4⟩
                    have T4 : Hid (Tri w w4 L D G T T (preS t (k + 1))) := TW.out.below b4
                    have HS4 : Hid (Wrote w4 g' (T a)) := S4
                    have hgb : Hid (∀ j, j < 3 → G j < g') := fun j hj => Nat.lt_of_lt_of_le (TW.out.st j hj).lt hg1
                    have cD : w4.cell? ⟨D, a, none⟩ = some (.string (T a)) := T4.out.said.cell a ha
                    have c40 : w4.cell? ⟨D, 0, none⟩ = some (.string (T 0)) := T4.out.said.cell 0 (by omega)
                    have c41 : w4.cell? ⟨D, 1, none⟩ = some (.string (T 1)) := T4.out.said.cell 1 (by omega)
                    have c42 : w4.cell? ⟨D, 2, none⟩ = some (.string (T 2)) := T4.out.said.cell 2 (by omega)
                    have f40 : w4.frozen? ⟨D, 0, none⟩ = false := T4.out.said.free 0 (by omega)
                    have f41 : w4.frozen? ⟨D, 1, none⟩ = false := T4.out.said.free 1 (by omega)
                    have f42 : w4.frozen? ⟨D, 2, none⟩ = false := T4.out.said.free 2 (by omega)
                    have e40 : w4.cell? ⟨L, 0, none⟩ = some (.pointer (some ⟨G 0, 0, none⟩)) := T4.out.live.cell 0 (by omega)
                    have e41 : w4.cell? ⟨L, 1, none⟩ = some (.pointer (some ⟨G 1, 0, none⟩)) := T4.out.live.cell 1 (by omega)
                    have e42 : w4.cell? ⟨L, 2, none⟩ = some (.pointer (some ⟨G 2, 0, none⟩)) := T4.out.live.cell 2 (by omega)
                    have h40 : w4.frozen? ⟨L, 0, none⟩ = false := T4.out.live.free 0 (by omega)
                    have h41 : w4.frozen? ⟨L, 1, none⟩ = false := T4.out.live.free 1 (by omega)
                    have h42 : w4.frozen? ⟨L, 2, none⟩ = false := T4.out.live.free 2 (by omega)
                    have hTm : Hid ((T a).size ≤ preS t (k + 1)) := by have := hTa.out; unfold Hid; omega
                    clear TW b4 S4 c2 cL hg1 hg2
                    rcases (show a = 0 ∨ a = 1 ∨ a = 2 from by omega) with rfl | rfl | rfl
                    · go_wp2_with fail
                      go_region
                      all_goals go_wp2
                      all_goals go_roundw
                      all_goals first
                        | exact ⟨k + 1, upd G 1 g', upd T 1 (T 0), by omega, by go_num, ((T4.out.lay 1 (by omega) g' (T 0) hTm.out HS4.out hgb.out).say 1 (by omega) (T 0) hTm.out).drewN 1⟩
                        | (simp only [intOf]; omega)
                    · go_wp2_with fail
                      go_region
                      all_goals go_wp2
                      all_goals go_roundw
                      all_goals first
                        | exact ⟨k + 1, upd G 2 g', upd T 2 (T 1), by omega, by go_num, ((T4.out.lay 2 (by omega) g' (T 1) hTm.out HS4.out hgb.out).say 2 (by omega) (T 1) hTm.out).drewN 1⟩
                        | (simp only [intOf]; omega)
                    · go_wp2_with fail
                      go_region
                      all_goals go_wp2
                      all_goals go_roundw
                      all_goals first
                        | exact ⟨k + 1, upd G 0 g', upd T 0 (T 2), by omega, by go_num, ((T4.out.lay 0 (by omega) g' (T 2) hTm.out HS4.out hgb.out).say 0 (by omega) (T 2) hTm.out).drewN 1⟩
                        | (simp only [intOf]; omega)
                  · by_cases k4 : kd = 4
                    · subst k4
                      go_wp2_with fail
                      clear d0 d1 d2 hw hv
                      generalize wr.alloc (.cells #[.int .i64 wh, .int .i64 4, .string tx] 48) = w3 at *
                      refine (reset_wrote (G a) (T a) _ (TW.out.st a ha)).mono ?_
                      rintro e w4 ⟨rfl, S4, g4⟩
                      have T4 : Hid (Tri w w4 L D G (upd T a ByteArray.empty) T (preS t (k + 1))) := TW.out.wrote a ha _ (Nat.zero_le _) S4 g4
                      have cD : w4.cell? ⟨D, a, none⟩ = some (.string (T a)) := T4.out.said.cell a ha
                      have fD : w4.frozen? ⟨D, a, none⟩ = false := T4.out.said.free a ha
                      clear TW S4 g4 c2 cL
                      go_wp2
                      go_roundw
                      case rel => exact ⟨k + 1, G, upd T a ByteArray.empty, by omega, by go_num, T4.out.say a ha ByteArray.empty (Nat.zero_le _)⟩
                      case measure => simp only [intOf]; omega
                    · go_wp2
                      go_roundw
                      case rel => exact ⟨k + 1, G, T, by omega, by go_num, TW⟩
                      case measure => simp only [intOf]; omega
        · obtain rfl : k = n := by omega
          have hmn : preS t k ≤ 1048576 := hS
          have e0 : wr.cell? ⟨L, 0, none⟩ = some (.pointer (some ⟨G 0, 0, none⟩)) := TR.out.live.cell 0 (by omega)
          have e1 : wr.cell? ⟨L, 1, none⟩ = some (.pointer (some ⟨G 1, 0, none⟩)) := TR.out.live.cell 1 (by omega)
          have e2 : wr.cell? ⟨L, 2, none⟩ = some (.pointer (some ⟨G 2, 0, none⟩)) := TR.out.live.cell 2 (by omega)
          go_wp2_with fail
          go_loopw [115] (fun xi wr' => ∃ (j : Nat), j ≤ 3 ∧ xi = .int .i64 (j : Int) ∧ Hid (Tri w wr' L D G T T (preS t k))) (fun xi _ => 3 - (intOf xi).toNat)
          case atStart => exact ⟨0, by omega, rfl, TR⟩
          case round =>
            clear TR e0 e1 e2
            obtain ⟨j, hj, rfl, TW⟩ := hrel
            rcases (show j = 0 ∨ j = 1 ∨ j = 2 ∨ j = 3 from by omega) with rfl | rfl | rfl | rfl
            · have cD : wr.cell? ⟨D, 0, none⟩ = some (.string (T 0)) := TW.out.said.cell 0 (by omega)
              have hDl : D < wr.heap.size := TW.out.said.lt (by omega)
              have HS : Hid (Wrote wr (G 0) (T 0)) := TW.out.st 0 (by omega)
              have hp : 0 < G 0 := (TW.out.pos 0 (by omega)).1
              have hTs : (T 0).size ≤ 1048576 := Nat.le_trans (TW.out.sz 0 (by omega)) hmn
              have q := dgs_same (T 0)
              have qn : (((T 0).size : Int) != ((T 0).size : Int)) = false := by simp
              have b0 : Below wr.heap.size wr wr := Below.refl _ _
              have hD : Below wr.heap.size wr wr.drew := b0.drew
              generalize T 0 = ta at *
              have qi := (run_index3 wr (some ⟨G 0, 0, none⟩) (some ⟨G 1, 0, none⟩) (some ⟨G 2, 0, none⟩)).1
              go_wp2_with fail
              go_region_held3 (fun W => W.cell? ⟨D, 0, none⟩ = some (.string ta) ∧ Below wr.heap.size wr W)
                (first
                  | (refine ⟨(b8.cell (p := ⟨D, 0, none⟩) hDl).trans cD, b8⟩)
                  | (refine ⟨cD, hD⟩)
                  | (refine ⟨cD, b0⟩))
                (first
                  | (go_at_call 10; refine (size_b wr (G 0) ta _ rfl _ ?_ HS.out).mono ?_; (first | exact b8 | exact hD); rintro e8 w8 ⟨rfl, b8⟩)
                  | (go_at_call 11; refine (sum_b wr (G 0) ta _ ?_ HS.out (by omega) TW.out.kt hp).mono ?_; (first | exact b8 | exact hD); rintro e8 w8 ⟨rfl, b8⟩)
                  | (go_at_call 16; refine (rof_b wr ta _ ?_ (by omega)).mono ?_; (first | exact b8 | exact hD); rintro e8 w8 ⟨rfl, b8⟩))
              all_goals go_wp2
              all_goals go_roundw
              all_goals first
                | exact ⟨0 + 1, by omega, by go_num, TW.out.below b8⟩
                | (simp only [intOf]; omega)
            · have cD : wr.cell? ⟨D, 1, none⟩ = some (.string (T 1)) := TW.out.said.cell 1 (by omega)
              have hDl : D < wr.heap.size := TW.out.said.lt (by omega)
              have HS : Hid (Wrote wr (G 1) (T 1)) := TW.out.st 1 (by omega)
              have hp : 0 < G 1 := (TW.out.pos 1 (by omega)).1
              have hTs : (T 1).size ≤ 1048576 := Nat.le_trans (TW.out.sz 1 (by omega)) hmn
              have q := dgs_same (T 1)
              have qn : (((T 1).size : Int) != ((T 1).size : Int)) = false := by simp
              have b0 : Below wr.heap.size wr wr := Below.refl _ _
              have hD : Below wr.heap.size wr wr.drew := b0.drew
              generalize T 1 = ta at *
              have qi := (run_index3 wr (some ⟨G 0, 0, none⟩) (some ⟨G 1, 0, none⟩) (some ⟨G 2, 0, none⟩)).2.1
              go_wp2_with fail
              go_region_held3 (fun W => W.cell? ⟨D, 1, none⟩ = some (.string ta) ∧ Below wr.heap.size wr W)
                (first
                  | (refine ⟨(b8.cell (p := ⟨D, 1, none⟩) hDl).trans cD, b8⟩)
                  | (refine ⟨cD, hD⟩)
                  | (refine ⟨cD, b0⟩))
                (first
                  | (go_at_call 10; refine (size_b wr (G 1) ta _ rfl _ ?_ HS.out).mono ?_; (first | exact b8 | exact hD); rintro e8 w8 ⟨rfl, b8⟩)
                  | (go_at_call 11; refine (sum_b wr (G 1) ta _ ?_ HS.out (by omega) TW.out.kt hp).mono ?_; (first | exact b8 | exact hD); rintro e8 w8 ⟨rfl, b8⟩)
                  | (go_at_call 16; refine (rof_b wr ta _ ?_ (by omega)).mono ?_; (first | exact b8 | exact hD); rintro e8 w8 ⟨rfl, b8⟩))
              all_goals go_wp2
              all_goals go_roundw
              all_goals first
                | exact ⟨1 + 1, by omega, by go_num, TW.out.below b8⟩
                | (simp only [intOf]; omega)
            · have cD : wr.cell? ⟨D, 2, none⟩ = some (.string (T 2)) := TW.out.said.cell 2 (by omega)
              have hDl : D < wr.heap.size := TW.out.said.lt (by omega)
              have HS : Hid (Wrote wr (G 2) (T 2)) := TW.out.st 2 (by omega)
              have hp : 0 < G 2 := (TW.out.pos 2 (by omega)).1
              have hTs : (T 2).size ≤ 1048576 := Nat.le_trans (TW.out.sz 2 (by omega)) hmn
              have q := dgs_same (T 2)
              have qn : (((T 2).size : Int) != ((T 2).size : Int)) = false := by simp
              have b0 : Below wr.heap.size wr wr := Below.refl _ _
              have hD : Below wr.heap.size wr wr.drew := b0.drew
              generalize T 2 = ta at *
              have qi := (run_index3 wr (some ⟨G 0, 0, none⟩) (some ⟨G 1, 0, none⟩) (some ⟨G 2, 0, none⟩)).2.2
              go_wp2_with fail
              go_region_held3 (fun W => W.cell? ⟨D, 2, none⟩ = some (.string ta) ∧ Below wr.heap.size wr W)
                (first
                  | (refine ⟨(b8.cell (p := ⟨D, 2, none⟩) hDl).trans cD, b8⟩)
                  | (refine ⟨cD, hD⟩)
                  | (refine ⟨cD, b0⟩))
                (first
                  | (go_at_call 10; refine (size_b wr (G 2) ta _ rfl _ ?_ HS.out).mono ?_; (first | exact b8 | exact hD); rintro e8 w8 ⟨rfl, b8⟩)
                  | (go_at_call 11; refine (sum_b wr (G 2) ta _ ?_ HS.out (by omega) TW.out.kt hp).mono ?_; (first | exact b8 | exact hD); rintro e8 w8 ⟨rfl, b8⟩)
                  | (go_at_call 16; refine (rof_b wr ta _ ?_ (by omega)).mono ?_; (first | exact b8 | exact hD); rintro e8 w8 ⟨rfl, b8⟩))
              all_goals go_wp2
              all_goals go_roundw
              all_goals first
                | exact ⟨2 + 1, by omega, by go_num, TW.out.below b8⟩
                | (simp only [intOf]; omega)
            · go_wp2
              go_ret
              exact ⟨rfl, TW.out.bel⟩
#print axioms plays_walk
end Go.Proofs.YtholbaefmncphabDoor
