/- The document's Read for a bound below nought; Closed; the law's same. -/
import Derived.Test.YtjlbbnjcdickgaaWsC
import Derived.Deep.QuietTactic
import Derived.BigQuiet
namespace Go.Proofs.Ytjlbbnjcdickgaa
open Go.RowKit

set_option maxHeartbeats 8000000 in
theorem read_neg (tl pl : List UInt8) (most : Int) (w : World) (ht : tl.length ≤ 1073741824) (hl : pl.length ≤ 1073741824) (hneg : most < 0) :
    Calls Try.prog 17 #[.string (ba tl), .string (ba pl), .int .i64 most] w fun e w' => ∃ v, e = .returned (gotV v (readR tl pl 0)) ∧ OwnJ w' w.heap.size v (readR tl pl 0).out ∧ Below w.heap.size w w' := by
  have hsz := ba_size tl
  have hsp := ba_size pl
  have hg : ∀ (n : Nat) (h : n < (ba pl).size), (((ba pl)[n]'h).toNat : Int) = bt (ba pl) n := get_bt (ba pl)
  have HB : Hid (∀ (k : Nat) (h : k < pl.length), bt (ba pl) k = ((pl[k]'h).toNat : Int)) := fun k h => bt_ba pl k h
  have g6 := Gt.fresh w
  by_cases hbad : badAt pl < pl.length
  · have hpl : plnd pl = (badAt pl : Int) := if_pos hbad
    have HE : Hid (readR tl pl 0 = ⟨[], 30, badAt pl, 0⟩) := if_pos hbad
    go_enter Try.func17, Try.ntmps17
    go_wp2_with fail
    refine (planned_any pl _ hl).mono ?_
    rintro e w1 ⟨rfl, rfl⟩
    rw [hpl]
    go_wp2
    have q0 : (w.alloc (.cells #[.slice none 0 0, .int .i64 30, .int .i64 (badAt pl : Int), .int .i64 0] 36)).cell? ⟨w.heap.size, 0, none⟩ = some (.slice none 0 0) := (World.cell?_alloc_new w _ _ 0).trans rfl
    have q1 : (w.alloc (.cells #[.slice none 0 0, .int .i64 30, .int .i64 (badAt pl : Int), .int .i64 0] 36)).cell? ⟨w.heap.size, 1, none⟩ = some (.int .i64 30) := (World.cell?_alloc_new w _ _ 1).trans rfl
    have q2 : (w.alloc (.cells #[.slice none 0 0, .int .i64 30, .int .i64 (badAt pl : Int), .int .i64 0] 36)).cell? ⟨w.heap.size, 2, none⟩ = some (.int .i64 (badAt pl : Int)) := (World.cell?_alloc_new w _ _ 2).trans rfl
    have q3 : (w.alloc (.cells #[.slice none 0 0, .int .i64 30, .int .i64 (badAt pl : Int), .int .i64 0] 36)).cell? ⟨w.heap.size, 3, none⟩ = some (.int .i64 0) := (World.cell?_alloc_new w _ _ 3).trans rfl
    have B : Hid (Below w.heap.size w (w.alloc (.cells #[.slice none 0 0, .int .i64 30, .int .i64 (badAt pl : Int), .int .i64 0] 36))) := (Below.refl _ _).alloc (Nat.le_refl _) _
    generalize w.alloc (.cells #[.slice none 0 0, .int .i64 30, .int .i64 (badAt pl : Int), .int .i64 0] 36) = W4 at q0 q1 q2 q3 B ⊢
    exact bodyPost_ret (v := .agg #[.slice none 0 0, .int .i64 30, .int .i64 (badAt pl : Int), .int .i64 0]) (by simp [results, Try.results17, go_sem, q0, q1, q2, q3]) rfl ⟨.slice none 0 0, by rw [HE.out]; rfl, by rw [HE.out]; exact OwnJ.nil _ _, B.out⟩
  · have hpl : plnd pl = -1 := if_neg hbad
    have HE : Hid (readR tl pl 0 = rdG 0 pl tl 0 []) := if_neg hbad
    have hok := (badAt_ok pl hbad).2
    have HOK : Hid (∀ c ∈ pl, okL c = true) := hok
    clear hok hbad
    go_enter Try.func17, Try.ntmps17
    go_wp2_with fail
    refine (planned_any pl _ hl).mono ?_
    rintro e w1 ⟨rfl, rfl⟩
    rw [hpl]
    go_wp2
    have hs1 : (w.alloc (.cells #[.slice none 0 0, .int .i64 0, .int .i64 0, .int .i64 0] 36)).heap.size = w.heap.size + 1 := World.size_alloc _ _
    have g8 := Gt.fresh (w.alloc (.cells #[.slice none 0 0, .int .i64 0, .int .i64 0, .int .i64 0] 36))
    have g6' := g6.same (by rw [World.size_alloc, World.size_alloc]; omega) (Below.heap_alloc _ (.cells #[.slice none 0 0, .int .i64 0, .int .i64 0, .int .i64 0] 36) _ (by rw [hs1]; omega))
    have B0 : Below w.heap.size w ((w.alloc (.cells #[.slice none 0 0, .int .i64 0, .int .i64 0, .int .i64 0] 36)).alloc (.cells #[.slice none 0 0, .int .i64 0, .int .i64 0, .int .i64 0] 36)) := ((Below.refl _ _).alloc (Nat.le_refl _) _).alloc (by rw [hs1]; omega) _
    rw [hs1] at g8
    have hG68 : w.heap.size ≠ w.heap.size + 1 := by omega
    have hG86 : w.heap.size + 1 ≠ w.heap.size := by omega
    generalize (w.alloc (.cells #[.slice none 0 0, .int .i64 0, .int .i64 0, .int .i64 0] 36)).alloc (.cells #[.slice none 0 0, .int .i64 0, .int .i64 0, .int .i64 0] 36) = W0 at g8 g6' B0 ⊢
    clear hs1 g6
    have H8 : Hid (Gt W0 (w.heap.size + 1) (.slice none 0 0)) := g8
    have H6 : Hid (Gt W0 w.heap.size (.slice none 0 0)) := g6'
    have HB0 : Hid (Below w.heap.size w W0) := B0
    clear g8 g6' B0
    go_loopw [9, 10] (fun a i wr => ∃ (k at_ : Nat) (v : Value) (out : List It), k ≤ pl.length ∧ at_ ≤ tl.length ∧ a = .int .i64 at_ ∧ i = .int .i64 k ∧ Hid (Gt wr w.heap.size (.slice none 0 0)) ∧ Hid (Gt wr (w.heap.size + 1) v) ∧ Hid (OwnJ wr (w.heap.size + 2) v out) ∧ Hid (out.length ≤ k) ∧ Hid (rdG 0 pl tl 0 [] = rdG 0 (pl.drop k) (tl.drop at_) at_ out) ∧ Hid (Below w.heap.size w wr)) (fun _ i _ => pl.length - (intOf i).toNat)
    case atStart => exact ⟨0, 0, _, [], Nat.zero_le _, Nat.zero_le _, rfl, rfl, H6, H8, OwnJ.nil _ _, Nat.le_refl 0, rfl, HB0⟩
    case round =>
      obtain ⟨k, at_, v, out, hk, ha, rfl, rfl, hg6, hg8, hO, hol, hR, hB⟩ := hrel
      obtain ⟨x, c, rfl⟩ : ∃ x c, v = .slice x out.length c := by
        rcases hO.out.open with ⟨h, h2⟩ | ⟨g, cap, h, _⟩
        · exact ⟨none, 0, by rw [h, h2]; rfl⟩
        · exact ⟨_, _, h⟩
      have d0 := hg8.out.c0
      have d1 := hg8.out.c1
      have d2 := hg8.out.c2
      have d3 := hg8.out.c3
      have k0 := hg8.out.fr 0
      have k1 := hg8.out.fr 1
      have k2 := hg8.out.fr 2
      have k3 := hg8.out.fr 3
      have e0 := hg6.out.c0
      have e1 := hg6.out.c1
      have e2 := hg6.out.c2
      have e3 := hg6.out.c3
      have m0 := hg6.out.fr 0
      have m1 := hg6.out.fr 1
      have m2 := hg6.out.fr 2
      have m3 := hg6.out.fr 3
      by_cases hlt : k < pl.length
      · have hc := HOK.out _ (List.getElem_mem hlt)
        have hb := HB.out k hlt
        have hdr : Hid (pl.drop k = pl[k] :: pl.drop (k + 1)) := List.drop_eq_getElem_cons hlt
        rcases (okL_int _).1 hc with h5 | h6
        · have hc5 : pl[k] = 105 := UInt8.toNat_inj.1 (by have : (pl[k]).toNat = 105 := by omega
                                                          rw [this]; rfl)
          have hR5 : Hid (rdG 0 pl tl 0 [] = if (tl.drop at_).length < 8 then Got.mk out 0 0 (at_ + (tl.drop at_).length) else rdG 0 (pl.drop (k + 1)) ((tl.drop at_).drop 8) (at_ + 8) (out ++ [⟨true, le ((tl.drop at_).take 8), []⟩])) := by
            unfold Hid; rw [hR.out, hdr.out, hc5, rdG_i]
          rw [h5] at hb
          clear h5 hc hc5
          by_cases hsh : tl.length < at_ + 8
          · have hR6 : Hid (rdG 0 pl tl 0 [] = Got.mk out 0 0 tl.length) := by
              unfold Hid; rw [hR5.out, if_pos (by rw [List.length_drop]; omega), List.length_drop, show at_ + (tl.length - at_) = tl.length by omega]
            have gs : (tl.length : Int) - 8 < (at_ : Int) := by omega
            go_wp2
            refine exit_got (x := .slice none 0 0) ?_ ?_ ?_
            · exact (hg6.out).other hG68
            · rfl
            · exact ⟨_, by rw [HE.out, hR6.out]; rfl, by rw [HE.out, hR6.out]; exact ((((((hO.out).other (k := w.heap.size + 1) (by omega)).other (k := w.heap.size) (by omega)).other (k := w.heap.size) (by omega)).other (k := w.heap.size) (by omega)).other (k := w.heap.size) (by omega)).mono (by omega), (((((hB.out).setCell (Nat.le_succ _) _).setCell (Nat.le_refl _) _).setCell (Nat.le_refl _) _).setCell (Nat.le_refl _) _).setCell (Nat.le_refl _) _⟩
          · have hR6 : Hid (rdG 0 pl tl 0 [] = rdG 0 (pl.drop (k + 1)) (tl.drop (at_ + 8)) (at_ + 8) (out ++ [⟨true, le ((tl.drop at_).take 8), []⟩])) := by
              unfold Hid; rw [hR5.out, if_neg (by rw [List.length_drop]; omega), List.drop_drop]
            have gs : ¬ ((tl.length : Int) - 8 < (at_ : Int)) := by omega
            have hn64 := le8_lt ((tl.drop at_).take 8) (by rw [List.length_take, List.length_drop]; omega)
            have NC := fun w => num_any tl at_ w ht (by omega)
            generalize le ((tl.drop at_).take 8) = n at hn64 NC hR6
            have HNC : Hid (∀ w : World, Calls Try.prog 32 #[.string (ba tl), .int .i64 (at_ : Int)] w fun e w' => e = .returned (.int .u64 (n : Int)) ∧ w' = w) := NC
            clear NC hR5
            obtain ⟨i0, hi, hz0, hz1, hz2⟩ := info_parts info_jt
            have hwz : w.heap.size + 2 ≤ wr.heap.size := by have := hg8.out.lt; omega
            obtain ⟨v', w', hap, O', G', -⟩ := run_append_own (P := Try.prog) (wr.alloc (.cells #[.bool true, .int .u64 (n : Int), .string ⟨#[]⟩] 74)).drew (w.heap.size + 2) 34 34 74 i0 (.agg #[.bool false, .int .u64 0, .string ByteArray.empty]) 3 32 Try.underlying34 hi hz0 hz1 hz2 rfl (by decide) (.slice x out.length c) out.length (out.flatMap itC) (World.ownsRow.alloc hO.out _) ⟨wr.heap.size, 0, none⟩ 1 1 (itC ⟨true, n, []⟩) rfl (fun j q hj => by
              have hw : ∀ i, (wr.alloc (.cells #[.bool true, .int .u64 (n : Int), .string ⟨#[]⟩] 74)).drew.cell? ⟨wr.heap.size, i, none⟩ = #[Value.bool true, Value.int .u64 (n : Int), Value.string ⟨#[]⟩][i]? := fun i => World.cell?_alloc_new wr _ _ i
              match j, hj with
              | 0, hj => simp [itC] at hj; subst hj; exact (hw 0).trans rfl
              | 1, hj => simp [itC] at hj; subst hj; rw [Addr.add_lit]; exact (hw 1).trans rfl
              | 2, hj => simp [itC] at hj; subst hj; rw [Addr.add_lit]; exact (hw 2).trans rfl) (by intro q hq; simp [itC] at hq; rcases hq with rfl | rfl | rfl <;> rfl) (by have := hol.out; unfold maxLen; omega) (by have := hol.out; omega) (by show _ ≤ (wr.alloc _).heap.size; rw [World.size_alloc]; omega)
            obtain ⟨x', c', rfl⟩ : ∃ x' c', v' = .slice x' (out.length + 1) c' := by
              rcases O'.2 with ⟨_, h⟩ | ⟨g, cap, cur, h, _⟩
              · omega
              · exact ⟨_, _, h⟩
            have hne8 : some (w.heap.size + 1) ≠ (Value.slice x out.length c).ownBlock := fun e => by have := (hO.out.lt _ e.symm).1; omega
            have hne6 : some w.heap.size ≠ (Value.slice x out.length c).ownBlock := fun e => by have := (hO.out.lt _ e.symm).1; omega
            have hl8 := hg8.out.lt
            have hl6 := hg6.out.lt
            have n8 : Hid (Gt w' (w.heap.size + 1) (.slice x out.length c)) := hg8.out.same (by have := G'.size; simp at this; omega) ((G'.block _ (by show _ < (wr.alloc _).heap.size; rw [World.size_alloc]; omega) hne8).trans (Below.heap_alloc wr _ _ hl8))
            have n6 : Hid (Gt w' w.heap.size (.slice none 0 0)) := hg6.out.same (by have := G'.size; simp at this; omega) ((G'.block _ (by show _ < (wr.alloc _).heap.size; rw [World.size_alloc]; omega) hne6).trans (Below.heap_alloc wr _ _ hl6))
            have nO : Hid (OwnJ w' (w.heap.size + 2) (.slice x' (out.length + 1) c') (out ++ [⟨true, n, []⟩])) := by
              unfold Hid OwnJ
              rw [List.length_append, List.flatMap_append]
              simpa using O'
            have nB : Hid (Below w.heap.size w w') := ((hB.out.alloc hB.out.size _).drew).grown G' (by show _ ≤ (wr.alloc _).heap.size; rw [World.size_alloc]; omega) (fun q hq => by have := (hO.out.lt q hq).1; omega)
            have y0 := n8.out.c0
            have y1 := n8.out.fr 0
            clear O' G' hi hz0 hz1 hz2 hne8 hne6
            go_wp2_with fail
            go_region_law (first | refine step_append_run rfl (.tmp 44) (.tmp 49) 34 rfl (.slice x out.length c) (.slice (some ⟨wr.heap.size, 0, none⟩) 1 1) rfl rfl (.slice x' (out.length + 1) c') w' hap ?_ | (rw [if_pos (by rfl)]; go_simp; refine (HNC.out _).mono ?_; rintro e5 w5 ⟨rfl, rfl⟩))
            all_goals (
              have f8 : Hid (Gt (w'.setCell ⟨w.heap.size + 1, 0, none⟩ (.slice x' (out.length + 1) c')) (w.heap.size + 1) (.slice x' (out.length + 1) c')) := n8.out.put
              have f6 : Hid (Gt (w'.setCell ⟨w.heap.size + 1, 0, none⟩ (.slice x' (out.length + 1) c')) w.heap.size (.slice none 0 0)) := n6.out.other hG68
              have fO : Hid (OwnJ (w'.setCell ⟨w.heap.size + 1, 0, none⟩ (.slice x' (out.length + 1) c')) (w.heap.size + 2) (.slice x' (out.length + 1) c') (out ++ [⟨true, n, []⟩])) := nO.out.other (by omega)
              have fB : Hid (Below w.heap.size w (w'.setCell ⟨w.heap.size + 1, 0, none⟩ (.slice x' (out.length + 1) c'))) := nB.out.setCell (Nat.le_succ _) _
              have hol' : Hid ((out ++ [(⟨true, n, []⟩ : It)]).length ≤ k + 1) := by unfold Hid; rw [List.length_append]; have := hol.out; simp; omega
              generalize w'.setCell ⟨w.heap.size + 1, 0, none⟩ (.slice x' (out.length + 1) c') = wN at f8 f6 fO fB ⊢
              go_wp2
              go_roundw
              case rel => exact ⟨k + 1, at_ + 8, _, _, by omega, by omega, by go_num, by go_num, f6, f8, fO, hol', hR6, fB⟩
              case measure => simp [intOf]; omega)
        · have hc6 : pl[k] = 116 := UInt8.toNat_inj.1 (by have : (pl[k]).toNat = 116 := by omega
                                                          rw [this]; rfl)
          rw [h6] at hb
          have OC := fun w => oneT_any tl at_ 0 w ht ha (by decide)
          rcases one_cases tl at_ 0 (pl.drop (k + 1)) out ha with ⟨C, A, T, ho, hr⟩ | ⟨l, b, ho, hbl, hr⟩
          · have hR6 : Hid (rdG 0 pl tl 0 [] = Got.mk out C A T) := by unfold Hid; rw [hR.out, hdr.out, hc6, hr]
            rw [ho] at OC
            have HOC : Hid (∀ w : World, Calls Try.prog 33 #[.string (ba tl), .int .i64 (at_ : Int), .int .i64 0] w fun e w' => e = .returned (oneV [] (-1) (C : Int) (A : Int) (T : Int)) ∧ w' = w) := OC
            clear OC ho hr h6 hc hc6
            go_wp2_with fail
            refine (HOC.out _).mono ?_
            rintro e w1 ⟨rfl, rfl⟩
            unfold oneV
            go_wp2
            refine exit_got (x := .slice none 0 0) ?_ ?_ ?_
            · exact (((hg6.out).other hG68).other hG68).other hG68
            · rfl
            · exact ⟨_, by rw [HE.out, hR6.out]; rfl, by rw [HE.out, hR6.out]; exact ((((((((hO.out).other (k := w.heap.size + 1) (by omega)).other (k := w.heap.size + 1) (by omega)).other (k := w.heap.size + 1) (by omega)).other (k := w.heap.size) (by omega)).other (k := w.heap.size) (by omega)).other (k := w.heap.size) (by omega)).other (k := w.heap.size) (by omega)).mono (by omega), (((((((hB.out).setCell (Nat.le_succ _) _).setCell (Nat.le_succ _) _).setCell (Nat.le_succ _) _).setCell (Nat.le_refl _) _).setCell (Nat.le_refl _) _).setCell (Nat.le_refl _) _).setCell (Nat.le_refl _) _⟩
          · have hR6 : Hid (rdG 0 pl tl 0 [] = rdG 0 (pl.drop (k + 1)) (tl.drop b) b (out ++ [⟨false, 0, l⟩])) := by unfold Hid; rw [hR.out, hdr.out, hc6, hr]
            rw [ho] at OC
            have HOC : Hid (∀ w : World, Calls Try.prog 33 #[.string (ba tl), .int .i64 (at_ : Int), .int .i64 0] w fun e w' => e = .returned (oneV l (b : Int) 0 0 0) ∧ w' = w) := OC
            clear OC ho hr h6 hc hc6
            obtain ⟨i0, hi, hz0, hz1, hz2⟩ := info_parts info_jt
            have hwz : w.heap.size + 2 ≤ wr.heap.size := by have := hg8.out.lt; omega
            go_wp2_with fail
            refine (HOC.out _).mono ?_
            rintro e w1 ⟨rfl, rfl⟩
            unfold oneV
            go_wp2_with (at_builtin; refine wpList_append_own _ rfl _ _ 34 rfl (w.heap.size + 2) 74 i0 (.agg #[.bool false, .int .u64 0, .string ByteArray.empty]) 3 32 Try.underlying34 hi hz0 hz1 hz2 rfl (by decide) (.slice x out.length c) out.length (out.flatMap itC) rfl (World.ownsRow.alloc hO.out _) ⟨w1.heap.size, 0, none⟩ 1 1 (itC ⟨false, 0, l⟩) rfl rfl ?c1 ?c2 (by have := hol.out; unfold maxLen; omega) (by have := hol.out; omega) (by rw [World.size_alloc]; omega) ?_)
            case c1 =>
              intro j q hj
              have hw : ∀ i, (w1.alloc (.cells #[.bool false, .int .u64 0, .string (ba l)] 74)).cell? ⟨w1.heap.size, i, none⟩ = #[Value.bool false, Value.int .u64 0, Value.string (ba l)][i]? := fun i => World.cell?_alloc_new w1 _ _ i
              match j, hj with
              | 0, hj => simp [itC] at hj; subst hj; exact (hw 0).trans rfl
              | 1, hj => simp [itC] at hj; subst hj; rw [Addr.add_lit]; exact (hw 1).trans rfl
              | 2, hj => simp [itC] at hj; subst hj; rw [Addr.add_lit]; exact (hw 2).trans rfl
            case c2 => intro q hq; simp [itC] at hq; rcases hq with rfl | rfl | rfl <;> rfl
            intro v' w' O' G' _
            obtain ⟨x', c', rfl⟩ : ∃ x' c', v' = .slice x' (out.length + 1) c' := by
              rcases O'.2 with ⟨_, h⟩ | ⟨g, cap, cur, h, _⟩
              · omega
              · exact ⟨_, _, h⟩
            have hne8 : some (w.heap.size + 1) ≠ (Value.slice x out.length c).ownBlock := fun e => by have := (hO.out.lt _ e.symm).1; omega
            have hne6 : some w.heap.size ≠ (Value.slice x out.length c).ownBlock := fun e => by have := (hO.out.lt _ e.symm).1; omega
            have hl8 := hg8.out.lt
            have hl6 := hg6.out.lt
            have n8 : Hid (Gt w' (w.heap.size + 1) (.slice x out.length c)) := hg8.out.same (by have := G'.size; simp at this; omega) ((G'.block _ (by show _ < (w1.alloc _).heap.size; rw [World.size_alloc]; omega) hne8).trans (Below.heap_alloc w1 _ _ hl8))
            have n6 : Hid (Gt w' w.heap.size (.slice none 0 0)) := hg6.out.same (by have := G'.size; simp at this; omega) ((G'.block _ (by show _ < (w1.alloc _).heap.size; rw [World.size_alloc]; omega) hne6).trans (Below.heap_alloc w1 _ _ hl6))
            have nO : Hid (OwnJ w' (w.heap.size + 2) (.slice x' (out.length + 1) c') (out ++ [⟨false, 0, l⟩])) := by
              unfold Hid OwnJ
              rw [List.length_append, List.flatMap_append]
              simpa using O'
            have nB : Hid (Below w.heap.size w w') := (hB.out.alloc hB.out.size _).grown G' (by rw [World.size_alloc]; omega) (fun q hq => by have := (hO.out.lt q hq).1; omega)
            have y0 := n8.out.c0
            have y1 := n8.out.fr 0
            clear O' G' hi hz0 hz1 hz2 hne8 hne6
            go_wp2
            have f8 : Hid (Gt (w'.setCell ⟨w.heap.size + 1, 0, none⟩ (.slice x' (out.length + 1) c')) (w.heap.size + 1) (.slice x' (out.length + 1) c')) := n8.out.put
            have f6 : Hid (Gt (w'.setCell ⟨w.heap.size + 1, 0, none⟩ (.slice x' (out.length + 1) c')) w.heap.size (.slice none 0 0)) := n6.out.other hG68
            have fO : Hid (OwnJ (w'.setCell ⟨w.heap.size + 1, 0, none⟩ (.slice x' (out.length + 1) c')) (w.heap.size + 2) (.slice x' (out.length + 1) c') (out ++ [⟨false, 0, l⟩])) := nO.out.other (by omega)
            have fB : Hid (Below w.heap.size w (w'.setCell ⟨w.heap.size + 1, 0, none⟩ (.slice x' (out.length + 1) c'))) := nB.out.setCell (Nat.le_succ _) _
            have hol' : Hid ((out ++ [(⟨false, 0, l⟩ : It)]).length ≤ k + 1) := by unfold Hid; rw [List.length_append]; have := hol.out; simp; omega
            generalize w'.setCell ⟨w.heap.size + 1, 0, none⟩ (.slice x' (out.length + 1) c') = wN at f8 f6 fO fB ⊢
            go_roundw
            case rel => exact ⟨k + 1, b, _, _, by omega, by omega, by go_num, by go_num, f6, f8, fO, hol', hR6, fB⟩
            case measure => simp [intOf]; omega
      · obtain rfl : k = pl.length := by omega
        have hR5 : Hid (rdG 0 pl tl 0 [] = if (tl.drop at_).length = 0 then Got.mk out 0 0 at_ else Got.mk out 5 at_ at_) := by
          unfold Hid; rw [hR.out, List.drop_length, rdG_nil]
        by_cases hat : at_ < tl.length
        · have hR6 : Hid (rdG 0 pl tl 0 [] = Got.mk out 5 at_ at_) := by
            unfold Hid; rw [hR5.out, if_neg (by rw [List.length_drop]; omega)]
          go_wp2
          refine exit_got (x := .slice none 0 0) ?_ ?_ ?_
          · exact (((hg6.out).other hG68).other hG68).other hG68
          · rfl
          · exact ⟨_, by rw [HE.out, hR6.out]; rfl, by rw [HE.out, hR6.out]; exact ((((((((hO.out).other (k := w.heap.size + 1) (by omega)).other (k := w.heap.size + 1) (by omega)).other (k := w.heap.size + 1) (by omega)).other (k := w.heap.size) (by omega)).other (k := w.heap.size) (by omega)).other (k := w.heap.size) (by omega)).other (k := w.heap.size) (by omega)).mono (by omega), (((((((hB.out).setCell (Nat.le_succ _) _).setCell (Nat.le_succ _) _).setCell (Nat.le_succ _) _).setCell (Nat.le_refl _) _).setCell (Nat.le_refl _) _).setCell (Nat.le_refl _) _).setCell (Nat.le_refl _) _⟩
        · have hR6 : Hid (rdG 0 pl tl 0 [] = Got.mk out 0 0 at_) := by
            unfold Hid; rw [hR5.out, if_pos (by rw [List.length_drop]; omega)]
          go_wp2
          refine exit_got (x := .slice none 0 0) ?_ ?_ ?_
          · exact (hg6.out).other hG68
          · rfl
          · exact ⟨_, by rw [HE.out, hR6.out]; rfl, by rw [HE.out, hR6.out]; exact ((((((hO.out).other (k := w.heap.size + 1) (by omega)).other (k := w.heap.size) (by omega)).other (k := w.heap.size) (by omega)).other (k := w.heap.size) (by omega)).other (k := w.heap.size) (by omega)).mono (by omega), (((((hB.out).setCell (Nat.le_succ _) _).setCell (Nat.le_refl _) _).setCell (Nat.le_refl _) _).setCell (Nat.le_refl _) _).setCell (Nat.le_refl _) _⟩


theorem read_any (tl pl : List UInt8) (most : Int) (w : World) (ht : tl.length ≤ 1073741824) (hl : pl.length ≤ 1073741824) (hm : most ≤ 9223372036854775807) :
    Calls Try.prog 17 #[.string (ba tl), .string (ba pl), .int .i64 most] w fun e w' => ∃ v, e = .returned (gotV v (readR tl pl most.toNat)) ∧ OwnJ w' w.heap.size v (readR tl pl most.toNat).out ∧ Below w.heap.size w w' := by
  by_cases h : most < 0
  · rw [show most.toNat = 0 by omega]
    exact read_neg tl pl most w ht hl h
  · obtain ⟨m, rfl⟩ : ∃ m : Nat, most = m := ⟨most.toNat, by omega⟩
    rw [Int.toNat_natCast]
    exact read_pos tl pl m w ht hl (by omega)

end Go.Proofs.Ytjlbbnjcdickgaa
