/- The walk of a tree: node, walked. -/
import Derived.Test.YtljcbibcdajhiaaTvB
import Derived.Deep.Cut
import Derived.Deep.CutRange
namespace Go.Proofs.Ytljcbibcdajhiaa
open Go.RowKit

theorem step_app {ops : Array Oper} {o : Oper} {a : Act} {w : World} {K : Act → World → Prop} {Q : Exit → Act → World → Prop} {E : Prop}
    (hg : o.guard = none) (s x : Operand) (t : TypeId) (hop : o.op = Op.call { callee := Callee.builtin Builtin.append, args := #[s, x], argTypes := #[t, t] }) (vs vx : Value) (hs : a.eval s = vs) (hx : a.eval x = vx) (v' : Value) (w' : World)
    (hrun : (Builtin.append_ #[t, t] o.type #[vs, vx]).run Try.prog w = .ok v' w') (hK : K (a.put o.dst v') w') :
    if Region.wanted o (yielded ops a.tmps) = true then Oper.wp Try.prog o a w K Q else E := by
  have hw : Region.wanted o (yielded ops a.tmps) = true := by simp [Region.wanted, hg]
  rw [if_pos hw]
  unfold Oper.wp
  simp [execOp, hop, resolve, invoke, builtin, hs, hx, hrun, Result.andThen]
  exact hK

set_option maxHeartbeats 16000000 in
theorem node_any (f : Nat) : NdAt f := by
  induction f with
  | zero => intro u T g v ns b w0 w h; exact h.elim
  | succ f IH =>
    rintro u ⟨k, e, t, nms, ks⟩ g v ns b w0 w ⟨x, n, c, rfl, l1, l2, l3, l4, hx⟩ hsm hB0 hg0 hW hnl hns hb0 hb1
    have EX : Hid (Ents w0 f x n nms ks) := At.ents hx
    have LL : Hid (nms.length = n ∧ ks.length = n) := ⟨l1, l2⟩
    have HSL : Hid (smL nms ks) := by unfold Hid; rw [smT] at hsm; exact hsm.2
    have htz : t.size ≤ 140737488351232 := by rw [smT] at hsm; omega
    have HNS : Hid (∀ s ∈ ns, s.size ≤ 1048576) := hns
    have HIH : Hid (NdAt f) := IH
    have HB0 : Hid (Below w0.heap.size w0 w) := hB0
    have hgw : g < w.heap.size := hW.lt
    have b1 : Below w.heap.size w (w.alloc (.cells #[.int .i64 k, .bool e, .string t, .slice x n c] 25)) := (Below.refl _ _).alloc (Nat.le_refl _) _
    have W1 : Wo (w.alloc (.cells #[.int .i64 k, .bool e, .string t, .slice x n c] 25)) g v ns b := hW.keep b1
    have N1 : NB (w.alloc (.cells #[.int .i64 k, .bool e, .string t, .slice x n c] 25)) w.heap.size k e t x n c := NB.new w k e t x n c
    have F1 : Hid (Fr g w (w.alloc (.cells #[.int .i64 k, .bool e, .string t, .slice x n c] 25))) := Fr.of_below b1 (Nat.le_of_lt hgw)
    have hz1 : w.heap.size < (w.alloc (.cells #[.int .i64 k, .bool e, .string t, .slice x n c] 25)).heap.size := by rw [World.size_alloc]; omega
    obtain ⟨xv, cv, rfl, K1, hxv⟩ := W1.wk
    have HW1 : Hid (Wo (w.alloc (.cells #[.int .i64 k, .bool e, .string t, .slice x n c] 25)) g (.slice xv ns.length cv) ns b) := W1
    have HK1 : Hid (Wk (w.alloc (.cells #[.int .i64 k, .bool e, .string t, .slice x n c] 25)) g xv cv ns b) := K1
    have HN1 : Hid (NB (w.alloc (.cells #[.int .i64 k, .bool e, .string t, .slice x n c] 25)) w.heap.size k e t x n c) := N1
    have y0 := W1.c0
    have y1 := N1.c0
    have y2 := N1.c1
    have y3 := N1.c2
    have y4 := N1.c3
    have hV : vT ns b (.mk k e t nms ks) = if 32 < 1 + ns.length then ⟨b, some (joinB ns, 61)⟩
      else if cfP k e t n ≠ 0 then ⟨b, some (joinB ns, cfP k e t n)⟩
      else if 1048576 < b + nbP k e t then ⟨b + nbP k e t, some (joinB ns, 2)⟩
      else vL ns (b + nbP k e t) none nms ks := by rw [vT, l1]
    generalize vT ns b (.mk k e t nms ks) = R at hV ⊢
    clear hW W1 N1 K1 b1 hx hsm IH hns hB0 l1 l2
    go_enter Try.func34, Try.ntmps34
    go_upto_region 1 with fail
    generalize hw1 : w.alloc (.cells #[.int .i64 k, .bool e, .string t, .slice x n c] 25) = w1 at *
    have Hw1 : Hid (w.alloc (.cells #[.int .i64 k, .bool e, .string t, .slice x n c] 25) = w1) := hw1
    clear hw1
    -- @1
    by_cases hd : 32 < 1 + ns.length
    · rw [if_pos hd] at hV
      have hdI : (32 : Int) < 1 + (ns.length : Int) := by omega
      have RB := refuse_bad joinC g xv cv ns b 61 w1 HK1.out (by decide) (by omega) HNS.out
      go_wp2_with fail
      refine RB.mono ?_
      rintro e5 w5 ⟨rfl, b5⟩
      have B5 : Hid (Below g w w5) := F1.out.below.trans (b5.mono (by omega))
      clear RB b5
      go_wp2
      refine ⟨rfl, ?_⟩
      exact NdR.bad (by rw [hV]) B5.out
    rw [if_neg hd] at hV
    have hdI : ¬ (32 : Int) < 1 + (ns.length : Int) := by omega
    have CF := checkFields_any k e t x n c w1
    unfold ndV at CF
    go_wp2_with fail
    refine CF.mono ?_
    rintro e5 w2 ⟨rfl, b2⟩
    have F2 : Hid (Fr g w w2) := F1.out.trans (Fr.of_below b2 (by omega))
    have HW2 : Hid (Wo w2 g (.slice xv ns.length cv) ns b) := HW1.out.keep b2
    have HN2 : Hid (NB w2 w.heap.size k e t x n c) := (b2.block _ hz1).trans HN1.out
    have HK2 : Hid (Wk w2 g xv cv ns b) := HK1.out.same (by omega) b2
    have hz2 : w.heap.size < w2.heap.size := Nat.lt_of_lt_of_le hz1 b2.size
    clear CF b2 HW1 HN1 HK1 F1 y0 y1 y2 y3 y4 Hw1 hz1
    have y0 := HW2.out.c0
    have y1 := HN2.out.c0
    have y2 := HN2.out.c1
    have y3 := HN2.out.c2
    have y4 := HN2.out.c3
    by_cases hc : cfP k e t n ≠ 0
    · rw [if_pos hc] at hV
      have RB := refuse_bad joinC g xv cv ns b (cfP k e t n) w2 HK2.out hc (by omega) HNS.out
      generalize cfP k e t n = CFV at *
      go_wp2_with fail
      refine RB.mono ?_
      rintro e5 w5 ⟨rfl, b5⟩
      have B5 : Hid (Below g w w5) := F2.out.below.trans (b5.mono (by omega))
      clear RB b5
      go_wp2
      refine ⟨rfl, ?_⟩
      exact NdR.bad (by rw [hV]) B5.out
    rw [if_neg hc] at hV
    have hc0 : cfP k e t n = 0 := by omega
    rw [hc0]
    clear hc hc0
    go_wp2_with fail
    refine (refuse_ok g w2).mono ?_
    rintro e5 w5 ⟨rfl, rfl⟩
    have NBC := nodeBytes_any k e t x n c w5 htz
    unfold ndV at NBC
    go_wp2_with fail
    refine NBC.mono ?_
    rintro e5 w3 ⟨rfl, b3⟩
    have F3 : Hid (Fr g w w3) := F2.out.trans (Fr.of_below b3 (by omega))
    have HW3 : Hid (Wo w3 g (.slice xv ns.length cv) ns b) := HW2.out.keep b3
    have HN3 : Hid (NB w3 w.heap.size k e t x n c) := (b3.block _ hz2).trans HN2.out
    have HK3 : Hid (Wk w3 g xv cv ns b) := HK2.out.same (by omega) b3
    have hz3 : w.heap.size < w3.heap.size := Nat.lt_of_lt_of_le hz2 b3.size
    clear NBC b3 HW2 HN2 HK2 F2 y0 y1 y2 y3 y4 hz2
    have hnb := nbP_bd k e t
    generalize nbP k e t = NBV at *
    by_cases hq : 1048576 < b + NBV
    · rw [if_pos hq] at hV
      have CB := count_bad joinC g xv cv ns b NBV w3 HK3.out hxv hq (by omega) (by omega) HNS.out g (Nat.le_refl _) (by omega)
      go_wp2_with fail
      refine CB.mono ?_
      rintro e5 w5 ⟨rfl, b5⟩
      have B5 : Hid (Below g w w5) := F3.out.below.trans b5
      clear CB b5
      go_wp2
      refine ⟨rfl, ?_⟩
      exact NdR.bad (by rw [hV]) B5.out
    rw [if_neg hq] at hV
    have CO := count_ok g xv cv ns b NBV w3 HK3.out (by omega) (by omega)
    go_wp2_with fail
    refine CO.mono ?_
    rintro e5 w4 ⟨rfl, rfl⟩
    have HW4 : Hid (Wo (w3.setCell ⟨g, 1, none⟩ (.int .i64 (b + NBV))) g (.slice xv ns.length cv) ns (b + NBV)) := HW3.out.back (HK3.out.put (b + NBV) hxv) ⟨rfl, rfl, rfl, by rw [World.size_setCell]; exact Nat.le_refl _, fun j _ hj => Below.heap_setCell _ _ _ j (fun e => hj (by rw [e]))⟩
    have F4 : Hid (Fr g w (w3.setCell ⟨g, 1, none⟩ (.int .i64 (b + NBV)))) := F3.out.setCell 1 _
    have HN4 : Hid (NB (w3.setCell ⟨g, 1, none⟩ (.int .i64 (b + NBV))) w.heap.size k e t x n c) := HN3.out.fr ((Fr.refl g w3).setCell 1 _) (by omega)
    clear CO HW3 F3 HN3 HK3
    generalize w3.setCell ⟨g, 1, none⟩ (.int .i64 (b + NBV)) = w4 at *
    have y4 := HN4.out.c3
    go_wp2
    clear y4
    -- @2
    have hbN : 0 ≤ b + NBV := by omega
    have hbM : b + NBV ≤ 1048576 := by omega
    generalize b + NBV = b1 at *
    clear hq hnb
    have HV : Hid (R = vL ns b1 none nms ks) := hV
    clear hV
    go_loopw [4, 25] (fun _ ix wr => ∃ (i : Nat) (bi : Int) (v : Value) (prev : Option ByteArray), i ≤ n ∧ ix = .int .i64 i ∧ 0 ≤ bi ∧ bi ≤ 1048576 ∧ Hid (Wo wr g v ns bi) ∧ Hid (Fr g w wr) ∧ Hid (NB wr w.heap.size k e t x n c) ∧ Hid (R = vL ns bi prev (nms.drop i) (ks.drop i)) ∧ Hid ((i = 0 ∧ prev = none) ∨ ∃ s', 0 < i ∧ prev = some s' ∧ nms[i - 1]? = some s')) (fun _ i _ => n - (intOf i).toNat)
    case atStart => exact ⟨0, b1, _, none, Nat.zero_le _, rfl, hbN, hbM, HW4, F4, HN4, HV, Or.inl ⟨rfl, rfl⟩⟩
    case round =>
      obtain ⟨i, bi, v, prev, hi, rfl, hbi0, hbi1, hW, hF, hN, hV, hP⟩ := hrel
      clear HW4 F4 HN4 HV
      by_cases hlt : i < n
      · obtain ⟨l1, l2⟩ := LL.out
        obtain ⟨s, hs⟩ : ∃ s, nms[i]? = some s := ⟨_, List.getElem?_eq_getElem (by omega)⟩
        obtain ⟨S, hS⟩ : ∃ s, ks[i]? = some s := ⟨_, List.getElem?_eq_getElem (by omega)⟩
        have hBr : Hid (Below w0.heap.size w0 wr) := HB0.out.trans (hF.out.below.mono hg0)
        obtain ⟨q, o, a, b', d, fx, p, q', rfl, hgq, d0, d1, d2, d3, d4, hA⟩ := EX.out i s S hlt hs hS
        have c0 : wr.cell? ⟨q, o + i * 5, none⟩ = some (.string s) := (hBr.out.cell (p := ⟨q, o + i * 5, none⟩) hgq).trans d0
        have c1 : wr.cell? ⟨q, o + i * 5 + 1, none⟩ = some (.int .i64 a) := (hBr.out.cell (p := ⟨q, o + i * 5 + 1, none⟩) hgq).trans d1
        have HA : Hid (At w0 f (.agg #[.int .i64 a, .bool b', .string d, .slice fx p q']) S) := hA
        have hqg : q < g := by omega
        obtain ⟨hsz, hST⟩ := smL_at nms ks i s S HSL.out hs hS
        have HST : Hid (smT S) := hST
        have VV := vL_at ns bi prev nms ks i s S hs hS
        rw [← hV.out] at VV
        obtain ⟨s', hP1, hP2⟩ : ∃ s', entO prev s bi = entC (i + 1) s' s bi ∧ Hid (1 < i + 1 → w0.cell? ⟨q, o + (i + 1 - 2) * 5, none⟩ = some (.string s')) := by
          rcases hP.out with ⟨rfl, rfl⟩ | ⟨s', h0, rfl, hs'⟩
          · exact ⟨s, rfl, fun h => absurd h (by decide)⟩
          · refine ⟨s', ?_, fun _ => ?_⟩
            · show entC 2 s' s bi = entC (i + 1) s' s bi
              unfold entC
              simp [h0]
            · obtain ⟨S', hS'⟩ : ∃ s, ks[i - 1]? = some s := ⟨_, List.getElem?_eq_getElem (by omega)⟩
              obtain ⟨q9, o9, _, _, _, _, _, _, e9, _, d9, _⟩ := EX.out (i - 1) s' S' (by omega) hs' hS'
              injection e9 with e9
              injection e9 with e9 e8
              subst e9 e8
              have e7 : i + 1 - 2 = i - 1 := by omega
              rw [e7]
              exact d9
        rw [hP1] at VV
        have HVV : Hid (R = if entC (i + 1) s' s bi ≠ 0 then ⟨bi, some (joinB (ns ++ [s]), entC (i + 1) s' s bi)⟩
            else match (vT (ns ++ [s]) (bi + ebP s) S).off with
              | none => vL ns (vT (ns ++ [s]) (bi + ebP s) S).bytes (some s) (nms.drop (i + 1)) (ks.drop (i + 1))
              | some o => ⟨(vT (ns ++ [s]) (bi + ebP s) S).bytes, some o⟩) := VV
        have HS9 : Hid (nms[i]? = some s) := hs
        have HD : Hid (w0.cell? ⟨q, o + i * 5, none⟩ = some (.string s) ∧ w0.cell? ⟨q, o + i * 5 + 1, none⟩ = some (.int .i64 a) ∧ w0.cell? ⟨q, o + i * 5 + 2, none⟩ = some (.bool b') ∧ w0.cell? ⟨q, o + i * 5 + 3, none⟩ = some (.string d) ∧ w0.cell? ⟨q, o + i * 5 + 4, none⟩ = some (.slice fx p q')) := ⟨d0, d1, d2, d3, d4⟩
        clear VV hV hP hP1 hA hST hs hS d0 d1 d2 d3 d4 l1 l2 c1
        obtain ⟨qn, cn, wn, hap, e0, ef, hcap, WN, FN⟩ := hW.out.push s (by omega)
        have HWN : Hid (Wo (wn.setCell ⟨g, 0, none⟩ (.slice (some ⟨qn, 0, none⟩) (ns.length + 1) cn)) g (.slice (some ⟨qn, 0, none⟩) (ns.length + 1) cn) (ns ++ [s]) bi) := WN
        have HFN : Hid (Fr g w (wn.setCell ⟨g, 0, none⟩ (.slice (some ⟨qn, 0, none⟩) (ns.length + 1) cn))) := hF.out.trans FN
        have HNN : Hid (NB (wn.setCell ⟨g, 0, none⟩ (.slice (some ⟨qn, 0, none⟩) (ns.length + 1) cn)) w.heap.size k e t (some ⟨q, o, none⟩) n c) := hN.out.fr FN (by omega)
        have y0 := hW.out.c0
        have y4 := hN.out.c3
        obtain ⟨xv', cv', rfl, -, -⟩ := hW.out.wk
        clear WN FN hcap
        have hgr : g < wr.heap.size := hW.out.lt
        have hgr1 : g ≠ wr.heap.size := by omega
        have hgr2 : wr.heap.size ≠ g := by omega
        have yA : (wr.alloc (.cells #[.string s] 9)).cell? ⟨g, 0, none⟩ = some (.slice xv' ns.length cv') := (World.cell?_of_block (w := wr) (a := ⟨g, 0, none⟩) (Below.heap_alloc wr _ g hgr)).trans y0
        go_upto_region 8 with fail
        -- @3
        go_cut [25] from 25 to 72 (fun v25 wx => v25 = .int .i64 i ∧ wx = wn.setCell ⟨g, 0, none⟩ (.slice (some ⟨qn, 0, none⟩) (ns.length + 1) cn))
        case first =>
          go_region_law (refine step_app rfl (.tmp 32) (.tmp 39) 34 rfl (.slice xv' ns.length cv') (.slice (some ⟨wr.heap.size, 0, none⟩) 1 1) rfl rfl (.slice (some ⟨qn, 0, none⟩) (ns.length + 1) cn) wn hap ?_)
          all_goals (try go_wp2_with fail)
          all_goals go_meet
          all_goals exact ⟨rfl, rfl⟩
        case rest =>
          obtain ⟨rfl, rfl⟩ := hcut
          clear hap e0 ef yA y0 y4 hgr hgr1 hgr2 hW hF hN c0 hBr
          generalize wn.setCell ⟨g, 0, none⟩ (.slice (some ⟨qn, 0, none⟩) (ns.length + 1) cn) = wN at HWN HFN HNN ⊢
          have hBN : Hid (Below w0.heap.size w0 wN) := HB0.out.trans (HFN.out.below.mono hg0)
          have y4 := HNN.out.c3
          obtain ⟨xN, cN, eN, KN, hxN⟩ := HWN.out.wk
          have g9 : (ns ++ [s]).length = ns.length + 1 := by rw [List.length_append]; rfl
          rw [g9] at eN
          injection eN with eN1 _ eN3
          subst eN1 eN3
          have HKN : Hid (Wk wN g (some ⟨qn, 0, none⟩) cn (ns ++ [s]) bi) := KN
          have hNS : Hid (∀ s_1 ∈ ns ++ [s], s_1.size ≤ 1048576) := fun z hz => by
            rcases List.mem_append.1 hz with hz | hz
            · exact HNS.out z hz
            · simp at hz; subst hz; exact hsz
          have k0 : wN.cell? ⟨q, o + (i + 1 - 1) * 5, none⟩ = some (.string s) := by rw [Nat.add_sub_cancel]; exact (hBN.out.cell (p := ⟨q, o + i * 5, none⟩) hgq).trans HD.out.1
          have k1 : 1 < i + 1 → wN.cell? ⟨q, o + (i + 1 - 2) * 5, none⟩ = some (.string s') := fun h => (hBN.out.cell (p := ⟨q, o + (i + 1 - 2) * 5, none⟩) hgq).trans (hP2.out h)
          have hqN : q < wN.heap.size := Nat.lt_of_lt_of_le hgq hBN.out.size
          clear KN
          by_cases hC : entC (i + 1) s' s bi ≠ 0
          · have hv := HVV.out
            rw [if_pos hC] at hv
            have HV : Hid (R.off = some (joinB (ns ++ [s]), entC (i + 1) s' s bi)) := by unfold Hid; rw [hv]
            have EB := entry_bad g (some ⟨qn, 0, none⟩) cn (ns ++ [s]) bi q o (i + 1) c s' s wN HKN.out hxN (by omega) (by omega) hqN hbi0 hbi1 k0 k1 hsz (by rw [g9]; omega) hNS.out hC
            clear hv k0 k1 HVV
            generalize entC (i + 1) s' s bi = EC at *
            go_wp2_with fail
            refine EB.mono ?_
            rintro e5 w5 ⟨rfl, b5⟩
            have B5 : Hid (Below g w w5) := HFN.out.below.trans (b5.mono (by have := HWN.out.lt; omega))
            clear EB b5
            go_wp2
            refine ⟨rfl, ?_⟩
            exact NdR.bad HV.out B5.out
          · have hC0 : entC (i + 1) s' s bi = 0 := by omega
            have hv := HVV.out
            rw [if_neg hC] at hv
            obtain ⟨h1, h2, h3⟩ := entC_ok hC0
            have HV : Hid (R = match (vT (ns ++ [s]) (bi + ebP s) S).off with
              | none => vL ns (vT (ns ++ [s]) (bi + ebP s) S).bytes (some s) (nms.drop (i + 1)) (ks.drop (i + 1))
              | some o => ⟨(vT (ns ++ [s]) (bi + ebP s) S).bytes, some o⟩) := hv
            have EF := entry_fine g (some ⟨qn, 0, none⟩) cn (ns ++ [s]) bi q o (i + 1) c s' s wN HKN.out hxN (by omega) (by omega) hqN hbi0 hbi1 k0 k1 (by omega) h1 h2 h3
            have heb := ebP_bd s
            clear hv k0 k1 HVV hC hC0 h1 h2 hP2
            go_wp2_with fail
            refine EF.mono ?_
            rintro e5 w5 ⟨rfl, K5, G5⟩
            have HW5 : Hid (Wo w5 g (.slice (some ⟨qn, 0, none⟩) (ns.length + 1) cn) (ns ++ [s]) (bi + ebP s)) := by
              have h7 : Wo wN g (.slice (some ⟨qn, 0, none⟩) (ns ++ [s]).length cn) (ns ++ [s]) bi := by rw [g9]; exact HWN.out
              have h8 := h7.back K5 G5
              rw [g9] at h8
              exact h8
            have HF5 : Hid (Fr g w w5) := HFN.out.trans (Fr.of_grown G5 (Nat.le_of_lt HWN.out.lt))
            have HN5 : Hid (NB w5 w.heap.size k e t (some ⟨q, o, none⟩) n c) := HNN.out.fr (Fr.of_grown G5 (Nat.le_of_lt HWN.out.lt)) (by omega)
            clear K5 G5 EF HWN HFN HNN HKN hBN hxN y4 hqN
            have hB5 : Hid (Below w0.heap.size w0 w5) := HB0.out.trans (HF5.out.below.mono hg0)
            have y4 := HN5.out.c3
            have k1 : w5.cell? ⟨q, o + i * 5 + 1, none⟩ = some (.int .i64 a) := (hB5.out.cell (p := ⟨q, o + i * 5 + 1, none⟩) hgq).trans HD.out.2.1
            have k2 : w5.cell? ⟨q, o + i * 5 + 2, none⟩ = some (.bool b') := (hB5.out.cell (p := ⟨q, o + i * 5 + 2, none⟩) hgq).trans HD.out.2.2.1
            have k3 : w5.cell? ⟨q, o + i * 5 + 3, none⟩ = some (.string d) := (hB5.out.cell (p := ⟨q, o + i * 5 + 3, none⟩) hgq).trans HD.out.2.2.2.1
            have k4 : w5.cell? ⟨q, o + i * 5 + 4, none⟩ = some (.slice fx p q') := (hB5.out.cell (p := ⟨q, o + i * 5 + 4, none⟩) hgq).trans HD.out.2.2.2.2
            have NC := HIH.out _ S g _ (ns ++ [s]) (bi + ebP s) w0 w5 HA.out HST.out hB5.out hg0 HW5.out (by rw [g9]; omega) hNS.out (by omega) (by omega)
            have hbd := vT_bd (ns ++ [s]) (bi + ebP s) S
            go_wp2_with fail
            -- @4
            refine NC.mono ?_
            rintro e6 w6 h6
            clear NC k1 k2 k3 k4
            unfold NdR at h6
            cases hX : (vT (ns ++ [s]) (bi + ebP s) S).off with
            | some oo =>
              have hv := HV.out
              rw [hX] at h6 hv
              obtain ⟨rfl, b6⟩ := h6
              have B6 : Hid (Below g w w6) := HF5.out.below.trans b6
              have HO : Hid (R.off = some (oo.1, oo.2)) := by unfold Hid; rw [hv]
              clear b6 hv HV hX hbd
              go_wp2
              refine ⟨rfl, ?_⟩
              exact NdR.bad HO.out B6.out
            | none =>
              have hv := HV.out
              rw [hX] at h6 hv
              obtain ⟨rfl, ⟨v6, W6⟩, F6⟩ := h6
              obtain ⟨hbd0, hbd1⟩ := hbd hX (by omega) (by omega)
              have HV6 : Hid (R = vL ns (vT (ns ++ [s]) (bi + ebP s) S).bytes (some s) (nms.drop (i + 1)) (ks.drop (i + 1))) := hv
              obtain ⟨q6, c6, rfl, -, -⟩ := World.ownsRow.form W6.own (by rw [g9]; omega)
              rw [g9] at W6
              have HW6 : Hid (Wo w6 g (.slice (some ⟨q6, 0, none⟩) (ns.length + 1) c6) (ns ++ [s]) (vT (ns ++ [s]) (bi + ebP s) S).bytes) := W6
              have HF6 : Hid (Fr g w w6) := HF5.out.trans F6
              have HN6 : Hid (NB w6 w.heap.size k e t (some ⟨q, o, none⟩) n c) := HN5.out.fr F6 (by omega)
              generalize (vT (ns ++ [s]) (bi + ebP s) S).bytes = b6 at *
              have hcap6 : ns.length + 1 ≤ c6 := by
                rcases W6.own.2 with ⟨e7, _⟩ | ⟨_, cap', _, e7, _, _, hn7, _⟩
                · cases e7
                · injection e7 with _ _ e7; subst e7; rw [g9] at hn7; exact hn7
              have y0 := W6.c0
              have yf := W6.f0
              clear W6 F6 HV hv HF5 HN5 HW5 hB5 hX
              have hcapI : (ns.length : Int) ≤ (c6 : Int) := by omega
              have hw1 : IntKind.i64.wrap ((ns.length : Int) + 1 - 1) = (ns.length : Int) := by rw [IntKind.wrap_i64]; omega
              have HW7 : Hid (Wo (w6.setCell ⟨g, 0, none⟩ (.slice (some ⟨q6, 0, none⟩) ns.length c6)) g (.slice (some ⟨q6, 0, none⟩) ns.length c6) ns b6) := HW6.out.pop
              have HF7 : Hid (Fr g w (w6.setCell ⟨g, 0, none⟩ (.slice (some ⟨q6, 0, none⟩) ns.length c6))) := HF6.out.setCell 0 _
              have HN7 : Hid (NB (w6.setCell ⟨g, 0, none⟩ (.slice (some ⟨q6, 0, none⟩) ns.length c6)) w.heap.size k e t (some ⟨q, o, none⟩) n c) := HN6.out.fr ((Fr.refl g w6).setCell 0 _) (by omega)
              clear HW6 HF6 HN6
              go_upto_region 11 with fail
              go_region
              all_goals go_wp2
              all_goals exact ⟨⟨i + 1, b6, _, some s, by omega, by go_num, hbd0, hbd1, ⟨HW7.out.c0, HW7.out.c1, HW7.out.f0, HW7.out.f1, HW7.out.own.drew⟩, HF7.out.drew, HN7.out, HV6, Or.inr ⟨s, by omega, rfl, by rw [Nat.add_sub_cancel]; exact HS9.out⟩⟩, by simp [intOf]; omega⟩
      · obtain rfl : i = n := by omega
        obtain ⟨l1, l2⟩ := LL.out
        have hv := hV.out
        rw [List.drop_of_length_le (by omega), vL_end] at hv
        have HV : Hid (R.off = none ∧ R.bytes = bi) := by unfold Hid; rw [hv]; exact ⟨rfl, rfl⟩
        clear hv l1 l2
        go_wp2
        go_end0
        exact NdR.fine HV.out.1 (by rw [HV.out.2]; exact hW.out) hF.out

end Go.Proofs.Ytljcbibcdajhiaa
