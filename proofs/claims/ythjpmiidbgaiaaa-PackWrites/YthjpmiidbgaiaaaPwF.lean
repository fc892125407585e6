/- The document's Pack, walked (for PackWrites). -/
import Derived.Test.YthjpmiidbgaiaaaPwE
namespace Go.Proofs.Ythjpmiidbgaiaaa
open Go.RowKit Go.Maps

theorem cvI_none : cvI none = -1 := rfl
theorem cvI_some (c : Nat) : cvI (some c) = (c : Int) := rfl

/-- What is true ahead of each place. -/
structure RPL (w0 w1 wr : World) (s : List UInt8) (gk i p : Nat) (out : List UInt8) (v : Value) : Prop where
  fu : gk + i = s.length
  own : BB wr w1.heap.size v out
  be : Below w1.heap.size w1 wr
  eq : out ++ pkGo s gk i p = pk s
  pi : p ≤ i
  ln : out.length ≤ 8 + 2 * p
theorem RPL.drewN {w0 w1 wr : World} {s : List UInt8} {gk i p : Nat} {out : List UInt8} {v : Value} (h : RPL w0 w1 wr s gk i p out v) (q : Nat) : RPL w0 w1 (wr.drewN q) s gk i p out v :=
  ⟨h.fu, Buf.same h.own (Nat.le_refl _) (fun _ _ => rfl), bel_drewN h.be q, h.eq, h.pi, h.ln⟩

theorem rpk_big (s : ByteArray) (w : World) (h : 1048576 < s.size) (h2 : s.size ≤ 9223372036854775807) :
    Calls Try.prog 11 #[.string s] w fun e w' => e = .returned (.tuple #[.string ⟨#[]⟩, .int .i64 2]) ∧ w' = w := by
  go_enter Try.func11, Try.ntmps11
  go_wp2
  go_ret2
  exact ⟨rfl, rfl⟩

set_option maxHeartbeats 16000000 in
set_option maxRecDepth 10000 in
theorem rpack_any (s : List UInt8) (w : World) (hs : s.length ≤ 1048576) :
    Calls Try.prog 11 #[.string (ba s)] w fun e w' => e = .returned (.tuple #[.string (ba (pk s)), .int .i64 0]) ∧ Below w.heap.size w w' := by
  have hsz := ba_size s
  have hgt : ∀ (n : Nat) (h : n < (ba s).size), (((ba s)[n]'h).toNat : Int) = bt (ba s) n := get_bt (ba s)
  have hBT : Hid (∀ i, i < s.length → bt (ba s) i = ((s.getD i 0).toNat : Int)) := bt_get s
  go_enter Try.func11, Try.ntmps11
  go_wp2_with fail
  refine (chains_any s w hs).mono ?_
  rintro e w1 ⟨⟨P, hP1, rfl, hR, hP2⟩, B1⟩
  have HR1 : Hid (Row .i64 w1 P s.length (fun j => if j + 1 < s.length then pvF s j else 0)) := hR
  have HB1 : Hid (Below w.heap.size w w1) := B1
  have HP2 : Hid (P < w1.heap.size) := hP2
  clear hR B1 hP1 hP2
  go_wp2_with fail
  refine (rint_any (s.length : Int) _ (by omega) (by omega)).mono ?_
  rintro e w2 ⟨rfl, B2⟩
  rw [le8_eq]
  obtain ⟨c0, w3, hcv, hO, B3⟩ := BB.conv w2 (lek 8 s.length) w1.heap.size B2.size (by rw [lek_len]; omega)
  rw [lek_len] at hcv hO
  have B13 : Below w1.heap.size w1 w3 := B2.trans ⟨B3.os, B3.tape, B3.output, B3.size, fun k hk => B3.block k (Nat.lt_of_lt_of_le hk B2.size)⟩
  have HI : Hid (RPL w w1 w3 s s.length 0 0 (lek 8 s.length) (.slice (some ⟨w2.heap.size, 0, none⟩) 8 c0)) := ⟨rfl, hO, B13, rfl, Nat.le_refl _, by rw [lek_len]; omega⟩
  generalize w2.heap.size = G0 at hcv HI
  clear hO B2 B3 B13
  go_wp2_with (rw [hcv])
  -- @1
  go_loopg [5, 6, 7] s.length (fun gk ov fv iv wr => ∃ (i p : Nat) (out : List UInt8) (q : Option Addr) (c : Nat), ov = .slice q out.length c ∧ fv = .int .i64 (p : Int) ∧ iv = .int .i64 (i : Int) ∧ Hid (RPL w w1 wr s gk i p out (.slice q out.length c)))
  case atStart => exact ⟨0, 0, lek 8 s.length, some ⟨G0, 0, none⟩, c0, by rw [lek_len], rfl, rfl, by rw [lek_len]; exact HI⟩
  case round =>
    obtain ⟨i, p, out, q, c, rfl, rfl, rfl, hL⟩ := hrel
    clear HI hcv
    have hfu := hL.out.fu
    have hpi := hL.out.pi
    have hln := hL.out.ln
    by_cases h4 : i + 4 ≤ s.length
    · have h4' : (i : Int) + 4 ≤ (s.length : Int) := by omega
      have hRw : Row .i64 wr P s.length (fun j => if j + 1 < s.length then pvF s j else 0) := HR1.out.below hL.out.be HP2.out
      have z0 : wr.cell? ⟨P, i, none⟩ = some (.int .i64 (cvI (prv s i))) := by
        rw [hRw.cell i (by omega), if_pos (by omega), pvF_cv]
      have HSF : Hid (srch s i i (prv s i) = findB s i) := srch_find s i h4
      have HO : Hid (∀ c, prv s i = some c → c < i) := fun c hc => (prv_some hc).1
      clear hRw
      generalize prv s i = o0 at z0 HSF HO
      go_wp2_with fail
      -- @2
      have HL : Hid (RPL w w1 wr s gk i p out (.slice q out.length c)) := hL
      have hib : i ≤ 1048576 := by omega
      clear z0 hL
      obtain ⟨ko, rfl⟩ : ∃ ko : Nat, ko = gk := ⟨_, rfl⟩
      go_loopg [8] i (fun gk cv wr2 => ∃ o : Option Nat, cv = .int .i64 (cvI o) ∧ Hid (srch s i gk o = findB s i ∧ ∀ c, o = some c → c < gk ∧ c < i) ∧ Hid (RPL w w1 wr2 s ko i p out (.slice q out.length c)))
      case atStart => exact ⟨o0, rfl, ⟨HSF.out, fun c hc => ⟨HO.out c hc, HO.out c hc⟩⟩, HL⟩
      case round =>
        obtain ⟨o, rfl, hS, hL⟩ := hrel
        clear HL HSF HO
        have NX : findB s i = none → ∀ wz : World, RPL w w1 wz s ko i p out (.slice q out.length c) → Hid (RPL w w1 wz s (ko - 1) (i + 1) p out (.slice q out.length c)) := fun hb wz h => by
          refine ⟨by omega, h.own, h.be, ?_, by omega, h.ln⟩
          have := h.eq
          rw [show ko = ko - 1 + 1 by omega, pkGo_none s _ i p (by omega) hb] at this
          exact this
        cases o with
        | none =>
          have HF := NX (by rw [← hS.out.1]; cases gk <;> rfl) _ hL.out
          clear hS hL NX
          rw [cvI_none]
          go_wp2
          -- @4
          go_roundg (ko - 1)
          case measure => omega
          case rel => exact ⟨i + 1, p, out, q, c, rfl, rfl, by go_num, HF⟩
        | some cc =>
          have hcc := hS.out.2 cc rfl
          obtain ⟨gm, rfl⟩ : ∃ gm, gk = gm + 1 := ⟨gk - 1, by omega⟩
          have hsr : (if 65536 < i - cc then none else if fourAt s cc = fourAt s i then some cc else srch s i gm (prv s cc)) = findB s i := hS.out.1
          by_cases hfar : 65536 < i - cc
          · rw [if_pos hfar] at hsr
            have HF := NX hsr.symm _ hL.out
            have hf1 : ¬ (i : Int) - (cc : Int) ≤ 65536 := by omega
            have hf2 : (i : Int) - (cc : Int) > 65536 := by omega
            clear hS hL NX hsr
            rw [cvI_some]
            go_wp2
            -- @5
            go_roundg (ko - 1)
            case measure => omega
            case rel => exact ⟨i + 1, p, out, q, c, rfl, rfl, by go_num, HF⟩
          · rw [if_neg hfar] at hsr
            have hf1 : (i : Int) - (cc : Int) ≤ 65536 := by omega
            have FA := fun w => rfour_any s cc i w hs (by omega) h4
            by_cases hq4 : fourAt s cc = fourAt s i
            · rw [if_pos hq4] at hsr
              rw [decide_eq_true hq4] at FA
              have hb : findB s i = some cc := hsr.symm
              have hfin := findB_some hb
              have HMI : Hid (∀ k, k ≤ min 131 (s.length - i) → (∀ j, j < k → s.getD (cc + j) 0 = s.getD (i + j) 0) → (k < min 131 (s.length - i) → s.getD (cc + k) 0 ≠ s.getD (i + k) 0) → mch s cc i (min 131 (s.length - i)) 0 = k) := fun k => mch_is s cc i _ k
              have HNX : Hid (out ++ plT (s.length + 1) (cutL s p i) ++ bkT (i - cc) (mch s cc i (min 131 (s.length - i)) 0) ++ pkGo s (ko - mch s cc i (min 131 (s.length - i)) 0) (i + mch s cc i (min 131 (s.length - i)) 0) (i + mch s cc i (min 131 (s.length - i)) 0) = pk s) := by
                have hmm := (mch_le s cc i (min 131 (s.length - i)) 0).2
                have := hL.out.eq
                rw [show ko = ko - 1 + 1 by omega, pkGo_some s _ i p cc (by omega) hb, pkGo_fuel s (ko - 1) (ko - mch s cc i (min 131 (s.length - i)) 0) _ _ (by omega) (by omega)] at this
                unfold Hid
                rw [← this]
                simp
              have H4 : Hid (∀ j, j < 4 → s.getD (cc + j) 0 = s.getD (i + j) 0) := by
                intro j hj
                unfold fourAt at hq4
                injection hq4 with e0 hq4
                injection hq4 with e1 hq4
                injection hq4 with e2 hq4
                injection hq4 with e3 hq4
                match j, hj with
                | 0, _ => exact e0
                | 1, _ => exact e1
                | 2, _ => exact e2
                | 3, _ => exact e3
              obtain ⟨M, hM⟩ : ∃ M, min 131 (s.length - i) = M := ⟨_, rfl⟩
              rw [hM] at HMI HNX
              have hM1 : 4 ≤ M := by omega
              have hM2 : M ≤ 131 := by omega
              have HM : Hid (min 131 (s.length - i) = M) := hM
              have hM3 : i + M ≤ s.length := by omega
              have hci : cc < i := hcc.2
              clear hM hb hfin hsr hq4 hS NX hfar hcc
              rw [cvI_some]
              go_wp2_with fail
              refine (FA _).mono ?_
              rintro e w4 ⟨rfl, qq, rfl⟩
              clear FA
              have HL4 : Hid (RPL w w1 (wr.drewN qq) s ko i p out (.slice q out.length c)) := hL.out.drewN qq
              generalize wr.drewN qq = w4 at HL4 ⊢
              clear hL
              go_wp2_with fail
              -- @8
              go_loopg [9] (M - 4) (fun gk nv wr => ∃ n : Nat, Hid ((gk + n = M ∧ 4 ≤ n) ∧ ∀ j, j < n → s.getD (cc + j) 0 = s.getD (i + j) 0) ∧ nv = .int .i64 (n : Int) ∧ Hid (RPL w w1 wr s ko i p out (.slice q out.length c)))
              case atStart => exact ⟨4, ⟨by omega, H4.out⟩, rfl, HL4⟩
              case round =>
                obtain ⟨n, hE, rfl, hL⟩ := hrel
                clear HL4 H4
                have hnM : n ≤ M := by have := hE.out.1; omega
                by_cases hcont : n < M ∧ s.getD (cc + n) 0 = s.getD (i + n) 0
                · obtain ⟨hn, he⟩ := hcont
                  have x1 := hBT.out (cc + n) (by omega)
                  have x2 := hBT.out (i + n) (by omega)
                  have HE2 : Hid ((gk - 1 + (n + 1) = M ∧ 4 ≤ n + 1) ∧ ∀ j, j < n + 1 → s.getD (cc + j) 0 = s.getD (i + j) 0) := ⟨by have := hE.out.1; omega, fun j hj => by
                    by_cases e : j = n
                    · rw [e]; exact he
                    · exact hE.out.2 j (by omega)⟩
                  have hgk1 : gk - 1 < gk := by have := hE.out.1; omega
                  rw [he] at x1
                  generalize s.getD (i + n) 0 = B0 at x1 x2
                  clear he
                  have hn1 : (n : Int) < 131 := by omega
                  have hn2 : (i : Int) + (n : Int) < (s.length : Int) := by omega
                  go_wp2_with fail
                  go_quiet (fail)
                  have HL5 : Hid (RPL w w1 (wr.drewN nq) s ko i p out (.slice q out.length c)) := hL.out.drewN nq
                  generalize wr.drewN nq = w9 at HL5 ⊢
                  go_wp2
                  go_roundg (gk - 1)
                  case measure => exact hgk1
                  case rel => exact ⟨n + 1, HE2, by go_num, HL5⟩
                · have HK : Hid (mch s cc i M 0 = n) := HMI.out n hnM hE.out.2 (fun h he => hcont ⟨h, he⟩)
                  rw [HK.out] at HNX
                  have hcut : (ba s).extract p i = ba (cutL s p i) := ba_cut s p i hpi (by omega)
                  have hpl := plT_length (s.length + 1) (cutL s p i)
                  rw [cutL_length s p i (by omega)] at hpl
                  have hn4 : 4 ≤ n := hE.out.1.2
                  have hni : i + n ≤ s.length := by omega
                  have hn131 : n ≤ 131 := by omega
                  have hcase : (¬ (n : Int) < 131) ∨ ((n : Int) < 131 ∧ ¬ (i : Int) + (n : Int) < (s.length : Int)) ∨ ((n : Int) < 131 ∧ (i : Int) + (n : Int) < (s.length : Int) ∧ s.getD (cc + n) 0 ≠ s.getD (i + n) 0) := by
                    by_cases h1 : (n : Int) < 131
                    · by_cases h2 : (i : Int) + (n : Int) < (s.length : Int)
                      · exact .inr (.inr ⟨h1, h2, fun he => hcont ⟨by have := HM.out; omega, he⟩⟩)
                      · exact .inr (.inl ⟨h1, h2⟩)
                    · exact .inl h1
                  have hB : Hid (bkT (i - cc) n = [UInt8.ofNat (124 + n), UInt8.ofNat ((i - cc - 1) % 256), UInt8.ofNat ((i - cc - 1) / 256)]) := rfl
                  rw [hB.out] at HNX
                  have e1 : IntKind.u8.wrap (124 + (n : Int)) = ((UInt8.ofNat (124 + n)).toNat : Int) := u8wrap _ _ (by omega)
                  have e2 : IntKind.u8.wrap (((i : Int) - (cc : Int) - 1) % 256) = ((UInt8.ofNat ((i - cc - 1) % 256)).toNat : Int) := u8wrap _ _ (by omega)
                  have e3 : IntKind.u8.wrap (((i : Int) - (cc : Int) - 1) / 256) = ((UInt8.ofNat ((i - cc - 1) / 256)).toNat : Int) := u8wrap _ _ (by omega)
                  have e2t : IntKind.u8.wrap (((i : Int) - (cc : Int) - 1).tmod 256) = ((UInt8.ofNat ((i - cc - 1) % 256)).toNat : Int) := by rw [Int.tmod_eq_emod_of_nonneg (by omega)]; exact e2
                  have e3t : IntKind.u8.wrap (((i : Int) - (cc : Int) - 1).tdiv 256) = ((UInt8.ofNat ((i - cc - 1) / 256)).toNat : Int) := by rw [Int.tdiv_eq_ediv_of_nonneg (by omega)]; exact e3
                  generalize UInt8.ofNat (124 + n) = y1 at e1 HNX
                  generalize UInt8.ofNat ((i - cc - 1) % 256) = y2 at e2 e2t HNX
                  generalize UInt8.ofNat ((i - cc - 1) / 256) = y3 at e3 e3t HNX
                  clear hB HMI HK hE hcont HM
                  rcases hcase with hn1 | ⟨hn1, hn2⟩ | ⟨hn1, hn2, he⟩
                  · have d1 : decide ((n : Int) < 131) = false := by simp only [decide_eq_false_iff_not]; omega
                    have d2 : decide (n < 131) = false := by simp only [decide_eq_false_iff_not]; omega
                    have d3 : ¬ n < 131 := by omega
                    go_wp2_with fail
                    go_quiet (fail)
                    have HL5 : Hid (RPL w w1 (wr.drewN nq) s ko i p out (.slice q out.length c)) := hL.out.drewN nq
                    generalize wr.drewN nq = w9 at HL5 ⊢
                    clear hL
                    go_wp2_with fail
                    try rw [hcut]
                    refine (rplain_any (cutL s p i) w9 (by rw [cutL_length s p i (by omega)]; omega)).mono ?_
                    rintro e w5 ⟨⟨p5, c5, rfl, O5⟩, B5⟩
                    rw [plT_cut] at O5 ⊢
                    obtain ⟨p1, c1, w6, hr1, O6, g6⟩ := row_row (Buf.below HL5.out.own B5 (Nat.le_refl _)) O5 (Nat.le_trans HL5.out.be.size B5.size) (by omega)
                    have B6 : Below w1.heap.size w1 w6 := (HL5.out.be.trans ⟨B5.os, B5.tape, B5.output, B5.size, fun k hk => B5.block k (Nat.lt_of_lt_of_le hk HL5.out.be.size)⟩).grown g6 (Nat.le_trans HL5.out.be.size B5.size) (fun k hk => (Buf.lt HL5.out.own k hk).1)
                    obtain ⟨p2, c2, w7, hr2, O7, g7⟩ := row_three O6 B6.size y1 y2 y3 (by rw [List.length_append]; omega)
                    have B7 : Below w1.heap.size w1 w7 := B6.grown g7 B6.size (fun k hk => (Buf.lt O6 k hk).1)
                    have HF : Hid (RPL w w1 w7 s (ko - n) (i + n) (i + n) (out ++ plT (s.length + 1) (cutL s p i) ++ [y1, y2, y3]) (.slice p2 (out ++ plT (s.length + 1) (cutL s p i) ++ [y1, y2, y3]).length c2)) := ⟨by omega, O7, B7, HNX.out, Nat.le_refl _, by rw [List.length_append, List.length_append]; show out.length + _ + 3 ≤ _; omega⟩
                    clear O5 B5 O6 g6 B6 O7 g7 B7 HL5
                    generalize (out ++ plT (s.length + 1) (cutL s p i)).length = L6 at hr1 hr2
                    generalize (plT (s.length + 1) (cutL s p i)).length = L5 at hr1
                    go_wp2_with (first | (refine wpList_appB_is' (by rfl) (.tmp 83) (.tmp 88) (by rfl) _ _ _ _ (by rfl) (by rfl) hr1 ?_) | (refine wpList_appB_is' (by rfl) (.tmp 90) (.tmp 106) (by rfl) _ _ _ _ (by rfl) (by rfl) hr2 ?_))
                    go_roundg (ko - n)
                    case measure => omega
                    case rel => exact ⟨i + n, i + n, out ++ plT (s.length + 1) (cutL s p i) ++ [y1, y2, y3], p2, c2, by first | rfl | simp, by go_num, by go_num, HF⟩
                  · have d1 : decide ((i : Int) + (n : Int) < (s.length : Int)) = false := by simp only [decide_eq_false_iff_not]; omega
                    have d2 : decide (i + n < s.length) = false := by simp only [decide_eq_false_iff_not]; omega
                    have d3 : ¬ i + n < s.length := by omega
                    go_wp2_with fail
                    go_quiet (fail)
                    have HL5 : Hid (RPL w w1 (wr.drewN nq) s ko i p out (.slice q out.length c)) := hL.out.drewN nq
                    generalize wr.drewN nq = w9 at HL5 ⊢
                    clear hL
                    go_wp2_with fail
                    try rw [hcut]
                    refine (rplain_any (cutL s p i) w9 (by rw [cutL_length s p i (by omega)]; omega)).mono ?_
                    rintro e w5 ⟨⟨p5, c5, rfl, O5⟩, B5⟩
                    rw [plT_cut] at O5 ⊢
                    obtain ⟨p1, c1, w6, hr1, O6, g6⟩ := row_row (Buf.below HL5.out.own B5 (Nat.le_refl _)) O5 (Nat.le_trans HL5.out.be.size B5.size) (by omega)
                    have B6 : Below w1.heap.size w1 w6 := (HL5.out.be.trans ⟨B5.os, B5.tape, B5.output, B5.size, fun k hk => B5.block k (Nat.lt_of_lt_of_le hk HL5.out.be.size)⟩).grown g6 (Nat.le_trans HL5.out.be.size B5.size) (fun k hk => (Buf.lt HL5.out.own k hk).1)
                    obtain ⟨p2, c2, w7, hr2, O7, g7⟩ := row_three O6 B6.size y1 y2 y3 (by rw [List.length_append]; omega)
                    have B7 : Below w1.heap.size w1 w7 := B6.grown g7 B6.size (fun k hk => (Buf.lt O6 k hk).1)
                    have HF : Hid (RPL w w1 w7 s (ko - n) (i + n) (i + n) (out ++ plT (s.length + 1) (cutL s p i) ++ [y1, y2, y3]) (.slice p2 (out ++ plT (s.length + 1) (cutL s p i) ++ [y1, y2, y3]).length c2)) := ⟨by omega, O7, B7, HNX.out, Nat.le_refl _, by rw [List.length_append, List.length_append]; show out.length + _ + 3 ≤ _; omega⟩
                    clear O5 B5 O6 g6 B6 O7 g7 B7 HL5
                    generalize (out ++ plT (s.length + 1) (cutL s p i)).length = L6 at hr1 hr2
                    generalize (plT (s.length + 1) (cutL s p i)).length = L5 at hr1
                    go_wp2_with (first | (refine wpList_appB_is' (by rfl) (.tmp 83) (.tmp 88) (by rfl) _ _ _ _ (by rfl) (by rfl) hr1 ?_) | (refine wpList_appB_is' (by rfl) (.tmp 90) (.tmp 106) (by rfl) _ _ _ _ (by rfl) (by rfl) hr2 ?_))
                    go_roundg (ko - n)
                    case measure => omega
                    case rel => exact ⟨i + n, i + n, out ++ plT (s.length + 1) (cutL s p i) ++ [y1, y2, y3], p2, c2, by first | rfl | simp, by go_num, by go_num, HF⟩
                  · have x1 := hBT.out (cc + n) (by omega)
                    have x2 := hBT.out (i + n) (by omega)
                    have hne : (((s.getD (cc + n) 0).toNat : Int) == ((s.getD (i + n) 0).toNat : Int)) = false := by
                      rw [beq_eq_false_iff_ne]
                      intro h
                      exact he (UInt8.toNat_inj.1 (Int.ofNat_inj.1 h))
                    generalize s.getD (cc + n) 0 = A0 at x1 hne
                    generalize s.getD (i + n) 0 = B0 at x2 hne
                    clear he
                    go_wp2_with fail
                    go_quiet (fail)
                    have HL5 : Hid (RPL w w1 (wr.drewN nq) s ko i p out (.slice q out.length c)) := hL.out.drewN nq
                    generalize wr.drewN nq = w9 at HL5 ⊢
                    clear hL
                    go_wp2_with fail
                    try rw [hcut]
                    refine (rplain_any (cutL s p i) w9 (by rw [cutL_length s p i (by omega)]; omega)).mono ?_
                    rintro e w5 ⟨⟨p5, c5, rfl, O5⟩, B5⟩
                    rw [plT_cut] at O5 ⊢
                    obtain ⟨p1, c1, w6, hr1, O6, g6⟩ := row_row (Buf.below HL5.out.own B5 (Nat.le_refl _)) O5 (Nat.le_trans HL5.out.be.size B5.size) (by omega)
                    have B6 : Below w1.heap.size w1 w6 := (HL5.out.be.trans ⟨B5.os, B5.tape, B5.output, B5.size, fun k hk => B5.block k (Nat.lt_of_lt_of_le hk HL5.out.be.size)⟩).grown g6 (Nat.le_trans HL5.out.be.size B5.size) (fun k hk => (Buf.lt HL5.out.own k hk).1)
                    obtain ⟨p2, c2, w7, hr2, O7, g7⟩ := row_three O6 B6.size y1 y2 y3 (by rw [List.length_append]; omega)
                    have B7 : Below w1.heap.size w1 w7 := B6.grown g7 B6.size (fun k hk => (Buf.lt O6 k hk).1)
                    have HF : Hid (RPL w w1 w7 s (ko - n) (i + n) (i + n) (out ++ plT (s.length + 1) (cutL s p i) ++ [y1, y2, y3]) (.slice p2 (out ++ plT (s.length + 1) (cutL s p i) ++ [y1, y2, y3]).length c2)) := ⟨by omega, O7, B7, HNX.out, Nat.le_refl _, by rw [List.length_append, List.length_append]; show out.length + _ + 3 ≤ _; omega⟩
                    clear O5 B5 O6 g6 B6 O7 g7 B7 HL5
                    generalize (out ++ plT (s.length + 1) (cutL s p i)).length = L6 at hr1 hr2
                    generalize (plT (s.length + 1) (cutL s p i)).length = L5 at hr1
                    go_wp2_with (first | (refine wpList_appB_is' (by rfl) (.tmp 83) (.tmp 88) (by rfl) _ _ _ _ (by rfl) (by rfl) hr1 ?_) | (refine wpList_appB_is' (by rfl) (.tmp 90) (.tmp 106) (by rfl) _ _ _ _ (by rfl) (by rfl) hr2 ?_))
                    go_roundg (ko - n)
                    case measure => omega
                    case rel => exact ⟨i + n, i + n, out ++ plT (s.length + 1) (cutL s p i) ++ [y1, y2, y3], p2, c2, by first | rfl | simp, by go_num, by go_num, HF⟩
            · rw [if_neg hq4] at hsr
              rw [decide_eq_false hq4] at FA
              have hRw : Hid (Row .i64 wr P s.length (fun j => if j + 1 < s.length then pvF s j else 0)) := HR1.out.below hL.out.be HP2.out
              have HSN : Hid (srch s i gm (prv s cc) = findB s i ∧ ∀ c, prv s cc = some c → c < gm ∧ c < i) := ⟨hsr, fun c hc => by have := (prv_some hc).1; omega⟩
              have hzr : cvI (prv s cc) = pvF s cc := (pvF_cv s cc).symm
              have hcs : cc + 1 < s.length := by omega
              clear hS NX hsr
              rw [cvI_some]
              go_wp2_with fail
              refine (FA _).mono ?_
              rintro e w4 ⟨rfl, qq, rfl⟩
              clear FA
              have z1 : (wr.drewN qq).cell? ⟨P, cc, none⟩ = some (.int .i64 (cvI (prv s cc))) := by
                rw [(hRw.out.drewN qq).cell cc (by omega), if_pos hcs, hzr]
              clear hzr hRw
              have HL4 : Hid (RPL w w1 (wr.drewN qq) s ko i p out (.slice q out.length c)) := hL.out.drewN qq
              generalize wr.drewN qq = w4 at z1 HL4 ⊢
              generalize prv s cc = o1 at z1 HSN
              clear hL
              go_wp2
              -- @7
              go_roundg gm
              case measure => omega
              case rel => exact ⟨o1, rfl, HSN, HL4⟩
    · have h4' : ¬ (i : Int) + 4 ≤ (s.length : Int) := by omega
      have HE : Hid (out ++ plT (s.length + 1) (cutL s p s.length) = pk s) := by
        have := hL.out.eq
        rw [pkGo_tail s _ i p (by omega) h4] at this
        exact this
      have hcut : (ba s).extract p s.length = ba (cutL s p s.length) := ba_cut s p s.length (by omega) (Nat.le_refl _)
      have hpl := plT_length (s.length + 1) (cutL s p s.length)
      rw [cutL_length s p s.length (Nat.le_refl _)] at hpl
      have hps : p ≤ s.length := by omega
      go_wp2_with fail
      try rw [hcut]
      refine (rplain_any (cutL s p s.length) wr (by rw [cutL_length s p s.length (Nat.le_refl _)]; omega)).mono ?_
      rintro e w5 ⟨⟨p5, c5, rfl, O5⟩, B5⟩
      rw [plT_cut] at O5 ⊢
      obtain ⟨p1, c1, w6, hr1, O6, g6⟩ := row_row (Buf.below hL.out.own B5 (Nat.le_refl _)) O5 (Nat.le_trans hL.out.be.size B5.size) (by omega)
      have B6 : Below w1.heap.size w1 w6 := (hL.out.be.trans ⟨B5.os, B5.tape, B5.output, B5.size, fun k hk => B5.block k (Nat.lt_of_lt_of_le hk hL.out.be.size)⟩).grown g6 (Nat.le_trans hL.out.be.size B5.size) (fun k hk => (Buf.lt hL.out.own k hk).1)
      have HB6 : Hid (Below w.heap.size w w6) := HB1.out.trans ⟨B6.os, B6.tape, B6.output, B6.size, fun k hk => B6.block k (Nat.lt_of_lt_of_le hk HB1.out.size)⟩
      have hst := O6.str
      rw [show ba (out ++ plT (s.length + 1) (cutL s p s.length)) = ba (pk s) from by rw [HE.out]] at hst
      clear O5 B5 O6 g6 B6 hL HE
      generalize (out ++ plT (s.length + 1) (cutL s p s.length)).length = L6 at hr1 hst
      generalize (plT (s.length + 1) (cutL s p s.length)).length = L5 at hr1
      go_wp2_with (first | (refine wpList_appB_is' (by rfl) (.tmp 112) (.tmp 116) (by rfl) _ _ _ _ (by rfl) (by rfl) hr1 ?_) | (rw [hst]))
      go_ret2
      exact ⟨rfl, HB6.out⟩

end Go.Proofs.Ythjpmiidbgaiaaa
