/- depotref25.Words, walked (own text of the verifier). -/
import Derived.Test.YthodlcmmagjboaaDoorSwE
import Derived.Test.YthodlcmmagjboaaDoorSwG
namespace Go.Proofs.YthodlcmmagjboaaDoor
open Go.RowKit

/-- The place fr begins a piece, of which cur has been passed; m is left; D are the pieces ahead. -/
structure Pcs (l : List UInt8) (fr : Nat) (cur m : List UInt8) (D : List (List UInt8)) : Prop where
  le : fr + cur.length + m.length = l.length
  drop : l.drop fr = cur ++ m
  no : 32 ∉ cur
  all : D ++ spl (cur ++ m) = spl l
theorem Pcs.at {l : List UInt8} {fr : Nat} {cur m : List UInt8} {c : UInt8} {D : List (List UInt8)} (h : Pcs l fr cur (c :: m) D) : bt (ba l) (fr + cur.length) = (c.toNat : Int) := by
  have hl := h.le
  rw [List.length_cons] at hl
  rw [bt_get _ _ (by omega), List.getD_eq_getElem?_getD, ← List.getElem?_drop, h.drop, List.getElem?_append_right (Nat.le_refl _), Nat.sub_self]
  rfl
theorem Pcs.txt {l : List UInt8} {fr : Nat} {cur m : List UInt8} {D : List (List UInt8)} (h : Pcs l fr cur m D) : (ba l).extract fr (fr + cur.length) = ba cur := by
  rw [ba_ext, h.drop, show fr + cur.length - fr = cur.length by omega, List.take_left]
theorem Pcs.step {l : List UInt8} {fr : Nat} {cur m : List UInt8} {c : UInt8} {D : List (List UInt8)} (h : Pcs l fr cur (c :: m) D) (hc : c ≠ 32) : Pcs l fr (cur ++ [c]) m D :=
  ⟨by have := h.le; rw [List.length_cons] at this; rw [List.length_append]; show fr + (cur.length + 1) + _ = _; omega, by rw [h.drop]; simp, by rw [List.mem_append]; rintro (g | g); exact h.no g; simp at g; exact hc g.symm, by have := h.all; simpa using this⟩
theorem Pcs.next {l : List UInt8} {fr : Nat} {cur m : List UInt8} {D : List (List UInt8)} (h : Pcs l fr cur (32 :: m) D) : Pcs l (fr + cur.length + 1) [] m (D ++ [cur]) :=
  ⟨by have := h.le; rw [List.length_cons] at this; show fr + cur.length + 1 + 0 + _ = _; omega, by rw [Nat.add_assoc, ← List.drop_drop, h.drop, ← List.drop_drop, List.drop_left]; rfl, by simp, by have := h.all; rw [spl_app cur m h.no] at this; rw [← this]; simp⟩
theorem Pcs.last {l : List UInt8} {fr : Nat} {cur : List UInt8} {D : List (List UInt8)} (h : Pcs l fr cur [] D) : D ++ [cur] = spl l := by
  have := h.all
  rw [List.append_nil, spl_last cur h.no] at this
  exact this

set_option maxHeartbeats 8000000 in
set_option maxRecDepth 100000 in
theorem rwords_any (l : List UInt8) (w : World) (hl : l.length ≤ 16777216) :
    Calls Tryd.prog 7 #[.string (ba l)] w fun e w' => WsP l e w' ∧ Below w.heap.size w w' := by
  have hsz := ba_size l
  have hgs : ∀ (n : Nat) (h : n < (ba l).size), (((ba l)[n]'h).toNat : Int) = bt (ba l) n := get_bt (ba l)
  by_cases h4 : 4096 < l.length
  · have h4' : 4096 < (l.length : Int) := by omega
    go_enter Tryd.func7, Tryd.ntmps7
    go_wp2
    try rw [Exit.noGoto_ret]
    go_ret2
    exact ⟨Or.inl ⟨h4, rfl⟩, Below.refl _ _⟩
  · have h4' : ¬ 4096 < (l.length : Int) := by omega
    have H4 : Hid (l.length ≤ 4096) := by unfold Hid; omega
    have HB0 : Hid (TxS w w.heap.size (.slice none 0 0) []) := TxS.nil _ _
    have HL0 : Hid (Below w.heap.size w w) := Below.refl _ _
    have HP0 : Hid (Pcs l 0 [] l []) := ⟨by simp, by simp, by simp, by simp⟩
    have HT0 : Hid (wds [] = some []) := rfl
    go_enter Tryd.func7, Tryd.ntmps7
    go_wp2_with fail
    go_loopg [4, 5, 6, 7, 8] (l.length + 1) (fun gk vo vf iv u7 u8 wr => ∃ (fr i : Nat) (cur m : List UInt8) (D T : List (List UInt8)) (p : Option Addr) (c : Nat), gk + i = l.length + 1 ∧ vf = .int .i64 (fr : Int) ∧ iv = .int .i64 (i : Int) ∧ vo = .slice p T.length c ∧ Hid (wds D = some T) ∧ Hid ((fr + cur.length = i ∧ Pcs l fr cur m D) ∨ (i = l.length + 1 ∧ D = spl l)) ∧ Hid (fr ≤ l.length + 1) ∧ Hid (TxS wr w.heap.size (.slice p T.length c) T) ∧ Hid (Below w.heap.size w wr))
    case atStart => exact ⟨0, 0, [], l, [], [], none, 0, rfl, rfl, rfl, rfl, HT0, Or.inl ⟨rfl, HP0.out⟩, Nat.zero_le _, HB0, HL0⟩
    case round =>
      obtain ⟨fr, i, cur, m, D, T, p, c, hgk, rfl, rfl, rfl, hT, hP, hfr, hB, hL⟩ := hrel
      clear HB0 HL0 HP0 HT0
      by_cases hi : i ≤ l.length
      · obtain ⟨e1, hP⟩ : fr + cur.length = i ∧ Pcs l fr cur m D := by
          rcases hP.out with h | h
          · exact h
          · omega
        have hi' : (i : Int) ≤ (l.length : Int) := by omega
        have hle := hP.le
        have hTL := wds_len _ _ hT.out
        have hDl : D.length ≤ l.length + 1 := by
          have h1 := congrArg List.length hP.all
          rw [List.length_append] at h1
          have h2 := spl_len l
          omega
        have htx := hP.txt
        rw [e1] at htx
        have PX := plain_any cur wr (by have := H4.out; omega)
        have s1 : fr ≤ i := by omega
        have s2 : (fr : Int) ≤ (i : Int) := by omega
        have hTb : T.length ≤ 1073741824 := by omega
        have HTX : Hid ((ba l).extract fr i = ba cur) := htx
        clear htx
        cases m with
        | cons x m =>
          have hat := hP.at
          rw [e1] at hat
          have hil : (i : Int) < (l.length : Int) := by rw [List.length_cons] at hle; omega
          have hil2 : i < l.length := by omega
          by_cases hx : x = 32
          · subst hx
            rw [show ((32 : UInt8).toNat : Int) = 32 from rfl] at hat
            have HP2 : Hid (Pcs l (i + 1) [] m (D ++ [cur])) := by have := hP.next; rw [e1] at this; exact this
            cases hw : wd cur with
            | none =>
              have HN : Hid (wds (spl l) = none) := by
                unfold Hid
                rw [← hP.all, spl_app cur m hP.no]
                exact wds_no _ _ T cur hT.out hw
              rw [show wdB cur = false by unfold wdB; rw [hw]; rfl] at PX
              generalize wdT cur = tt at PX
              clear hw hP hle hTL hDl
              go_wp2_with fail
              try rw [HTX.out]
              refine PX.mono ?_
              rintro e w2 ⟨rfl, L2⟩
              have HL : Hid (Below w.heap.size w w2) := bel_trans hL.out L2
              clear PX L2 hB hL hT
              go_wp2
              try rw [Exit.noGoto_ret]
              go_ret2
              exact ⟨Or.inr (Or.inl ⟨H4.out, HN.out, rfl⟩), HL.out⟩
            | some t =>
              rw [show wdB cur = true by unfold wdB; rw [hw]; rfl, show wdT cur = t by unfold wdT; rw [hw]; rfl] at PX
              have HT2 : Hid (wds (D ++ [cur]) = some (T ++ [t])) := wds_yes _ _ cur t hT.out hw
              clear hw hP hle hTL hDl
              go_wp2_with fail
              try rw [HTX.out]
              refine PX.mono ?_
              rintro e w2 ⟨rfl, L2⟩
              have hL2 := bel_trans hL.out L2
              have hB2 := hB.out.below L2
              obtain ⟨p5, c5, w5, hr5, T5, G5⟩ := hB2.app t hL2.size hTb
              have HB5 : Hid (TxS w5 w.heap.size (.slice p5 (T.length + 1) c5) (T ++ [t])) := T5
              have HL5 : Hid (Below w.heap.size w w5) := hL2.grown G5 hL2.size (fun k hk => (hB2.lt k hk).1)
              clear PX L2 hB hL hT hB2 hL2 T5 G5
              go_wp2_with (first | (refine wpList_app_is (by rfl) 23 23 (.tmp 38) (.tmp 40) (by rfl) _ _ _ _ (by rfl) (by rfl) hr5 ?_))
              go_roundg (gk - 1)
              case measure => omega
              case rel => exact ⟨i + 1, i + 1, [], m, D ++ [cur], T ++ [t], p5, c5, by omega, by go_num, by go_num, by rw [List.length_append]; rfl, HT2, Or.inl ⟨rfl, HP2.out⟩, by unfold Hid; omega, by rw [List.length_append]; exact HB5, HL5⟩
          · have hx1 : ((x.toNat : Int) != 32) = true := by
              rw [bne_iff_ne]
              intro e
              exact hx (UInt8.toNat_inj.1 (Int.ofNat_inj.1 e))
            have hx3 : ((x.toNat : Int) == 32) = false := by
              rw [beq_eq_false_iff_ne]
              intro e
              exact hx (UInt8.toNat_inj.1 (Int.ofNat_inj.1 e))
            have hx2 : ¬ (x.toNat : Int) = 32 := fun e => hx (UInt8.toNat_inj.1 (Int.ofNat_inj.1 e))
            have HP2 : Hid (fr + (cur ++ [x]).length = i + 1 ∧ Pcs l fr (cur ++ [x]) m D) := ⟨by rw [List.length_append]; show fr + (cur.length + 1) = _; omega, hP.step hx⟩
            clear hP hle hTL hDl PX
            go_wp2
            try simp (config := { zetaDelta := true }) only [Exit.inBlock, Exit.then]
            go_wp2
            go_roundg (gk - 1)
            case measure => omega
            case rel => exact ⟨fr, i + 1, cur ++ [x], m, D, T, p, c, by omega, rfl, by go_num, rfl, hT, Or.inl HP2.out, hfr, hB, hL⟩
        | nil =>
          have hli : i = l.length := by rw [List.length_nil] at hle; omega
          have hil : ¬ (i : Int) < (l.length : Int) := by omega
          have hil2 : ¬ i < l.length := by omega
          have hil3 : (i : Int) ≤ 4096 := by have := H4.out; omega
          have HLI : Hid (i = l.length) := hli
          have HP2 : Hid (D ++ [cur] = spl l) := hP.last
          have hso : i ≤ l.length := by omega
          clear hli
          cases hw : wd cur with
          | none =>
            have HN : Hid (wds (spl l) = none) := by
              unfold Hid
              rw [← HP2.out]
              exact wds_no _ _ T cur hT.out hw
            rw [show wdB cur = false by unfold wdB; rw [hw]; rfl] at PX
            generalize wdT cur = tt at PX
            clear hw hP hle hTL hDl
            go_wp2_with fail
            try rw [HTX.out]
            refine PX.mono ?_
            rintro e w2 ⟨rfl, L2⟩
            have HL : Hid (Below w.heap.size w w2) := bel_trans hL.out L2
            clear PX L2 hB hL hT
            go_wp2
            try rw [Exit.noGoto_ret]
            go_ret2
            exact ⟨Or.inr (Or.inl ⟨H4.out, HN.out, rfl⟩), HL.out⟩
          | some t =>
            rw [show wdB cur = true by unfold wdB; rw [hw]; rfl, show wdT cur = t by unfold wdT; rw [hw]; rfl] at PX
            have HT2 : Hid (wds (D ++ [cur]) = some (T ++ [t])) := wds_yes _ _ cur t hT.out hw
            clear hw hP hle hTL hDl
            go_wp2_with fail
            try rw [HTX.out]
            refine PX.mono ?_
            rintro e w2 ⟨rfl, L2⟩
            have hL2 := bel_trans hL.out L2
            have hB2 := hB.out.below L2
            obtain ⟨p5, c5, w5, hr5, T5, G5⟩ := hB2.app t hL2.size hTb
            have HB5 : Hid (TxS w5 w.heap.size (.slice p5 (T.length + 1) c5) (T ++ [t])) := T5
            have HL5 : Hid (Below w.heap.size w w5) := hL2.grown G5 hL2.size (fun k hk => (hB2.lt k hk).1)
            clear PX L2 hB hL hT hB2 hL2 T5 G5
            go_wp2_with (first | (refine wpList_app_is (by rfl) 23 23 (.tmp 38) (.tmp 40) (by rfl) _ _ _ _ (by rfl) (by rfl) hr5 ?_))
            go_roundg (gk - 1)
            case measure => omega
            case rel => exact ⟨i + 1, i + 1, [], [], D ++ [cur], T ++ [t], p5, c5, by omega, by go_num, by go_num, by rw [List.length_append]; rfl, HT2, Or.inr ⟨by rw [HLI.out], HP2.out⟩, by unfold Hid; omega, by rw [List.length_append]; exact HB5, HL5⟩
      · have hi' : ¬ (i : Int) ≤ (l.length : Int) := by omega
        have hD : Hid (D = spl l) := by
          rcases hP.out with h | h
          · have h1 := h.2.le
            omega
          · exact h.2
        have HT2 : Hid (wds (spl l) = some T) := by unfold Hid; rw [← hD.out]; exact hT.out
        clear hP hT
        go_wp2
        go_ret2
        exact ⟨Or.inr (Or.inr ⟨H4.out, T, p, c, HT2.out, rfl, hB.out.sis⟩), hL.out⟩

end Go.Proofs.YthodlcmmagjboaaDoor
