/- depotref25.Plain, walked (own text of the verifier). -/
import Derived.Test.YthodlcmmagjboaaDoorSwC
import Derived.Test.YthodlcmmagjboaaDoorSwF
namespace Go.Proofs.YthodlcmmagjboaaDoor
open Go.RowKit

/-- What is left is an end of the text. -/
def Sf (s l : List UInt8) : Prop := ∃ a, s = a ++ l
theorem Sf.le {s l : List UInt8} (h : Sf s l) : l.length ≤ s.length := by
  obtain ⟨a, e⟩ := h
  rw [e, List.length_append]
  omega
theorem Sf.cons {s l : List UInt8} {x : UInt8} (h : Sf s (x :: l)) : s.length - (x :: l).length < s.length ∧ bt (ba s) (s.length - (x :: l).length) = (x.toNat : Int) ∧ s.length - l.length = s.length - (x :: l).length + 1 ∧ Sf s l := by
  obtain ⟨a, e⟩ := h
  have hl : s.length = a.length + (l.length + 1) := by rw [e, List.length_append]; rfl
  have hi : s.length - (x :: l).length = a.length := by simp only [List.length_cons]; omega
  refine ⟨by rw [hi]; omega, ?_, by rw [hi]; omega, a ++ [x], by rw [e]; simp⟩
  rw [hi, bt_get _ _ (by omega), List.getD_eq_getElem?_getD, e, List.getElem?_append_right (Nat.le_refl _), Nat.sub_self]
  rfl
theorem Sf.two {s l : List UInt8} {x y z : UInt8} (h : Sf s (x :: y :: z :: l)) : (ba s).extract (s.length - (x :: y :: z :: l).length + 1) (s.length - (x :: y :: z :: l).length + 3) = ba [y, z] := by
  obtain ⟨a, e⟩ := h
  have hi : s.length - (x :: y :: z :: l).length = a.length := by rw [e, List.length_append]; omega
  rw [hi, ba_ext, e]
  congr 1
  rw [← List.drop_drop, List.drop_left]
  simp [show a.length + 3 - (a.length + 1) = 2 by omega]

set_option maxHeartbeats 8000000 in
set_option maxRecDepth 100000 in
theorem plain_any (W : List UInt8) (w : World) (hl : W.length ≤ 16777216) :
    Calls Tryd.prog 16 #[.string (ba W)] w fun e w' => e = .returned (.tuple #[.string (ba (wdT W)), .bool (wdB W)]) ∧ Below w.heap.size w w' := by
  have hsz := ba_size W
  have hgs : ∀ (n : Nat) (h : n < (ba W).size), (((ba W)[n]'h).toNat : Int) = bt (ba W) n := get_bt (ba W)
  by_cases h37 : W = [37]
  · subst h37
    have hq : ((ba [37]).toList == [37]) = true := by rw [ba_toList]; rfl
    go_enter Tryd.func16, Tryd.ntmps16
    go_wp2
    try rw [Exit.noGoto_ret]
    go_ret2
    exact ⟨rfl, Below.refl _ _⟩
  · have hq : ((ba W).toList == [37]) = false := by rw [ba_toList]; simpa using h37
    have HWD : Hid (W ≠ [] → wd W = pl W) := fun h => by unfold wd; rw [if_neg h37, if_neg h]
    have HW0 : Hid (W = [] → wd W = none) := fun h => by unfold wd; rw [if_neg h37, if_pos h]
    clear h37
    have HB0 : Hid (Rw w w.heap.size (.slice none 0 0) []) := Rw.nil _ _
    have HL0 : Hid (Below w.heap.size w w) := Below.refl _ _
    have HC0 : Hid (pl W = (pl W).map (([] : List UInt8) ++ ·)) := by unfold Hid; simp
    go_enter Tryd.func16, Tryd.ntmps16
    go_wp2_with fail
    go_loopg [4, 5, 6, 7, 8] W.length (fun gk vo iv u6 u7 u8 wr => ∃ (m t : List UInt8) (p : Option Addr) (c : Nat), m.length ≤ gk ∧ iv = .int .i64 ((W.length - m.length : Nat) : Int) ∧ vo = .slice p t.length c ∧ Hid (Sf W m) ∧ Hid (pl W = (pl m).map (t ++ ·)) ∧ Hid (t.length + m.length ≤ W.length) ∧ Hid (Rw wr w.heap.size (.slice p t.length c) t) ∧ Hid (Below w.heap.size w wr))
    case atStart => exact ⟨W, [], none, 0, Nat.le_refl _, by simp, rfl, ⟨[], rfl⟩, HC0, by simp [Hid], HB0, HL0⟩
    case round =>
      obtain ⟨m, t, p, c, hgk, rfl, rfl, hS, hC, hN, hB, hL⟩ := hrel
      clear HB0 HL0 HC0
      have hml := hS.out.le
      have hnn := hN.out
      cases m with
      | nil =>
        have hcv := hB.out.txt
        rw [show W.length - ([] : List UInt8).length = W.length from rfl]
        have hC2 : Hid (pl W = some t) := by unfold Hid; rw [hC.out, pl_nil]; simp
        by_cases h0 : W = []
        · have hlz : ¬ (0 < (W.length : Int)) := by rw [h0]; simp
          have hlz2 : ¬ (0 < W.length) := by rw [h0]; simp
          have HT : Hid (t = []) := by
            have h := hC2.out
            rw [h0, pl_nil] at h
            exact (Option.some.inj h).symm
          have HR : Hid (wd W = none) := HW0.out h0
          clear h0
          go_wp2
          go_ret2
          rw [show wdT W = [] by unfold wdT; rw [HR.out]; rfl, show wdB W = false by unfold wdB; rw [HR.out]; rfl, HT.out]
          exact ⟨rfl, hL.out⟩
        · have hlz2 : 0 < W.length := by
            cases W with
            | nil => exact absurd rfl h0
            | cons x W => simp
          have hlz : (0 < (W.length : Int)) := by omega
          have HR : Hid (wd W = some t) := by unfold Hid; rw [HWD.out h0]; exact hC2.out
          clear h0
          go_wp2
          go_ret2
          rw [show wdT W = t by unfold wdT; rw [HR.out]; rfl, show wdB W = true by unfold wdB; rw [HR.out]; rfl]
          exact ⟨rfl, hL.out⟩
      | cons x m =>
        obtain ⟨k1, k2, k3, k4⟩ := hS.out.cons
        have HS2 : Hid (Sf W m) := k4
        have hlc : (x :: m).length = m.length + 1 := rfl
        have HWN : Hid (W ≠ []) := by
          unfold Hid
          rintro rfl
          simp at k1
        generalize hat : W.length - (x :: m).length = at0 at k1 k2 k3 ⊢
        have HAT : Hid (W.length - (x :: m).length = at0) := hat
        have haw : at0 + (m.length + 1) = W.length := by omega
        clear hat k4
        have hi' : (at0 : Int) < (W.length : Int) := by omega
        have hiW : (at0 : Int) + 1 ≤ 16777216 := by omega
        by_cases hx : x = 37
        · subst hx
          rw [show ((37 : UInt8).toNat : Int) = 37 from rfl] at k2
          have hR : Hid (m.length < 2 → wd W = none) := fun h => by
            rw [HWD.out HWN.out, hC.out]
            match m, h with
            | [], _ => rw [pl_one]; rfl
            | [a], _ => rw [pl_two]; rfl
          by_cases h2 : m.length < 2
          · have HR : Hid (wd W = none) := hR.out h2
            have g1 : (W.length : Int) ≤ (at0 : Int) + 2 := by omega
            clear hR
            go_wp2
            try rw [Exit.noGoto_ret]
            go_ret2
            rw [show wdT W = [] by unfold wdT; rw [HR.out]; rfl, show wdB W = false by unfold wdB; rw [HR.out]; rfl]
            exact ⟨rfl, hL.out⟩
          · have g1 : ¬ (W.length : Int) ≤ (at0 : Int) + 2 := by omega
            clear hR
            match m, h2, hS, hC, haw, hnn, hgk, k3, HAT, HS2 with
            | y :: z :: m, h2, hS, hC, haw, hnn, hgk, k3, HAT, HS2 =>
              have E1 : (ba W).extract (at0 + 1) (at0 + 3) = ba [y, z] := by rw [← HAT.out]; exact hS.out.two
              have HS3 : Hid (Sf W m) := by
                obtain ⟨a, e⟩ := HS2.out
                exact ⟨a ++ [y, z], by rw [e]; simp⟩
              have haw2 : at0 + (m.length + 3) = W.length := haw
              have FH := rfromHex_any (ba [y, z]) wr (by rw [ba_size]; show 2 ≤ _; omega)
              have hC2 := hC
              rw [pl_hex] at hC2
              have hnn2 : t.length + (m.length + 3) ≤ W.length := hnn
              have hgk2 : m.length + 3 ≤ gk := hgk
              have s1 : at0 + 1 ≤ at0 + 3 := by omega
              have s2 : at0 + 3 ≤ W.length := by omega
              have s3 : (at0 : Int) + 1 ≤ (at0 : Int) + 3 := by omega
              have s4 : (at0 : Int) + 3 ≤ (W.length : Int) := by omega
              clear hC hS HS2 haw hnn hgk k3 HAT h2 hlc
              rcases fh_two y z with ⟨g1, g2, g3, g4⟩ | ⟨g1, g4⟩
              · rw [g3, g4] at FH
                rw [if_pos ⟨g1, g2⟩] at hC2
                clear g1 g2 g3 g4
                generalize uh y z = u at FH hC2
                have hz1 : (ba [u]).size = 1 := ba_size _
                have hg1 : ∀ (n : Nat) (h : n < (ba [u]).size), (((ba [u])[n]'h).toNat : Int) = bt (ba [u]) n := get_bt _
                have hd1 : bt (ba [u]) 0 = (u.toNat : Int) := bt_ba [u] 0 (by show 0 < 1; omega)
                go_wp2_with fail
                try rw [E1]
                refine FH.mono ?_
                rintro e w3 ⟨rfl, L3⟩
                have hB3 := hB.out.below L3
                have hL3 := bel_trans hL.out L3
                obtain ⟨p5, c5, w5, hr5, T5, G5⟩ := hB3.put hL3.size [u] (by show t.length + 1 ≤ _; omega)
                have hr6 : (Builtin.append_ #[33, 33] 33 #[.slice p t.length c, .slice (some ⟨w3.heap.size, 0, none⟩) 1 1]).run Tryd.prog (w3.alloc (.cells #[.int .u8 (u.toNat : Int)] 5)) = .ok (.slice p5 (t ++ [u]).length c5) w5 := hr5
                have HB5 : Hid (Rw w5 w.heap.size (.slice p5 (t ++ [u]).length c5) (t ++ [u])) := T5
                have HL5 : Hid (Below w.heap.size w w5) := hL3.grown G5 hL3.size (fun k hk => (World.ownsRow.lt hB3 k hk).1)
                have HC5 : Hid (pl W = (pl m).map ((t ++ [u]) ++ ·)) := by
                  unfold Hid
                  rw [hC2.out]
                  cases pl m <;> simp
                have HN5 : Hid ((t ++ [u]).length + m.length ≤ W.length) := by unfold Hid; rw [List.length_append]; show t.length + 1 + _ ≤ _; omega
                have HAT5 : Hid (W.length - m.length = at0 + 3) := by unfold Hid; omega
                clear FH L3 hB3 hL3 hB hL hC2 hr5 T5 G5
                generalize t ++ [u] = t5 at hr6 HB5 HC5 HN5
                go_wp2_with (first | (refine wpList_app_is (by rfl) 33 33 (.tmp 43) (.tmp 45) (by rfl) _ _ _ _ (by rfl) (by rfl) hr6 ?_))
                go_roundg (gk - 1)
                case measure => omega
                case rel => exact ⟨m, t5, p5, c5, by omega, by rw [HAT5.out]; go_num, rfl, HS3, HC5, HN5, HB5, HL5⟩
              · rw [if_neg g1] at hC2
                rw [g4] at FH
                have HR : Hid (wd W = none) := by unfold Hid; rw [HWD.out HWN.out, hC2.out]; rfl
                clear g1 g4 hC2 hN
                generalize fhStr (ba [y, z]) = fs at FH
                go_wp2_with fail
                try rw [E1]
                refine FH.mono ?_
                rintro e w3 ⟨rfl, L3⟩
                have HL3 : Hid (Below w.heap.size w w3) := bel_trans hL.out L3
                clear FH L3 hB hL
                go_wp2
                try rw [Exit.noGoto_ret]
                go_ret2
                rw [show wdT W = [] by unfold wdT; rw [HR.out]; rfl, show wdB W = false by unfold wdB; rw [HR.out]; rfl]
                exact ⟨rfl, HL3.out⟩
            | [], h2, _, _, _, _, _, _, _, _ => exact absurd (show 0 < 2 by omega) h2
            | [_], h2, _, _, _, _, _, _, _, _ => exact absurd (show 1 < 2 by omega) h2
        · have hx1 : ((x.toNat : Int) == 37) = false := by
            rw [beq_eq_false_iff_ne]
            intro e
            exact hx (UInt8.toNat_inj.1 (Int.ofNat_inj.1 e))
          have hx2 : ¬ (x.toNat : Int) = 37 := fun e => hx (UInt8.toNat_inj.1 (Int.ofNat_inj.1 e))
          obtain ⟨p5, c5, w5, hr5, T5, G5⟩ := hB.out.put hL.out.size [x] (by show t.length + 1 ≤ _; omega)
          have hr6 : (Builtin.append_ #[33, 33] 33 #[.slice p t.length c, .slice (some ⟨wr.heap.size, 0, none⟩) 1 1]).run Tryd.prog (wr.alloc (.cells #[.int .u8 (x.toNat : Int)] 5)) = .ok (.slice p5 (t ++ [x]).length c5) w5 := hr5
          have HB5 : Hid (Rw w5 w.heap.size (.slice p5 (t ++ [x]).length c5) (t ++ [x])) := T5
          have HL5 : Hid (Below w.heap.size w w5) := hL.out.grown G5 hL.out.size (fun k hk => (World.ownsRow.lt hB.out k hk).1)
          have HC5 : Hid (pl W = (pl m).map ((t ++ [x]) ++ ·)) := by
            unfold Hid
            rw [hC.out, pl_cons x m hx]
            cases pl m <;> simp
          have HN5 : Hid ((t ++ [x]).length + m.length ≤ W.length) := by unfold Hid; rw [List.length_append]; show t.length + 1 + _ ≤ _; rw [hlc] at hnn; omega
          have HAT5 : Hid (W.length - m.length = at0 + 1) := k3
          have hgk2 : m.length + 1 ≤ gk := hgk
          clear hC hr5 T5 G5 hB hL k3 hgk hS HAT
          generalize t ++ [x] = t5 at hr6 HB5 HC5 HN5
          go_wp2_with (first | (refine wpList_app_is (by rfl) 33 33 (.tmp 43) (.tmp 45) (by rfl) _ _ _ _ (by rfl) (by rfl) hr6 ?_))
          go_roundg (gk - 1)
          case measure => omega
          case rel => exact ⟨m, t5, p5, c5, by omega, by rw [HAT5.out]; go_num, rfl, HS2, HC5, HN5, HB5, HL5⟩

end Go.Proofs.YthodlcmmagjboaaDoor
