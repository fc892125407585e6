/- shell.textOf, walked (own text of the verifier). -/
import Derived.Test.YthodlcmmagjboaaDoorSwB
namespace Go.Proofs.YthodlcmmagjboaaDoor
open Go.RowKit

theorem fh_two (x y : UInt8) : (0 ≤ hv x.toNat ∧ 0 ≤ hv y.toNat ∧ fhStr (ba [x, y]) = ba [uh x y] ∧ fhErr (ba [x, y]) = 0) ∨ (¬ (0 ≤ hv x.toNat ∧ 0 ≤ hv y.toNat) ∧ fhErr (ba [x, y]) = 20) := by
  have b0 : bt (ba [x, y]) 0 = (x.toNat : Int) := bt_ba [x, y] 0 (by show 0 < 2; omega)
  have b1 : bt (ba [x, y]) 1 = (y.toNat : Int) := bt_ba [x, y] 1 (by show 1 < 2; omega)
  have hs : (ba [x, y]).size = 2 := ba_size _
  by_cases h : 0 ≤ hv x.toNat ∧ 0 ≤ hv y.toNat
  · left
    have hok : fhOk (ba [x, y]) 2 = true := (fhOk_iff _ _).2 (fun j hj => by
      rcases (show j = 0 ∨ j = 1 by omega) with rfl | rfl
      · rw [b0]; exact h.1
      · rw [b1]; exact h.2)
    refine ⟨h.1, h.2, ?_, ?_⟩
    · unfold fhStr
      rw [hs, if_pos ⟨rfl, hok⟩]
      have hf : fhFn (ba [x, y]) 0 = 16 * hv x.toNat + hv y.toNat := by
        unfold fhFn
        rw [show 2 * 0 = 0 from rfl, show 0 + 1 = 1 from rfl, b0, b1]
      have e : strFn (2 / 2) (fhFn (ba [x, y])) = strFn 1 (fun _ => 16 * hv x.toNat + hv y.toNat) := strFn_congr (fun j hj => by
        obtain rfl : j = 0 := by omega
        exact hf)
      rw [e]
      rfl
    · unfold fhErr
      rw [hs, if_pos rfl, if_pos hok]
  · right
    refine ⟨h, ?_⟩
    have hno : fhOk (ba [x, y]) 2 = false := by
      by_cases h0 : 0 ≤ hv x.toNat
      · exact fhOk_no _ _ 1 (by omega) (by rw [b1]; have : ¬ 0 ≤ hv y.toNat := fun g => h ⟨h0, g⟩; omega)
      · exact fhOk_no _ _ 0 (by omega) (by rw [b0]; omega)
    unfold fhErr
    rw [hs, if_pos rfl, hno, if_neg (by simp)]

/-- The text of a word, or nothing. -/
def wdT (W : List UInt8) : List UInt8 := (wd W).getD []
def wdB (W : List UInt8) : Bool := (wd W).isSome
/-- What is left of a word while plain, rest and more are these. -/
def lft (a b : List UInt8) (f : Bool) : List UInt8 := if f then a ++ 37 :: b else a
theorem ct_lft {l a b : List UInt8} {f : Bool} (h : Ct 37 l a b f) : lft a b f = l ∧ 37 ∉ a ∧ b.length ≤ l.length ∧ (f = true → b.length < l.length) := by
  rcases h with ⟨rfl, rfl, h⟩ | ⟨rfl, rfl, rfl, h⟩
  · exact ⟨rfl, h, by simp; omega, fun _ => by simp; omega⟩
  · exact ⟨rfl, h, by simp, fun e => by cases e⟩

set_option maxHeartbeats 8000000 in
set_option maxRecDepth 100000 in
theorem text_any (W : List UInt8) (w : World) (hl : W.length ≤ 16777216) :
    Calls Tryd.prog 15 #[.string (ba W)] w fun e w' => e = .returned (.tuple #[.string (ba (wdT W)), .bool (wdB W)]) ∧ Below w.heap.size w w' := by
  have hsz := ba_size W
  by_cases h37 : W = [37]
  · subst h37
    have hq : ((ba [37]).toList == [37]) = true := by rw [ba_toList]; rfl
    go_enter Tryd.func15, Tryd.ntmps15
    go_wp2
    try rw [Exit.noGoto_ret]
    go_ret2
    exact ⟨rfl, Below.refl _ _⟩
  · have hq : ((ba W).toList == [37]) = false := by rw [ba_toList]; simpa using h37
    have HWD : Hid (W ≠ [] → wd W = pl W) := fun h => by unfold wd; rw [if_neg h37, if_neg h]
    have HW0 : Hid (W = [] → wd W = none) := fun h => by unfold wd; rw [if_neg h37, if_pos h]
    have hne : (W.isEmpty = true ∧ Hid (W = [])) ∨ (W.isEmpty = false ∧ Hid (W ≠ [])) := by
      cases W with
      | nil => exact Or.inl ⟨rfl, rfl⟩
      | cons x W => exact Or.inr ⟨rfl, List.cons_ne_nil _ _⟩
    have hem : (ba W).toList.isEmpty = W.isEmpty := by rw [ba_toList]
    clear h37
    have C0 := fun l W' h => cut_any l ⟨#[37]⟩ 37 W' rfl (by decide +kernel) rfl h
    go_enter Tryd.func15, Tryd.ntmps15
    go_wp2_with fail
    have HB0 : Bd 35 (w.alloc (.cells #[.pointer none, .slice none 0 0] 35)) w.heap.size [] := Bd.new 35 w
    have HL0 : Below w.heap.size w (w.alloc (.cells #[.pointer none, .slice none 0 0] 35)) := (Below.refl _ _).alloc (Nat.le_refl _) _
    generalize w.alloc (.cells #[.pointer none, .slice none 0 0] 35) = w1 at HB0 HL0 ⊢
    generalize hg : w.heap.size = g at HB0 HL0 ⊢
    have HG : Hid (w.heap.size = g) := hg
    clear hg
    refine (C0 W w1 (by omega)).mono ?_
    rintro e w2 ⟨⟨a, b, f, rfl, hct⟩, L2⟩
    have HB2 : Hid (Bd 35 w2 g []) := HB0.below L2
    have HL2 : Hid (Below g w w2) := HL0.trans (L2.mono (Nat.le_of_lt HB0.lt))
    obtain ⟨j1, j2, j3, j4⟩ := ct_lft hct
    have HC : Hid (pl W = (pl (lft a b f)).map (([] : List UInt8) ++ ·)) := by unfold Hid; rw [j1]; simp
    have HA : Hid (37 ∉ a) := j2
    have HN : Hid (([] : List UInt8).length + (lft a b f).length ≤ W.length) := by unfold Hid; rw [j1]; simp
    clear HB0 HL0 L2 hct j1 j2 j3 j4
    go_wp2_with fail
    go_loopg [5, 6, 7, 8, 9] W.length (fun gk va vb vf u8 u9 wr => ∃ (a b t : List UInt8) (f : Bool), va = .string (ba a) ∧ vb = .string (ba b) ∧ vf = .bool f ∧ Hid ((lft a b f).length ≤ gk) ∧ Hid (pl W = (pl (lft a b f)).map (t ++ ·)) ∧ Hid (37 ∉ a) ∧ Hid (t.length + (lft a b f).length ≤ W.length) ∧ Hid (Bd 35 wr g t) ∧ Hid (Below g w wr))
    case atStart => exact ⟨a, b, [], f, rfl, rfl, rfl, by have := HN.out; simp at this; exact this, HC, HA, HN, HB2, HL2⟩
    case round =>
      obtain ⟨a, b, t, f, rfl, rfl, rfl, hgk, hC, hA, hN, hB, hL⟩ := hrel
      clear HC HA HN HB2 HL2
      have hbz := ba_size b
      cases f with
      | true =>
        have hlen : a.length + 1 + b.length ≤ W.length ∧ t.length + a.length + 1 + b.length ≤ W.length := by
          have := hN.out
          unfold lft at this
          rw [if_pos rfl, List.length_append, List.length_cons] at this
          omega
        obtain ⟨hlen, hlen2⟩ := hlen
        have HWN : Hid (W ≠ []) := by
          unfold Hid
          rintro rfl
          simp at hlen
        have hC2 : Hid (pl W = ((pl (37 :: b)).map (a ++ ·)).map (t ++ ·)) := by
          unfold Hid
          rw [hC.out, ← pl_app a _ hA.out]
          rfl
        match b, hbz, hlen, hlen2, hC2, hgk, hC, hN with
        | [], hbz, hlen, hlen2, hC2, hgk, hC, hN =>
          have HR : Hid (wd W = none) := by unfold Hid; rw [HWD.out HWN.out, hC2.out, pl_one]; rfl
          clear hC hC2 hN C0 hgk
          go_wp2
          try rw [Exit.noGoto_ret]
          go_ret2
          rw [show wdT W = [] by unfold wdT; rw [HR.out]; rfl, show wdB W = false by unfold wdB; rw [HR.out]; rfl, HG.out]
          exact ⟨rfl, hL.out⟩
        | [x], hbz, hlen, hlen2, hC2, hgk, hC, hN =>
          have HR : Hid (wd W = none) := by unfold Hid; rw [HWD.out HWN.out, hC2.out, pl_two]; rfl
          clear hC hC2 hN C0 hgk
          go_wp2
          try rw [Exit.noGoto_ret]
          go_ret2
          rw [show wdT W = [] by unfold wdT; rw [HR.out]; rfl, show wdB W = false by unfold wdB; rw [HR.out]; rfl, HG.out]
          exact ⟨rfl, hL.out⟩
        | x :: y :: b, hbz, hlen, hlen2, hC2, hgk, hC, hN =>
          have E1 : (ba (x :: y :: b)).extract 0 2 = ba [x, y] := by rw [ba_ext]; rfl
          have E2 : (ba (x :: y :: b)).extract 2 (b.length + 1 + 1) = ba b := by rw [ba_ext]; congr 1; simp
          have hbz2 : (ba (x :: y :: b)).size = b.length + 1 + 1 := hbz
          have k1 : (2 : Int) ≤ (b.length : Int) + 1 + 1 := by omega
          have k2 : ¬ ((b.length : Int) + 1 + 1 < 2) := by omega
          have FH := fromHex_any (ba [x, y]) wr (by rw [ba_size]; show 2 ≤ _; omega)
          have hlb : b.length + 2 ≤ 16777216 := by simp at hlen; omega
          rw [pl_hex] at hC2
          generalize hbb : ba (x :: y :: b) = bb at E1 E2 hbz2 ⊢
          clear hbz hbb hC
          rcases fh_two x y with ⟨g1, g2, g3, g4⟩ | ⟨g1, g4⟩
          · rw [g3, g4] at FH
            rw [if_pos ⟨g1, g2⟩] at hC2
            have hap : Hid (ba a ++ ba [uh x y] = ba (a ++ [uh x y])) := ba_app _ _
            have hcz : ¬ 9223372036854775807 < (ba a).size + (ba [uh x y]).size := by rw [ba_size, ba_size]; show ¬ _ < a.length + 1; simp at hlen2; omega
            clear g1 g2 g3 g4
            generalize uh x y = u at FH hC2 hap hcz
            go_wp2_with fail
            refine FH.mono ?_
            rintro e w3 ⟨rfl, L3⟩
            have HB3 := hB.out.below L3
            have HL3 := hL.out.trans (L3.mono (Nat.le_of_lt hB.out.lt))
            have W3 := wstr_any 35 (.inl rfl) g t (a ++ [u]) w3 HB3 (by rw [List.length_append]; show t.length + (a.length + 1) ≤ _; simp at hlen2; omega)
            clear FH L3 HB3 hB hL
            go_wp2_with fail
            rw [hap.out]
            refine W3.mono ?_
            rintro e w4 ⟨rfl, B4, L4⟩
            have HL4 := HL3.trans L4
            clear W3 L4 HL3
            go_wp2_with fail
            refine (C0 b w4 (by omega)).mono ?_
            rintro e w5 ⟨⟨a', b', f', rfl, hct⟩, L5⟩
            have HB5 : Hid (Bd 35 w5 g (t ++ (a ++ [u]))) := B4.below L5
            have HL5 : Hid (Below g w w5) := HL4.trans (L5.mono (Nat.le_of_lt B4.lt))
            obtain ⟨j1, j2, j3, j4⟩ := ct_lft hct
            have HC5 : Hid (pl W = (pl (lft a' b' f')).map ((t ++ (a ++ [u])) ++ ·)) := by
              unfold Hid
              rw [j1, hC2.out]
              cases pl b <;> simp
            have HA5 : Hid (37 ∉ a') := j2
            have HN5 : Hid ((t ++ (a ++ [u])).length + (lft a' b' f').length ≤ W.length) := by
              unfold Hid
              rw [j1]
              simp at hlen2 ⊢
              omega
            have HK5 : Hid ((lft a' b' f').length + 1 ≤ gk) := by
              unfold Hid
              have := hgk.out
              unfold lft at this
              rw [if_pos rfl, List.length_append] at this
              rw [j1]
              simp at this
              omega
            clear B4 HL4 L5 hct j1 j2 j3 j4 hC2 hgk hN
            go_wp2
            go_roundg (gk - 1)
            case measure => have := HK5.out; omega
            case rel => exact ⟨a', b', t ++ (a ++ [u]), f', rfl, rfl, rfl, by have := HK5.out; unfold Hid; omega, HC5, HA5, HN5, HB5, HL5⟩
          · rw [if_neg g1] at hC2
            rw [g4] at FH
            have HR : Hid (wd W = none) := by unfold Hid; rw [HWD.out HWN.out, hC2.out]; rfl
            clear g1 g4 hC2 hN C0 hgk
            generalize fhStr (ba [x, y]) = fs at FH
            go_wp2_with fail
            refine FH.mono ?_
            rintro e w3 ⟨rfl, L3⟩
            have HL3 : Hid (Below g w w3) := hL.out.trans (L3.mono (Nat.le_of_lt hB.out.lt))
            clear FH L3 hB hL
            go_wp2
            try rw [Exit.noGoto_ret]
            go_ret2
            rw [show wdT W = [] by unfold wdT; rw [HR.out]; rfl, show wdB W = false by unfold wdB; rw [HR.out]; rfl, HG.out]
            exact ⟨rfl, HL3.out⟩
      | false =>
        have hC2 : Hid (pl W = some (t ++ a)) := by
          unfold Hid
          rw [hC.out, show lft a b false = a from rfl, pl_plain a hA.out]
          rfl
        have hln : t.length + a.length ≤ W.length := hN.out
        have W3 := wstr_any 35 (.inl rfl) g t a wr hB.out (by omega)
        clear hC hN C0 hgk hbz
        go_wp2_with fail
        refine W3.mono ?_
        rintro e w4 ⟨rfl, B4, L4⟩
        have HL4 := hL.out.trans L4
        have W4 := bstr_any 35 g _ w4 B4
        clear W3 L4 hL hB
        go_wp2_with fail
        refine W4.mono ?_
        rintro e w5 ⟨rfl, L5⟩
        have HL5 : Hid (Below g w w5) := HL4.trans L5
        clear W4 L5 HL4 B4
        rcases hne with ⟨n1, n2⟩ | ⟨n1, n2⟩
        · have HT : Hid (t ++ a = []) := by
            have h := hC2.out
            rw [n2.out, pl_nil] at h
            exact (Option.some.inj h).symm
          rw [n1] at hem
          go_wp2
          go_ret2
          rw [show wdT W = [] by unfold wdT; rw [HW0.out n2.out]; rfl, show wdB W = false by unfold wdB; rw [HW0.out n2.out]; rfl, HG.out, HT.out]
          exact ⟨rfl, HL5.out⟩
        · rw [n1] at hem
          go_wp2
          go_ret2
          rw [show wdT W = t ++ a by unfold wdT; rw [HWD.out n2.out, hC2.out]; rfl, show wdB W = true by unfold wdB; rw [HWD.out n2.out, hC2.out]; rfl, HG.out]
          exact ⟨rfl, HL5.out⟩

end Go.Proofs.YthodlcmmagjboaaDoor
