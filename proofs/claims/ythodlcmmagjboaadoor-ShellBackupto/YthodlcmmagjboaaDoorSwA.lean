/- shell.Escape, walked (own text of the verifier). -/
import Derived.Test.YthodlcmmagjboaaDoorSwP
import Derived.Test.YthodlcmmagjboaaDoorHxF
import Derived.BigQuiet
import Derived.Deep.QuietTactic
namespace Go.Proofs.YthodlcmmagjboaaDoor
open Go.RowKit

theorem ba_one (l : List UInt8) (i : Nat) (h : i < l.length) : (ba l).extract i (i + 1) = ba [l.getD i 0] := by
  apply ByteArray.ext
  rw [ByteArray.data_extract]
  apply Array.toList_inj.1
  rw [Array.toList_extract]
  show ((l.toArray).toList.extract i (i + 1)) = [l.getD i 0]
  rw [List.getD_eq_getElem?_getD, List.getElem?_eq_getElem h]
  rw [List.extract_eq_take_drop, show (l.toArray).toList = l from rfl, List.drop_eq_getElem_cons h, show i + 1 - i = 1 by omega]
  rfl
theorem ba_app (a b : List UInt8) : ba a ++ ba b = ba (a ++ b) := by
  apply ByteArray.ext
  simp [ba]
theorem hex_one (x : UInt8) : hexStr (ba [x]) = ba [dgB (x.toNat / 16), dgB (x.toNat % 16)] := by
  have h : ∀ n : Nat, n < 256 → hexStr (ba [n.toUInt8]) = ba [dgB (n / 16), dgB (n % 16)] := by decide +kernel
  have := h x.toNat x.toNat_lt
  rwa [show x.toNat.toUInt8 = x by simp] at this
theorem flat_take (l : List UInt8) (i : Nat) (h : i < l.length) : (l.take (i + 1)).flatMap eb = (l.take i).flatMap eb ++ eb (l.getD i 0) := by
  rw [List.take_succ_eq_append_getElem h, List.flatMap_append, List.getD_eq_getElem?_getD, List.getElem?_eq_getElem h]
  simp

set_option maxHeartbeats 4000000 in
set_option maxRecDepth 100000 in
theorem esc_any (l : List UInt8) (w : World) (hl : l.length ≤ 16777216) :
    Calls Tryd.prog 5 #[.string (ba l)] w fun e w' => e = .returned (.string (ba (eT l))) ∧ Below w.heap.size w w' := by
  have hsz := ba_size l
  have hgt : ∀ (n : Nat) (h : n < (ba l).size), (((ba l)[n]'h).toNat : Int) = bt (ba l) n := get_bt (ba l)
  have hBT : Hid (∀ i, i < l.length → bt (ba l) i = ((l.getD i 0).toNat : Int)) := bt_get l
  by_cases h0 : l = []
  · subst h0
    have hne : (ba []).toList.isEmpty = true := by rw [ba_toList]; rfl
    go_enter Tryd.func5, Tryd.ntmps5
    go_wp2
    go_ret
    exact ⟨rfl, Below.refl _ _⟩
  · have hne : (ba l).toList.isEmpty = false := by rw [ba_toList]; cases l <;> simp at *
    have HE : Hid (eT l = l.flatMap eb) := by unfold Hid eT; rw [if_neg h0]
    clear h0
    go_enter Tryd.func5, Tryd.ntmps5
    go_wp2_with fail
    have HB0 : Hid (Bd 35 (w.alloc (.cells #[.pointer none, .slice none 0 0] 35)) w.heap.size ((l.take 0).flatMap eb)) := Bd.new 35 w
    have HL0 : Hid (Below w.heap.size w (w.alloc (.cells #[.pointer none, .slice none 0 0] 35))) := (Below.refl _ _).alloc (Nat.le_refl _) _
    generalize w.alloc (.cells #[.pointer none, .slice none 0 0] 35) = w1 at HB0 HL0 ⊢
    generalize hg : w.heap.size = g at HB0 HL0 ⊢
    have HG : Hid (w.heap.size = g) := hg
    clear hg
    go_loopg [4, 9] l.length (fun gk u4 iv wr => ∃ i : Nat, gk + i = l.length ∧ iv = .int .i64 (i : Int) ∧ Hid (Bd 35 wr g ((l.take i).flatMap eb)) ∧ Hid (Below g w wr))
    case atStart => exact ⟨0, rfl, rfl, HB0, HL0⟩
    case round =>
      obtain ⟨i, hgk, rfl, hB, hL⟩ := hrel
      clear HB0 HL0
      by_cases hi : i < l.length
      · have x1 := hBT.out i hi
        have hst := flat_take l i hi
        have hfl := flat_le (l.take i)
        rw [List.length_take] at hfl
        have hx1 := ba_one l i hi
        have hln : ((l.take i).flatMap eb).length ≤ 50331648 := by omega
        clear hfl
        have hxb : (l.getD i 0).toNat < 256 := (l.getD i 0).toNat_lt
        generalize l.getD i 0 = x at x1 hst hx1 hxb
        have HS : Hid ((l.take (i + 1)).flatMap eb = (l.take i).flatMap eb ++ eb x) := hst
        clear hst
        generalize (l.take i).flatMap eb = O at hB HS hln
        have hi' : (i : Int) < (l.length : Int) := by omega
        by_cases hp : 32 < x.toNat ∧ x.toNat < 127 ∧ x.toNat ≠ 37
        · have HEB : Hid (eb x = [x]) := by unfold Hid eb; rw [if_pos hp]
          obtain ⟨p1, p2, p3⟩ := hp
          have q1 : ¬ ((x.toNat : Int) < 33) := by omega
          have q2 : ¬ (126 < (x.toNat : Int)) := by omega
          have q3 : ((x.toNat : Int) == 37) = false := by rw [beq_eq_false_iff_ne]; omega
          have q4 : ¬ ((x.toNat : Int) = 37) := by omega
          have W2 := wbyte_any 35 (.inl rfl) g O x wr hB.out (by omega)
          clear hx1
          go_wp2_with fail
          refine W2.mono ?_
          rintro e w2 ⟨rfl, B2, L2⟩
          have HB2 : Hid (Bd 35 w2 g ((l.take (i + 1)).flatMap eb)) := by unfold Hid; rw [HS.out, HEB.out]; exact B2
          have HL2 : Hid (Below g w w2) := hL.out.trans L2
          clear B2 L2 hB hL HS HEB
          go_wp2
          go_roundg (gk - 1)
          case measure => omega
          case rel => exact ⟨i + 1, by omega, by go_num, HB2, HL2⟩
        · have HEB : Hid (eb x = [37, dgB (x.toNat / 16), dgB (x.toNat % 16)]) := by unfold Hid eb; rw [if_neg hp]
          have HX := hex_any (ba [x]) wr (by rw [ba_size]; show 1 ≤ _; omega)
          rw [hex_one] at HX
          have hxx : Hid ((ba l).extract i (i + 1) = ba [x]) := hx1
          have hap : Hid (ByteArray.mk #[37] ++ ba [dgB (x.toNat / 16), dgB (x.toNat % 16)] = ba [37, dgB (x.toNat / 16), dgB (x.toNat % 16)]) := ba_app [37] _
          have W2 := fun W (h : Bd 35 W g O) => wstr_any 35 (.inl rfl) g O [37, dgB (x.toNat / 16), dgB (x.toNat % 16)] W h (by show O.length + 3 ≤ _; omega)
          have hc : (x.toNat < 33) ∨ (¬ x.toNat < 33 ∧ 126 < x.toNat) ∨ (¬ x.toNat < 33 ∧ ¬ 126 < x.toNat ∧ x.toNat = 37) := by omega
          clear hp
          generalize dgB (x.toNat / 16) = d1 at HEB HX hap W2
          generalize dgB (x.toNat % 16) = d2 at HEB HX hap W2
          rcases hc with q1 | ⟨q1, q2⟩ | ⟨q1, q2, q3⟩
          all_goals (
            have r1 : Hid True := trivial
            first
              | (have q1' : (x.toNat : Int) < 33 := by omega)
              | (have q1' : ¬ (x.toNat : Int) < 33 := by omega
                 have q2' : 126 < (x.toNat : Int) := by omega)
              | (have q1' : ¬ (x.toNat : Int) < 33 := by omega
                 have q2' : ¬ 126 < (x.toNat : Int) := by omega
                 have q3' : (x.toNat : Int) = 37 := by omega
                 have q4' : ((x.toNat : Int) == 37) = true := by rw [q3']; rfl)
            go_wp2_with fail
            try rw [hxx.out]
            refine HX.mono ?_
            rintro e w2 ⟨rfl, L2⟩
            have B2 := W2 w2 (hB.out.below L2)
            go_wp2_with fail
            rw [hap.out]
            refine B2.mono ?_
            rintro e w3 ⟨rfl, B3, L3⟩
            have HB3 : Hid (Bd 35 w3 g ((l.take (i + 1)).flatMap eb)) := by unfold Hid; rw [HS.out, HEB.out]; exact B3
            have HL3 : Hid (Below g w w3) := (hL.out.trans (L2.mono (Nat.le_of_lt hB.out.lt))).trans L3
            clear B2 B3 L2 L3 hB hL HS HEB HX W2
            go_wp2
            go_roundg (gk - 1)
            case measure => omega
            case rel => exact ⟨i + 1, by omega, by go_num, HB3, HL3⟩)
      · have hi' : ¬ (i : Int) < (l.length : Int) := by omega
        have hb := hB.out
        rw [List.take_of_length_le (by omega)] at hb
        have W3 := bstr_any 35 g _ wr hb
        go_wp2_with fail
        refine W3.mono ?_
        rintro e w3 ⟨rfl, L3⟩
        have HL3 : Hid (Below g w w3) := hL.out.trans L3
        go_wp2
        go_ret
        rw [HE.out, HG.out]
        exact ⟨rfl, HL3.out⟩

end Go.Proofs.YthodlcmmagjboaaDoor
