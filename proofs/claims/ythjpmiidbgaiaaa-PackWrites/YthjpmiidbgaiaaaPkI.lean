/- Pack, walked. -/
import Derived.Test.YthjpmiidbgaiaaaPkH
namespace Go.Proofs.Ythjpmiidbgaiaaa
open Go.RowKit Go.Maps Go.WideMaps

theorem plT_length : ∀ (f : Nat) (l : List UInt8), (plT f l).length ≤ 2 * l.length := by
  intro f
  induction f with
  | zero => intro l; exact Nat.zero_le _
  | succ f ih =>
    intro l
    unfold plT
    by_cases e : l.length = 0
    · rw [if_pos e]; exact Nat.zero_le _
    · rw [if_neg e, List.length_cons, List.length_append, List.length_take]
      have := ih (l.drop 128)
      rw [List.length_drop] at this
      omega
theorem pkGo_none (s : List UInt8) (f i p : Nat) (hi : i < s.length) (h : findB s i = none) : pkGo s (f + 1) i p = pkGo s f (i + 1) p := by
  rw [pkGo, if_pos hi, h]
theorem pkGo_some (s : List UInt8) (f i p q : Nat) (hi : i < s.length) (h : findB s i = some q) : pkGo s (f + 1) i p = plT (s.length + 1) (cutL s p i) ++ bkT (i - q) (mch s q i (min 131 (s.length - i)) 0) ++ pkGo s f (i + mch s q i (min 131 (s.length - i)) 0) (i + mch s q i (min 131 (s.length - i)) 0) := by
  rw [pkGo, if_pos hi, h]
theorem pkGo_end (s : List UInt8) (f i p : Nat) (hi : ¬ i < s.length) : pkGo s f i p = plT (s.length + 1) (cutL s p s.length) := by
  cases f with
  | zero => rfl
  | succ f => rw [pkGo, if_neg hi]
theorem pkGo_fuel (s : List UInt8) : ∀ (f f' i p : Nat), s.length - i ≤ f → s.length - i ≤ f' → pkGo s f i p = pkGo s f' i p := by
  intro f
  induction f with
  | zero => intro f' i p h _; rw [pkGo_end s 0 i p (by omega), pkGo_end s f' i p (by omega)]
  | succ f ih =>
    intro f' i p h h'
    by_cases hi : i < s.length
    · obtain ⟨f'', rfl⟩ : ∃ f'', f' = f'' + 1 := ⟨f' - 1, by omega⟩
      cases hb : findB s i with
      | none => rw [pkGo_none s f i p hi hb, pkGo_none s f'' i p hi hb, ih f'' (i + 1) p (by omega) (by omega)]
      | some q =>
        have h4 := (findB_some hb).2.2.2
        rw [pkGo_some s f i p q hi hb, pkGo_some s f'' i p q hi hb]
        rw [ih f'' _ _ (by omega) (by omega)]
    · rw [pkGo_end s _ i p hi, pkGo_end s _ i p hi]

theorem lek_len (k n : Nat) : (lek k n).length = k := by
  induction k generalizing n with
  | zero => rfl
  | succ k ih => show (lek k (n / 256)).length + 1 = k + 1; rw [ih]
theorem leN_lek (k n : Nat) : leN (lek k n) = n % 256 ^ k := by
  induction k generalizing n with
  | zero => show 0 = n % 1; omega
  | succ k ih =>
    show (UInt8.ofNat (n % 256)).toNat + 256 * leN (lek k (n / 256)) = n % 256 ^ (k + 1)
    rw [ih, Nat.pow_succ, Nat.mul_comm (256 ^ k) 256, Nat.mod_mul]
    congr 1
    simp
theorem w8_nat (n j : Nat) : (w8 n j).toNat = n / 2 ^ (8 * j) % 256 := by
  have : w8 n j = ((n / 2 ^ (8 * j) % 256 : Nat) : Int) := by unfold w8; rw [Int.natCast_emod, Int.natCast_ediv, Int.natCast_pow]; rfl
  rw [this, Int.toNat_natCast]
theorem le8_eq (n : Nat) : strFn 8 (w8 n) = ba (lek 8 n) := by
  have e : ∀ m : Nat, m % 256 % 256 = m % 256 := fun m => by omega
  show ByteArray.mk _ = ByteArray.mk _
  congr 2
  simp [List.range_succ, w8_nat, lek, Nat.div_div_eq_div_mul]
theorem leN_lek8 (n : Nat) (h : n ≤ 1048576) : leN (lek 8 n) = n := by
  rw [leN_lek]
  exact Nat.mod_eq_of_lt (Nat.lt_of_le_of_lt h (by decide))

/-- What is true ahead of each place. -/
structure PLoop (w0 wr : World) (g m : Nat) (s : List UInt8) (gk i : Nat) : Prop where
  fu : gk + i = s.length
  ex : ∃ (v : Value) (out : List UInt8) (p n : Nat) (D : DataW Unit), Pk wr g m v s out p n D ∧ n ≤ i ∧ LastOK s i D ∧ p ≤ i ∧ out ++ pkGo s gk i p = pk s ∧ 8 ≤ out.length ∧ out.length ≤ 8 + 2 * p
  be : Below m w0 wr

theorem pk_big (s : ByteArray) (w : World) (h : 1048576 < s.size) (h2 : s.size ≤ 9223372036854775807) :
    Calls Try.prog 10 #[.string s] w fun e w' => e = .returned (.tuple #[.string ⟨#[]⟩, .int .i64 2]) ∧ w' = w := by
  go_enter Try.func10, Try.ntmps10
  go_wp2
  go_ret2
  exact ⟨rfl, rfl⟩

set_option maxHeartbeats 4000000 in
set_option maxRecDepth 10000 in
theorem pack_any (s : List UInt8) (w : World) (hs : s.length ≤ 1048576) :
    Calls Try.prog 10 #[.string (ba s)] w fun e w' => e = .returned (.tuple #[.string (ba (pk s)), .int .i64 0]) ∧ Below w.heap.size w w' := by
  have hsz := ba_size s
  have hmm := @run_makeMap Try.prog
  go_enter Try.func10, Try.ntmps10
  go_wp2_with fail
  refine (int_any (s.length : Int) _ (by omega) (by omega)).mono ?_
  rintro e w1 ⟨rfl, b1⟩
  have hz1 : ((w.alloc (.map #[] 0)).alloc (.cells #[.pointer none, .slice none 0 0, .string (ba s), .map (some w.heap.size), .int .i64 0] 63)).heap.size = w.heap.size + 2 := by rw [World.size_alloc, World.size_alloc]
  have sA : (w.alloc (.map #[] 0)).heap.size = w.heap.size + 1 := World.size_alloc _ _
  rw [hz1] at b1
  have PB : PkB w1 (w.heap.size + 1) w.heap.size (.pointer none) (.slice none 0 0) s 0 := by
    unfold PkB
    rw [b1.block _ (by omega), ← sA]
    exact Array.getElem?_push_size
  have MP : w1.ownsMap Try.prog 84 (plainElem Try.prog 3) w.heap.size 0 (.map []) := map_same (World.ownsMap_made w Try.prog 84 (plainElem Try.prog 3)) (by rw [b1.block _ (by omega), Below.heap_alloc _ _ _ (by rw [sA]; omega)])
  have B1 : Hid (Below w.heap.size w w1) := (((Below.refl _ _).alloc (Nat.le_refl _) _).alloc (by rw [sA]; omega) _).trans ⟨b1.os, b1.tape, b1.output, b1.size, fun k hk => b1.block k (by omega)⟩
  rw [le8_eq]
  have WF := wstr_first (w.heap.size + 1) w.heap.size s 0 (.map []) (lek 8 s.length) w1 PB MP (by omega) (by rw [lek_len]; omega)
  clear PB MP b1 hz1 sA
  have hm0 : Hid (w.heap.size ≤ w.heap.size) := Nat.le_refl _
  generalize hM : w.heap.size = m at *
  obtain ⟨g, hg⟩ : ∃ g, g = m + 1 := ⟨_, rfl⟩
  rw [← hg] at WF ⊢
  have HG : Hid (g = m + 1 ∧ w.heap.size = m) := ⟨hg, hM⟩
  clear hg hM
  go_wp2_with fail
  refine WF.mono ?_
  rintro e w2 ⟨rfl, ⟨v2, P2⟩, B2⟩
  have HI : Hid (PLoop w w2 g m s s.length 0) := ⟨by omega, ⟨v2, lek 8 s.length, 0, 0, .map [], P2, Nat.le_refl _, fun k => rfl, Nat.le_refl _, rfl, by rw [lek_len]; omega, by rw [lek_len]; omega⟩, B1.out.trans ⟨B2.os, B2.tape, B2.output, B2.size, fun k hk => B2.block k (by have := HG.out.1; omega)⟩⟩
  clear WF P2 B2 B1
  go_wp2_with fail
  go_loopg [5] s.length (fun gk ix wr => ∃ i : Nat, ix = .int .i64 i ∧ Hid (PLoop w wr g m s gk i))
  case atStart => exact ⟨0, rfl, HI⟩
  case round =>
    obtain ⟨i, rfl, hPL⟩ := hrel
    clear HI
    have hfu := hPL.out.fu
    obtain ⟨v, out, p, n, D, P, hn, hL, hpi, hout, hbs, hbl⟩ := hPL.out.ex
    have HP : Hid (Pk wr g m v s out p n D) := P
    have HL : Hid (LastOK s i D) := hL
    have HO : Hid (out ++ pkGo s gk i p = pk s) := hout
    have HB : Hid (Below m w wr) := hPL.out.be
    have hgm : m < g := P.mg
    clear P hL hout hPL
    by_cases hi : i < s.length
    · by_cases h4 : i + 4 ≤ s.length
      · have LP := lastPlace_some g m v s out p n D i wr HP.out hs h4 HL.out
        cases hl : lastOf s (fourAt s i) i with
        | none =>
          have HNX : Hid (out ++ pkGo s (gk - 1) (i + 1) p = pk s) := by
            have hb : findB s i = none := by unfold findB; rw [if_pos h4, hl]
            have := HO.out
            rw [show gk = gk - 1 + 1 by omega, pkGo_none s _ i p hi hb] at this
            exact this
          unfold LPost at LP
          rw [hl] at LP
          dsimp only at LP
          go_wp2_with fail
          refine LP.mono ?_
          rintro e w3 ⟨⟨z, rfl⟩, B3⟩
          have HP3 : Hid (Pk w3 g m v s out p n D) := HP.out.below B3
          have HB3 : Hid (Below m w w3) := HB.out.trans ⟨B3.os, B3.tape, B3.output, B3.size, fun k hk => B3.block k (by have := HP.out.lt; omega)⟩
          clear LP B3
          go_wp2_with fail
          refine (passBy_any g m v s out p n D i (i + 1) _ HP3.out hs (by omega) (by omega) hn HL.out).mono ?_
          rintro e w9 ⟨rfl, ⟨n9, D9, hn9, P9, L9⟩, B9⟩
          have HF : Hid (PLoop w w9 g m s (gk - 1) (i + 1)) := ⟨by omega, ⟨v, out, p, n9, D9, P9, hn9, L9, by omega, HNX.out, hbs, hbl⟩, HB3.out.trans B9⟩
          clear P9 L9 B9
          go_wp2
          go_roundg (gk - 1)
          case measure => omega
          case rel => exact ⟨i + 1, by go_num, HF⟩
        | some q =>
          obtain ⟨hq1, hq2, hq3⟩ := lastOf_some hl
          unfold LPost at LP
          rw [hl] at LP
          dsimp only at LP
          go_wp2_with fail
          refine LP.mono ?_
          rintro e w3 ⟨rfl, B3⟩
          have HP3 : Hid (Pk w3 g m v s out p n D) := HP.out.below B3
          have HB3 : Hid (Below m w w3) := HB.out.trans ⟨B3.os, B3.tape, B3.output, B3.size, fun k hk => B3.block k (by have := HP.out.lt; omega)⟩
          clear LP B3
          by_cases hfar : i - q ≤ 65536
          · have hb : findB s i = some q := by unfold findB; rw [if_pos h4, hl]; dsimp only; rw [if_pos hfar]
            have hk4 := (findB_some hb).2.2.2
            have hkm := mch_le s q i (min 131 (s.length - i)) 0
            have HNX : Hid (out ++ plT (s.length + 1) (cutL s p i) ++ bkT (i - q) (mch s q i (min 131 (s.length - i)) 0) ++ pkGo s (gk - mch s q i (min 131 (s.length - i)) 0) (i + mch s q i (min 131 (s.length - i)) 0) (i + mch s q i (min 131 (s.length - i)) 0) = pk s) := by
              have := HO.out
              rw [show gk = gk - 1 + 1 by omega, pkGo_some s _ i p q hi hb, pkGo_fuel s (gk - 1) (gk - mch s q i (min 131 (s.length - i)) 0) _ _ (by omega) (by omega)] at this
              unfold Hid
              rw [← this]
              simp
            have MC := fun w c2 => matching_any g s q i w c2 hs hq1 hi
            have hfar' : (i : Int) - (q : Int) ≤ 65536 := by omega
            have hL1 : mch s q i (min 131 (s.length - i)) 0 ≤ 131 := by omega
            have hL2 : i + mch s q i (min 131 (s.length - i)) 0 ≤ s.length := by omega
            generalize mch s q i (min 131 (s.length - i)) 0 = K at HNX MC hk4 hL1 hL2
            clear hkm hb
            go_wp2_with fail
            refine (MC w3 (by rw [Lib.cell_of_heap HP3.out.blk]; rfl)).mono ?_
            rintro e w4 ⟨rfl, qq, rfl⟩
            clear MC
            go_wp2_with fail
            refine (writePlain_any g m v s out p n D i _ (HP3.out.drewN qq) hs (by omega) hpi (by omega)).mono ?_
            rintro e w5 ⟨rfl, ⟨v5, P5⟩, B5⟩
            have hpl := plT_length (s.length + 1) (cutL s p i)
            rw [cutL_length s p i (by omega)] at hpl
            have HP5 : Hid (Pk w5 g m v5 s (out ++ plT (s.length + 1) (cutL s p i)) i n D) := P5
            have HB5 : Hid (Below m w w5) := (bel_drewN HB3.out qq).trans ⟨B5.os, B5.tape, B5.output, B5.size, fun k hk => B5.block k (by omega)⟩
            clear P5 B5
            have hsub : (i : Int) - (q : Int) = ((i - q : Nat) : Int) := by omega
            go_wp2_with fail
            refine (writeBack_any g m v5 s (out ++ plT (s.length + 1) (cutL s p i)) i n D (i - q) K w5 HP5.out (by rw [List.length_append]; omega) (by omega) hfar hL1 hk4).mono ?_
            rintro e w6 ⟨rfl, ⟨v6, P6⟩, B6⟩
            have x4 : w6.cell? ⟨g, 4, none⟩ = some (.int .i64 (i : Int)) := by rw [Lib.cell_of_heap P6.blk]; rfl
            have y4 : w6.frozen? ⟨g, 4, none⟩ = false := Lib.frozen_of_heap P6.blk 4
            have HP6 : Hid (Pk (w6.setCell ⟨g, 4, none⟩ (.int .i64 ((i : Int) + (K : Int)))) g m v6 s (out ++ plT (s.length + 1) (cutL s p i) ++ bkT (i - q) K) (i + K) n D) := P6.setp (i + K)
            have HB6 : Hid (Below m w (w6.setCell ⟨g, 4, none⟩ (.int .i64 ((i : Int) + (K : Int))))) := (HB5.out.trans ⟨B6.os, B6.tape, B6.output, B6.size, fun k hk => B6.block k (by omega)⟩).setCell (p := ⟨g, 4, none⟩) (by show m ≤ g; omega) _
            have hlen6 : Hid ((out ++ plT (s.length + 1) (cutL s p i) ++ bkT (i - q) K).length ≤ 8 + 2 * (i + K) ∧ 8 ≤ (out ++ plT (s.length + 1) (cutL s p i) ++ bkT (i - q) K).length) := by
              have : (bkT (i - q) K).length = 3 := rfl
              refine ⟨?_, ?_⟩ <;> rw [List.length_append, List.length_append, this] <;> omega
            clear P6 B6 hsub
            go_wp2_with fail
            generalize w6.setCell ⟨g, 4, none⟩ (.int .i64 ((i : Int) + (K : Int))) = w7 at HP6 HB6 ⊢
            refine (passBy_any g m v6 s _ (i + K) n D i (i + K) w7 HP6.out hs (by omega) hL2 hn HL.out).mono ?_
            rintro e w9 ⟨rfl, ⟨n9, D9, hn9, P9, L9⟩, B9⟩
            have HF : Hid (PLoop w w9 g m s (gk - K) (i + K)) := ⟨by omega, ⟨v6, _, i + K, n9, D9, P9, hn9, L9, by omega, HNX.out, hlen6.out.2, hlen6.out.1⟩, HB6.out.trans B9⟩
            clear P9 L9 B9
            go_wp2
            go_roundg (gk - K)
            case measure => omega
            case rel => exact ⟨i + K, by go_num, HF⟩
          · have HNX : Hid (out ++ pkGo s (gk - 1) (i + 1) p = pk s) := by
              have hb : findB s i = none := by unfold findB; rw [if_pos h4, hl]; dsimp only; rw [if_neg hfar]
              have := HO.out
              rw [show gk = gk - 1 + 1 by omega, pkGo_none s _ i p hi hb] at this
              exact this
            have hfar' : ¬ (i : Int) - (q : Int) ≤ 65536 := by omega
            go_wp2_with fail
            refine (passBy_any g m v s out p n D i (i + 1) _ HP3.out hs (by omega) (by omega) hn HL.out).mono ?_
            rintro e w9 ⟨rfl, ⟨n9, D9, hn9, P9, L9⟩, B9⟩
            have HF : Hid (PLoop w w9 g m s (gk - 1) (i + 1)) := ⟨by omega, ⟨v, out, p, n9, D9, P9, hn9, L9, by omega, HNX.out, hbs, hbl⟩, HB3.out.trans B9⟩
            clear P9 L9 B9
            go_wp2
            go_roundg (gk - 1)
            case measure => omega
            case rel => exact ⟨i + 1, by go_num, HF⟩
      · have LP := lastPlace_none g m v s out p n D i wr HP.out hs (by omega) h4
        have HNX : Hid (out ++ pkGo s (gk - 1) (i + 1) p = pk s) := by
          have hb : findB s i = none := by unfold findB; rw [if_neg h4]
          have := HO.out
          rw [show gk = gk - 1 + 1 by omega, pkGo_none s _ i p hi hb] at this
          exact this
        go_wp2_with fail
        refine LP.mono ?_
        rintro e w3 ⟨rfl, B3⟩
        have HP3 : Hid (Pk w3 g m v s out p n D) := HP.out.below B3
        have HB3 : Hid (Below m w w3) := HB.out.trans ⟨B3.os, B3.tape, B3.output, B3.size, fun k hk => B3.block k (by have := HP.out.lt; omega)⟩
        clear LP B3
        go_wp2_with fail
        refine (passBy_any g m v s out p n D i (i + 1) _ HP3.out hs (by omega) (by omega) hn HL.out).mono ?_
        rintro e w9 ⟨rfl, ⟨n9, D9, hn9, P9, L9⟩, B9⟩
        have HF : Hid (PLoop w w9 g m s (gk - 1) (i + 1)) := ⟨by omega, ⟨v, out, p, n9, D9, P9, hn9, L9, by omega, HNX.out, hbs, hbl⟩, HB3.out.trans B9⟩
        clear P9 L9 B9
        go_wp2
        go_roundg (gk - 1)
        case measure => omega
        case rel => exact ⟨i + 1, by go_num, HF⟩
    · have HE : Hid (out ++ plT (s.length + 1) (cutL s p s.length) = pk s) := by
        have := HO.out
        rw [pkGo_end s _ i p hi] at this
        exact this
      go_wp2_with fail
      refine (writePlain_any g m v s out p n D s.length wr HP.out hs (Nat.le_refl _) (by omega) (by omega)).mono ?_
      rintro e w5 ⟨rfl, ⟨v5, P5⟩, B5⟩
      rw [HE.out] at P5
      have hne : pk s ≠ [] := by unfold pk; intro h; have := congrArg List.length h; rw [List.length_append, lek_len] at this; simp at this
      have BS := bstr_any g m v5 s (pk s) s.length n D w5 P5 hne
      have HB5 : Hid (Below m w w5) := HB.out.trans ⟨B5.os, B5.tape, B5.output, B5.size, fun k hk => B5.block k (by omega)⟩
      clear P5 B5
      go_wp2_with fail
      refine BS.mono ?_
      rintro e w6 ⟨rfl, B6⟩
      have HB6 : Hid (Below w.heap.size w w6) := by unfold Hid; rw [HG.out.2]; exact HB5.out.trans ⟨B6.os, B6.tape, B6.output, B6.size, fun k hk => B6.block k (by omega)⟩
      clear B6 BS
      go_wp2
      go_ret2
      exact ⟨rfl, HB6.out⟩

end Go.Proofs.Ythjpmiidbgaiaaa
