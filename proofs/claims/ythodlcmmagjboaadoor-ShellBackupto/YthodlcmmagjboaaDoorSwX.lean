/- The law ShellBack, walked (own text of the verifier). -/
import Derived.Test.YthodlcmmagjboaaDoorSwW
namespace Go.Proofs.YthodlcmmagjboaaDoor
open Go.RowKit

theorem jn_le (L : List (List UInt8)) : (jn (L.map eT)).length ≤ 3 * (L.map List.length).sum + 2 * L.length := by
  induction L with
  | nil => simp [jn]
  | cons a L ih =>
    have h := eT_le a
    cases L with
    | nil => simp [jn]; omega
    | cons b r =>
      simp only [List.map_cons] at ih ⊢
      rw [jn, List.length_append, List.length_cons]
      simp only [List.sum_cons, List.length_cons] at ih ⊢
      omega
theorem take_map (L : List (List UInt8)) (i : Nat) (h : i < L.length) : (L.take (i + 1)).map eT = (L.take i).map eT ++ [eT (L.getD i [])] := by
  rw [List.take_succ_eq_append_getElem h, List.map_append, List.getD_eq_getElem?_getD, List.getElem?_eq_getElem h]
  rfl
theorem sum_take (L : List (List UInt8)) (i : Nat) : ((L.take i).map List.length).sum ≤ (L.map List.length).sum := by
  conv => rhs; rw [← List.take_append_drop i L]
  rw [List.map_append, List.sum_append]
  omega
theorem mem_sum (L : List (List UInt8)) (i : Nat) : (L.getD i []).length ≤ (L.map List.length).sum := by
  induction L generalizing i with
  | nil => simp
  | cons a L ih =>
    cases i with
    | zero => simp
    | succ i => have := ih i; simp at this ⊢; omega

set_option maxHeartbeats 8000000 in
set_option maxRecDepth 100000 in
theorem back_walk (x : Option Addr) (c : Nat) (L : List (List UInt8)) (w : World) (hx : SIs w x L.length (fun j => nth L j)) (hL : (L.map List.length).sum + L.length ≤ 1048576) :
    Calls Tryd.prog 4 #[.slice x L.length c] w fun e w' => e = .returned (.bool true) ∧ Below w.heap.size w w' := by
  have A0 := awake_esc w
  have hne : ((ByteArray.mk #[97, 37, 50, 48, 98, 37, 50, 53]).toList != [97, 37, 50, 48, 98, 37, 50, 53]) = false := by decide +kernel
  have HX : Hid (SIs w x L.length (fun j => nth L j)) := hx
  have HW : Hid (L ≠ [] → wds (spl (jn (L.map eT))) = some L) := wds_jn L
  have HJL : Hid ((jn (L.map eT)).length ≤ 3 * (L.map List.length).sum + 2 * L.length) := jn_le L
  clear hx
  go_enter Tryd.func4, Tryd.ntmps4
  go_wp2_with fail
  refine A0.mono ?_
  rintro e w1 ⟨rfl, L1⟩
  have HB1 : Hid (Below w.heap.size w w1) := L1
  clear A0 L1
  go_wp2_with fail
  go_loopg [3, 4, 5, 6, 7, 14] L.length (fun gk vl u4 u5 u6 u7 iv wr => ∃ (i : Nat) (J : List UInt8), gk + i = L.length ∧ iv = .int .i64 (i : Int) ∧ vl = .string (ba J) ∧ Hid (J = jn ((L.take i).map eT)) ∧ Hid (Below w.heap.size w wr))
  case atStart => exact ⟨0, [], rfl, rfl, rfl, rfl, HB1⟩
  case round =>
    obtain ⟨i, J, hgk, rfl, rfl, hJ, hB⟩ := hrel
    clear HB1
    by_cases hi : i < L.length
    · obtain ⟨a, rfl, c0⟩ := (HX.out.below hB.out (Nat.le_refl _)) i hi
      obtain ⟨t, ht⟩ : ∃ t, L.getD i [] = t := ⟨_, rfl⟩
      have hn : nth L i = ba t := by unfold nth; rw [ht]
      have c1 : wr.cell? (a.add i) = some (.string (ba t)) := by rw [← hn]; exact c0
      clear c0
      have htl : t.length ≤ 1048576 := by have := mem_sum L i; rw [ht] at this; omega
      have C := esc_any t wr (by omega)
      have hi' : (i : Int) < (L.length : Int) := by omega
      have HE : Hid (∀ b ∈ eT t, 32 < b.toNat ∧ b.toNat < 127) := eT_bytes t
      have HJ2 : Hid ((L.take (i + 1)).map eT = (L.take i).map eT ++ [eT t]) := by unfold Hid; rw [take_map L i hi, ht]
      have hel := eT_le t
      have hjl : J.length ≤ 6291456 := by
        rw [hJ.out]
        have h1 := jn_le (L.take i)
        have h2 := sum_take L i
        rw [List.length_take] at h1
        omega
      have hsz := ba_size (eT t)
      have hgs : ∀ (n : Nat) (h : n < (ba (eT t)).size), (((ba (eT t))[n]'h).toNat : Int) = bt (ba (eT t)) n := get_bt _
      have hBT : Hid (∀ k, k < (eT t).length → bt (ba (eT t)) k = (((eT t).getD k 0).toNat : Int) ∧ (eT t).getD k 0 ∈ eT t) := fun k hk => ⟨bt_get _ k hk, by rw [List.getD_eq_getElem?_getD, List.getElem?_eq_getElem hk]; exact List.getElem_mem hk⟩
      generalize eT t = E at C HE HJ2 hel hsz hgs hBT
      clear hn ht
      go_wp2_with fail
      refine C.mono ?_
      rintro e w2 ⟨rfl, L2⟩
      have HB2 : Hid (Below w.heap.size w w2) := bel_trans hB.out L2
      clear C L2 hB c1
      obtain ⟨go, hgo⟩ : ∃ go, go = gk := ⟨gk, rfl⟩
      subst hgo
      go_wp2_with fail
      go_loopg [7] E.length (fun gk kv wi => ∃ k : Nat, gk + k = E.length ∧ kv = .int .i64 (k : Int) ∧ wi = w2)
      case atStart => exact ⟨0, rfl, rfl, rfl⟩
      case round =>
        obtain ⟨k, hgj, rfl, rfl⟩ := hrel
        by_cases hk : k < E.length
        · obtain ⟨b1, b2⟩ := hBT.out k hk
          obtain ⟨r1, r2⟩ := HE.out _ b2
          have hk' : (k : Int) < (E.length : Int) := by omega
          generalize E.getD k 0 = b at b1 r1 r2
          have r3 : ¬ (b.toNat : Int) ≤ 32 := by omega
          have r4 : ¬ 126 < (b.toNat : Int) := by omega
          clear b2
          go_wp2
          go_roundg (gk - 1)
          case measure => omega
          case rel => exact ⟨k + 1, by omega, by go_num, rfl⟩
        · have hk' : ¬ (k : Int) < (E.length : Int) := by omega
          have hcz : ¬ 9223372036854775807 < (ba J).size + 1 := by rw [ba_size]; omega
          have hcz2 : ¬ 9223372036854775807 < (ba J).size + (ba E).size := by rw [ba_size, ba_size]; omega
          have hcz3 : ¬ 9223372036854775807 < (ba J ++ ba [32]).size + (ba E).size := by rw [ba_app, ba_size, ba_size, List.length_append]; show ¬ _ < J.length + 1 + _; omega
          have e32 : ByteArray.mk #[32] = ba [32] := rfl
          by_cases h0 : i = 0
          · have hi0 : ¬ (0 < (i : Int)) := by omega
            have hJ0 : J = [] := by rw [hJ.out, h0]; rfl
            have HJ3 : Hid (ba J ++ ba E = ba E) := by unfold Hid; rw [ba_app, hJ0]; rfl
            have HJ4 : Hid (E = jn ((L.take (i + 1)).map eT)) := by unfold Hid; rw [HJ2.out, h0]; rfl
            have HI0 : Hid (i = 0) := h0
            clear h0 hJ0
            go_wp2
            go_roundg (go - 1)
            case measure => omega
            case rel => exact ⟨i + 1, E, by omega, by go_num, by rw [HJ3.out], HJ4, HB2⟩
          · have hi0 : 0 < (i : Int) := by omega
            have HJ3 : Hid ((ba J ++ ba [32]) ++ ba E = ba (J ++ 32 :: E)) := by unfold Hid; rw [ba_app, ba_app]; congr 1; simp
            have HJ4 : Hid (J ++ 32 :: E = jn ((L.take (i + 1)).map eT)) := by
              unfold Hid
              rw [HJ2.out, jn_snoc, hJ.out]
              intro h
              have h9 := congrArg List.length h
              rw [List.length_map, List.length_take, List.length_nil] at h9
              omega
            clear h0
            go_wp2
            go_roundg (go - 1)
            case measure => omega
            case rel => exact ⟨i + 1, J ++ 32 :: E, by omega, by go_num, by rw [← HJ3.out], HJ4, HB2⟩
    · have hi' : ¬ (i : Int) < (L.length : Int) := by omega
      have hJ2 : Hid (J = jn (L.map eT)) := by unfold Hid; rw [hJ.out, List.take_of_length_le (by omega)]
      have hJl : J.length ≤ 6291456 := by
        rw [hJ2.out]
        have := HJL.out
        omega
      have hJz := ba_size J
      have C := words_any J wr (by omega)
      have hLn : L.length ≤ 1048576 := by omega
      clear hJ HJL hL
      go_wp2_with fail
      refine C.mono ?_
      rintro e w2 ⟨P2, L2⟩
      have HB2 : Hid (Below w.heap.size w w2) := bel_trans hB.out L2
      have HX2 : Hid (SIs w2 x L.length (fun j => nth L j)) := HX.out.below HB2.out (Nat.le_refl _)
      clear C L2 hB HX
      rcases P2 with ⟨h4, rfl⟩ | ⟨h4, hN, rfl⟩ | ⟨h4, T, y, d, hN, rfl, hS⟩
      · have h4' : 4096 < (J.length : Int) := by omega
        go_wp2
        try rw [Exit.noGoto_ret]
        go_ret
        exact ⟨rfl, HB2.out⟩
      · have h4' : ¬ 4096 < (J.length : Int) := by omega
        by_cases h0 : L = []
        · have hl0 : ((L.length : Int) == 0) = true := by rw [h0]; rfl
          have hl1 : (L.length : Int) = 0 := by rw [h0]; rfl
          clear h0
          go_wp2
          try rw [Exit.noGoto_ret]
          go_ret
          exact ⟨rfl, HB2.out⟩
        · rw [hJ2.out, HW.out h0] at hN
          cases hN
      · have h4' : ¬ 4096 < (J.length : Int) := by omega
        by_cases h0 : L = []
        · exfalso
          rw [hJ2.out, h0] at hN
          revert hN
          rw [show jn (([] : List (List UInt8)).map eT) = [] from rfl, show spl [] = [[]] by rw [spl], show wds [[]] = none from rfl]
          intro h
          cases h
        · have hl0 : ((L.length : Int) == 0) = false := by
            rw [beq_eq_false_iff_ne]
            intro h
            exact h0 (List.eq_nil_of_length_eq_zero (by omega))
          have hl1 : ¬ (L.length : Int) = 0 := by
            intro h
            exact h0 (List.eq_nil_of_length_eq_zero (by omega))
          rw [hJ2.out, HW.out h0] at hN
          cases hN
          have C5 := texts_any y x L.length d c (fun j => nth L j) w2 hS HX2.out (by omega)
          clear h0 hJ2 HW hS HX2
          go_wp2_with fail
          refine C5.mono ?_
          rintro e w6 ⟨rfl, L6⟩
          have B6 : Hid (Below w.heap.size w w6) := bel_trans HB2.out L6
          clear C5 L6 HB2
          go_wp2
          go_ret
          exact ⟨rfl, B6.out⟩

end Go.Proofs.YthodlcmmagjboaaDoor
