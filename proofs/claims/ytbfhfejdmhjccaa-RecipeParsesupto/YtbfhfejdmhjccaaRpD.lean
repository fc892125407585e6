/- Print, walked. -/
import Derived.Test.YtbfhfejdmhjccaaRpC
namespace Go.Proofs.Ytbfhfejdmhjccaa
open Go.RowKit

theorem rT_eq (nm : List UInt8) (ds : List (List UInt8)) (ss : List Stp) : rT ⟨nm, ds, ss⟩ = opn ++ qT nm ++ [44, 91] ++ seq qT ds ++ [93, 44, 91] ++ seq sT ss ++ [93, 41] := by
  unfold rT
  simp
theorem rT_len (nm : List UInt8) (ds : List (List UInt8)) (ss : List Stp) : (rT ⟨nm, ds, ss⟩).length = 14 + (qT nm).length + (seq qT ds).length + (seq sT ss).length := by
  rw [rT_eq, List.length_append, List.length_append, List.length_append, List.length_append, List.length_append, List.length_append]
  show 7 + _ + 2 + _ + 3 + _ + 2 = _
  omega
theorem seq_len {α : Type} (f : α → List UInt8) (hf : ∀ x, 1 ≤ (f x).length) (L : List α) : L.length ≤ (seq f L).length := by
  cases L with
  | nil => exact Nat.zero_le _
  | cons a L =>
    show _ ≤ (f a ++ cms f L).length
    rw [List.length_append, List.length_cons]
    have := cms_len f L
    have := hf a
    omega
theorem sT_pos (x : Stp) : 1 ≤ (sT x).length := by unfold sT; rw [List.length_cons]; omega
theorem qT_pos (x : List UInt8) : 1 ≤ (qT x).length := by unfold qT; rw [List.length_cons]; omega

set_option maxHeartbeats 16000000 in
theorem print_any (nm : List UInt8) (ds : List (List UInt8)) (ss : List Stp) (vd vs : Value) (w : World) (hD : RT w w.heap.size vd ds) (hS : RS w w.heap.size vs ss) (hl : (rT ⟨nm, ds, ss⟩).length ≤ 300000000) :
    Calls Try.prog 14 #[.agg #[.string (ba nm), vd, vs]] w fun e w' => e = .returned (.string (ba (rT ⟨nm, ds, ss⟩))) ∧ Below w.heap.size w w' := by
  have eo : ba opn = ⟨#[82, 101, 99, 105, 112, 101, 40]⟩ := rfl
  have e1 : ba [44, 91] = ⟨#[44, 91]⟩ := rfl
  have e2 : ba [93, 44, 91] = ⟨#[93, 44, 91]⟩ := rfl
  have e3 : ba [93, 41] = ⟨#[93, 41]⟩ := rfl
  have hrl := rT_len nm ds ss
  have hRE : Hid (rT ⟨nm, ds, ss⟩ = opn ++ qT nm ++ [44, 91] ++ seq qT ds ++ [93, 44, 91] ++ seq sT ss ++ [93, 41]) := rT_eq nm ds ss
  have hdl := seq_len qT qT_pos ds
  have hsl := seq_len sT sT_pos ss
  have hqn := qT_len nm
  rw [hrl] at hl
  generalize rT ⟨nm, ds, ss⟩ = R at hRE hrl ⊢
  have z1 : (w.alloc (.cells #[.string (ba nm), vd, vs] 26)).heap.size = w.heap.size + 1 := World.size_alloc _ _
  have b0 : Below w.heap.size w ((w.alloc (.cells #[.string (ba nm), vd, vs] 26)).alloc (.cells #[.pointer none, .slice none 0 0] 70)) := ((Below.refl _ _).alloc (Nat.le_refl _) _).alloc (by rw [z1]; omega) _
  have S0 : St3 ((w.alloc (.cells #[.string (ba nm), vd, vs] 26)).alloc (.cells #[.pointer none, .slice none 0 0] 70)) w.heap.size (.string (ba nm)) vd vs := (St3.new w _ _ _).same (Below.heap_alloc _ _ _ (by rw [z1]; omega))
  have B0 : Bd 70 ((w.alloc (.cells #[.string (ba nm), vd, vs] 26)).alloc (.cells #[.pointer none, .slice none 0 0] 70)) (w.heap.size + 1) [] := by
    have := Bd.new 70 (w.alloc (.cells #[.string (ba nm), vd, vs] 26))
    rw [z1] at this
    exact this
  have D0 := hD.below b0 (Nat.le_refl _)
  have T0 := hS.below b0 (Nat.le_refl _)
  obtain ⟨xd, cd, rfl, -⟩ := hD
  obtain ⟨xt, ct, rfl, -⟩ := hS
  go_enter Try.func14, Try.ntmps14
  go_wp2_with fail
  generalize (w.alloc (.cells #[.string (ba nm), .slice xd ds.length cd, .slice xt ss.length ct] 26)).alloc (.cells #[.pointer none, .slice none 0 0] 70) = w0 at b0 S0 B0 D0 T0 ⊢
  have HB0 : Hid (Bd 70 w0 (w.heap.size + 1) []) := B0
  have HS0 : Hid (St3 w0 w.heap.size (.string (ba nm)) (.slice xd ds.length cd) (.slice xt ss.length ct)) := S0
  have HD0 : Hid (RT w0 w.heap.size (.slice xd ds.length cd) ds) := D0
  have HT0 : Hid (RS w0 w.heap.size (.slice xt ss.length ct) ss) := T0
  have HL0 : Hid (Below w.heap.size w w0) := b0
  clear b0 S0 B0 D0 T0 z1
  generalize hr : w.heap.size = r at *
  have Hr : Hid (w.heap.size = r) := hr
  clear hr
  obtain ⟨g, hg⟩ : ∃ g, g = r + 1 := ⟨_, rfl⟩
  rw [← hg] at HB0 ⊢
  have hrg : r < g := by omega
  clear hg
  have W1 := wstrK_any 70 (.inr rfl) g [] opn w0 HB0.out (by decide)
  rw [eo] at W1
  refine W1.mono ?_
  rintro e w1 ⟨rfl, B1, L1, -⟩
  have HB1 : Hid (Bd 70 w1 g opn) := B1
  have HL1 : Hid (Below g w0 w1) := L1
  have HS1 : Hid (St3 w1 r (.string (ba nm)) (.slice xd ds.length cd) (.slice xt ss.length ct)) := HS0.out.same (L1.block r hrg)
  clear B1 L1 W1 HB0
  have c0 := HS1.out.c0
  go_wp2_with fail
  refine (pquoted_any g opn nm w1 HB1.out (by show 7 + _ ≤ _; omega)).mono ?_
  rintro e w2 ⟨rfl, B2, L2, -⟩
  have HB2 : Hid (Bd 70 w2 g (opn ++ qT nm)) := B2
  have HL2 : Hid (Below g w0 w2) := HL1.out.trans L2
  clear B2 L2 HB1 HL1 HS1 c0
  have hon : (opn ++ qT nm).length = 7 + (qT nm).length := by rw [List.length_append]; rfl
  have W3 := wstrK_any 70 (.inr rfl) g (opn ++ qT nm) [44, 91] w2 HB2.out (by rw [hon]; show 7 + _ + 2 ≤ _; omega)
  rw [e1] at W3
  go_wp2_with fail
  refine W3.mono ?_
  rintro e w3 ⟨rfl, B3, L3, -⟩
  have HL3 : Hid (Below g w0 w3) := HL2.out.trans L3
  have HS3 : Hid (St3 w3 r (.string (ba nm)) (.slice xd ds.length cd) (.slice xt ss.length ct)) := HS0.out.same (HL3.out.block r hrg)
  have HB3 : Hid (Bd 70 w3 g (opn ++ qT nm ++ [44, 91] ++ seq qT (ds.take 0))) := by
    unfold Hid
    rw [List.take_zero]
    show Bd 70 w3 g (opn ++ qT nm ++ [44, 91] ++ [])
    rw [List.append_nil]
    exact B3
  clear B3 L3 W3 HB2 HL2
  have c1 := HS3.out.c1
  go_wp2_with fail
  -- @1
  go_loopg [4, 5, 18] ds.length (fun gk u4 u5 iv wr => ∃ i : Nat, gk + i = ds.length ∧ iv = .int .i64 (i : Int) ∧ Hid (Bd 70 wr g (opn ++ qT nm ++ [44, 91] ++ seq qT (ds.take i))) ∧ Hid (Below g w0 wr))
  case atStart => exact ⟨0, rfl, rfl, HB3, HL3⟩
  case round =>
    obtain ⟨i, hgk, rfl, hB, hL⟩ := hrel
    clear HB3 HL3 HS3 c1
    by_cases hi : i < ds.length
    · obtain ⟨t, ht⟩ : ∃ t, ds[i]? = some t := ⟨_, List.getElem?_eq_getElem hi⟩
      have hm := seq_mem qT ds i t ht
      have hqt := qT_len t
      have HN : Hid (opn ++ qT nm ++ [44, 91] ++ seq qT (ds.take (i + 1)) = opn ++ qT nm ++ [44, 91] ++ seq qT (ds.take i) ++ (if i = 0 then [] else [44]) ++ qT t) := by
        unfold Hid
        rw [seq_take qT ds i t ht]
        simp
      have hcs : (opn ++ qT nm ++ [44, 91] ++ seq qT (ds.take i)).length = 9 + (qT nm).length + (seq qT (ds.take i)).length := by rw [List.length_append, List.length_append, hon]; show 7 + _ + 2 + _ = _; omega
      obtain ⟨x', c', e', hx⟩ := HD0.out
      injection e' with e1 e2 e3
      subst e1
      obtain ⟨b, o, rfl, hb, hcl⟩ := hx i t ht
      have hc2 : wr.cell? ⟨b, o + i, none⟩ = some (.string (ba t)) := cell_keep hL.out (by show b < g; omega) hcl
      generalize opn ++ qT nm ++ [44, 91] ++ seq qT (ds.take i) = O at hB HN hcs
      have hi' : (i : Int) < (ds.length : Int) := by omega
      clear hcl hx e3 e2 hb
      go_wp2_with fail
      refine (comma_any g O i wr hB.out (by omega) (by omega)).mono ?_
      rintro e w4 ⟨rfl, B4, L4, -⟩
      have HB4 : Hid (Bd 70 w4 g (O ++ if i = 0 then [] else [44])) := B4
      have HL4 : Hid (Below g w0 w4) := hL.out.trans L4
      have hol : (O ++ if i = 0 then [] else [44]).length ≤ O.length + 1 := by rw [List.length_append]; by_cases e : i = 0 <;> simp [e]
      clear B4 L4 hB hL hc2
      generalize (O ++ if i = 0 then [] else [44]) = O2 at HB4 HN hol
      go_wp2_with fail
      refine (pquoted_any g O2 t w4 HB4.out (by omega)).mono ?_
      rintro e w5 ⟨rfl, B5, L5, -⟩
      have HB5 : Hid (Bd 70 w5 g (opn ++ qT nm ++ [44, 91] ++ seq qT (ds.take (i + 1)))) := by unfold Hid; rw [HN.out]; exact B5
      have HL5 : Hid (Below g w0 w5) := HL4.out.trans L5
      clear B5 L5 HB4 HL4
      go_wp2
      go_roundg (gk - 1)
      case measure => omega
      case rel => exact ⟨i + 1, by omega, by go_num, HB5, HL5⟩
    · have hi' : ¬ (i : Int) < (ds.length : Int) := by omega
      have hb := hB.out
      rw [List.take_of_length_le (by omega)] at hb
      have hcs : (opn ++ qT nm ++ [44, 91] ++ seq qT ds).length = 9 + (qT nm).length + (seq qT ds).length := by rw [List.length_append, List.length_append, hon]; show 7 + _ + 2 + _ = _; omega
      have W6 := wstrK_any 70 (.inr rfl) g _ [93, 44, 91] wr hb (by rw [hcs]; show _ + 3 ≤ _; omega)
      rw [e2] at W6
      go_wp2_with fail
      refine W6.mono ?_
      rintro e w6 ⟨rfl, B6, L6, -⟩
      have HL6 : Hid (Below g w0 w6) := hL.out.trans L6
      have HS6 : Hid (St3 w6 r (.string (ba nm)) (.slice xd ds.length cd) (.slice xt ss.length ct)) := HS0.out.same (HL6.out.block r hrg)
      have HB6 : Hid (Bd 70 w6 g (opn ++ qT nm ++ [44, 91] ++ seq qT ds ++ [93, 44, 91] ++ seq sT (ss.take 0))) := by
        unfold Hid
        rw [List.take_zero]
        show Bd 70 w6 g (opn ++ qT nm ++ [44, 91] ++ seq qT ds ++ [93, 44, 91] ++ [])
        rw [List.append_nil]
        exact B6
      clear B6 L6 W6 hb hB hL hi hi' hgk
      have c2 := HS6.out.c2
      go_wp2_with fail
      have hcs6 : (opn ++ qT nm ++ [44, 91] ++ seq qT ds ++ [93, 44, 91]).length = 12 + (qT nm).length + (seq qT ds).length := by rw [List.length_append, hcs]; show _ + 3 = _; omega
      have HRE6 : Hid (R = opn ++ qT nm ++ [44, 91] ++ seq qT ds ++ [93, 44, 91] ++ seq sT ss ++ [93, 41]) := hRE.out
      clear hRE hcs
      generalize opn ++ qT nm ++ [44, 91] ++ seq qT ds ++ [93, 44, 91] = PX at HB6 hcs6 HRE6
      go_loopg [6, 7, 33] ss.length (fun gk u6 u7 iv wr => ∃ i : Nat, gk + i = ss.length ∧ iv = .int .i64 (i : Int) ∧ Hid (Bd 70 wr g (PX ++ seq sT (ss.take i))) ∧ Hid (Below g w0 wr))
      case atStart => exact ⟨0, rfl, rfl, HB6, HL6⟩
      case round =>
        obtain ⟨i, hgk, rfl, hB, hL⟩ := hrel
        clear HB6 HL6 HS6 c2
        by_cases hi : i < ss.length
        · obtain ⟨t, ht⟩ : ∃ t, ss[i]? = some t := ⟨_, List.getElem?_eq_getElem hi⟩
          have hm := seq_mem sT ss i t ht
          have HN : Hid (PX ++ seq sT (ss.take (i + 1)) = PX ++ seq sT (ss.take i) ++ (if i = 0 then [] else [44]) ++ sT t) := by
            unfold Hid
            rw [seq_take sT ss i t ht]
            simp
          have hcs : (PX ++ seq sT (ss.take i)).length = 12 + (qT nm).length + (seq qT ds).length + (seq sT (ss.take i)).length := by rw [List.length_append, hcs6]
          obtain ⟨x', c', e', hx⟩ := HT0.out
          injection e' with q1 q2 q3
          subst q1
          obtain ⟨b, o, y, rfl, hb, hcl, hcl2, hrt⟩ := hx i t ht
          have hc2 : wr.cell? ⟨b, o + i * 2, none⟩ = some (.string (ba t.1)) := cell_keep hL.out (by show b < g; omega) hcl
          have hc3 : wr.cell? ⟨b, o + i * 2 + 1, none⟩ = some y := cell_keep hL.out (by show b < g; omega) hcl2
          have HRT : Hid (RT w0 r y t.2) := hrt
          obtain ⟨xa, ca, rfl, -⟩ := hrt
          generalize PX ++ seq sT (ss.take i) = O at hB HN hcs
          have hi' : (i : Int) < (ss.length : Int) := by omega
          have hwl : g < wr.heap.size := hB.out.lt
          have S4 := St2.new wr (.string (ba t.1)) (.slice xa t.2.length ca)
          have b4 : Below wr.heap.size wr (wr.alloc (.cells #[.string (ba t.1), .slice xa t.2.length ca] 47)) := (Below.refl _ _).alloc (Nat.le_refl _) _
          have B4 := hB.out.below b4
          have L4 : Below g w0 (wr.alloc (.cells #[.string (ba t.1), .slice xa t.2.length ca] 47)) := hL.out.trans (b4.mono (by omega))
          clear hcl hcl2 hx q3 q2 hb b4
          go_wp2_with fail
          generalize wr.alloc (.cells #[.string (ba t.1), .slice xa t.2.length ca] 47) = w4 at S4 B4 L4 ⊢
          have HS4 : Hid (St2 w4 wr.heap.size (.string (ba t.1)) (.slice xa t.2.length ca)) := S4
          have HB4 : Hid (Bd 70 w4 g O) := B4
          have HL4 : Hid (Below g w0 w4) := L4
          clear S4 B4 L4 hB hL hc2 hc3
          generalize wr.heap.size = k at HS4 hwl ⊢
          refine (comma_any g O i w4 HB4.out (by omega) (by omega)).mono ?_
          rintro e w5 ⟨rfl, B5, L5, K5⟩
          have HS5 : Hid (St2 w5 k (.string (ba t.1)) (.slice xa t.2.length ca)) := HS4.out.bk K5 (by omega)
          have HB5 : Hid (Bd 70 w5 g (O ++ if i = 0 then [] else [44])) := B5
          have HL5 : Hid (Below g w0 w5) := HL4.out.trans L5
          have hol : (O ++ if i = 0 then [] else [44]).length ≤ O.length + 1 := by rw [List.length_append]; by_cases e : i = 0 <;> simp [e]
          clear B5 L5 K5 HS4 HB4 HL4
          generalize (O ++ if i = 0 then [] else [44]) = O2 at HB5 HN hol
          have d0 := HS5.out.c0
          have d1 := HS5.out.c1
          go_wp2_with fail
          refine (pstep_any g O2 t (.slice xa t.2.length ca) w5 HB5.out (by
            obtain ⟨x9, c9, e9, h9⟩ := HRT.out
            refine ⟨x9, c9, e9, fun j u hj => ?_⟩
            obtain ⟨b9, o9, k1, k2, k3⟩ := h9 j u hj
            exact ⟨b9, o9, k1, by omega, cell_keep HL5.out (by show b9 < g; omega) k3⟩) (by omega)).mono ?_
          rintro e w6 ⟨rfl, B6, L6, -⟩
          have HB6 : Hid (Bd 70 w6 g (PX ++ seq sT (ss.take (i + 1)))) := by unfold Hid; rw [HN.out]; exact B6
          have HL6 : Hid (Below g w0 w6) := HL5.out.trans L6
          clear B6 L6 HB5 HL5 HS5 d0 d1
          go_wp2
          go_roundg (gk - 1)
          case measure => omega
          case rel => exact ⟨i + 1, by omega, by go_num, HB6, HL6⟩
        · have hi' : ¬ (i : Int) < (ss.length : Int) := by omega
          have hb := hB.out
          rw [List.take_of_length_le (by omega)] at hb
          have W7 := wstrK_any 70 (.inr rfl) g _ [93, 41] wr hb (by rw [List.length_append, hcs6]; show _ + 2 ≤ _; omega)
          rw [e3, ← HRE6.out] at W7
          go_wp2_with fail
          refine W7.mono ?_
          rintro e w7 ⟨rfl, B7, L7, -⟩
          have HL7 : Hid (Below g w0 w7) := hL.out.trans L7
          have HB7 : Hid (Bd 70 w7 g R) := B7
          clear B7 L7 W7 hb hB hL
          go_wp2_with fail
          refine (bstr_any 70 g R w7 HB7.out).mono ?_
          rintro e w8 ⟨rfl, L8⟩
          have HL8 : Hid (Below w.heap.size w w8) := by
            unfold Hid
            rw [Hr.out]
            exact HL0.out.trans ((HL7.out.trans L8).mono (by omega))
          clear L8 HL7 HB7
          go_wp2
          go_ret
          exact ⟨rfl, HL8.out⟩

end Go.Proofs.Ytbfhfejdmhjccaa
