/- The law RecipeCuts, walked. -/
import Derived.Test.YtbfhfejdmhjccaaRgC
import Derived.Test.YtbfhfejdmhjccaaRhO
import Derived.Test.YtbfhfejdmhjccaaRhP
namespace Go.Proofs.Ytbfhfejdmhjccaa
open Go.RowKit

theorem ba_app (a b : List UInt8) : ba a ++ ba b = ba (a ++ b) := by
  apply ByteArray.ext
  simp [ba]

set_option maxHeartbeats 16000000 in
theorem cuts_walk (r : Rec) (vd vs : Value) (cut : Int) (more : ByteArray) (w : World) (hD : RT w w.heap.size vd r.ds) (hS : RS w w.heap.size vs r.ss) (hl : (rT r).length ≤ 4000000) (_hb1 : -9223372036854775808 ≤ cut) (_hb2 : cut ≤ 9223372036854775807) (hm : more.size ≤ 1048576) :
    Calls Try.prog 6 #[.agg #[.string (ba r.nm), vd, vs], .int .i64 cut, .string more] w fun e w' => e = .returned (.bool true) ∧ Below w.heap.size w w' := by
  obtain ⟨mo, rfl⟩ : ∃ l, more = ba l := ⟨more.data.toList, (ba_list more).symm⟩
  rw [ba_size] at hm
  obtain ⟨nm, ds, ss⟩ := r
  dsimp only at hD hS ⊢
  have HM : Hid (mo ≠ [] → prs (rT ⟨nm, ds, ss⟩ ++ mo) = .bad mo) := fun h => prs_more _ mo h
  have HCUT : Hid (∀ a b, rT ⟨nm, ds, ss⟩ = a ++ b → b ≠ [] → prs a = .bad []) := fun a b h hb => prs_cut _ a b h hb
  have PR := fun W (hd : RT W W.heap.size vd ds) (hs : RS W W.heap.size vs ss) => print_any nm ds ss vd vs W hd hs (by omega)
  have hmz := ba_size mo
  generalize rT ⟨nm, ds, ss⟩ = T at HM HCUT PR hl
  have hTz := ba_size T
  have b0 : Below w.heap.size w (w.alloc (.cells #[.string (ba nm), vd, vs] 26)) := (Below.refl _ _).alloc (Nat.le_refl _) _
  have S0 := St3.new w (.string (ba nm)) vd vs
  obtain ⟨xd, cd, rfl, -⟩ := id hD
  obtain ⟨xt, ct, rfl, -⟩ := id hS
  have HD : Hid (RT w w.heap.size (.slice xd ds.length cd) ds) := hD
  have HS : Hid (RS w w.heap.size (.slice xt ss.length ct) ss) := hS
  clear hD hS
  go_enter Try.func6, Try.ntmps6
  go_wp2_with fail
  generalize w.alloc (.cells #[.string (ba nm), .slice xd ds.length cd, .slice xt ss.length ct] 26) = w0 at b0 S0 ⊢
  refine (awake_any w0).mono ?_
  rintro e w1 ⟨rfl, b1⟩
  have HB1 : Hid (Below w.heap.size w w1) := bel_trans b0 b1
  have S1 : St3 w1 w.heap.size (.string (ba nm)) (.slice xd ds.length cd) (.slice xt ss.length ct) := S0.same (b1.block _ S0.lt)
  have a0 := S1.c0
  have a1 := S1.c1
  have a2 := S1.c2
  clear b0 b1 S0 S1
  go_wp2_with fail
  refine (PR w1 ((HD.out.below HB1.out (Nat.le_refl _)).up HB1.out.size) ((HS.out.below HB1.out (Nat.le_refl _)).up HB1.out.size)).mono ?_
  rintro e w2 ⟨rfl, b2⟩
  have HB2 : Hid (Below w.heap.size w w2) := bel_trans HB1.out b2
  clear b2 HB1 PR HD HS a0 a1 a2
  by_cases hmo : mo = []
  · have hne : (ba mo).toList.isEmpty = true := by rw [ba_toList, hmo]; rfl
    have HBx := HB2
    clear hmo HM HB2
    by_cases hc0 : cut < 0
    · have HB9 := HBx
      go_wp2
      try rw [Exit.noGoto_ret]
      go_ret
      exact ⟨rfl, HB9.out⟩
    · obtain ⟨n, rfl⟩ : ∃ n : Nat, cut = (n : Int) := ⟨cut.toNat, by omega⟩
      by_cases hc1 : T.length ≤ n
      · have hc1' : (T.length : Int) ≤ (n : Int) := by omega
        have HB9 := HBx
        go_wp2
        try rw [Exit.noGoto_ret]
        go_ret
        exact ⟨rfl, HB9.out⟩
      · have hc1' : ¬ (T.length : Int) ≤ (n : Int) := by omega
        obtain ⟨a, b, hab, hal, hbn⟩ : ∃ a b, T = a ++ b ∧ a.length = n ∧ b ≠ [] := ⟨T.take n, T.drop n, (List.take_append_drop n T).symm, by rw [List.length_take]; omega, fun e => by have := congrArg List.length e; rw [List.length_drop] at this; simp at this; omega⟩
        have hpa := HCUT.out a b hab hbn
        have hext : (ba T).extract 0 n = ba a := by rw [hab, ← hal]; exact ext_take a b
        have PA := fun W => parse_any a W (by omega)
        unfold ParseP at PA
        rw [hpa] at PA
        dsimp only at PA
        rw [show a.length - ([] : List UInt8).length = n from hal] at PA
        clear hpa hab hbn hal
        have hnl : n ≤ T.length := by omega
        go_wp2_with fail
        refine (PA _).mono ?_
        rintro e w6 ⟨⟨k2, hk2, rfl, hF6⟩, b6⟩
        have b7 : Below w6.heap.size w6 (w6.alloc (.cells #[.string ⟨#[]⟩, .slice none 0 0, .slice none 0 0] 26)) := (Below.refl _ _).alloc (Nat.le_refl _) _
        have HB7 : Hid (Below w.heap.size w (w6.alloc (.cells #[.string ⟨#[]⟩, .slice none 0 0, .slice none 0 0] 26))) := bel_trans (bel_trans HBx.out b6) b7
        have F7 : Flt (w6.alloc (.cells #[.string ⟨#[]⟩, .slice none 0 0, .slice none 0 0] 26)) k2 210 n := Flt.below (show Flt w6 k2 210 n from hF6) b7
        have S7 := St3.new w6 (.string ⟨#[]⟩) (.slice none 0 0) (.slice none 0 0)
        clear PA hk2 hF6 b6 b7 HBx
        go_wp2_with fail
        generalize w6.alloc (.cells #[.string ⟨#[]⟩, .slice none 0 0, .slice none 0 0] 26) = w7 at HB7 F7 S7 ⊢
        refine (fault_any k2 n w7 F7).mono ?_
        rintro e w8 ⟨rfl, b8⟩
        have S8 : St3 w8 w6.heap.size (.string ⟨#[]⟩) (.slice none 0 0) (.slice none 0 0) := S7.same (b8.block _ S7.lt)
        have HB8 : Hid (Below w.heap.size w w8) := bel_trans HB7.out b8
        have d0 := S8.c0
        have d1 := S8.c1
        have d2 := S8.c2
        clear b8 S7 S8 F7 HB7
        go_wp2_with fail
        refine (same_zero w8).mono ?_
        rintro e w9 ⟨rfl, b9⟩
        have HB9 : Hid (Below w.heap.size w w9) := bel_trans HB8.out b9
        clear b9 HB8
        go_wp2
        go_ret
        exact ⟨rfl, HB9.out⟩
  · have hne : (ba mo).toList.isEmpty = false := by
      rw [ba_toList]
      cases mo with
      | nil => exact absurd rfl hmo
      | cons _ _ => rfl
    have hcat : ba T ++ ba mo = ba (T ++ mo) := ba_app T mo
    have PM := fun W => parse_any (T ++ mo) W (by rw [List.length_append]; omega)
    unfold ParseP at PM
    rw [HM.out hmo] at PM
    dsimp only at PM
    rw [show (T ++ mo).length - mo.length = T.length by rw [List.length_append]; omega] at PM
    clear HM hmo
    go_wp2_with fail
    refine (PM w2).mono ?_
    rintro e w3 ⟨⟨k, hk, rfl, hF⟩, b3⟩
    have b4 : Below w3.heap.size w3 (w3.alloc (.cells #[.string ⟨#[]⟩, .slice none 0 0, .slice none 0 0] 26)) := (Below.refl _ _).alloc (Nat.le_refl _) _
    have HB4 : Hid (Below w.heap.size w (w3.alloc (.cells #[.string ⟨#[]⟩, .slice none 0 0, .slice none 0 0] 26))) := bel_trans (bel_trans HB2.out b3) b4
    have F4 : Flt (w3.alloc (.cells #[.string ⟨#[]⟩, .slice none 0 0, .slice none 0 0] 26)) k 210 T.length := Flt.below (show Flt w3 k 210 T.length from hF) b4
    clear PM hk hF b3 b4 HB2 hcat
    go_wp2_with fail
    generalize w3.alloc (.cells #[.string ⟨#[]⟩, .slice none 0 0, .slice none 0 0] 26) = w4 at HB4 F4 ⊢
    refine (fault_any k T.length w4 F4).mono ?_
    rintro e w5 ⟨rfl, b5⟩
    have HBx : Hid (Below w.heap.size w w5) := bel_trans HB4.out b5
    clear b5 HB4 F4
    by_cases hc0 : cut < 0
    · have HB9 := HBx
      go_wp2
      try rw [Exit.noGoto_ret]
      go_ret
      exact ⟨rfl, HB9.out⟩
    · obtain ⟨n, rfl⟩ : ∃ n : Nat, cut = (n : Int) := ⟨cut.toNat, by omega⟩
      by_cases hc1 : T.length ≤ n
      · have hc1' : (T.length : Int) ≤ (n : Int) := by omega
        have HB9 := HBx
        go_wp2
        try rw [Exit.noGoto_ret]
        go_ret
        exact ⟨rfl, HB9.out⟩
      · have hc1' : ¬ (T.length : Int) ≤ (n : Int) := by omega
        obtain ⟨a, b, hab, hal, hbn⟩ : ∃ a b, T = a ++ b ∧ a.length = n ∧ b ≠ [] := ⟨T.take n, T.drop n, (List.take_append_drop n T).symm, by rw [List.length_take]; omega, fun e => by have := congrArg List.length e; rw [List.length_drop] at this; simp at this; omega⟩
        have hpa := HCUT.out a b hab hbn
        have hext : (ba T).extract 0 n = ba a := by rw [hab, ← hal]; exact ext_take a b
        have PA := fun W => parse_any a W (by omega)
        unfold ParseP at PA
        rw [hpa] at PA
        dsimp only at PA
        rw [show a.length - ([] : List UInt8).length = n from hal] at PA
        clear hpa hab hbn hal
        have hnl : n ≤ T.length := by omega
        go_wp2_with fail
        refine (PA _).mono ?_
        rintro e w6 ⟨⟨k2, hk2, rfl, hF6⟩, b6⟩
        have b7 : Below w6.heap.size w6 (w6.alloc (.cells #[.string ⟨#[]⟩, .slice none 0 0, .slice none 0 0] 26)) := (Below.refl _ _).alloc (Nat.le_refl _) _
        have HB7 : Hid (Below w.heap.size w (w6.alloc (.cells #[.string ⟨#[]⟩, .slice none 0 0, .slice none 0 0] 26))) := bel_trans (bel_trans HBx.out b6) b7
        have F7 : Flt (w6.alloc (.cells #[.string ⟨#[]⟩, .slice none 0 0, .slice none 0 0] 26)) k2 210 n := Flt.below (show Flt w6 k2 210 n from hF6) b7
        have S7 := St3.new w6 (.string ⟨#[]⟩) (.slice none 0 0) (.slice none 0 0)
        clear PA hk2 hF6 b6 b7 HBx
        go_wp2_with fail
        generalize w6.alloc (.cells #[.string ⟨#[]⟩, .slice none 0 0, .slice none 0 0] 26) = w7 at HB7 F7 S7 ⊢
        refine (fault_any k2 n w7 F7).mono ?_
        rintro e w8 ⟨rfl, b8⟩
        have S8 : St3 w8 w6.heap.size (.string ⟨#[]⟩) (.slice none 0 0) (.slice none 0 0) := S7.same (b8.block _ S7.lt)
        have HB8 : Hid (Below w.heap.size w w8) := bel_trans HB7.out b8
        have d0 := S8.c0
        have d1 := S8.c1
        have d2 := S8.c2
        clear b8 S7 S8 F7 HB7
        go_wp2_with fail
        refine (same_zero w8).mono ?_
        rintro e w9 ⟨rfl, b9⟩
        have HB9 : Hid (Below w.heap.size w w9) := bel_trans HB8.out b9
        clear b9 HB8
        go_wp2
        go_ret
        exact ⟨rfl, HB9.out⟩

end Go.Proofs.Ytbfhfejdmhjccaa
