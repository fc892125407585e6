/- The document's Read: its loop. -/
import Derived.Test.YthjpmiidbgaiaaaRdA
namespace Go.Proofs.Ythjpmiidbgaiaaa
open Go.RowKit Go.Maps

/-- What is true ahead of each token. -/
structure RLoop (w0 wr : World) (tl : List UInt8) (o : Value) (n i : Nat) (out : List UInt8) : Prop where
  own : wr.ownsRow (w0.heap.size + 1) 5 1 o out.length (Lib.byteCells out)
  st : St wr w0.heap.size [.string ⟨#[]⟩, .bool false, .int .i64 0, .int .i64 0, .int .i64 0]
  be : Below w0.heap.size w0 wr
  ru : ∃ lk nr, u0.run tl = (US.t i n out lk nr).run (tl.drop i)
  le : out.length ≤ n

theorem drop_at (tl : List UInt8) (i : Nat) (h : i < tl.length) : tl.drop i = tl.getD i 0 :: tl.drop (i + 1) := by
  rw [List.drop_eq_getElem_cons h, List.getD_eq_getElem?_getD, List.getElem?_eq_getElem h]
  rfl

set_option maxHeartbeats 8000000 in
set_option maxRecDepth 100000 in
theorem rread_main (tl : List UInt8) (w : World) (h : 8 ≤ tl.length) (ht : tl.length ≤ 1073741824) (hb : ¬ 1048576 < leN (tl.take 8)) :
    Calls Try.prog 15 #[.string (ba tl)] w fun e w' => GotP (u0.run tl) e ∧ Below w.heap.size w w' := by
  obtain ⟨i0, hi0, hz0, hz1, hz2⟩ := info_parts infoU8
  have hsz := ba_size tl
  have hgt : ∀ (n : Nat) (h : n < (ba tl).size), (((ba tl)[n]'h).toNat : Int) = bt (ba tl) n := get_bt (ba tl)
  have hBT : Hid (∀ i, i < tl.length → bt (ba tl) i = ((tl.getD i 0).toNat : Int)) := bt_get tl
  have NC := fun w => num_any tl 0 w ht (by omega)
  rw [List.drop_zero, le_leN] at NC
  have HS : Hid (u0.run tl = (US.t 8 (leN (tl.take 8)) [] 0 0).run (tl.drop 8)) := by
    unfold Hid
    have e := head_eight (tl.take 8) (by rw [List.length_take]; omega)
    rw [if_neg hb] at e
    have e2 := US.run_append u0 (tl.take 8) (tl.drop 8)
    rw [e, List.take_append_drop] at e2
    exact e2
  have h8 : ¬ (tl.length : Int) < 8 := by omega
  generalize leN (tl.take 8) = n at NC HS hb
  have hb' : ¬ (1048576 : Int) < (n : Int) := by omega
  have HQ : Hid (St (w.alloc (.cells #[.string ⟨#[]⟩, .bool false, .int .i64 0, .int .i64 0, .int .i64 0] 39)) w.heap.size [.string ⟨#[]⟩, .bool false, .int .i64 0, .int .i64 0, .int .i64 0]) := St.new w _ _
  have HB : Hid (Below w.heap.size w (w.alloc (.cells #[.string ⟨#[]⟩, .bool false, .int .i64 0, .int .i64 0, .int .i64 0] 39))) := (Below.refl _ _).alloc (Nat.le_refl _) _
  go_enter Try.func15, Try.ntmps15
  go_wp2_with fail
  refine (NC _).mono ?_
  rintro e w1 ⟨rfl, rfl⟩
  clear NC
  have HR : Hid (RLoop w (w.alloc (.cells #[.string ⟨#[]⟩, .bool false, .int .i64 0, .int .i64 0, .int .i64 0] 39)) tl (.slice none 0 0) n 8 []) := ⟨World.ownsRow_nil _ _ _ _, HQ.out, HB.out, ⟨0, 0, HS.out⟩, Nat.zero_le _⟩
  clear HQ HB HS
  go_wp2_with fail
  generalize w.alloc (.cells #[.string ⟨#[]⟩, .bool false, .int .i64 0, .int .i64 0, .int .i64 0] 39) = W1 at HR ⊢
  go_loopg [5, 6] (tl.length - 8) (fun gk o a wr => ∃ (i : Nat) (out : List UInt8) (po : Option Addr) (co : Nat), o = .slice po out.length co ∧ a = .int .i64 i ∧ Hid (gk + i = tl.length ∧ 8 ≤ i) ∧ Hid (RLoop w wr tl (.slice po out.length co) n i out))
  case atStart => exact ⟨8, [], none, 0, rfl, rfl, ⟨by omega, Nat.le_refl _⟩, HR⟩
  case round =>
    obtain ⟨i, out, po, co, rfl, rfl, hgk, hR⟩ := hrel
    clear HR
    have z0 := hR.out.st.get 0 _ rfl
    have z1 := hR.out.st.get 1 _ rfl
    have z2 := hR.out.st.get 2 _ rfl
    have z3 := hR.out.st.get 3 _ rfl
    have z4 := hR.out.st.get 4 _ rfl
    have y0 := hR.out.st.fr 0 (by show 0 < 5; decide)
    have y1 := hR.out.st.fr 1 (by show 1 < 5; decide)
    have y2 := hR.out.st.fr 2 (by show 2 < 5; decide)
    have y3 := hR.out.st.fr 3 (by show 3 < 5; decide)
    have y4 := hR.out.st.fr 4 (by show 4 < 5; decide)
    have hk1 := hgk.out.1
    have hle := hR.out.le
    obtain ⟨lk, nr, hru⟩ := hR.out.ru
    have HRU : Hid (u0.run tl = (US.t i n out lk nr).run (tl.drop i)) := hru
    clear hru
    by_cases hn : out.length < n
    · by_cases hi : i < tl.length
      · have hd := drop_at tl i hi
        have hbi := hBT.out i hi
        obtain ⟨t, htt⟩ : ∃ t, tl.getD i 0 = t := ⟨_, rfl⟩
        rw [htt] at hd hbi
        have HD : Hid (tl.drop i = t :: tl.drop (i + 1)) := hd
        have hll : Hid ((tl.drop (i + 1)).length = tl.length - (i + 1)) := by unfold Hid; rw [List.length_drop]
        have ht8 := t.toNat_lt
        clear hd htt
        by_cases h128 : t.toNat < 128
        · have hlow : Hid (((US.t i n out lk nr).tok t).lack = t.toNat + 1) := by unfold Hid; rw [tok_low _ _ _ _ _ _ h128]
          by_cases hx : n - out.length < t.toNat + 1
          · have HX : Hid ((u0.run tl).tk = i ∧ (u0.run tl).code = 101 ∧ (u0.run tl).fat = i) := by
              unfold Hid
              rw [HRU.out, HD.out]
              exact t_extra i n lk nr out t _ hn (by rw [hlow.out]; exact hx)
            have hx' : (n : Int) - (out.length : Int) < (t.toNat : Int) + 1 := by omega
            go_wp2
            exact ret_got rfl ((((((hR.out.st.set 0 _ (by show 0 < 5; decide)).set 1 _ (by show 1 < 5; decide)).set 2 _ (by show 2 < 5; decide)).set 3 _ (by show 3 < 5; decide)).set 4 _ (by show 4 < 5; decide)).cast rfl) ⟨⟨[], false, by rw [HX.out.1, HX.out.2.1, HX.out.2.2]; rfl, fun h => by rw [HX.out.2.1] at h; cases h⟩, (((((hR.out.be.setCell (Nat.le_refl _) _).setCell (Nat.le_refl _) _).setCell (Nat.le_refl _) _).setCell (Nat.le_refl _) _).setCell (Nat.le_refl _) _)⟩
          · have hx' : ¬ (n : Int) - (out.length : Int) < (t.toNat : Int) + 1 := by omega
            by_cases hsh : tl.length - (i + 1) < t.toNat + 1
            · have HX : Hid (u0.run tl = ⟨i + 1 + (tl.drop (i + 1)).length, 0, 0, false, 2, n, out ++ tl.drop (i + 1), t.toNat + 1 - (tl.drop (i + 1)).length, nr⟩) := by
                unfold Hid
                rw [HRU.out, HD.out]
                exact t_plain_short i n lk nr out t _ h128 (by omega) (by rw [hll.out]; exact hsh)
              have hsh' : (tl.length : Int) < (i : Int) + 1 + (t.toNat : Int) + 1 := by omega
              go_wp2
              exact ret_got rfl ((((((hR.out.st.set 0 _ (by show 0 < 5; decide)).set 1 _ (by show 1 < 5; decide)).set 2 _ (by show 2 < 5; decide)).set 3 _ (by show 3 < 5; decide)).set 4 _ (by show 4 < 5; decide)).cast rfl) ⟨⟨[], false, by rw [HX.out]; exact congrArg (fun z => Ending.returned (.agg #[.string (ba []), .bool false, .int .i64 0, .int .i64 0, .int .i64 z])) (by show (tl.length : Int) = ((i + 1 + (tl.drop (i + 1)).length : Nat) : Int); rw [hll.out]; omega), fun h => by rw [HX.out]; exact ⟨rfl, fun h => by cases h⟩⟩, (((((hR.out.be.setCell (Nat.le_refl _) _).setCell (Nat.le_refl _) _).setCell (Nat.le_refl _) _).setCell (Nat.le_refl _) _).setCell (Nat.le_refl _) _)⟩
            · have hsh' : ¬ (tl.length : Int) < (i : Int) + 1 + (t.toNat : Int) + 1 := by omega
              have hbc : Hid ((ba tl).extract (i + 1) (i + t.toNat + 2) = ba (cutL tl (i + 1) (i + t.toNat + 2))) := ba_cut tl (i + 1) (i + t.toNat + 2) (by omega) (by omega)
              have hcl : Hid ((cutL tl (i + 1) (i + t.toNat + 2)).length = t.toNat + 1) := by unfold Hid; rw [cutL_length _ _ _ (by omega)]; omega
              have HN : Hid (u0.run tl = (US.t (i + t.toNat + 2) n (out ++ cutL tl (i + 1) (i + t.toNat + 2)) 0 nr).run (tl.drop (i + t.toNat + 2))) := by
                unfold Hid
                rw [HRU.out, HD.out]
                have e : tl.drop (i + 1) = cutL tl (i + 1) (i + t.toNat + 2) ++ tl.drop (i + t.toNat + 2) := by
                  unfold cutL
                  rw [show tl.drop (i + t.toNat + 2) = (tl.drop (i + 1)).drop (i + t.toNat + 2 - (i + 1)) by rw [List.drop_drop]; congr 1; omega, List.take_append_drop]
                rw [e]
                exact t_plain i n lk nr out t _ _ h128 (by omega) hcl.out
              generalize hC : cutL tl (i + 1) (i + t.toNat + 2) = C at hbc hcl HN
              clear hC
              have hcs := ba_size C
              obtain ⟨v', w2, hr, hown', hgrow, -⟩ := Lib.run_append_own_string (P := Try.prog) wr (w.heap.size + 1) 45 9 45 5 i0 undTB Try.underlying9 hi0 hz0 hz1 hz2 (.slice po out.length co) out.length (Lib.byteCells out) hR.out.own (ba C) (by unfold maxLen; have := hcl.out; omega) (by have := hcl.out; omega) (by have := hR.out.st.lt; omega)
              have HO2 : Hid (w2.ownsRow (w.heap.size + 1) 5 1 v' (out ++ C).length (Lib.byteCells (out ++ C))) := by
                unfold Hid
                rw [← bytes_app, List.length_append, ← hcs]
                exact hown'
              obtain ⟨po', co', hv'⟩ : ∃ p c, v' = .slice p (out ++ C).length c := by
                rcases HO2.out.2 with ⟨rfl, e⟩ | ⟨k, c, _, rfl, _⟩
                · exact ⟨none, 0, by rw [e]⟩
                · exact ⟨_, _, rfl⟩
              subst hv'
              have HG : Hid (RLoop w w2 tl (.slice po' (out ++ C).length co') n (i + t.toNat + 2) (out ++ C)) := ⟨HO2.out, hR.out.st.same hgrow.size (hgrow.block _ hR.out.st.lt (fun e => by have := (hR.out.own.lt _ e.symm).1; omega)), hR.out.be.grown hgrow (by have := hR.out.st.lt; omega) (fun k hk => by have := (hR.out.own.lt k hk).1; omega), ⟨0, nr, HN.out⟩, by rw [List.length_append]; have := hcl.out; omega⟩
              have hbx := hbc.out
              clear hown' hgrow HO2
              go_wp2_with (first | (refine wpList_appT_is (by rfl) (.tmp 63) (.tmp 71) (by rfl) _ _ _ _ (by rfl) (by rw [← hbx]; rfl) hr ?_))
              go_roundg (tl.length - (i + t.toNat + 2))
              case measure => omega
              case rel => exact ⟨i + t.toNat + 2, out ++ C, po', co', by first | rfl | (rw [List.length_append]) | simp, by go_num, ⟨by omega, by have := hgk.out.2; omega⟩, HG⟩
        · have hhigh : Hid (((US.t i n out lk nr).tok t).lack = t.toNat - 124) := by unfold Hid; rw [tok_high _ _ _ _ _ _ (by omega)]
          by_cases hx : n - out.length < t.toNat - 124
          · have HX : Hid ((u0.run tl).tk = i ∧ (u0.run tl).code = 101 ∧ (u0.run tl).fat = i) := by
              unfold Hid
              rw [HRU.out, HD.out]
              exact t_extra i n lk nr out t _ hn (by rw [hhigh.out]; exact hx)
            have hx' : (n : Int) - (out.length : Int) < (t.toNat : Int) - 124 := by omega
            go_wp2
            exact ret_got rfl ((((((hR.out.st.set 0 _ (by show 0 < 5; decide)).set 1 _ (by show 1 < 5; decide)).set 2 _ (by show 2 < 5; decide)).set 3 _ (by show 3 < 5; decide)).set 4 _ (by show 4 < 5; decide)).cast rfl) ⟨⟨[], false, by rw [HX.out.1, HX.out.2.1, HX.out.2.2]; rfl, fun h => by rw [HX.out.2.1] at h; cases h⟩, (((((hR.out.be.setCell (Nat.le_refl _) _).setCell (Nat.le_refl _) _).setCell (Nat.le_refl _) _).setCell (Nat.le_refl _) _).setCell (Nat.le_refl _) _)⟩
          · have hx' : ¬ (n : Int) - (out.length : Int) < (t.toNat : Int) - 124 := by omega
            by_cases hsh : tl.length - (i + 1) < 2
            · have HX : Hid ((u0.run tl).tk = i + 1 + (tl.drop (i + 1)).length ∧ (u0.run tl).code = 0 ∧ (u0.run tl).fat = 0 ∧ (u0.run tl).ph ≠ 1) := by
                unfold Hid
                rw [HRU.out, HD.out]
                exact t_back_short i n lk nr out t _ (by omega) (by omega) (by rw [hll.out]; exact hsh)
              have HWF : Hid ((u0.run tl).wh = false) := by unfold Hid US.wh; simp [HX.out.2.2.2]
              have hsh' : (tl.length : Int) < (i : Int) + 3 := by omega
              go_wp2
              exact ret_got rfl ((((((hR.out.st.set 0 _ (by show 0 < 5; decide)).set 1 _ (by show 1 < 5; decide)).set 2 _ (by show 2 < 5; decide)).set 3 _ (by show 3 < 5; decide)).set 4 _ (by show 4 < 5; decide)).cast rfl) ⟨⟨[], false, by rw [HX.out.1, HX.out.2.1, HX.out.2.2.1]; exact congrArg (fun z => Ending.returned (.agg #[.string (ba []), .bool false, .int .i64 0, .int .i64 0, .int .i64 z])) (by show (tl.length : Int) = ((i + 1 + (tl.drop (i + 1)).length : Nat) : Int); rw [hll.out]; omega), fun h => by rw [HWF.out]; exact ⟨rfl, fun h => by cases h⟩⟩, (((((hR.out.be.setCell (Nat.le_refl _) _).setCell (Nat.le_refl _) _).setCell (Nat.le_refl _) _).setCell (Nat.le_refl _) _).setCell (Nat.le_refl _) _)⟩
            · have hsh' : ¬ (tl.length : Int) < (i : Int) + 3 := by omega
              have hb1 := hBT.out (i + 1) (by omega)
              have hb2 := hBT.out (i + 2) (by omega)
              have HD2 : Hid (tl.drop i = t :: tl.getD (i + 1) 0 :: tl.getD (i + 2) 0 :: tl.drop (i + 3)) := by
                unfold Hid
                rw [HD.out, drop_at tl (i + 1) (by omega), drop_at tl (i + 2) (by omega)]
              generalize tl.getD (i + 1) 0 = x at hb1 HD2
              generalize tl.getD (i + 2) 0 = y at hb2 HD2
              have hx8 := x.toNat_lt
              have hy8 := y.toNat_lt
              obtain ⟨far, hfar⟩ : ∃ far, far = y.toNat * 256 + x.toNat + 1 := ⟨_, rfl⟩
              have hfe : (x.toNat : Int) + 256 * (y.toNat : Int) + 1 = (far : Int) := by omega
              have HFA : Hid (far = y.toNat * 256 + x.toNat + 1) := hfar
              clear hfar
              go_wp2_with fail
              go_quiet (fail)
              have HR2 : Hid (RLoop w (wr.drewN nq) tl (.slice po out.length co) n i out) := ⟨hR.out.own, hR.out.st.drewN nq, bel_drewN hR.out.be nq, hR.out.ru, hR.out.le⟩
              generalize wr.drewN nq = wq at HR2 ⊢
              clear z0 z1 z2 z3 z4 y0 y1 y2 y3 y4 hR hb1 hb2 hbi
              have z0 := HR2.out.st.get 0 _ rfl
              have z1 := HR2.out.st.get 1 _ rfl
              have z2 := HR2.out.st.get 2 _ rfl
              have z3 := HR2.out.st.get 3 _ rfl
              have z4 := HR2.out.st.get 4 _ rfl
              have y0 := HR2.out.st.fr 0 (by show 0 < 5; decide)
              have y1 := HR2.out.st.fr 1 (by show 1 < 5; decide)
              have y2 := HR2.out.st.fr 2 (by show 2 < 5; decide)
              have y3 := HR2.out.st.fr 3 (by show 3 < 5; decide)
              have y4 := HR2.out.st.fr 4 (by show 4 < 5; decide)
              by_cases hf : out.length < far
              · have HX : Hid (u0.run tl = ⟨i + 2, 100, i, false, 4, n, [], t.toNat - 124, x.toNat⟩) := by
                  unfold Hid
                  rw [HRU.out, HD2.out]
                  exact t_back_far i n lk nr out t x y _ (by omega) (by omega) (by rw [← HFA.out]; exact hf)
                have hf' : (out.length : Int) < (far : Int) := by omega
                go_wp2
                exact ret_got rfl ((((((HR2.out.st.set 0 _ (by show 0 < 5; decide)).set 1 _ (by show 1 < 5; decide)).set 2 _ (by show 2 < 5; decide)).set 3 _ (by show 3 < 5; decide)).set 4 _ (by show 4 < 5; decide)).cast rfl) ⟨⟨[], false, by rw [HX.out]; rfl, fun h => by rw [HX.out] at h; cases h⟩, (((((HR2.out.be.setCell (Nat.le_refl _) _).setCell (Nat.le_refl _) _).setCell (Nat.le_refl _) _).setCell (Nat.le_refl _) _).setCell (Nat.le_refl _) _)⟩
              · have HX : Hid (u0.run tl = (US.t (i + 3) n (cpy far (t.toNat - 124) out) (t.toNat - 124) x.toNat).run (tl.drop (i + 3))) := by
                  unfold Hid
                  rw [HRU.out, HD2.out, HFA.out]
                  exact t_back i n lk nr out t x y _ (by omega) (by omega) (by have := HFA.out; omega)
                have hf' : ¬ (out.length : Int) < (far : Int) := by omega
                have hL : (t.toNat : Int) - 124 = ((t.toNat - 124 : Nat) : Int) := by omega
                have hL2 : t.toNat - 124 ≤ 131 := by omega
                have hL3 : Hid (t.toNat - 124 ≤ n - out.length) := by unfold Hid; omega
                generalize t.toNat - 124 = L at HX hL hL2 hL3
                have hf1 : 1 ≤ far := by have := HFA.out; omega
                go_wp2_with fail
                have HFL : Hid (far ≤ out.length) := by unfold Hid; omega
                have HI : Hid (wq.ownsRow (w.heap.size + 1) 5 1 (.slice po out.length co) out.length (Lib.byteCells out) ∧ St wq w.heap.size [.string ⟨#[]⟩, .bool false, .int .i64 0, .int .i64 0, .int .i64 0] ∧ Below w.heap.size w wq) := ⟨HR2.out.own, HR2.out.st, HR2.out.be⟩
                clear HR2 z0 z1 z2 z3 z4 y0 y1 y2 y3 y4
                go_loopg [5, 9] L (fun gj o kv wj => ∃ (k : Nat) (u : List UInt8) (pu : Option Addr) (cu : Nat), o = .slice pu u.length cu ∧ kv = .int .i64 k ∧ Hid (gj + k = L ∧ u = cpy far k out) ∧ Hid (wj.ownsRow (w.heap.size + 1) 5 1 (.slice pu u.length cu) u.length (Lib.byteCells u) ∧ St wj w.heap.size [.string ⟨#[]⟩, .bool false, .int .i64 0, .int .i64 0, .int .i64 0] ∧ Below w.heap.size w wj))
                case atStart => exact ⟨0, out, po, co, rfl, rfl, ⟨by omega, rfl⟩, HI⟩
                case round =>
                  obtain ⟨k, u, pu, cu, rfl, rfl, hgj, hJ⟩ := hrel
                  clear HI
                  have hul : Hid (u.length = out.length + k) := by unfold Hid; rw [hgj.out.2, cpy_length]
                  by_cases hk : k < L
                  · obtain ⟨kb, hkb⟩ : ∃ kb, pu = some ⟨kb, 0, none⟩ := by
                      rcases hJ.out.1.2 with ⟨_, e⟩ | ⟨g, c, _, e, _⟩
                      · have := hul.out; have := HFL.out; omega
                      · injection e with e; exact ⟨g, e⟩
                    subst hkb
                    have hus : Hid (cpy far (k + 1) out = u ++ [u.getD (u.length - far) 0]) := by unfold Hid; rw [cpy_succ, ← hgj.out.2]
                    have hj : u.length - far < u.length := by have := hul.out; have := HFL.out; omega
                    have cbyte : wr.cell? ⟨kb, u.length - far, none⟩ = some (.int .u8 ((u.getD (u.length - far) 0).toNat : Int)) := by
                      have := hJ.out.1.cells (g := kb) rfl (u.length - far) (.int .u8 ((u[u.length - far]'hj).toNat : Int)) (by simp [Lib.byteCells, hj])
                      have e : (⟨kb, 0, none⟩ : Addr).add (u.length - far) = ⟨kb, u.length - far, none⟩ := by simp [Addr.add]; exact fun h => h.symm
                      rw [e] at this
                      rw [this, List.getD_eq_getElem?_getD, List.getElem?_eq_getElem hj]
                      rfl
                    have hsub : ((u.length : Nat) : Int) - (far : Int) = ((u.length - far : Nat) : Int) := by have := hul.out; have := HFL.out; omega
                    generalize u.getD (u.length - far) 0 = B0 at hus cbyte
                    have hwr : IntKind.i64.wrap ((u.length - far : Nat) : Int) = ((u.length - far : Nat) : Int) := i64wrap _ (by omega) (by have := hul.out; omega)
                    obtain ⟨v', w2, hr, hown', hgrow, -, -⟩ := run_append_own_at (P := Try.prog) (wr.alloc (.cells #[.int .u8 (B0.toNat : Int)] 5)) (w.heap.size + 1) 45 45 5 i0 (.int .u8 0) 1 1 undTB hi0 hz0 hz1 hz2 rfl (by decide) (.slice (some ⟨kb, 0, none⟩) u.length cu) u.length (Lib.byteCells u) (hJ.out.1.alloc _) ⟨wr.heap.size, 0, none⟩ 1 1 [.int .u8 (B0.toNat : Int)] rfl (fun j x hx => by
                      match j, hx with
                      | 0, hx => simp at hx; subst hx; exact (World.cell?_alloc_new wr _ _ 0).trans rfl) (by intro x hx; simp at hx; subst hx; rfl) (by unfold maxLen; have := hul.out; omega) (by have := hul.out; omega) (by rw [World.size_alloc]; have := hJ.out.2.1.lt; omega)
                    have G2 : wr.grownBy w2 (Value.slice (some ⟨kb, 0, none⟩) u.length cu).ownBlock := (World.grownBy_alloc wr _ _).trans hgrow
                    have HO2 : Hid (w2.ownsRow (w.heap.size + 1) 5 1 v' (u ++ [B0]).length (Lib.byteCells (u ++ [B0]))) := by
                      unfold Hid
                      rw [← bytes_app, List.length_append]
                      exact hown'
                    obtain ⟨pu', cu', hv'⟩ : ∃ p c, v' = .slice p (u ++ [B0]).length c := by
                      rcases HO2.out.2 with ⟨rfl, e⟩ | ⟨k, c, _, rfl, _⟩
                      · exact ⟨none, 0, by rw [e]⟩
                      · exact ⟨_, _, rfl⟩
                    subst hv'
                    have HJ2 : Hid (w2.ownsRow (w.heap.size + 1) 5 1 (.slice pu' (u ++ [B0]).length cu') (u ++ [B0]).length (Lib.byteCells (u ++ [B0])) ∧ St w2 w.heap.size [.string ⟨#[]⟩, .bool false, .int .i64 0, .int .i64 0, .int .i64 0] ∧ Below w.heap.size w w2) := ⟨HO2.out, hJ.out.2.1.same G2.size (G2.block _ hJ.out.2.1.lt (fun e => by have := (hJ.out.1.lt _ e.symm).1; omega)), hJ.out.2.2.grown G2 (by have := hJ.out.2.1.lt; omega) (fun k hk => by have := (hJ.out.1.lt k hk).1; omega)⟩
                    clear hown' hgrow HO2 G2
                    go_wp2_with (first | (refine wpList_appB_is' (by rfl) (.tmp 129) (.tmp 131) (by rfl) _ _ _ _ (by rfl) (by rfl) hr ?_))
                    go_roundg (L - (k + 1))
                    case measure => have := hgj.out.1; omega
                    case rel => exact ⟨k + 1, u ++ [B0], pu', cu', by first | rfl | (rw [List.length_append]; rfl) | simp, by go_num, ⟨by omega, hus.out.symm⟩, HJ2⟩
                  · have hkL : k = L := by have := hgj.out.1; omega
                    have HG : Hid (RLoop w wr tl (.slice pu u.length cu) n (i + 3) u) := ⟨hJ.out.1, hJ.out.2.1, hJ.out.2.2, ⟨L, x.toNat, by rw [HX.out, hgj.out.2, hkL]⟩, by have := hul.out; have := hL3.out; omega⟩
                    have hkz : ¬ (k : Int) < (L : Int) := by omega
                    clear hkL
                    go_wp2
                    go_roundg (tl.length - (i + 3))
                    case measure => omega
                    case rel => exact ⟨i + 3, u, pu, cu, rfl, by go_num, ⟨by omega, by have := hgk.out.2; omega⟩, HG⟩
      · have HX : Hid (u0.run tl = US.t i n out lk nr) := by
          unfold Hid
          rw [HRU.out, List.drop_of_length_le (by omega)]
          rfl
        have hit : i = tl.length := by omega
        go_wp2
        exact ret_got rfl ((((((hR.out.st.set 0 _ (by show 0 < 5; decide)).set 1 _ (by show 1 < 5; decide)).set 2 _ (by show 2 < 5; decide)).set 3 _ (by show 3 < 5; decide)).set 4 _ (by show 4 < 5; decide)).cast rfl) ⟨⟨[], false, by rw [HX.out]; exact congrArg (fun z => Ending.returned (.agg #[.string (ba []), .bool false, .int .i64 0, .int .i64 0, .int .i64 z])) (by show (tl.length : Int) = ((i : Nat) : Int); omega), fun h => by rw [HX.out]; refine ⟨?_, fun h => ?_⟩; (unfold US.wh US.t; simp; omega); (unfold US.wh US.t at h; simp at h; omega)⟩, (((((hR.out.be.setCell (Nat.le_refl _) _).setCell (Nat.le_refl _) _).setCell (Nat.le_refl _) _).setCell (Nat.le_refl _) _).setCell (Nat.le_refl _) _)⟩
    · have hno : Hid (out.length = n) := by unfold Hid; omega
      have RT := row_text hR.out.own
      have hl0 : w.heap.size < wr.heap.size := hR.out.st.lt
      have nG : wr.heap.size ≠ w.heap.size := by omega
      by_cases hi : i < tl.length
      · have HX : Hid (u0.run tl = ⟨i, 5, i, false, 1, n, [], lk, nr⟩) := by
          unfold Hid
          rw [HRU.out, drop_at tl i hi]
          exact t_trail i n lk nr out _ _ (by have := hno.out; omega)
        have hi' : (i : Int) < (tl.length : Int) := by omega
        go_wp2
        exact ret_got rfl (((((((hR.out.st.set 0 _ (by show 0 < 5; decide)).set 1 _ (by show 1 < 5; decide)).set 2 _ (by show 2 < 5; decide)).set 3 _ (by show 3 < 5; decide)).set 4 _ (by show 4 < 5; decide)).alloc _).cast rfl) ⟨⟨out, true, by rw [HX.out]; rfl, fun h => by rw [HX.out] at h; cases h⟩, (((((hR.out.be.setCell (Nat.le_refl _) _).setCell (Nat.le_refl _) _).setCell (Nat.le_refl _) _).setCell (Nat.le_refl _) _).setCell (Nat.le_refl _) _).alloc (by simp; omega) _⟩
      · have HX : Hid (u0.run tl = US.t i n out lk nr) := by
          unfold Hid
          rw [HRU.out, List.drop_of_length_le (by omega)]
          rfl
        have hi' : ¬ (i : Int) < (tl.length : Int) := by omega
        go_wp2
        exact ret_got rfl (((((((hR.out.st.set 0 _ (by show 0 < 5; decide)).set 1 _ (by show 1 < 5; decide)).set 2 _ (by show 2 < 5; decide)).set 3 _ (by show 3 < 5; decide)).set 4 _ (by show 4 < 5; decide)).alloc _).cast rfl) ⟨⟨out, true, by rw [HX.out]; rfl, fun _ => by rw [HX.out]; exact ⟨by have := hno.out; unfold US.wh US.t; simp; omega, fun _ => rfl⟩⟩, (((((hR.out.be.setCell (Nat.le_refl _) _).setCell (Nat.le_refl _) _).setCell (Nat.le_refl _) _).setCell (Nat.le_refl _) _).setCell (Nat.le_refl _) _).alloc (by simp; omega) _⟩

end Go.Proofs.Ythjpmiidbgaiaaa
