/- info.Print; walked. -/
import Derived.Test.YtjhbfkckkinfjaaDoorInI
import Derived.Lib.AppendIntMem
namespace Go.Proofs.YtjhbfkckkinfjaaDoor
open Go.RowKit Go.Shelf

/-- The library's table of powers lies in memory. -/
def PT (w : World) : Prop := Lib.TabIs Tryd.prog w "internal/strconv.uint64pow10" .u64 Lib.pow10Tab
theorem PT.below {w w' : World} (h : PT w) (b : Below w.heap.size w w') : PT w' := Lib.tabBelow_of_tabIs h w' b
theorem itoa_any (z : Int) (w : World) (h0 : 0 ≤ z) (h1 : z ≤ 1048576) (hT : PT w) :
    Calls Tryd.prog 13 #[.int .i64 z] w fun e w' => e = .returned (.string (itB z)) ∧ Below w.heap.size w w' :=
  (Tryd.strconv_Itoa z (by omega) (by omega) w hT).mono (by rintro e w' ⟨rfl, k, os, rfl⟩; exact ⟨rfl, Lib.below_grow _ w (Nat.le_refl _) k os⟩)

theorem ckC_parts {P : ByteArray} {z : Int} {fr : Nat → ByteArray} {nr : Nat} {F : ByteArray} {fs : Nat → ByteArray} {ns : Nat} (h : ckC P z fr nr F fs ns = 0) : prC P = 0 ∧ (0 ≤ z ∧ z ≤ 1048576) ∧ crf fr nr = 0 ∧ frC F = 0 ∧ ssC fs ns = 0 := by
  have k : ∀ a b : Int, orC a b = 0 → a = 0 ∧ b = 0 := fun a b e => by
    by_cases ha : a = 0
    · rw [orC_z ha] at e; exact ⟨ha, e⟩
    · rw [orC_n ha] at e; exact absurd e ha
  obtain ⟨h1, h2⟩ := k _ _ h
  obtain ⟨h3, h4⟩ := k _ _ h1
  obtain ⟨h5, h6⟩ := k _ _ h4
  obtain ⟨h7, h8⟩ := k _ _ h6
  refine ⟨h3, ?_, h7, h8, h2⟩
  by_cases q : 0 ≤ z ∧ z ≤ 1048576
  · exact q
  · rw [szC_no q] at h5; exact absurd h5 (by decide)
theorem crf_ok {fr : Nat → ByteArray} {nr : Nat} (h : crf fr nr = 0) : nr ≤ 1024 ∧ refsOk fr nr := by
  unfold crf at h
  split at h
  · exact absurd h (by decide)
  · split at h
    · rename_i a b; exact ⟨by omega, b⟩
    · exact absurd h (by decide)
theorem ssC_ok {fs : Nat → ByteArray} {ns : Nat} (h : ssC fs ns = 0) : ssOk fs ns := by
  unfold ssC at h
  split at h
  · rename_i a; exact a
  · exact absurd h (by decide)
theorem snC_ok {s : ByteArray} (h : snC s = 0) : snOk s := by
  unfold snC at h
  split at h
  · rename_i a; exact a
  · exact absurd h (by decide)
theorem pt1_size (P : ByteArray) : (pt1 P).size = P.size + 7 := by
  unfold pt1
  rw [app_size, app_size, app_size]
  show 0 + 6 + _ + 1 = _
  omega
theorem pt2_size (P : ByteArray) (D : Nat → Int) : (pt2 P D).size = P.size + 73 := by
  unfold pt2
  rw [app_size, app_size, app_size, b32_size, pt1_size]
  show _ + 13 + _ + 1 = _
  omega
theorem pt3_size (P : ByteArray) (D : Nat → Int) (z : Int) : (pt3 P D z).size = P.size + 80 + (itB z).size := by
  unfold pt3
  rw [app_size, app_size, app_size, pt2_size]
  show _ + 6 + _ + 1 = _
  omega
theorem pt4_size (P : ByteArray) (D : Nat → Int) (z : Int) (fr : Nat → ByteArray) (nr : Nat) : (pt4 P D z fr nr).size = P.size + 86 + (itB z).size + (bsS fr nr).size := by
  unfold pt4
  rw [app_size, app_size, app_size, pt3_size]
  show _ + 5 + _ + 1 = _
  omega
def prS (c : Int) (t : ByteArray) : ByteArray := if c = 0 then t else emp
theorem prS_z {c : Int} (h : c = 0) (t : ByteArray) : prS c t = t := if_pos h
theorem prS_n {c : Int} (h : c ≠ 0) (t : ByteArray) : prS c t = emp := if_neg h

set_option maxRecDepth 100000 in
set_option maxHeartbeats 4000000 in
theorem print_any (P : ByteArray) (D : Nat → Int) (z : Int) (F : ByteArray) (xr : Option Addr) (nr cr : Nat) (fr : Nat → ByteArray) (xs : Option Addr) (ns cs' : Nat) (fs : Nat → ByteArray) (w : World)
    (hr : SIs w xr nr fr) (hs : SIs w xs ns fs) (hnc : ns ≤ cs') (hns : ns ≤ 1073741824) (hsz : ∀ i, i < ns → (fs i).size ≤ 140737488351232) (hT : PT w) :
    Calls Tryd.prog 5 #[.agg (infC P D z (.slice xr nr cr) F (.slice xs ns cs'))] w fun e w' => e = .returned (.tuple #[.string (prS (ckC P z fr nr F fs ns) (prT P D z fr nr F fs ns)), .int .i64 (ckC P z fr nr F fs ns)]) ∧ Below w.heap.size w w' := by
  have I0 : Inf (w.alloc (.cells (infC P D z (.slice xr nr cr) F (.slice xs ns cs')) 26)) w.heap.size P D z (.slice xr nr cr) F (.slice xs ns cs') := Inf.box _ _ _ _ _ _ _ _
  have B0 : Below w.heap.size w (w.alloc (.cells (infC P D z (.slice xr nr cr) F (.slice xs ns cs')) 26)) := (Below.refl _ _).alloc (Nat.le_refl _) _
  have z0 : w.heap.size < (w.alloc (.cells (infC P D z (.slice xr nr cr) F (.slice xs ns cs')) 26)).heap.size := by rw [World.size_alloc]; omega
  have HR : Hid (SIs w xr nr fr) := hr
  have HS : Hid (SIs w xs ns fs) := hs
  have HZ : Hid (∀ i, i < ns → (fs i).size ≤ 140737488351232) := hsz
  have HT : Hid (PT w) := hT
  have CC := fun W (b : Below w.heap.size w W) => ick_any P D z F xr nr cr fr xs ns cs' fs W (hr.below b (Nat.le_refl _)) (hs.below b (Nat.le_refl _)) hnc (by omega) hsz
  clear hr hs hsz hT
  by_cases hc : ckC P z fr nr F fs ns = 0
  · obtain ⟨h1, ⟨h2, h2'⟩, h3, h4, h5⟩ := ckC_parts hc
    obtain ⟨h6, h7⟩ := crf_ok h3
    have HP : Hid (∀ i, i < nr → prC (fr i) = 0) := fun i hi => (h7 i hi).1
    have HG : Hid (∀ i, i < ns → (fs i).size ≤ 85) := fun i hi => snOk_max (snC_ok ((ssC_ok h5) i hi).1)
    have HF : Hid (frC F = 0) := h4
    have mP := prC_max h1
    have mI := itoa_le z h2 h2'
    have mB := bsS_size fr nr (fun i hi => prC_max (HP.out i hi))
    rw [hc, prS_z rfl]
    simp only [hc] at CC
    clear hc h1 h3 h4 h5 h7
    go_enter Tryd.func5, Tryd.ntmps5
    rw [show (⟨#[80, 97, 116, 104, 58, 32]⟩ : ByteArray) = hdP from rfl, show (⟨#[72, 97, 115, 104, 58, 32, 115, 104, 97, 50, 53, 54, 58]⟩ : ByteArray) = hdH from rfl, show (⟨#[83, 105, 122, 101, 58, 32]⟩ : ByteArray) = hdZ from rfl, show (⟨#[82, 101, 102, 115, 58]⟩ : ByteArray) = hdR from rfl, show (⟨#[70, 114, 111, 109, 58, 32]⟩ : ByteArray) = hdF from rfl, show (⟨#[83, 105, 103, 110, 58, 32]⟩ : ByteArray) = hdS from rfl]
    go_wp2_with (refine wpList_load_inf (by rfl) (.tmp 1) (by rfl) (by rfl) I0 ?_; refine Hid.out ?_)
    unfold Hid
    generalize w.alloc (.cells (infC P D z (.slice xr nr cr) F (.slice xs ns cs')) 26) = w0 at I0 B0 z0 ⊢
    go_wp2_with fail
    refine (CC w0 B0).mono ?_
    rintro e w1 ⟨rfl, b1⟩
    have I1 : Inf w1 w.heap.size P D z (.slice xr nr cr) F (.slice xs ns cs') := I0.below b1 z0
    have B1 : Hid (Below w.heap.size w w1) := B0.trans (b1.mono B0.size)
    have z1 : Hid (w.heap.size < w1.heap.size) := Nat.lt_of_lt_of_le z0 b1.size
    clear CC I0 B0 z0 b1
    have I2 : Inf (w1.alloc (.cells #[.pointer none, .slice none 0 0] 41)) w.heap.size P D z (.slice xr nr cr) F (.slice xs ns cs') := I1.same (Below.heap_alloc w1 _ _ z1.out)
    have D2 : Bd (w1.alloc (.cells #[.pointer none, .slice none 0 0] 41)) w1.heap.size emp := Bd.new w1
    have B2 : Below w.heap.size w (w1.alloc (.cells #[.pointer none, .slice none 0 0] 41)) := B1.out.alloc B1.out.size _
    have c0 := I2.path
    obtain ⟨b, hb⟩ : ∃ b, w1.heap.size = b := ⟨_, rfl⟩
    have hwb : Hid (w.heap.size < b) := by rw [← hb]; exact z1.out
    go_wp2_with fail
    generalize w1.alloc (.cells #[.pointer none, .slice none 0 0] 41) = w2 at I2 D2 B2 c0 ⊢
    rw [hb] at D2
    clear hb I1 B1 z1 c0
    -- @1
    have CL := line_any b emp hdP P w2 D2 (by show 0 + 6 + _ + 1 ≤ _; omega)
    refine CL.mono ?_
    clear CL
    rintro e w3 ⟨⟨ve3, rfl⟩, D3, b3⟩
    have I3 := I2.below b3 hwb.out
    have B3 : Hid (Below w.heap.size w w3) := B2.trans (b3.mono (Nat.le_of_lt hwb.out))
    change Bd w3 b (pt1 P) at D3
    clear b3 I2 B2 D2
    -- @2
    have hst : (convert 39 9 (.slice (some ⟨w.heap.size, 1, none⟩) 32 32)).run Tryd.prog w3 = .ok (.string (strFn 32 D)) w3 := run_convert_bytes_arg w3 39 5 Tryd.underlying39 Tryd.underlying5 w.heap.size 1 32 32 ((List.range 32).map D) (by simp) (fun i hi => by rw [I3.dig i hi]; simp [List.getD, hi]) 9 Tryd.underlying9
    have C32 := b32_any (strFn 32 D) w3 (by rw [strFn_size]; decide)
    go_wp2_with fail
    refine C32.mono ?_
    clear C32 hst
    rintro e w4 ⟨rfl, b4⟩
    have I4 := I3.below b4 I3.lt
    have D4 := D3.below b4 (Nat.le_refl _)
    have B4 : Hid (Below w.heap.size w w4) := B3.out.trans (b4.mono B3.out.size)
    clear b4 I3 D3 B3
    have CL := line_any b (pt1 P) hdH (b32Str (strFn 32 D)) w4 D4 (by rw [pt1_size, b32_size]; show _ + 13 + _ + 1 ≤ _; omega)
    go_wp2_with fail
    refine CL.mono ?_
    clear CL
    rintro e w5 ⟨⟨ve5, rfl⟩, D5, b5⟩
    have I5 := I4.below b5 hwb.out
    have B5 : Hid (Below w.heap.size w w5) := B4.out.trans (b5.mono (Nat.le_of_lt hwb.out))
    change Bd w5 b (pt2 P D) at D5
    clear b5 I4 B4 D4
    -- @3
    have c33 := I5.size
    have CI := itoa_any z w5 h2 h2' (HT.out.below B5.out)
    go_wp2_with fail
    refine CI.mono ?_
    clear CI c33
    rintro e w6 ⟨rfl, b6⟩
    have I6 := I5.below b6 I5.lt
    have D6 := D5.below b6 (Nat.le_refl _)
    have B6 : Hid (Below w.heap.size w w6) := B5.out.trans (b6.mono B5.out.size)
    clear b6 I5 D5 B5
    have CL := line_any b (pt2 P D) hdZ (itB z) w6 D6 (by rw [pt2_size]; show _ + 6 + _ + 1 ≤ _; omega)
    go_wp2_with fail
    refine CL.mono ?_
    clear CL
    rintro e w7 ⟨⟨ve7, rfl⟩, D7, b7⟩
    have I7 := I6.below b7 hwb.out
    have B7 : Hid (Below w.heap.size w w7) := B6.out.trans (b7.mono (Nat.le_of_lt hwb.out))
    change Bd w7 b (pt3 P D z) at D7
    clear b7 I6 B6 D6
    -- @4
    have c34 := I7.refs
    have CB := bases_any xr nr cr fr w7 (HR.out.below B7.out (Nat.le_refl _)) h6 HP.out
    go_wp2_with fail
    refine CB.mono ?_
    clear CB c34
    rintro e w8 ⟨rfl, b8⟩
    have I8 := I7.below b8 I7.lt
    have D8 := D7.below b8 (Nat.le_refl _)
    have B8 : Hid (Below w.heap.size w w8) := B7.out.trans (b8.mono B7.out.size)
    clear b8 I7 D7 B7
    have CL := line_any b (pt3 P D z) hdR (bsS fr nr) w8 D8 (by rw [pt3_size]; show _ + 5 + _ + 1 ≤ _; omega)
    go_wp2_with fail
    refine CL.mono ?_
    clear CL
    rintro e w9 ⟨⟨ve9, rfl⟩, D9, b9⟩
    have I9 := I8.below b9 hwb.out
    have B9 : Hid (Below w.heap.size w w9) := B8.out.trans (b9.mono (Nat.le_of_lt hwb.out))
    change Bd w9 b (pt4 P D z fr nr) at D9
    clear b9 I8 B8 D8
    have m4 := pt4_size P D z fr nr
    have c35 := I9.from_
    by_cases hF : F.size = 0
    · have HTX : Hid (prT P D z fr nr F fs ns = ptS (pt4 P D z fr nr) fs ns) := by unfold Hid prT; rw [ptF_z hF]
      obtain rfl : F = ⟨#[]⟩ := bytes_ext (by rw [hF]; rfl) (fun k hk => absurd hk (by omega))
      generalize pt4 P D z fr nr = T at D9 HTX m4
      have hlast : Hid (∀ W, Bd W b (ptS T fs ns) → Calls Tryd.prog 15 #[.pointer (some ⟨b, 0, none⟩)] W fun e w' => e = .returned (.string (ptS T fs ns)) ∧ Below b W w') := fun W h => bstr_any b _ W h
      have DL : Hid (Bd w9 b (ptS T fs 0)) := D9
      have IL : Hid (Inf w9 w.heap.size P D z (.slice xr nr cr) ⟨#[]⟩ (.slice xs ns cs')) := I9
      have c36 := I9.signs
      clear D9 I9
      go_wp2
      clear c36
      go_loopw [45] (fun i wr => ∃ k : Nat, k ≤ ns ∧ i = .int .i64 k ∧ Hid (Bd wr b (ptS T fs k)) ∧ Hid (Below w.heap.size w wr)) (fun i _ => ns - (intOf i).toNat)
      case atStart => exact ⟨0, Nat.zero_le _, rfl, DL, B9⟩
      case round =>
        clear DL IL
        obtain ⟨k, hk, rfl, DK, BK⟩ := hrel
        by_cases hlt : k < ns
        · obtain ⟨a, rfl, c0⟩ := HS.out.below BK.out (Nat.le_refl _) k hlt
          have hg := HG.out k hlt
          have hps := ptS_size T fs k (fun i hi => HG.out i (by omega))
          have CL := line_any b (ptS T fs k) hdS (fs k) wr DK.out (by show _ + 6 + _ + 1 ≤ _; omega)
          go_wp2_with fail
          refine CL.mono ?_
          clear CL
          rintro e w11 ⟨⟨ve11, rfl⟩, D11, b11⟩
          have D11' : Hid (Bd w11 b (ptS T fs (k + 1))) := D11
          have B11 : Hid (Below w.heap.size w w11) := BK.out.trans (b11.mono (Nat.le_of_lt hwb.out))
          clear b11 D11 DK BK c0
          go_wp2
          go_roundw
          case rel => exact ⟨k + 1, by omega, by go_num, D11', B11⟩
          case measure => simp [intOf]; omega
        · obtain rfl : k = ns := by omega
          go_wp2_with fail
          refine (hlast.out wr DK.out).mono ?_
          rintro e w12 ⟨rfl, b12⟩
          go_wp2
          go_ret2
          exact ⟨by rw [HTX.out]; rfl, BK.out.trans (b12.mono (Nat.le_of_lt hwb.out))⟩
    · have f1 : (F.toList == []) = false := by
        rw [beq_eq_false_iff_ne]
        intro h
        exact hF ((empty_iff F).1 (by rw [h]; rfl))
      have f2 : (F.toList != []) = true := by rw [bne_iff_ne]; rw [beq_eq_false_iff_ne] at f1; exact f1
      have f3 : ¬ F.toList = [] := by rw [beq_eq_false_iff_ne] at f1; exact f1
      have f4 : F.toList.isEmpty = false := by
        cases h : F.toList.isEmpty
        · rfl
        · exact absurd ((empty_iff F).1 h) hF
      have HTX : Hid (prT P D z fr nr F fs ns = ptS (pt4 P D z fr nr ++ hdF ++ F ++ nl) fs ns) := by unfold Hid prT; rw [ptF_n hF]
      have mF : F.size ≤ 257 := by
        have := HF.out
        rw [frC_n hF] at this
        exact prC_max this
      have CL := line_any b (pt4 P D z fr nr) hdF F w9 D9 (by show _ + 6 + _ + 1 ≤ _; omega)
      go_wp2_with fail
      refine CL.mono ?_
      clear CL
      rintro e w10 ⟨⟨ve10, rfl⟩, D10, b10⟩
      have I10 := I9.below b10 hwb.out
      have B10 : Hid (Below w.heap.size w w10) := B9.out.trans (b10.mono (Nat.le_of_lt hwb.out))
      have m5 : (pt4 P D z fr nr ++ hdF ++ F ++ nl).size ≤ (pt4 P D z fr nr).size + 264 := by
        rw [app_size, app_size, app_size]
        show _ + 6 + _ + 1 ≤ _
        omega
      clear b10 I9 B9 D9 c35 hF
      generalize pt4 P D z fr nr ++ hdF ++ F ++ nl = T at D10 HTX m5
      have hlast : Hid (∀ W, Bd W b (ptS T fs ns) → Calls Tryd.prog 15 #[.pointer (some ⟨b, 0, none⟩)] W fun e w' => e = .returned (.string (ptS T fs ns)) ∧ Below b W w') := fun W h => bstr_any b _ W h
      have DL : Hid (Bd w10 b (ptS T fs 0)) := D10
      have IL : Hid (Inf w10 w.heap.size P D z (.slice xr nr cr) F (.slice xs ns cs')) := I10
      have c36 := I10.signs
      clear D10 I10
      go_wp2
      clear c36
      go_loopw [45] (fun i wr => ∃ k : Nat, k ≤ ns ∧ i = .int .i64 k ∧ Hid (Bd wr b (ptS T fs k)) ∧ Hid (Below w.heap.size w wr)) (fun i _ => ns - (intOf i).toNat)
      case atStart => exact ⟨0, Nat.zero_le _, rfl, DL, B10⟩
      case round =>
        clear DL IL
        obtain ⟨k, hk, rfl, DK, BK⟩ := hrel
        by_cases hlt : k < ns
        · obtain ⟨a, rfl, c0⟩ := HS.out.below BK.out (Nat.le_refl _) k hlt
          have hg := HG.out k hlt
          have hps := ptS_size T fs k (fun i hi => HG.out i (by omega))
          have CL := line_any b (ptS T fs k) hdS (fs k) wr DK.out (by show _ + 6 + _ + 1 ≤ _; omega)
          go_wp2_with fail
          refine CL.mono ?_
          clear CL
          rintro e w11 ⟨⟨ve11, rfl⟩, D11, b11⟩
          have D11' : Hid (Bd w11 b (ptS T fs (k + 1))) := D11
          have B11 : Hid (Below w.heap.size w w11) := BK.out.trans (b11.mono (Nat.le_of_lt hwb.out))
          clear b11 D11 DK BK c0
          go_wp2
          go_roundw
          case rel => exact ⟨k + 1, by omega, by go_num, D11', B11⟩
          case measure => simp [intOf]; omega
        · obtain rfl : k = ns := by omega
          go_wp2_with fail
          refine (hlast.out wr DK.out).mono ?_
          rintro e w12 ⟨rfl, b12⟩
          go_wp2
          go_ret2
          exact ⟨by rw [HTX.out]; rfl, BK.out.trans (b12.mono (Nat.le_of_lt hwb.out))⟩
  · have hb : (ckC P z fr nr F fs ns != 0) = true := by rw [bne_iff_ne]; exact hc
    rw [prS_n hc]
    generalize ckC P z fr nr F fs ns = C at CC hb hc ⊢
    clear hc
    go_enter Tryd.func5, Tryd.ntmps5
    go_wp2_with (refine wpList_load_inf (by rfl) (.tmp 1) (by rfl) (by rfl) I0 ?_; refine Hid.out ?_)
    unfold Hid
    generalize w.alloc (.cells (infC P D z (.slice xr nr cr) F (.slice xs ns cs')) 26) = w0 at I0 B0 z0 ⊢
    go_wp2_with fail
    refine (CC w0 B0).mono ?_
    rintro e w1 ⟨rfl, b1⟩
    go_wp2
    go_ret2
    exact ⟨rfl, B0.trans (b1.mono B0.size)⟩

end Go.Proofs.YtjhbfkckkinfjaaDoor
