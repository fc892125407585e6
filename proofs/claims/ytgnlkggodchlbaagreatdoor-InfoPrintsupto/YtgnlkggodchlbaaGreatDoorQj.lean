/- Gathered: InJ InK InL InM InN. -/
import Derived.Lib.AppendIntMem
import Derived.Test.YtgnlkggodchlbaaGreatDoorQi
/- info.Print; walked. -/
namespace Go.Proofs.YtgnlkggodchlbaaGreatDoor
open Go.RowKit Go.Shelf

/-- The library's table of powers lies in memory. -/
def PT (w : World) : Prop := Lib.TabIs Tryz.prog w "internal/strconv.uint64pow10" .u64 Lib.pow10Tab
theorem PT.below {w w' : World} (h : PT w) (b : Below w.heap.size w w') : PT w' := Lib.tabBelow_of_tabIs h w' b
theorem itoa_any (z : Int) (w : World) (h0 : 0 ≤ z) (h1 : z ≤ 1048576) (hT : PT w) :
    Calls Tryz.prog 15 #[.int .i64 z] w fun e w' => e = .returned (.string (itB z)) ∧ Below w.heap.size w w' :=
  (Tryz.strconv_Itoa z (by omega) (by omega) w hT).mono (by rintro e w' ⟨rfl, k, os, rfl⟩; exact ⟨rfl, Lib.below_grow _ w (Nat.le_refl _) k os⟩)

theorem ckC_parts {P : ByteArray} {z : Int} {fr : Nat → ByteArray} {nr : Nat} {F : ByteArray} {fs : Nat → ByteArray} {ns : Nat} (h : ckC P z fr nr F fs ns = 0) : prC P = 0 ∧ (0 ≤ z ∧ z ≤ 1048576) ∧ crf fr nr = 0 ∧ frC F = 0 ∧ ssC fs ns = 0 := by
  have k : ∀ a b : Int, orC a b = 0 → a = 0 ∧ b = 0 := fun a b e => by
    by_cases ha : a = 0
    · rw [orC_z ha] at e; exact ⟨ha, e⟩
    · rw [orC_n ha] at e; exact absurd e ha
  obtain ⟨h1, h2⟩ := k _ _ h
  obtain ⟨h3, h4⟩ := k _ _ h1
  obtain ⟨h5, h6⟩ := k _ _ h4
  obtain ⟨h7, h8⟩ := k _ _ h6
  refine ⟨h3, ?_, h7, h8, h2⟩
  by_cases q : 0 ≤ z ∧ z ≤ 1048576
  · exact q
  · rw [szC_no q] at h5; exact absurd h5 (by decide)
theorem crf_ok {fr : Nat → ByteArray} {nr : Nat} (h : crf fr nr = 0) : nr ≤ 1024 ∧ refsOk fr nr := by
  unfold crf at h
  split at h
  · exact absurd h (by decide)
  · split at h
    · rename_i a b; exact ⟨by omega, b⟩
    · exact absurd h (by decide)
theorem ssC_ok {fs : Nat → ByteArray} {ns : Nat} (h : ssC fs ns = 0) : ssOk fs ns := by
  unfold ssC at h
  split at h
  · rename_i a; exact a
  · exact absurd h (by decide)
theorem snC_ok {s : ByteArray} (h : snC s = 0) : snOk s := by
  unfold snC at h
  split at h
  · rename_i a; exact a
  · exact absurd h (by decide)
theorem pt1_size (P : ByteArray) : (pt1 P).size = P.size + 7 := by
  unfold pt1
  rw [app_size, app_size, app_size]
  show 0 + 6 + _ + 1 = _
  omega
theorem pt2_size (P : ByteArray) (D : Nat → Int) : (pt2 P D).size = P.size + 73 := by
  unfold pt2
  rw [app_size, app_size, app_size, b32_size, pt1_size]
  show _ + 13 + _ + 1 = _
  omega
theorem pt3_size (P : ByteArray) (D : Nat → Int) (z : Int) : (pt3 P D z).size = P.size + 80 + (itB z).size := by
  unfold pt3
  rw [app_size, app_size, app_size, pt2_size]
  show _ + 6 + _ + 1 = _
  omega
theorem pt4_size (P : ByteArray) (D : Nat → Int) (z : Int) (fr : Nat → ByteArray) (nr : Nat) : (pt4 P D z fr nr).size = P.size + 86 + (itB z).size + (bsS fr nr).size := by
  unfold pt4
  rw [app_size, app_size, app_size, pt3_size]
  show _ + 5 + _ + 1 = _
  omega
def prS (c : Int) (t : ByteArray) : ByteArray := if c = 0 then t else emp
theorem prS_z {c : Int} (h : c = 0) (t : ByteArray) : prS c t = t := if_pos h
theorem prS_n {c : Int} (h : c ≠ 0) (t : ByteArray) : prS c t = emp := if_neg h

set_option maxRecDepth 100000 in
set_option maxHeartbeats 4000000 in
theorem print_any (P : ByteArray) (D : Nat → Int) (z : Int) (F : ByteArray) (xr : Option Addr) (nr cr : Nat) (fr : Nat → ByteArray) (xs : Option Addr) (ns cs' : Nat) (fs : Nat → ByteArray) (w : World)
    (hr : SIs w xr nr fr) (hs : SIs w xs ns fs) (hnc : ns ≤ cs') (hns : ns ≤ 1073741824) (hsz : ∀ i, i < ns → (fs i).size ≤ 140737488351232) (hT : PT w) :
    Calls Tryz.prog 5 #[.agg (infC P D z (.slice xr nr cr) F (.slice xs ns cs'))] w fun e w' => e = .returned (.tuple #[.string (prS (ckC P z fr nr F fs ns) (prT P D z fr nr F fs ns)), .int .i64 (ckC P z fr nr F fs ns)]) ∧ Below w.heap.size w w' := by
  have I0 : Inf (w.alloc (.cells (infC P D z (.slice xr nr cr) F (.slice xs ns cs')) 26)) w.heap.size P D z (.slice xr nr cr) F (.slice xs ns cs') := Inf.box _ _ _ _ _ _ _ _
  have B0 : Below w.heap.size w (w.alloc (.cells (infC P D z (.slice xr nr cr) F (.slice xs ns cs')) 26)) := (Below.refl _ _).alloc (Nat.le_refl _) _
  have z0 : w.heap.size < (w.alloc (.cells (infC P D z (.slice xr nr cr) F (.slice xs ns cs')) 26)).heap.size := by rw [World.size_alloc]; omega
  have HR : Hid (SIs w xr nr fr) := hr
  have HS : Hid (SIs w xs ns fs) := hs
  have HZ : Hid (∀ i, i < ns → (fs i).size ≤ 140737488351232) := hsz
  have HT : Hid (PT w) := hT
  have CC := fun W (b : Below w.heap.size w W) => ick_any P D z F xr nr cr fr xs ns cs' fs W (hr.below b (Nat.le_refl _)) (hs.below b (Nat.le_refl _)) hnc (by omega) hsz
  clear hr hs hsz hT
  by_cases hc : ckC P z fr nr F fs ns = 0
  · obtain ⟨h1, ⟨h2, h2'⟩, h3, h4, h5⟩ := ckC_parts hc
    obtain ⟨h6, h7⟩ := crf_ok h3
    have HP : Hid (∀ i, i < nr → prC (fr i) = 0) := fun i hi => (h7 i hi).1
    have HG : Hid (∀ i, i < ns → (fs i).size ≤ 85) := fun i hi => snOk_max (snC_ok ((ssC_ok h5) i hi).1)
    have HF : Hid (frC F = 0) := h4
    have mP := prC_max h1
    have mI := itoa_le z h2 h2'
    have mB := bsS_size fr nr (fun i hi => prC_max (HP.out i hi))
    rw [hc, prS_z rfl]
    simp only [hc] at CC
    clear hc h1 h3 h4 h5 h7
    go_enter Tryz.func5, Tryz.ntmps5
    rw [show (⟨#[80, 97, 116, 104, 58, 32]⟩ : ByteArray) = hdP from rfl, show (⟨#[72, 97, 115, 104, 58, 32, 115, 104, 97, 50, 53, 54, 58]⟩ : ByteArray) = hdH from rfl, show (⟨#[83, 105, 122, 101, 58, 32]⟩ : ByteArray) = hdZ from rfl, show (⟨#[82, 101, 102, 115, 58]⟩ : ByteArray) = hdR from rfl, show (⟨#[70, 114, 111, 109, 58, 32]⟩ : ByteArray) = hdF from rfl, show (⟨#[83, 105, 103, 110, 58, 32]⟩ : ByteArray) = hdS from rfl]
    go_wp2_with (refine wpList_load_inf (by rfl) (.tmp 1) (by rfl) (by rfl) I0 ?_; refine Hid.out ?_)
    unfold Hid
    generalize w.alloc (.cells (infC P D z (.slice xr nr cr) F (.slice xs ns cs')) 26) = w0 at I0 B0 z0 ⊢
    go_wp2_with fail
    refine (CC w0 B0).mono ?_
    rintro e w1 ⟨rfl, b1⟩
    have I1 : Inf w1 w.heap.size P D z (.slice xr nr cr) F (.slice xs ns cs') := I0.below b1 z0
    have B1 : Hid (Below w.heap.size w w1) := B0.trans (b1.mono B0.size)
    have z1 : Hid (w.heap.size < w1.heap.size) := Nat.lt_of_lt_of_le z0 b1.size
    clear CC I0 B0 z0 b1
    have I2 : Inf (w1.alloc (.cells #[.pointer none, .slice none 0 0] 45)) w.heap.size P D z (.slice xr nr cr) F (.slice xs ns cs') := I1.same (Below.heap_alloc w1 _ _ z1.out)
    have D2 : Bd (w1.alloc (.cells #[.pointer none, .slice none 0 0] 45)) w1.heap.size emp := Bd.new w1
    have B2 : Below w.heap.size w (w1.alloc (.cells #[.pointer none, .slice none 0 0] 45)) := B1.out.alloc B1.out.size _
    have c0 := I2.path
    obtain ⟨b, hb⟩ : ∃ b, w1.heap.size = b := ⟨_, rfl⟩
    have hwb : Hid (w.heap.size < b) := by rw [← hb]; exact z1.out
    go_wp2_with fail
    generalize w1.alloc (.cells #[.pointer none, .slice none 0 0] 45) = w2 at I2 D2 B2 c0 ⊢
    rw [hb] at D2
    clear hb I1 B1 z1 c0
    -- @1
    have CL := line_any b emp hdP P w2 D2 (by show 0 + 6 + _ + 1 ≤ _; omega)
    refine CL.mono ?_
    clear CL
    rintro e w3 ⟨⟨ve3, rfl⟩, D3, b3⟩
    have I3 := I2.below b3 hwb.out
    have B3 : Hid (Below w.heap.size w w3) := B2.trans (b3.mono (Nat.le_of_lt hwb.out))
    change Bd w3 b (pt1 P) at D3
    clear b3 I2 B2 D2
    -- @2
    have hst : (convert 43 9 (.slice (some ⟨w.heap.size, 1, none⟩) 32 32)).run Tryz.prog w3 = .ok (.string (strFn 32 D)) w3 := run_convert_bytes_arg w3 43 5 Tryz.underlying43 Tryz.underlying5 w.heap.size 1 32 32 ((List.range 32).map D) (by simp) (fun i hi => by rw [I3.dig i hi]; simp [List.getD, hi]) 9 Tryz.underlying9
    have C32 := b32_any (strFn 32 D) w3 (by rw [strFn_size]; decide)
    go_wp2_with fail
    refine C32.mono ?_
    clear C32 hst
    rintro e w4 ⟨rfl, b4⟩
    have I4 := I3.below b4 I3.lt
    have D4 := D3.below b4 (Nat.le_refl _)
    have B4 : Hid (Below w.heap.size w w4) := B3.out.trans (b4.mono B3.out.size)
    clear b4 I3 D3 B3
    have CL := line_any b (pt1 P) hdH (b32Str (strFn 32 D)) w4 D4 (by rw [pt1_size, b32_size]; show _ + 13 + _ + 1 ≤ _; omega)
    go_wp2_with fail
    refine CL.mono ?_
    clear CL
    rintro e w5 ⟨⟨ve5, rfl⟩, D5, b5⟩
    have I5 := I4.below b5 hwb.out
    have B5 : Hid (Below w.heap.size w w5) := B4.out.trans (b5.mono (Nat.le_of_lt hwb.out))
    change Bd w5 b (pt2 P D) at D5
    clear b5 I4 B4 D4
    -- @3
    have c33 := I5.size
    have CI := itoa_any z w5 h2 h2' (HT.out.below B5.out)
    go_wp2_with fail
    refine CI.mono ?_
    clear CI c33
    rintro e w6 ⟨rfl, b6⟩
    have I6 := I5.below b6 I5.lt
    have D6 := D5.below b6 (Nat.le_refl _)
    have B6 : Hid (Below w.heap.size w w6) := B5.out.trans (b6.mono B5.out.size)
    clear b6 I5 D5 B5
    have CL := line_any b (pt2 P D) hdZ (itB z) w6 D6 (by rw [pt2_size]; show _ + 6 + _ + 1 ≤ _; omega)
    go_wp2_with fail
    refine CL.mono ?_
    clear CL
    rintro e w7 ⟨⟨ve7, rfl⟩, D7, b7⟩
    have I7 := I6.below b7 hwb.out
    have B7 : Hid (Below w.heap.size w w7) := B6.out.trans (b7.mono (Nat.le_of_lt hwb.out))
    change Bd w7 b (pt3 P D z) at D7
    clear b7 I6 B6 D6
    -- @4
    have c34 := I7.refs
    have CB := bases_any xr nr cr fr w7 (HR.out.below B7.out (Nat.le_refl _)) h6 HP.out
    go_wp2_with fail
    refine CB.mono ?_
    clear CB c34
    rintro e w8 ⟨rfl, b8⟩
    have I8 := I7.below b8 I7.lt
    have D8 := D7.below b8 (Nat.le_refl _)
    have B8 : Hid (Below w.heap.size w w8) := B7.out.trans (b8.mono B7.out.size)
    clear b8 I7 D7 B7
    have CL := line_any b (pt3 P D z) hdR (bsS fr nr) w8 D8 (by rw [pt3_size]; show _ + 5 + _ + 1 ≤ _; omega)
    go_wp2_with fail
    refine CL.mono ?_
    clear CL
    rintro e w9 ⟨⟨ve9, rfl⟩, D9, b9⟩
    have I9 := I8.below b9 hwb.out
    have B9 : Hid (Below w.heap.size w w9) := B8.out.trans (b9.mono (Nat.le_of_lt hwb.out))
    change Bd w9 b (pt4 P D z fr nr) at D9
    clear b9 I8 B8 D8
    have m4 := pt4_size P D z fr nr
    have c35 := I9.from_
    by_cases hF : F.size = 0
    · have HTX : Hid (prT P D z fr nr F fs ns = ptS (pt4 P D z fr nr) fs ns) := by unfold Hid prT; rw [ptF_z hF]
      obtain rfl : F = ⟨#[]⟩ := bytes_ext (by rw [hF]; rfl) (fun k hk => absurd hk (by omega))
      generalize pt4 P D z fr nr = T at D9 HTX m4
      have hlast : Hid (∀ W, Bd W b (ptS T fs ns) → Calls Tryz.prog 17 #[.pointer (some ⟨b, 0, none⟩)] W fun e w' => e = .returned (.string (ptS T fs ns)) ∧ Below b W w') := fun W h => bstr_any b _ W h
      have DL : Hid (Bd w9 b (ptS T fs 0)) := D9
      have IL : Hid (Inf w9 w.heap.size P D z (.slice xr nr cr) ⟨#[]⟩ (.slice xs ns cs')) := I9
      have c36 := I9.signs
      clear D9 I9
      go_wp2
      clear c36
      go_loopw [45] (fun i wr => ∃ k : Nat, k ≤ ns ∧ i = .int .i64 k ∧ Hid (Bd wr b (ptS T fs k)) ∧ Hid (Below w.heap.size w wr)) (fun i _ => ns - (intOf i).toNat)
      case atStart => exact ⟨0, Nat.zero_le _, rfl, DL, B9⟩
      case round =>
        clear DL IL
        obtain ⟨k, hk, rfl, DK, BK⟩ := hrel
        by_cases hlt : k < ns
        · obtain ⟨a, rfl, c0⟩ := HS.out.below BK.out (Nat.le_refl _) k hlt
          have hg := HG.out k hlt
          have hps := ptS_size T fs k (fun i hi => HG.out i (by omega))
          have CL := line_any b (ptS T fs k) hdS (fs k) wr DK.out (by show _ + 6 + _ + 1 ≤ _; omega)
          go_wp2_with fail
          refine CL.mono ?_
          clear CL
          rintro e w11 ⟨⟨ve11, rfl⟩, D11, b11⟩
          have D11' : Hid (Bd w11 b (ptS T fs (k + 1))) := D11
          have B11 : Hid (Below w.heap.size w w11) := BK.out.trans (b11.mono (Nat.le_of_lt hwb.out))
          clear b11 D11 DK BK c0
          go_wp2
          go_roundw
          case rel => exact ⟨k + 1, by omega, by go_num, D11', B11⟩
          case measure => simp [intOf]; omega
        · obtain rfl : k = ns := by omega
          go_wp2_with fail
          refine (hlast.out wr DK.out).mono ?_
          rintro e w12 ⟨rfl, b12⟩
          go_wp2
          go_ret2
          exact ⟨by rw [HTX.out]; rfl, BK.out.trans (b12.mono (Nat.le_of_lt hwb.out))⟩
    · have f1 : (F.toList == []) = false := by
        rw [beq_eq_false_iff_ne]
        intro h
        exact hF ((empty_iff F).1 (by rw [h]; rfl))
      have f2 : (F.toList != []) = true := by rw [bne_iff_ne]; rw [beq_eq_false_iff_ne] at f1; exact f1
      have f3 : ¬ F.toList = [] := by rw [beq_eq_false_iff_ne] at f1; exact f1
      have f4 : F.toList.isEmpty = false := by
        cases h : F.toList.isEmpty
        · rfl
        · exact absurd ((empty_iff F).1 h) hF
      have HTX : Hid (prT P D z fr nr F fs ns = ptS (pt4 P D z fr nr ++ hdF ++ F ++ nl) fs ns) := by unfold Hid prT; rw [ptF_n hF]
      have mF : F.size ≤ 257 := by
        have := HF.out
        rw [frC_n hF] at this
        exact prC_max this
      have CL := line_any b (pt4 P D z fr nr) hdF F w9 D9 (by show _ + 6 + _ + 1 ≤ _; omega)
      go_wp2_with fail
      refine CL.mono ?_
      clear CL
      rintro e w10 ⟨⟨ve10, rfl⟩, D10, b10⟩
      have I10 := I9.below b10 hwb.out
      have B10 : Hid (Below w.heap.size w w10) := B9.out.trans (b10.mono (Nat.le_of_lt hwb.out))
      have m5 : (pt4 P D z fr nr ++ hdF ++ F ++ nl).size ≤ (pt4 P D z fr nr).size + 264 := by
        rw [app_size, app_size, app_size]
        show _ + 6 + _ + 1 ≤ _
        omega
      clear b10 I9 B9 D9 c35 hF
      generalize pt4 P D z fr nr ++ hdF ++ F ++ nl = T at D10 HTX m5
      have hlast : Hid (∀ W, Bd W b (ptS T fs ns) → Calls Tryz.prog 17 #[.pointer (some ⟨b, 0, none⟩)] W fun e w' => e = .returned (.string (ptS T fs ns)) ∧ Below b W w') := fun W h => bstr_any b _ W h
      have DL : Hid (Bd w10 b (ptS T fs 0)) := D10
      have IL : Hid (Inf w10 w.heap.size P D z (.slice xr nr cr) F (.slice xs ns cs')) := I10
      have c36 := I10.signs
      clear D10 I10
      go_wp2
      clear c36
      go_loopw [45] (fun i wr => ∃ k : Nat, k ≤ ns ∧ i = .int .i64 k ∧ Hid (Bd wr b (ptS T fs k)) ∧ Hid (Below w.heap.size w wr)) (fun i _ => ns - (intOf i).toNat)
      case atStart => exact ⟨0, Nat.zero_le _, rfl, DL, B10⟩
      case round =>
        clear DL IL
        obtain ⟨k, hk, rfl, DK, BK⟩ := hrel
        by_cases hlt : k < ns
        · obtain ⟨a, rfl, c0⟩ := HS.out.below BK.out (Nat.le_refl _) k hlt
          have hg := HG.out k hlt
          have hps := ptS_size T fs k (fun i hi => HG.out i (by omega))
          have CL := line_any b (ptS T fs k) hdS (fs k) wr DK.out (by show _ + 6 + _ + 1 ≤ _; omega)
          go_wp2_with fail
          refine CL.mono ?_
          clear CL
          rintro e w11 ⟨⟨ve11, rfl⟩, D11, b11⟩
          have D11' : Hid (Bd w11 b (ptS T fs (k + 1))) := D11
          have B11 : Hid (Below w.heap.size w w11) := BK.out.trans (b11.mono (Nat.le_of_lt hwb.out))
          clear b11 D11 DK BK c0
          go_wp2
          go_roundw
          case rel => exact ⟨k + 1, by omega, by go_num, D11', B11⟩
          case measure => simp [intOf]; omega
        · obtain rfl : k = ns := by omega
          go_wp2_with fail
          refine (hlast.out wr DK.out).mono ?_
          rintro e w12 ⟨rfl, b12⟩
          go_wp2
          go_ret2
          exact ⟨by rw [HTX.out]; rfl, BK.out.trans (b12.mono (Nat.le_of_lt hwb.out))⟩
  · have hb : (ckC P z fr nr F fs ns != 0) = true := by rw [bne_iff_ne]; exact hc
    rw [prS_n hc]
    generalize ckC P z fr nr F fs ns = C at CC hb hc ⊢
    clear hc
    go_enter Tryz.func5, Tryz.ntmps5
    go_wp2_with (refine wpList_load_inf (by rfl) (.tmp 1) (by rfl) (by rfl) I0 ?_; refine Hid.out ?_)
    unfold Hid
    generalize w.alloc (.cells (infC P D z (.slice xr nr cr) F (.slice xs ns cs')) 26) = w0 at I0 B0 z0 ⊢
    go_wp2_with fail
    refine (CC w0 B0).mono ?_
    rintro e w1 ⟨rfl, b1⟩
    go_wp2
    go_ret2
    exact ⟨rfl, B0.trans (b1.mono B0.size)⟩

end Go.Proofs.YtgnlkggodchlbaaGreatDoor
/- info.readPath, readHash, isNumber, readSize; walked. -/
namespace Go.Proofs.YtgnlkggodchlbaaGreatDoor
open Go.RowKit Go.Shelf

/-- The store path behind a head. -/
def rpC (l h : ByteArray) : Int := if hpQ l h then prC (cpQ l h) else 150
def rpS (l h : ByteArray) : ByteArray := if rpC l h = 0 then cpQ l h else emp
theorem rpC_no {l h : ByteArray} (g : hpQ l h = false) : rpC l h = 150 := by unfold rpC; rw [g]; rfl
theorem rpC_yes {l h : ByteArray} (g : hpQ l h = true) : rpC l h = prC (cpQ l h) := by unfold rpC; rw [g]; rfl
theorem rpS_n {l h : ByteArray} (g : rpC l h ≠ 0) : rpS l h = emp := if_neg g
theorem rpS_z {l h : ByteArray} (g : rpC l h = 0) : rpS l h = cpQ l h := if_pos g

set_option maxRecDepth 100000 in
set_option maxHeartbeats 1000000 in
theorem rdP_any (l h : ByteArray) (w : World) :
    Calls Tryz.prog 39 #[.string l, .string h] w fun e w' => e = .returned (.tuple #[.string (rpS l h), .int .i64 (rpC l h)]) ∧ Below w.heap.size w w' := by
  have C0 := cutQ_any l h w
  cases g : hpQ l h
  · rw [rpC_no g, rpS_n (by rw [rpC_no g]; decide)]
    rw [g] at C0
    clear g
    generalize cpQ l h = q at C0
    go_enter Tryz.func39, Tryz.ntmps39
    go_wp2_with fail
    refine C0.mono ?_
    rintro e w1 ⟨rfl, rfl⟩
    go_wp2
    go_ret2
    exact ⟨rfl, Below.refl _ _⟩
  · have e1 := rpC_yes g
    rw [g] at C0
    rcases prC_is (cpQ l h) with hp | hp
    · rw [rpS_z (by rw [e1]; exact hp), e1, hp]
      have HP : Hid (prC (cpQ l h) = 0) := hp
      clear g e1 hp
      generalize cpQ l h = q at C0 HP ⊢
      go_enter Tryz.func39, Tryz.ntmps39
      go_wp2_with fail
      refine C0.mono ?_
      rintro e w1 ⟨rfl, rfl⟩
      go_wp2_with fail
      refine (parse_any _ _).mono ?_
      rintro e w2 ⟨rfl, b2⟩
      rw [HP.out]
      go_wp2
      go_ret2
      exact ⟨rfl, b2⟩
    · rw [rpS_n (by rw [e1]; rw [bne_iff_ne] at hp; exact hp), e1]
      clear g e1
      generalize cpQ l h = q at C0 hp ⊢
      go_enter Tryz.func39, Tryz.ntmps39
      go_wp2_with fail
      refine C0.mono ?_
      rintro e w1 ⟨rfl, rfl⟩
      go_wp2_with fail
      refine (parse_any _ _).mono ?_
      rintro e w2 ⟨rfl, b2⟩
      go_wp2
      go_ret2
      exact ⟨rfl, b2⟩

/-- The digest of a line Hash. -/
def rhC (l : ByteArray) : Int := if hpQ l hdH then (if dOk (cpQ l hdH) then 0 else 131) else 150
def rhD (l : ByteArray) : Nat → Int := if rhC l = 0 then dFn (cpQ l hdH) else fun _ => 0
theorem rhC_no {l : ByteArray} (g : hpQ l hdH = false) : rhC l = 150 := by unfold rhC; rw [g]; rfl
theorem rhC_yes {l : ByteArray} (g : hpQ l hdH = true) (h : dOk (cpQ l hdH)) : rhC l = 0 := by unfold rhC; rw [g, if_pos rfl, if_pos h]
theorem rhC_bad {l : ByteArray} (g : hpQ l hdH = true) (h : ¬ dOk (cpQ l hdH)) : rhC l = 131 := by unfold rhC; rw [g, if_pos rfl, if_neg h]
theorem rhD_n {l : ByteArray} (g : rhC l ≠ 0) : rhD l = fun _ => 0 := if_neg g
theorem rhD_z {l : ByteArray} (g : rhC l = 0) : rhD l = dFn (cpQ l hdH) := if_pos g
theorem cpQ_size (l h : ByteArray) : (cpQ l h).size ≤ l.size := by
  unfold cpQ
  split
  · rw [ByteArray.size_extract]; omega
  · exact Nat.le_refl _

set_option maxRecDepth 100000 in
set_option maxHeartbeats 1000000 in
theorem rdH_any (l : ByteArray) (w : World) (hl : l.size ≤ 281474976710656) :
    Calls Tryz.prog 40 #[.string l] w fun e w' => e = .returned (.tuple #[.agg (cs .u8 32 (rhD l)), .int .i64 (rhC l)]) ∧ Below w.heap.size w w' := by
  have C0 := fun W => cutQ_any l hdH W
  have hq := cpQ_size l hdH
  have C1 := fun W => dgO_any (cpQ l hdH) W (by omega)
  have R0 : Row .u8 (w.alloc (.cells (cs .u8 32 (fun _ => 0)) 23)) w.heap.size 32 (fun _ => 0) := Row.box
  have B0 : Below w.heap.size w (w.alloc (.cells (cs .u8 32 (fun _ => 0)) 23)) := (Below.refl _ _).alloc (Nat.le_refl _) _
  have z0 : (w.alloc (.cells (cs .u8 32 (fun _ => 0)) 23)).heap.size = w.heap.size + 1 := World.size_alloc _ _
  clear hq
  cases g : hpQ l hdH
  · rw [rhC_no g, rhD_n (by rw [rhC_no g]; decide)]
    simp only [g] at C0
    clear g C1
    generalize cpQ l hdH = q at C0
    go_enter Tryz.func40, Tryz.ntmps40
    rw [show (⟨#[72, 97, 115, 104, 58, 32, 115, 104, 97, 50, 53, 54, 58]⟩ : ByteArray) = hdH from rfl]
    go_wp2_with fail
    rw [cs_zero32]
    generalize w.alloc (.cells (cs .u8 32 (fun _ => 0)) 23) = w0 at R0 B0 z0 ⊢
    refine (C0 w0).mono ?_
    rintro e w1 ⟨rfl, rfl⟩
    clear C0
    go_wp2_with (refine wpList_store_any (by rfl) 23 (.tmp 2) (.tmp 15) (by rfl) w.heap.size (by rfl) (by exact congrArg Value.agg cs_zero32) R0 szD32 (by rfl) ?_; intro W5 R5 U5)
    exact bodyPost_ret (results_ct Tryz.results40 _ _ rfl R5 undDIG szD32) rfl ⟨rfl, U5.below B0 (Nat.le_refl _) (by omega)⟩
  · simp only [g] at C0
    by_cases hd : dOk (cpQ l hdH)
    · rw [rhD_z (rhC_yes g hd), rhC_yes g hd]
      simp only [decide_eq_true hd] at C1
      clear g hd
      generalize dFn (cpQ l hdH) = D at C1 ⊢
      generalize cpQ l hdH = q at C0 C1
      go_enter Tryz.func40, Tryz.ntmps40
      rw [show (⟨#[72, 97, 115, 104, 58, 32, 115, 104, 97, 50, 53, 54, 58]⟩ : ByteArray) = hdH from rfl]
      go_wp2_with fail
      rw [cs_zero32]
      generalize w.alloc (.cells (cs .u8 32 (fun _ => 0)) 23) = w0 at R0 B0 z0 ⊢
      refine (C0 w0).mono ?_
      rintro e w1 ⟨rfl, rfl⟩
      go_wp2_with fail
      refine (C1 w1).mono ?_
      rintro e w3 ⟨rfl, b3⟩
      have R3 : Hid (Row .u8 w3 w.heap.size 32 (fun _ => 0)) := R0.below b3 (by omega)
      have B3 : Hid (Below w.heap.size w w3) := B0.trans (b3.mono (by have := B0.size; omega))
      have z3 : Hid (w.heap.size < w3.heap.size) := by have := b3.size; unfold Hid; omega
      clear C0 C1 R0 B0 z0 b3
      go_wp2_with (refine wpList_store_any (by rfl) 23 (.tmp 6) (.tmp 19) (by rfl) w3.heap.size (by rfl) (by rfl) (Row.rep (by rfl)) szD32 (by rfl) ?_; intro W4 R4 U4; refine Hid.out ?_)
      unfold Hid
      have R4' : Row .u8 W4 w.heap.size 32 (fun _ => 0) := ((R3.out.alloc z3.out _).upd U4 (by rw [World.size_alloc]; have := z3.out; omega) (by have := z3.out; omega))
      have B4 : Below w.heap.size w W4 := (U4.below (B3.out.alloc B3.out.size _) (by have := z3.out; omega) (by rw [World.size_alloc]; have := z3.out; omega))
      have z4 : w.heap.size < W4.heap.size := by rw [U4.size, World.size_alloc]; have := z3.out; omega
      clear R3 B3 U4
      go_wp2_with (first
        | (refine wpList_load_arr (by rfl) 23 (.tmp 6) (by rfl) w3.heap.size (by rfl) R4 undDIG szD32 ?_)
        | (refine wpList_store_any (by rfl) 23 (.tmp 2) (.tmp 24) (by rfl) w.heap.size (by rfl) (by rfl) R4' szD32 (by rfl) ?_; intro W5 R5 U5))
      exact bodyPost_ret (results_ct Tryz.results40 _ _ rfl R5 undDIG szD32) rfl ⟨rfl, U5.below B4 (Nat.le_refl _) (by omega)⟩
    · rw [rhC_bad g hd, rhD_n (by rw [rhC_bad g hd]; decide)]
      simp only [decide_eq_false hd, dFn_no hd] at C1
      clear g hd
      generalize cpQ l hdH = q at C0 C1
      go_enter Tryz.func40, Tryz.ntmps40
      rw [show (⟨#[72, 97, 115, 104, 58, 32, 115, 104, 97, 50, 53, 54, 58]⟩ : ByteArray) = hdH from rfl]
      go_wp2_with fail
      rw [cs_zero32]
      generalize w.alloc (.cells (cs .u8 32 (fun _ => 0)) 23) = w0 at R0 B0 z0 ⊢
      refine (C0 w0).mono ?_
      rintro e w1 ⟨rfl, rfl⟩
      go_wp2_with fail
      refine (C1 w1).mono ?_
      rintro e w3 ⟨rfl, b3⟩
      have R3 : Hid (Row .u8 w3 w.heap.size 32 (fun _ => 0)) := R0.below b3 (by omega)
      have B3 : Hid (Below w.heap.size w w3) := B0.trans (b3.mono (by have := B0.size; omega))
      have z3 : Hid (w.heap.size < w3.heap.size) := by have := b3.size; unfold Hid; omega
      clear C0 C1 R0 B0 z0 b3
      go_wp2_with (refine wpList_store_any (by rfl) 23 (.tmp 6) (.tmp 19) (by rfl) w3.heap.size (by rfl) (by rfl) (Row.rep (by rfl)) szD32 (by rfl) ?_; intro W4 R4 U4; refine Hid.out ?_)
      unfold Hid
      have R4' : Row .u8 W4 w.heap.size 32 (fun _ => 0) := ((R3.out.alloc z3.out _).upd U4 (by rw [World.size_alloc]; have := z3.out; omega) (by have := z3.out; omega))
      have B4 : Below w.heap.size w W4 := (U4.below (B3.out.alloc B3.out.size _) (by have := z3.out; omega) (by rw [World.size_alloc]; have := z3.out; omega))
      have z4 : w.heap.size < W4.heap.size := by rw [U4.size, World.size_alloc]; have := z3.out; omega
      clear R3 B3 U4 R4
      go_wp2_with (refine wpList_store_any (by rfl) 23 (.tmp 2) (.tmp 23) (by rfl) w.heap.size (by rfl) (by exact congrArg Value.agg cs_zero32) R4' szD32 (by rfl) ?_; intro W5 R5 U5)
      exact bodyPost_ret (results_ct Tryz.results40 _ _ rfl R5 undDIG szD32) rfl ⟨rfl, U5.below B4 (Nat.le_refl _) (by omega)⟩

end Go.Proofs.YtgnlkggodchlbaaGreatDoor
/- info.isNumber, readSize; walked. -/
namespace Go.Proofs.YtgnlkggodchlbaaGreatDoor
open Go.RowKit Go.Shelf

def nmOk (t : ByteArray) : Prop := t.size ≠ 0 ∧ ¬ (bt t 0 = 48 ∧ 1 < t.size) ∧ ∀ k, k < t.size → 48 ≤ bt t k ∧ bt t k ≤ 57
instance (t : ByteArray) : Decidable (nmOk t) := inferInstanceAs (Decidable (_ ∧ _ ∧ _))
/-- The number that the first k digits are. -/
def nv (t : ByteArray) : Nat → Int
  | 0 => 0
  | k + 1 => 10 * nv t k + (bt t k - 48)
theorem nv_mono (t : ByteArray) (h : ∀ k, k < t.size → 48 ≤ bt t k ∧ bt t k ≤ 57) : ∀ m k, k + m ≤ t.size → 0 ≤ nv t k ∧ nv t k ≤ nv t (k + m) := by
  have nn : ∀ k, k ≤ t.size → 0 ≤ nv t k := by
    intro k
    induction k with
    | zero => intro _; exact Int.le_refl 0
    | succ k ih =>
      intro hk
      have h1 := ih (by omega)
      have h2 := h k (by omega)
      unfold nv
      omega
  intro m
  induction m with
  | zero => intro k hk; exact ⟨nn k (by omega), Int.le_refl _⟩
  | succ m ih =>
    intro k hk
    obtain ⟨h1, h2⟩ := ih k (by omega)
    have h3 := h (k + m) (by omega)
    have h4 := nn (k + m) (by omega)
    refine ⟨h1, ?_⟩
    show nv t k ≤ 10 * nv t (k + m) + (bt t (k + m) - 48)
    omega

set_option maxRecDepth 100000 in
set_option maxHeartbeats 1000000 in
theorem isN_any (t : ByteArray) (w : World) (ht : t.size ≤ 281474976710656) :
    Calls Tryz.prog 58 #[.string t] w fun e w' => e = .returned (.bool (decide (nmOk t))) ∧ w' = w := by
  have hb := get_bt t
  by_cases hz : t.size = 0
  · have hh : Hid (decide (nmOk t) = false) := decide_eq_false (fun h => h.1 hz)
    obtain rfl : t = ⟨#[]⟩ := bytes_ext (by rw [hz]; rfl) (fun k hk => absurd hk (by omega))
    clear hb hz
    go_enter Tryz.func58, Tryz.ntmps58
    go_wp2
    go_ret
    exact ⟨by rw [hh.out]; rfl, rfl⟩
  · have he : t.toList.isEmpty = false := by
      cases h : t.toList.isEmpty
      · rfl
      · exact absurd ((empty_iff t).1 h) hz
    have he2 : (t.toList == []) = false := by rw [beq_eq_false_iff_ne]; intro h; rw [h] at he; exact Bool.noConfusion he
    have he3 : ¬ t.toList = [] := fun h => by rw [h] at he; exact Bool.noConfusion he
    have h0 : 0 < t.size := by omega
    by_cases hl : bt t 0 = 48 ∧ 1 < t.size
    · have hh : Hid (decide (nmOk t) = false) := decide_eq_false (fun h => h.2.1 hl)
      obtain ⟨hl1, hl2⟩ := hl
      have q1 : (bt t 0 == 48) = true := by rw [hl1]; rfl
      have q2 : (1 : Int) < (t.size : Int) := by omega
      clear hz
      go_enter Tryz.func58, Tryz.ntmps58
      go_wp2
      go_ret
      exact ⟨by rw [hh.out]; rfl, rfl⟩
    · have HL : Hid (¬ (bt t 0 = 48 ∧ 1 < t.size)) := hl
      have HZ : Hid (t.size ≠ 0) := hz
      have key : (bt t 0 == 48) = false ∨ ((bt t 0 == 48) = true ∧ ¬ (1 : Int) < (t.size : Int)) := by
        by_cases q : bt t 0 = 48
        · right; exact ⟨by rw [q]; rfl, fun h => hl ⟨q, by omega⟩⟩
        · left; rw [beq_eq_false_iff_ne]; exact q
      clear hl hz
      rcases key with q1 | ⟨q1, q2⟩
      all_goals
        go_enter Tryz.func58, Tryz.ntmps58
        go_wp2
        clear he he2 he3
        go_loop [18] (fun i => ∃ k : Nat, k ≤ t.size ∧ i = .int .i64 k ∧ Hid (∀ j, j < k → 48 ≤ bt t j ∧ bt t j ≤ 57)) (fun i => t.size - (intOf i).toNat)
        case atStart => exact ⟨0, Nat.zero_le _, rfl, fun j hj => absurd hj (by omega)⟩
        case round =>
          obtain ⟨k, hk, rfl, hok⟩ := hrel
          by_cases hlt : k < t.size
          · by_cases g1 : bt t k < 48
            · have hh : Hid (decide (nmOk t) = false) := decide_eq_false (fun h => by have := (h.2.2 k hlt).1; omega)
              go_wp2
              go_ret
              exact ⟨by rw [hh.out]; rfl, rfl⟩
            · by_cases g2 : 57 < bt t k
              · have hh : Hid (decide (nmOk t) = false) := decide_eq_false (fun h => by have := (h.2.2 k hlt).2; omega)
                go_wp2
                go_ret
                exact ⟨by rw [hh.out]; rfl, rfl⟩
              · have hok2 : Hid (∀ j, j < k + 1 → 48 ≤ bt t j ∧ bt t j ≤ 57) := fun j hj => by
                  by_cases e : j = k
                  · rw [e]; omega
                  · exact hok.out j (by omega)
                go_wp2
                go_round
                case rel => exact ⟨k + 1, by omega, by go_num, hok2⟩
                case measure => simp [intOf]; omega
          · have hh : Hid (decide (nmOk t) = true) := decide_eq_true ⟨HZ.out, HL.out, fun j hj => hok.out j (by omega)⟩
            go_wp2
            go_ret
            exact ⟨by rw [hh.out]; rfl, rfl⟩

def rzC (l : ByteArray) : Int := if hpQ l hdZ = true ∧ nmOk (cpQ l hdZ) then (if nv (cpQ l hdZ) (cpQ l hdZ).size ≤ 1048576 then 0 else 152) else 150
def rzV (l : ByteArray) : Int := if rzC l = 0 then nv (cpQ l hdZ) (cpQ l hdZ).size else 0
theorem rzC_no {l : ByteArray} (g : ¬ (hpQ l hdZ = true ∧ nmOk (cpQ l hdZ))) : rzC l = 150 := if_neg g
theorem rzC_yes {l : ByteArray} (g : hpQ l hdZ = true ∧ nmOk (cpQ l hdZ)) (h : nv (cpQ l hdZ) (cpQ l hdZ).size ≤ 1048576) : rzC l = 0 := by unfold rzC; rw [if_pos g, if_pos h]
theorem rzC_big {l : ByteArray} (g : hpQ l hdZ = true ∧ nmOk (cpQ l hdZ)) (h : ¬ nv (cpQ l hdZ) (cpQ l hdZ).size ≤ 1048576) : rzC l = 152 := by unfold rzC; rw [if_pos g, if_neg h]
theorem rzV_n {l : ByteArray} (g : rzC l ≠ 0) : rzV l = 0 := if_neg g
theorem rzV_z {l : ByteArray} (g : rzC l = 0) : rzV l = nv (cpQ l hdZ) (cpQ l hdZ).size := if_pos g

set_option maxRecDepth 100000 in
set_option maxHeartbeats 1000000 in
theorem rdZ_any (l : ByteArray) (w : World) (hl : l.size ≤ 281474976710656) :
    Calls Tryz.prog 41 #[.string l] w fun e w' => e = .returned (.tuple #[.int .i64 (rzV l), .int .i64 (rzC l)]) ∧ w' = w := by
  have C0 := cutQ_any l hdZ w
  have hq := cpQ_size l hdZ
  have C1 := isN_any (cpQ l hdZ) w (by omega)
  cases g : hpQ l hdZ
  · have e1 := rzC_no (l := l) (fun h => by rw [g] at h; exact Bool.noConfusion h.1)
    rw [rzV_n (by rw [e1]; decide), e1]
    rw [g] at C0
    clear g e1 C1 hq
    generalize cpQ l hdZ = q at C0
    go_enter Tryz.func41, Tryz.ntmps41
    rw [show (⟨#[83, 105, 122, 101, 58, 32]⟩ : ByteArray) = hdZ from rfl]
    go_wp2_with fail
    refine C0.mono ?_
    rintro e w1 ⟨rfl, rfl⟩
    go_wp2
    go_ret2
    exact ⟨rfl, rfl⟩
  · by_cases hn : nmOk (cpQ l hdZ)
    · rw [decide_eq_true hn] at C1
      rw [g] at C0
      generalize hV : rzV l = V
      generalize hK : rzC l = K
      have HV : Hid (rzV l = V) := hV
      have HK : Hid (rzC l = K) := hK
      clear hV hK
      have hgn : Hid (hpQ l hdZ = true ∧ nmOk (cpQ l hdZ)) := ⟨g, hn⟩
      have HM : Hid (∀ m k, k + m ≤ (cpQ l hdZ).size → 0 ≤ nv (cpQ l hdZ) k ∧ nv (cpQ l hdZ) k ≤ nv (cpQ l hdZ) (k + m)) := nv_mono _ hn.2.2
      have HD : Hid (∀ k, k < (cpQ l hdZ).size → 48 ≤ bt (cpQ l hdZ) k ∧ bt (cpQ l hdZ) k ≤ 57) := hn.2.2
      have HY : Hid (nv (cpQ l hdZ) (cpQ l hdZ).size ≤ 1048576 → V = nv (cpQ l hdZ) (cpQ l hdZ).size ∧ K = 0) := fun h => ⟨by rw [← HV.out, rzV_z (rzC_yes hgn.out h)], by rw [← HK.out, rzC_yes hgn.out h]⟩
      have HN : Hid (¬ nv (cpQ l hdZ) (cpQ l hdZ).size ≤ 1048576 → V = 0 ∧ K = 152) := fun h => ⟨by rw [← HV.out, rzV_n (by rw [rzC_big hgn.out h]; decide)], by rw [← HK.out, rzC_big hgn.out h]⟩
      clear g hn hgn HV HK
      generalize cpQ l hdZ = q at C0 C1 hq HM HD HY HN
      have hb := get_bt q
      go_enter Tryz.func41, Tryz.ntmps41
      rw [show (⟨#[83, 105, 122, 101, 58, 32]⟩ : ByteArray) = hdZ from rfl]
      go_wp2_with fail
      refine C0.mono ?_
      rintro e w1 ⟨rfl, rfl⟩
      go_wp2_with fail
      refine C1.mono ?_
      rintro e w2 ⟨rfl, rfl⟩
      clear C0 C1
      go_wp2
      go_loop [6, 22] (fun nx i => ∃ (k : Nat) (v : Int), k ≤ q.size ∧ i = .int .i64 k ∧ nx = .int .i64 v ∧ 0 ≤ v ∧ v ≤ 1048576 ∧ Hid (v = nv q k)) (fun _ i => q.size - (intOf i).toNat)
      case atStart => exact ⟨0, 0, Nat.zero_le _, rfl, rfl, Int.le_refl _, by omega, rfl⟩
      case round =>
        obtain ⟨k, v, hk, rfl, rfl, hv0, hv1, hv⟩ := hrel
        by_cases hlt : k < q.size
        · obtain ⟨d0, d1⟩ := HD.out k hlt
          have hs : Hid (nv q (k + 1) = 10 * v + (bt q k - 48)) := by unfold Hid; rw [hv.out]; rfl
          have k1 : IntKind.u8.wrap (bt q k - 48) = bt q k - 48 := by rw [IntKind.wrap_u8]; omega
          by_cases hbig : 1048576 < 10 * v + (bt q k - 48)
          · have hn2 : Hid (V = 0 ∧ K = 152) := HN.out (by
              have := (HM.out (q.size - (k + 1)) (k + 1) (by omega)).2
              rw [show k + 1 + (q.size - (k + 1)) = q.size from by omega, hs.out] at this
              omega)
            go_wp2
            go_ret2
            exact ⟨by rw [hn2.out.1, hn2.out.2]; rfl, rfl⟩
          · go_wp2
            go_round
            case rel => exact ⟨k + 1, 10 * v + (bt q k - 48), by omega, by go_num, by go_num, by omega, by omega, hs.out.symm⟩
            case measure => simp [intOf]; omega
        · obtain rfl : k = q.size := by omega
          have hy : Hid (V = nv q q.size ∧ K = 0) := HY.out (by rw [← hv.out]; exact hv1)
          go_wp2
          go_ret2
          exact ⟨by rw [hy.out.1, hy.out.2, hv.out]; rfl, rfl⟩
    · rw [decide_eq_false hn] at C1
      have e1 := rzC_no (l := l) (fun h => hn h.2)
      rw [rzV_n (by rw [e1]; decide), e1]
      rw [g] at C0
      clear g e1 hq hn
      generalize cpQ l hdZ = q at C0 C1
      go_enter Tryz.func41, Tryz.ntmps41
      rw [show (⟨#[83, 105, 122, 101, 58, 32]⟩ : ByteArray) = hdZ from rfl]
      go_wp2_with fail
      refine C0.mono ?_
      rintro e w1 ⟨rfl, rfl⟩
      go_wp2_with fail
      refine C1.mono ?_
      rintro e w2 ⟨rfl, rfl⟩
      go_wp2
      go_ret2
      exact ⟨rfl, rfl⟩

end Go.Proofs.YtgnlkggodchlbaaGreatDoor
/- info.readRefs at no references; info.takeLine at the first four lines; walked. -/
namespace Go.Proofs.YtgnlkggodchlbaaGreatDoor
open Go.RowKit Go.Shelf

theorem inf_cell_set {w : World} {g i : Nat} {x : Value} (j : Nat) (h : j ≠ i) : (w.setCell ⟨g, i, none⟩ x).cell? ⟨g, j, none⟩ = w.cell? ⟨g, j, none⟩ :=
  World.cell?_setCell_other _ _ _ _ (fun c => h (by injection c with _ c2 _; exact c2.symm))
theorem Inf.setPath {w : World} {g : Nat} {P : ByteArray} {D : Nat → Int} {z : Int} {vr : Value} {F : ByteArray} {vs : Value} (h : Inf w g P D z vr F vs) (q : ByteArray) : Inf (w.setCell ⟨g, 0, none⟩ (.string q)) g q D z vr F vs :=
  ⟨World.cell?_setCell_same _ _ _ h.path, fun j hj => (inf_cell_set _ (by omega)).trans (h.dig j hj), (inf_cell_set _ (by omega)).trans h.size, (inf_cell_set _ (by omega)).trans h.refs, (inf_cell_set _ (by omega)).trans h.from_, (inf_cell_set _ (by omega)).trans h.signs, fun j hj => by rw [World.frozen?_setCell]; exact h.free j hj⟩
theorem Inf.setSize {w : World} {g : Nat} {P : ByteArray} {D : Nat → Int} {z : Int} {vr : Value} {F : ByteArray} {vs : Value} (h : Inf w g P D z vr F vs) (q : Int) : Inf (w.setCell ⟨g, 33, none⟩ (.int .i64 q)) g P D q vr F vs :=
  ⟨(inf_cell_set _ (by omega)).trans h.path, fun j hj => (inf_cell_set _ (by omega)).trans (h.dig j hj), World.cell?_setCell_same _ _ _ h.size, (inf_cell_set _ (by omega)).trans h.refs, (inf_cell_set _ (by omega)).trans h.from_, (inf_cell_set _ (by omega)).trans h.signs, fun j hj => by rw [World.frozen?_setCell]; exact h.free j hj⟩
theorem Inf.setRefs {w : World} {g : Nat} {P : ByteArray} {D : Nat → Int} {z : Int} {vr : Value} {F : ByteArray} {vs : Value} (h : Inf w g P D z vr F vs) (q : Value) : Inf (w.setCell ⟨g, 34, none⟩ q) g P D z q F vs :=
  ⟨(inf_cell_set _ (by omega)).trans h.path, fun j hj => (inf_cell_set _ (by omega)).trans (h.dig j hj), (inf_cell_set _ (by omega)).trans h.size, World.cell?_setCell_same _ _ _ h.refs, (inf_cell_set _ (by omega)).trans h.from_, (inf_cell_set _ (by omega)).trans h.signs, fun j hj => by rw [World.frozen?_setCell]; exact h.free j hj⟩
theorem Inf.setFrom {w : World} {g : Nat} {P : ByteArray} {D : Nat → Int} {z : Int} {vr : Value} {F : ByteArray} {vs : Value} (h : Inf w g P D z vr F vs) (q : ByteArray) : Inf (w.setCell ⟨g, 35, none⟩ (.string q)) g P D z vr q vs :=
  ⟨(inf_cell_set _ (by omega)).trans h.path, fun j hj => (inf_cell_set _ (by omega)).trans (h.dig j hj), (inf_cell_set _ (by omega)).trans h.size, (inf_cell_set _ (by omega)).trans h.refs, World.cell?_setCell_same _ _ _ h.from_, (inf_cell_set _ (by omega)).trans h.signs, fun j hj => by rw [World.frozen?_setCell]; exact h.free j hj⟩
theorem Inf.setSigns {w : World} {g : Nat} {P : ByteArray} {D : Nat → Int} {z : Int} {vr : Value} {F : ByteArray} {vs : Value} (h : Inf w g P D z vr F vs) (q : Value) : Inf (w.setCell ⟨g, 36, none⟩ q) g P D z vr F q :=
  ⟨(inf_cell_set _ (by omega)).trans h.path, fun j hj => (inf_cell_set _ (by omega)).trans (h.dig j hj), (inf_cell_set _ (by omega)).trans h.size, (inf_cell_set _ (by omega)).trans h.refs, (inf_cell_set _ (by omega)).trans h.from_, World.cell?_setCell_same _ _ _ h.signs, fun j hj => by rw [World.frozen?_setCell]; exact h.free j hj⟩
theorem Inf.there {w : World} {g : Nat} {P : ByteArray} {D : Nat → Int} {z : Int} {vr : Value} {F : ByteArray} {vs : Value} (h : Inf w g P D z vr F vs) : w.there g 1 32 := fun j hj => ⟨by rw [h.dig j hj]; rfl, h.free (1 + j) (by omega)⟩
theorem Inf.setDig {w : World} {g : Nat} {P : ByteArray} {D : Nat → Int} {z : Int} {vr : Value} {F : ByteArray} {vs : Value} (h : Inf w g P D z vr F vs) (E : Nat → Int) : Inf (w.setCells g 1 (cs .u8 32 E).toList) g P E z vr F vs := by
  have hl : (cs .u8 32 E).toList.length = 32 := by rw [Array.length_toList, cs_size]
  have o : ∀ j, (j < 1 ∨ 33 ≤ j) → (w.setCells g 1 (cs .u8 32 E).toList).cell? ⟨g, j, none⟩ = w.cell? ⟨g, j, none⟩ := fun j hj => World.cell?_setCells_out g _ 1 w _ (fun _ _ => by rw [hl]; rcases hj with q | q; exact Or.inl q; exact Or.inr (by show 1 + 32 ≤ j; omega))
  refine ⟨(o _ (by omega)).trans h.path, fun j hj => ?_, (o _ (by omega)).trans h.size, (o _ (by omega)).trans h.refs, (o _ (by omega)).trans h.from_, (o _ (by omega)).trans h.signs, fun j hj => by rw [World.frozen?_setCells]; exact h.free j hj⟩
  have := World.cell?_setCells_in g (cs .u8 32 E).toList 1 w (fun i hi => by rw [hl] at hi; rw [h.dig i hi]; rfl) j (by rw [hl]; exact hj)
  rw [this]
  simp [cs]

set_option maxRecDepth 100000 in
set_option maxHeartbeats 1000000 in
theorem tl0_any (g : Nat) (l : ByteArray) (w : World) {P : ByteArray} {D : Nat → Int} {z : Int} {vr : Value} {F : ByteArray} {vs : Value} (h : Inf w g P D z vr F vs) :
    Calls Tryz.prog 24 #[.pointer (some ⟨g, 0, none⟩), .int .i64 0, .string l] w fun e w' => e = .returned (.int .i64 (rpC l hdP)) ∧ Inf w' g (rpS l hdP) D z vr F vs ∧ Below g w w' := by
  have C0 := rdP_any l hdP w
  generalize rpC l hdP = c at C0 ⊢
  generalize rpS l hdP = s at C0 ⊢
  go_enter Tryz.func24, Tryz.ntmps24
  rw [show (⟨#[80, 97, 116, 104, 58, 32]⟩ : ByteArray) = hdP from rfl]
  go_wp2_with fail
  refine C0.mono ?_
  rintro e w1 ⟨rfl, b1⟩
  have I1 := h.below b1 h.lt
  have c0 := I1.path
  have f0 := I1.free 0 (by omega)
  have I2 : Hid (Inf (w1.setCell ⟨g, 0, none⟩ (.string s)) g s D z vr F vs) := I1.setPath s
  have B2 : Hid (Below g w (w1.setCell ⟨g, 0, none⟩ (.string s))) := (b1.mono (Nat.le_of_lt h.lt)).setCell (Nat.le_refl _) _
  clear b1 C0 I1
  go_wp2
  try rw [Exit.noGoto_ret]
  go_ret
  exact ⟨rfl, I2.out, B2.out⟩

set_option maxRecDepth 100000 in
set_option maxHeartbeats 1000000 in
theorem tl1_any (g : Nat) (l : ByteArray) (w : World) (hl : l.size ≤ 281474976710656) {P : ByteArray} {D : Nat → Int} {z : Int} {vr : Value} {F : ByteArray} {vs : Value} (h : Inf w g P D z vr F vs) :
    Calls Tryz.prog 24 #[.pointer (some ⟨g, 0, none⟩), .int .i64 1, .string l] w fun e w' => e = .returned (.int .i64 (rhC l)) ∧ Inf w' g P (rhD l) z vr F vs ∧ Below g w w' := by
  have C0 := rdH_any l w hl
  generalize rhC l = c at C0 ⊢
  generalize rhD l = E at C0 ⊢
  go_enter Tryz.func24, Tryz.ntmps24
  go_wp2_with fail
  refine C0.mono ?_
  rintro e w1 ⟨rfl, b1⟩
  have I1 := h.below b1 h.lt
  have I2 : Hid (Inf (w1.setCells g 1 (cs .u8 32 E).toList) g P E z vr F vs) := I1.setDig E
  have B2 : Hid (Below g w (w1.setCells g 1 (cs .u8 32 E).toList)) := setCells_below g (Nat.le_refl _) _ _ _ _ (b1.mono (Nat.le_of_lt h.lt))
  have HT : Hid (w1.there g 1 32) := I1.there
  have c0 := I1.path
  clear b1 C0 I1
  go_wp2_with (refine wpList_store_mid (by rfl) 23 (.tmp 33) (.tmp 30) (by rfl) g 1 (cs .u8 32 E) (by rfl) (by rfl) (by rw [cs_size]; exact HT.out) (by rw [cs_size]; exact szD32) (cs_all _ _ _) ?_; refine Hid.out ?_)
  unfold Hid
  generalize w1.setCells g 1 (cs .u8 32 E).toList = w2 at I2 B2 ⊢
  go_wp2
  try rw [Exit.noGoto_ret]
  go_ret
  exact ⟨rfl, I2.out, B2.out⟩

set_option maxRecDepth 100000 in
set_option maxHeartbeats 1000000 in
theorem tl2_any (g : Nat) (l : ByteArray) (w : World) (hl : l.size ≤ 281474976710656) {P : ByteArray} {D : Nat → Int} {z : Int} {vr : Value} {F : ByteArray} {vs : Value} (h : Inf w g P D z vr F vs) :
    Calls Tryz.prog 24 #[.pointer (some ⟨g, 0, none⟩), .int .i64 2, .string l] w fun e w' => e = .returned (.int .i64 (rzC l)) ∧ Inf w' g P D (rzV l) vr F vs ∧ Below g w w' := by
  have C0 := rdZ_any l w hl
  generalize rzC l = c at C0 ⊢
  generalize rzV l = q at C0 ⊢
  go_enter Tryz.func24, Tryz.ntmps24
  go_wp2_with fail
  refine C0.mono ?_
  rintro e w1 ⟨rfl, rfl⟩
  have c0 := h.size
  have f0 := h.free 33 (by omega)
  have I2 : Hid (Inf (w1.setCell ⟨g, 33, none⟩ (.int .i64 q)) g P D q vr F vs) := h.setSize q
  have B2 : Hid (Below g w1 (w1.setCell ⟨g, 33, none⟩ (.int .i64 q))) := (Below.refl g w1).setCell (p := ⟨g, 33, none⟩) (Nat.le_refl _) _
  clear C0
  go_wp2
  try rw [Exit.noGoto_ret]
  go_ret
  exact ⟨rfl, I2.out, B2.out⟩

set_option maxRecDepth 100000 in
set_option maxHeartbeats 1000000 in
theorem rdR_empty (w : World) :
    Calls Tryz.prog 42 #[.string hdR] w fun e w' => e = .returned (.tuple #[.slice none 0 0, .int .i64 0]) ∧ w' = w := by
  have C0 := cutQ_any hdR hdR w
  rw [show cpQ hdR hdR = ⟨#[]⟩ from by decide +kernel, show hpQ hdR hdR = true from by decide +kernel] at C0
  go_enter Tryz.func42, Tryz.ntmps42
  rw [show (⟨#[82, 101, 102, 115, 58]⟩ : ByteArray) = hdR from rfl]
  go_wp2_with fail
  refine C0.mono ?_
  rintro e w1 ⟨rfl, rfl⟩
  go_wp2
  go_ret2
  exact ⟨rfl, rfl⟩

set_option maxRecDepth 100000 in
set_option maxHeartbeats 1000000 in
theorem tl3_empty (g : Nat) (w : World) {P : ByteArray} {D : Nat → Int} {z : Int} {vr : Value} {F : ByteArray} {vs : Value} (h : Inf w g P D z vr F vs) :
    Calls Tryz.prog 24 #[.pointer (some ⟨g, 0, none⟩), .int .i64 3, .string hdR] w fun e w' => e = .returned (.int .i64 0) ∧ Inf w' g P D z (.slice none 0 0) F vs ∧ Below g w w' := by
  have C0 := rdR_empty w
  have c0 := h.refs
  have f0 := h.free 34 (by omega)
  have I2 : Hid (Inf (w.setCell ⟨g, 34, none⟩ (.slice none 0 0)) g P D z (.slice none 0 0) F vs) := h.setRefs (.slice none 0 0)
  have B2 : Hid (Below g w (w.setCell ⟨g, 34, none⟩ (.slice none 0 0))) := (Below.refl g w).setCell (p := ⟨g, 34, none⟩) (Nat.le_refl _) _
  go_enter Tryz.func24, Tryz.ntmps24
  go_wp2_with fail
  refine C0.mono ?_
  rintro e w1 ⟨rfl, rfl⟩
  clear C0
  go_wp2
  try rw [Exit.noGoto_ret]
  go_ret
  exact ⟨rfl, I2.out, B2.out⟩

end Go.Proofs.YtgnlkggodchlbaaGreatDoor
/- info.Parse at the text that the laws read first; walked. -/
namespace Go.Proofs.YtgnlkggodchlbaaGreatDoor
open Go.RowKit Go.Shelf

def fsP : ByteArray := ⟨#[47, 100, 101, 112, 111, 116, 47, 115, 116, 111, 114, 101, 47, 48, 49, 50, 51, 52, 53, 54, 55, 56, 57, 97, 98, 99, 100, 102, 103, 104, 105, 106, 107, 108, 109, 110, 112, 113, 114, 115, 118, 119, 120, 121, 122, 45, 97]⟩
def lnT : ByteArray := ⟨((List.append ([80, 97, 116, 104, 58, 32, 47, 100, 101, 112, 111, 116, 47, 115, 116, 111, 114, 101, 47, 48, 49, 50, 51, 52, 53, 54, 55, 56, 57, 97, 98, 99, 100] : List UInt8) [102, 103, 104, 105, 106, 107, 108, 109, 110, 112, 113, 114, 115, 118, 119, 120, 121, 122, 45, 97, 10, 72, 97, 115, 104, 58, 32, 115, 104, 97, 50, 53, 54, 58]).append (List.append ([48, 48, 48, 48, 48, 48, 48, 48, 48, 48, 48, 48, 48, 48, 48, 48, 48, 48, 48, 48, 48, 48, 48, 48, 48, 48, 48, 48, 48, 48, 48, 48, 48, 48] : List UInt8) [48, 48, 48, 48, 48, 48, 48, 48, 48, 48, 48, 48, 48, 48, 48, 48, 48, 48, 10, 83, 105, 122, 101, 58, 32, 57, 54, 10, 82, 101, 102, 115, 58, 10])).toArray⟩
def ln0 : ByteArray := hdP ++ fsP
def ln1 : ByteArray := hdH ++ ⟨#[48, 48, 48, 48, 48, 48, 48, 48, 48, 48, 48, 48, 48, 48, 48, 48, 48, 48, 48, 48, 48, 48, 48, 48, 48, 48, 48, 48, 48, 48, 48, 48, 48, 48, 48, 48, 48, 48, 48, 48, 48, 48, 48, 48, 48, 48, 48, 48, 48, 48, 48, 48]⟩
def ln2 : ByteArray := hdZ ++ ⟨#[57, 54]⟩
/-- What is left behind k lines. -/
def lnR : Nat → ByteArray
  | 0 => lnT
  | 1 => ⟨#[72, 97, 115, 104, 58, 32, 115, 104, 97, 50, 53, 54, 58, 48, 48, 48, 48, 48, 48, 48, 48, 48, 48, 48, 48, 48, 48, 48, 48, 48, 48, 48, 48, 48, 48, 48, 48, 48, 48, 48, 48, 48, 48, 48, 48, 48, 48, 48, 48, 48, 48, 48, 48, 48, 48, 48, 48, 48, 48, 48, 48, 48, 48, 48, 48, 10, 83, 105, 122, 101, 58, 32, 57, 54, 10, 82, 101, 102, 115, 58, 10]⟩
  | 2 => ⟨#[83, 105, 122, 101, 58, 32, 57, 54, 10, 82, 101, 102, 115, 58, 10]⟩
  | 3 => ⟨#[82, 101, 102, 115, 58, 10]⟩
  | _ => emp
def lnL : Nat → ByteArray
  | 0 => ln0
  | 1 => ln1
  | 2 => ln2
  | _ => hdR
theorem ln_cut : ∀ k, k < 4 → ctA (lnR k) 10 = lnL k ∧ ctB (lnR k) 10 = lnR (k + 1) ∧ ctF (lnR k) 10 = true := by decide +kernel
theorem ln_size : ∀ k, k < 5 → (lnR k).size ≤ 140737488351232 := by decide +kernel
theorem ln_P : rpC ln0 hdP = 0 ∧ rpS ln0 hdP = fsP := by decide +kernel
theorem ln_H : rhC ln1 = 0 := by decide +kernel
theorem ln_Z : rzC ln2 = 0 ∧ rzV ln2 = 96 := by decide +kernel
theorem nl_bt : bt nl 0 = 10 := by decide +kernel
theorem inf_zero : (#[.string ⟨#[]⟩, .int .u8 0, .int .u8 0, .int .u8 0, .int .u8 0, .int .u8 0, .int .u8 0, .int .u8 0, .int .u8 0, .int .u8 0, .int .u8 0, .int .u8 0, .int .u8 0, .int .u8 0, .int .u8 0, .int .u8 0, .int .u8 0, .int .u8 0, .int .u8 0, .int .u8 0, .int .u8 0, .int .u8 0, .int .u8 0, .int .u8 0, .int .u8 0, .int .u8 0, .int .u8 0, .int .u8 0, .int .u8 0, .int .u8 0, .int .u8 0, .int .u8 0, .int .u8 0, .int .i64 0, .slice none 0 0, .string ⟨#[]⟩, .slice none 0 0] : Array Value) = infC ⟨#[]⟩ (fun _ => 0) 0 (.slice none 0 0) ⟨#[]⟩ (.slice none 0 0) := by rfl
theorem inf_one (P : ByteArray) (D : Nat → Int) (z : Int) (vr : Value) (F : ByteArray) (vs : Value) (h1 : vr.oneCell' = true) (h2 : vs.oneCell' = true) : (infC P D z vr F vs).all (·.oneCell') = true := by
  apply all_oneCell_toArray
  intro v hv
  unfold infL at hv
  simp only [List.mem_cons, List.mem_append, List.mem_map, List.mem_nil_iff, or_false] at hv
  rcases hv with rfl | ⟨_, _, rfl⟩ | rfl | rfl | rfl | rfl
  · rfl
  · rfl
  · rfl
  · exact h1
  · rfl
  · exact h2
theorem Inf.there37 {w : World} {g : Nat} {P : ByteArray} {D : Nat → Int} {z : Int} {vr : Value} {F : ByteArray} {vs : Value} (h : Inf w g P D z vr F vs) : w.there g 0 37 := fun j hj => by
  rw [Nat.zero_add]
  refine ⟨?_, h.free j hj⟩
  by_cases h0 : j = 0
  · subst h0; rw [h.path]; rfl
  · by_cases h1 : j < 33
    · obtain ⟨i, rfl⟩ : ∃ i, j = 1 + i := ⟨j - 1, by omega⟩
      rw [h.dig i (by omega)]; rfl
    · rcases (show j = 33 ∨ j = 34 ∨ j = 35 ∨ j = 36 from by omega) with rfl | rfl | rfl | rfl
      · rw [h.size]; rfl
      · rw [h.refs]; rfl
      · rw [h.from_]; rfl
      · rw [h.signs]; rfl
/-- The whole info stored. -/
theorem wpList_store_inf {ops : Array Oper} {rest : List Oper} {o : Oper} {a : Act} {w : World} {Q : Exit → Act → World → Prop} {g : Nat} {P P' : ByteArray} {D D' : Nat → Int} {z z' : Int} {vr vr' : Value} {F F' : ByteArray} {vs vs' : Value} (hgd : o.guard = none) (x y : Operand) (ho : o.op = .store 26 x y)
    (hx : a.eval x = .pointer (some ⟨g, 0, none⟩)) (hy : a.eval y = .agg (infC P' D' z' vr' F' vs')) (h : Inf w g P D z vr F vs) (h1 : vr'.oneCell' = true) (h2 : vs'.oneCell' = true) (hdst : o.dst = none)
    (hK : ∀ W, W.rangeAt g 0 (infL P' D' z' vr' F' vs') → Upd w W g → wpList Tryz.prog ops Q rest a W) : wpList Tryz.prog ops Q (o :: rest) a w := by
  refine wpList_store_mid hgd 26 x y ho g 0 (infC P' D' z' vr' F' vs') hx hy (by rw [infC_size]; exact h.there37) (by rw [infC_size]; exact szINF) (inf_one _ _ _ _ _ _ h1 h2) ?_
  rw [hdst]
  obtain ⟨s1, s2, s3, s4, s5⟩ := setCells_only g (infL P' D' z' vr' F' vs') 0 w
  exact hK _ (World.rangeAt_setCells_same w g 0 (infL P' D' z' vr' F' vs') (by rw [infL_len]; exact h.there37)) ⟨s3, s4, s5, s1, fun i _ hne => s2 i hne⟩
theorem szFLT : (Tryz.prog.info? 38).map (·.size) = some 2 := by kernel_rfl
theorem results_cc {P' : ByteArray} {D' : Nat → Int} {z' : Int} {vr' : Value} {F' : ByteArray} {vs' : Value} {fn : Func} {p q : Tmp} (hr : fn.results = #[.cell p 26, .cell q 38]) (tmps : Array Value) (w : World) (g f : Nat) (a b : Int)
    (hp : tmps.getD p undef = .pointer (some ⟨g, 0, none⟩)) (hq : tmps.getD q undef = .pointer (some ⟨f, 0, none⟩)) (h1 : w.rangeAt g 0 (infL P' D' z' vr' F' vs')) (h2 : w.cell? ⟨f, 0, none⟩ = some (.int .i64 a)) (h3 : w.cell? ⟨f, 1, none⟩ = some (.int .i64 b)) :
    (results fn tmps).run Tryz.prog w = .ok (.tuple #[.agg (infC P' D' z' vr' F' vs'), .agg #[.int .i64 a, .int .i64 b]]) w := by
  have l1 := run_loadVar_mid (P := Tryz.prog) w g 0 26 (infL P' D' z' vr' F' vs') _ h1 Tryz.underlying26 rfl (by rw [szINF]; exact congrArg some (infL_len P' D' z' vr' F' vs').symm)
  have l2 := run_loadVar_mid (P := Tryz.prog) w f 0 38 [.int .i64 a, .int .i64 b] _ (fun j v hj => by
    match j, hj with
    | 0, hj => simp at hj; subst hj; exact h2
    | 1, hj => simp at hj; subst hj; exact h3) Tryz.underlying38 rfl szFLT
  have hp' : tmps[p]?.getD undef = .pointer (some ⟨g, 0, none⟩) := by simpa using hp
  have hq' : tmps[q]?.getD undef = .pointer (some ⟨f, 0, none⟩) := by simpa using hq
  simp [results, hr, hp', hq', asAddr, l1, l2]
  rfl

theorem range_set {w : World} {g : Nat} {L : List Value} (h : w.rangeAt g 0 L) (b i : Nat) (v : Value) (hne : g ≠ b) : (w.setCell ⟨b, i, none⟩ v).rangeAt g 0 L := fun j u hj =>
  (World.cell?_setCell_other _ _ _ _ (fun c => hne (by injection c with c1 _ _; exact c1.symm))).trans (h j u hj)
/-- The info behind k lines. -/
def lnP (k : Nat) : ByteArray := if k = 0 then ⟨#[]⟩ else fsP
def lnD (k : Nat) : Nat → Int := if k ≤ 1 then fun _ => 0 else rhD ln1
def lnZ (k : Nat) : Int := if k ≤ 2 then 0 else 96

set_option maxRecDepth 100000 in
set_option maxHeartbeats 4000000 in
theorem parse_ln (w : World) :
    Calls Tryz.prog 10 #[.string lnT] w fun e w' => e = .returned (.tuple #[.agg (infC fsP (rhD ln1) 96 (.slice none 0 0) ⟨#[]⟩ (.slice none 0 0)), .agg #[.int .i64 0, .int .i64 0]]) ∧ Below w.heap.size w w' := by
  have CT := fun k (hk : k < 4) W => cut_any (lnR k) nl 10 W rfl nl_bt (ln_size k (by omega))
  go_enter Tryz.func10, Tryz.ntmps10
  rw [show (⟨#[10]⟩ : ByteArray) = nl from rfl]
  go_wp2
  rw [inf_zero]
  have J0 : Hid (Inf (((w.alloc (.cells (infC ⟨#[]⟩ (fun _ => 0) 0 (.slice none 0 0) ⟨#[]⟩ (.slice none 0 0)) 26)).alloc (.cells #[.int .i64 0, .int .i64 0] 38)).alloc (.cells (infC ⟨#[]⟩ (fun _ => 0) 0 (.slice none 0 0) ⟨#[]⟩ (.slice none 0 0)) 26)) w.heap.size ⟨#[]⟩ (fun _ => 0) 0 (.slice none 0 0) ⟨#[]⟩ (.slice none 0 0)) :=
    ((Inf.box w 26 _ _ _ _ _ _).same (Below.heap_alloc _ _ _ (by rw [World.size_alloc]; omega))).same (Below.heap_alloc _ _ _ (by rw [World.size_alloc, World.size_alloc]; omega))
  have F0 : Hid (Row .i64 (((w.alloc (.cells (infC ⟨#[]⟩ (fun _ => 0) 0 (.slice none 0 0) ⟨#[]⟩ (.slice none 0 0)) 26)).alloc (.cells #[.int .i64 0, .int .i64 0] 38)).alloc (.cells (infC ⟨#[]⟩ (fun _ => 0) 0 (.slice none 0 0) ⟨#[]⟩ (.slice none 0 0)) 26)) (w.heap.size + 1) 2 (fun _ => 0)) := by
    have := Row.arr (k := .i64) (w := w.alloc (.cells (infC ⟨#[]⟩ (fun _ => 0) 0 (.slice none 0 0) ⟨#[]⟩ (.slice none 0 0)) 26)) (e := 38) (C := #[.int .i64 0, .int .i64 0]) (n := 2) (f := fun _ => 0) (fun j hj => by rcases (show j = 0 ∨ j = 1 from by omega) with rfl | rfl <;> rfl)
    rw [World.size_alloc] at this
    exact this.alloc (by rw [World.size_alloc, World.size_alloc]; omega) _
  have I0 : Hid (Inf (((w.alloc (.cells (infC ⟨#[]⟩ (fun _ => 0) 0 (.slice none 0 0) ⟨#[]⟩ (.slice none 0 0)) 26)).alloc (.cells #[.int .i64 0, .int .i64 0] 38)).alloc (.cells (infC ⟨#[]⟩ (fun _ => 0) 0 (.slice none 0 0) ⟨#[]⟩ (.slice none 0 0)) 26)) (w.heap.size + 2) (lnP 0) (lnD 0) (lnZ 0) (.slice none 0 0) ⟨#[]⟩ (.slice none 0 0)) := by
    have := Inf.box ((w.alloc (.cells (infC ⟨#[]⟩ (fun _ => 0) 0 (.slice none 0 0) ⟨#[]⟩ (.slice none 0 0)) 26)).alloc (.cells #[.int .i64 0, .int .i64 0] 38)) 26 ⟨#[]⟩ (fun _ => 0) 0 (.slice none 0 0) ⟨#[]⟩ (.slice none 0 0)
    rw [World.size_alloc, World.size_alloc] at this
    exact this
  have B0 : Hid (Below w.heap.size w (((w.alloc (.cells (infC ⟨#[]⟩ (fun _ => 0) 0 (.slice none 0 0) ⟨#[]⟩ (.slice none 0 0)) 26)).alloc (.cells #[.int .i64 0, .int .i64 0] 38)).alloc (.cells (infC ⟨#[]⟩ (fun _ => 0) 0 (.slice none 0 0) ⟨#[]⟩ (.slice none 0 0)) 26))) :=
    (((Below.refl _ _).alloc (Nat.le_refl _) _).alloc (by rw [World.size_alloc]; omega) _).alloc (by rw [World.size_alloc, World.size_alloc]; omega) _
  generalize ((w.alloc (.cells (infC ⟨#[]⟩ (fun _ => 0) 0 (.slice none 0 0) ⟨#[]⟩ (.slice none 0 0)) 26)).alloc (.cells #[.int .i64 0, .int .i64 0] 38)).alloc (.cells (infC ⟨#[]⟩ (fun _ => 0) 0 (.slice none 0 0) ⟨#[]⟩ (.slice none 0 0)) 26) = w0 at J0 F0 I0 B0 ⊢
  go_loopw [0, 5] (fun tx xi wr => ∃ k : Nat, k ≤ 4 ∧ xi = .int .i64 (k : Int) ∧ tx = .string (lnR k) ∧ Hid (Inf wr (w.heap.size + 2) (lnP k) (lnD k) (lnZ k) (.slice none 0 0) ⟨#[]⟩ (.slice none 0 0)) ∧ Hid (Inf wr w.heap.size ⟨#[]⟩ (fun _ => 0) 0 (.slice none 0 0) ⟨#[]⟩ (.slice none 0 0)) ∧ Hid (Row .i64 wr (w.heap.size + 1) 2 (fun _ => 0)) ∧ Hid (Below w.heap.size w wr)) (fun _ i _ => 4 - (intOf i).toNat)
  case atStart => exact ⟨0, by omega, rfl, rfl, I0, J0, F0, B0⟩
  case round =>
  clear I0 J0 F0 B0
  obtain ⟨k, hk, rfl, rfl, IR, JR, FR, BR⟩ := hrel
  rcases (show k = 0 ∨ k = 1 ∨ k = 2 ∨ k = 3 ∨ k = 4 from by omega) with rfl | rfl | rfl | rfl | rfl
  · -- line 0
    obtain ⟨q1, q2, q3⟩ := ln_cut 0 (by omega)
    have CC := CT 0 (by omega) wr
    rw [q1, q2, q3] at CC
    clear q1 q2 q3
    go_wp2_with fail
    refine CC.mono ?_
    clear CC
    rintro e w4 ⟨rfl, b4⟩
    have I4 : Inf w4 (w.heap.size + 2) (lnP 0) (lnD 0) (lnZ 0) (.slice none 0 0) ⟨#[]⟩ (.slice none 0 0) := IR.out.below b4 IR.out.lt
    have J4 : Inf w4 w.heap.size ⟨#[]⟩ (fun _ => 0) 0 (.slice none 0 0) ⟨#[]⟩ (.slice none 0 0) := JR.out.below b4 JR.out.lt
    have F4 : Row .i64 w4 (w.heap.size + 1) 2 (fun _ => 0) := FR.out.below b4 (by have := IR.out.lt; omega)
    have B4 : Below w.heap.size w w4 := BR.out.trans (b4.mono BR.out.size)
    clear b4
    have CL := tl0_any (w.heap.size + 2) ln0 w4 I4
    rw [ln_P.1, ln_P.2] at CL
    go_wp2_with fail
    refine CL.mono ?_
    clear CL
    rintro e w5 ⟨rfl, I5, b5⟩
    have I5' : Hid (Inf w5 (w.heap.size + 2) (lnP 1) (lnD 1) (lnZ 1) (.slice none 0 0) ⟨#[]⟩ (.slice none 0 0)) := I5
    have J5 : Hid (Inf w5 w.heap.size ⟨#[]⟩ (fun _ => 0) 0 (.slice none 0 0) ⟨#[]⟩ (.slice none 0 0)) := J4.below b5 (by omega)
    have F5 : Hid (Row .i64 w5 (w.heap.size + 1) 2 (fun _ => 0)) := F4.below b5 (by omega)
    have B5 : Hid (Below w.heap.size w w5) := B4.trans (b5.mono (by omega))
    clear I5 J4 F4 B4 b5 I4 IR JR FR BR
    go_wp2
    go_roundw
    case rel => exact ⟨1, by omega, by go_num, rfl, I5', J5, F5, B5⟩
    case measure => simp [intOf]
  · -- line 1
    obtain ⟨q1, q2, q3⟩ := ln_cut 1 (by omega)
    have CC := CT 1 (by omega) wr
    rw [q1, q2, q3] at CC
    clear q1 q2 q3
    go_wp2_with fail
    refine CC.mono ?_
    clear CC
    rintro e w4 ⟨rfl, b4⟩
    have I4 : Inf w4 (w.heap.size + 2) (lnP 1) (lnD 1) (lnZ 1) (.slice none 0 0) ⟨#[]⟩ (.slice none 0 0) := IR.out.below b4 IR.out.lt
    have J4 : Inf w4 w.heap.size ⟨#[]⟩ (fun _ => 0) 0 (.slice none 0 0) ⟨#[]⟩ (.slice none 0 0) := JR.out.below b4 JR.out.lt
    have F4 : Row .i64 w4 (w.heap.size + 1) 2 (fun _ => 0) := FR.out.below b4 (by have := IR.out.lt; omega)
    have B4 : Below w.heap.size w w4 := BR.out.trans (b4.mono BR.out.size)
    clear b4
    have CL := tl1_any (w.heap.size + 2) ln1 w4 (by decide +kernel) I4
    rw [ln_H] at CL
    go_wp2_with fail
    refine CL.mono ?_
    clear CL
    rintro e w5 ⟨rfl, I5, b5⟩
    have I5' : Hid (Inf w5 (w.heap.size + 2) (lnP 2) (lnD 2) (lnZ 2) (.slice none 0 0) ⟨#[]⟩ (.slice none 0 0)) := I5
    have J5 : Hid (Inf w5 w.heap.size ⟨#[]⟩ (fun _ => 0) 0 (.slice none 0 0) ⟨#[]⟩ (.slice none 0 0)) := J4.below b5 (by omega)
    have F5 : Hid (Row .i64 w5 (w.heap.size + 1) 2 (fun _ => 0)) := F4.below b5 (by omega)
    have B5 : Hid (Below w.heap.size w w5) := B4.trans (b5.mono (by omega))
    clear I5 J4 F4 B4 b5 I4 IR JR FR BR
    go_wp2
    go_roundw
    case rel => exact ⟨2, by omega, by go_num, rfl, I5', J5, F5, B5⟩
    case measure => simp [intOf]
  · -- line 2
    obtain ⟨q1, q2, q3⟩ := ln_cut 2 (by omega)
    have CC := CT 2 (by omega) wr
    rw [q1, q2, q3] at CC
    clear q1 q2 q3
    go_wp2_with fail
    refine CC.mono ?_
    clear CC
    rintro e w4 ⟨rfl, b4⟩
    have I4 : Inf w4 (w.heap.size + 2) (lnP 2) (lnD 2) (lnZ 2) (.slice none 0 0) ⟨#[]⟩ (.slice none 0 0) := IR.out.below b4 IR.out.lt
    have J4 : Inf w4 w.heap.size ⟨#[]⟩ (fun _ => 0) 0 (.slice none 0 0) ⟨#[]⟩ (.slice none 0 0) := JR.out.below b4 JR.out.lt
    have F4 : Row .i64 w4 (w.heap.size + 1) 2 (fun _ => 0) := FR.out.below b4 (by have := IR.out.lt; omega)
    have B4 : Below w.heap.size w w4 := BR.out.trans (b4.mono BR.out.size)
    clear b4
    have CL := tl2_any (w.heap.size + 2) ln2 w4 (by decide +kernel) I4
    rw [ln_Z.1, ln_Z.2] at CL
    go_wp2_with fail
    refine CL.mono ?_
    clear CL
    rintro e w5 ⟨rfl, I5, b5⟩
    have I5' : Hid (Inf w5 (w.heap.size + 2) (lnP 3) (lnD 3) (lnZ 3) (.slice none 0 0) ⟨#[]⟩ (.slice none 0 0)) := I5
    have J5 : Hid (Inf w5 w.heap.size ⟨#[]⟩ (fun _ => 0) 0 (.slice none 0 0) ⟨#[]⟩ (.slice none 0 0)) := J4.below b5 (by omega)
    have F5 : Hid (Row .i64 w5 (w.heap.size + 1) 2 (fun _ => 0)) := F4.below b5 (by omega)
    have B5 : Hid (Below w.heap.size w w5) := B4.trans (b5.mono (by omega))
    clear I5 J4 F4 B4 b5 I4 IR JR FR BR
    go_wp2
    go_roundw
    case rel => exact ⟨3, by omega, by go_num, rfl, I5', J5, F5, B5⟩
    case measure => simp [intOf]
  · -- line 3
    obtain ⟨q1, q2, q3⟩ := ln_cut 3 (by omega)
    have CC := CT 3 (by omega) wr
    rw [q1, q2, q3] at CC
    clear q1 q2 q3
    go_wp2_with fail
    refine CC.mono ?_
    clear CC
    rintro e w4 ⟨rfl, b4⟩
    have I4 : Inf w4 (w.heap.size + 2) (lnP 3) (lnD 3) (lnZ 3) (.slice none 0 0) ⟨#[]⟩ (.slice none 0 0) := IR.out.below b4 IR.out.lt
    have J4 : Inf w4 w.heap.size ⟨#[]⟩ (fun _ => 0) 0 (.slice none 0 0) ⟨#[]⟩ (.slice none 0 0) := JR.out.below b4 JR.out.lt
    have F4 : Row .i64 w4 (w.heap.size + 1) 2 (fun _ => 0) := FR.out.below b4 (by have := IR.out.lt; omega)
    have B4 : Below w.heap.size w w4 := BR.out.trans (b4.mono BR.out.size)
    clear b4
    have CL := tl3_empty (w.heap.size + 2) w4 I4
    skip
    go_wp2_with fail
    refine CL.mono ?_
    clear CL
    rintro e w5 ⟨rfl, I5, b5⟩
    have I5' : Hid (Inf w5 (w.heap.size + 2) (lnP 4) (lnD 4) (lnZ 4) (.slice none 0 0) ⟨#[]⟩ (.slice none 0 0)) := I5
    have J5 : Hid (Inf w5 w.heap.size ⟨#[]⟩ (fun _ => 0) 0 (.slice none 0 0) ⟨#[]⟩ (.slice none 0 0)) := J4.below b5 (by omega)
    have F5 : Hid (Row .i64 w5 (w.heap.size + 1) 2 (fun _ => 0)) := F4.below b5 (by omega)
    have B5 : Hid (Below w.heap.size w w5) := B4.trans (b5.mono (by omega))
    clear I5 J4 F4 B4 b5 I4 IR JR FR BR
    go_wp2
    go_roundw
    case rel => exact ⟨4, by omega, by go_num, rfl, I5', J5, F5, B5⟩
    case measure => simp [intOf]
  · clear CT
    have hz : Hid (w.heap.size + 2 < wr.heap.size) := IR.out.lt
    have eR : lnR 4 = ⟨#[]⟩ := rfl
    rw [eR]
    have IR' : Inf wr (w.heap.size + 2) fsP (rhD ln1) 96 (.slice none 0 0) ⟨#[]⟩ (.slice none 0 0) := IR.out
    have JR' := JR.out
    have c0 := FR.out.cell 0 (by omega)
    have c1 := FR.out.cell 1 (by omega)
    have f0 := FR.out.free 0 (by omega)
    have f1 := FR.out.free 1 (by omega)
    clear IR JR
    go_wp2_with (first
      | (refine wpList_load_inf (by rfl) (.tmp 4) (by rfl) (by rfl) IR' ?_)
      | (refine wpList_store_inf (by rfl) (.tmp 2) (.tmp 39) (by rfl) (by rfl) (by rfl) JR' rfl rfl (by rfl) ?_; intro W5 R5 U5; refine Hid.out ?_))
    unfold Hid
    have F5 : Row .i64 W5 (w.heap.size + 1) 2 (fun _ => 0) := FR.out.upd U5 (by have := hz.out; omega) (by omega)
    have B5 : Hid (Below w.heap.size w W5) := U5.below BR.out (Nat.le_refl _) (by have := hz.out; omega)
    have d0 := F5.cell 0 (by omega)
    have d1 := F5.cell 1 (by omega)
    have g0 := F5.free 0 (by omega)
    have g1 := F5.free 1 (by omega)
    clear c0 c1 f0 f1 FR BR
    go_wp2
    refine bodyPost_ret (results_cc Tryz.results10 _ _ w.heap.size (w.heap.size + 1) 0 0 rfl rfl (range_set (range_set R5 _ _ _ (by omega)) _ _ _ (by omega)) ?_ ?_) rfl ⟨rfl, (B5.out.setCell (by show _ ≤ w.heap.size + 1; omega) _).setCell (by show _ ≤ w.heap.size + 1; omega) _⟩
    · exact ((F5.set 0 0 (by omega)).set 1 0 (by omega)).cell 0 (by omega)
    · exact ((F5.set 0 0 (by omega)).set 1 0 (by omega)).cell 1 (by omega)

end Go.Proofs.YtgnlkggodchlbaaGreatDoor
