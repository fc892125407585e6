/- Gathered: InJ InK InL InM InY InZ IoA IoB IoC. -/
import Derived.Lib.AppendIntMem
import Derived.Deep.OwnRows
import Derived.Test.YtgnlkggodchlbabDoorQe
import Derived.Test.YtgnlkggodchlbabDoorQh
/- info.Print; walked. -/
namespace Go.Proofs.YtgnlkggodchlbabDoor
open Go.RowKit Go.Shelf

/-- The library's table of powers lies in memory. -/
def PT (w : World) : Prop := Lib.TabIs Tryd.prog w "internal/strconv.uint64pow10" .u64 Lib.pow10Tab
theorem PT.below {w w' : World} (h : PT w) (b : Below w.heap.size w w') : PT w' := Lib.tabBelow_of_tabIs h w' b
theorem itoa_any (z : Int) (w : World) (h0 : 0 ≤ z) (h1 : z ≤ 1048576) (hT : PT w) :
    Calls Tryd.prog 14 #[.int .i64 z] w fun e w' => e = .returned (.string (itB z)) ∧ Below w.heap.size w w' :=
  (Tryd.strconv_Itoa z (by omega) (by omega) w hT).mono (by rintro e w' ⟨rfl, k, os, rfl⟩; exact ⟨rfl, Lib.below_grow _ w (Nat.le_refl _) k os⟩)

theorem ckC_parts {P : ByteArray} {z : Int} {fr : Nat → ByteArray} {nr : Nat} {F : ByteArray} {fs : Nat → ByteArray} {ns : Nat} (h : ckC P z fr nr F fs ns = 0) : prC P = 0 ∧ (0 ≤ z ∧ z ≤ 1048576) ∧ crf fr nr = 0 ∧ frC F = 0 ∧ ssC fs ns = 0 := by
  have k : ∀ a b : Int, orC a b = 0 → a = 0 ∧ b = 0 := fun a b e => by
    by_cases ha : a = 0
    · rw [orC_z ha] at e; exact ⟨ha, e⟩
    · rw [orC_n ha] at e; exact absurd e ha
  obtain ⟨h1, h2⟩ := k _ _ h
  obtain ⟨h3, h4⟩ := k _ _ h1
  obtain ⟨h5, h6⟩ := k _ _ h4
  obtain ⟨h7, h8⟩ := k _ _ h6
  refine ⟨h3, ?_, h7, h8, h2⟩
  by_cases q : 0 ≤ z ∧ z ≤ 1048576
  · exact q
  · rw [szC_no q] at h5; exact absurd h5 (by decide)
theorem crf_ok {fr : Nat → ByteArray} {nr : Nat} (h : crf fr nr = 0) : nr ≤ 1024 ∧ refsOk fr nr := by
  unfold crf at h
  split at h
  · exact absurd h (by decide)
  · split at h
    · rename_i a b; exact ⟨by omega, b⟩
    · exact absurd h (by decide)
theorem ssC_ok {fs : Nat → ByteArray} {ns : Nat} (h : ssC fs ns = 0) : ssOk fs ns := by
  unfold ssC at h
  split at h
  · rename_i a; exact a
  · exact absurd h (by decide)
theorem snC_ok {s : ByteArray} (h : snC s = 0) : snOk s := by
  unfold snC at h
  split at h
  · rename_i a; exact a
  · exact absurd h (by decide)
theorem pt1_size (P : ByteArray) : (pt1 P).size = P.size + 7 := by
  unfold pt1
  rw [app_size, app_size, app_size]
  show 0 + 6 + _ + 1 = _
  omega
theorem pt2_size (P : ByteArray) (D : Nat → Int) : (pt2 P D).size = P.size + 73 := by
  unfold pt2
  rw [app_size, app_size, app_size, b32_size, pt1_size]
  show _ + 13 + _ + 1 = _
  omega
theorem pt3_size (P : ByteArray) (D : Nat → Int) (z : Int) : (pt3 P D z).size = P.size + 80 + (itB z).size := by
  unfold pt3
  rw [app_size, app_size, app_size, pt2_size]
  show _ + 6 + _ + 1 = _
  omega
theorem pt4_size (P : ByteArray) (D : Nat → Int) (z : Int) (fr : Nat → ByteArray) (nr : Nat) : (pt4 P D z fr nr).size = P.size + 86 + (itB z).size + (bsS fr nr).size := by
  unfold pt4
  rw [app_size, app_size, app_size, pt3_size]
  show _ + 5 + _ + 1 = _
  omega
def prS (c : Int) (t : ByteArray) : ByteArray := if c = 0 then t else emp
theorem prS_z {c : Int} (h : c = 0) (t : ByteArray) : prS c t = t := if_pos h
theorem prS_n {c : Int} (h : c ≠ 0) (t : ByteArray) : prS c t = emp := if_neg h

set_option maxRecDepth 100000 in
set_option maxHeartbeats 4000000 in
theorem print_any (P : ByteArray) (D : Nat → Int) (z : Int) (F : ByteArray) (xr : Option Addr) (nr cr : Nat) (fr : Nat → ByteArray) (xs : Option Addr) (ns cs' : Nat) (fs : Nat → ByteArray) (w : World)
    (hr : SIs w xr nr fr) (hs : SIs w xs ns fs) (hnc : ns ≤ cs') (hns : ns ≤ 1073741824) (hsz : ∀ i, i < ns → (fs i).size ≤ 140737488351232) (hT : PT w) :
    Calls Tryd.prog 8 #[.agg (infC P D z (.slice xr nr cr) F (.slice xs ns cs'))] w fun e w' => e = .returned (.tuple #[.string (prS (ckC P z fr nr F fs ns) (prT P D z fr nr F fs ns)), .int .i64 (ckC P z fr nr F fs ns)]) ∧ Below w.heap.size w w' := by
  have I0 : Inf (w.alloc (.cells (infC P D z (.slice xr nr cr) F (.slice xs ns cs')) 26)) w.heap.size P D z (.slice xr nr cr) F (.slice xs ns cs') := Inf.box _ _ _ _ _ _ _ _
  have B0 : Below w.heap.size w (w.alloc (.cells (infC P D z (.slice xr nr cr) F (.slice xs ns cs')) 26)) := (Below.refl _ _).alloc (Nat.le_refl _) _
  have z0 : w.heap.size < (w.alloc (.cells (infC P D z (.slice xr nr cr) F (.slice xs ns cs')) 26)).heap.size := by rw [World.size_alloc]; omega
  have HR : Hid (SIs w xr nr fr) := hr
  have HS : Hid (SIs w xs ns fs) := hs
  have HZ : Hid (∀ i, i < ns → (fs i).size ≤ 140737488351232) := hsz
  have HT : Hid (PT w) := hT
  have CC := fun W (b : Below w.heap.size w W) => ick_any P D z F xr nr cr fr xs ns cs' fs W (hr.below b (Nat.le_refl _)) (hs.below b (Nat.le_refl _)) hnc (by omega) hsz
  clear hr hs hsz hT
  by_cases hc : ckC P z fr nr F fs ns = 0
  · obtain ⟨h1, ⟨h2, h2'⟩, h3, h4, h5⟩ := ckC_parts hc
    obtain ⟨h6, h7⟩ := crf_ok h3
    have HP : Hid (∀ i, i < nr → prC (fr i) = 0) := fun i hi => (h7 i hi).1
    have HG : Hid (∀ i, i < ns → (fs i).size ≤ 85) := fun i hi => snOk_max (snC_ok ((ssC_ok h5) i hi).1)
    have HF : Hid (frC F = 0) := h4
    have mP := prC_max h1
    have mI := itoa_le z h2 h2'
    have mB := bsS_size fr nr (fun i hi => prC_max (HP.out i hi))
    rw [hc, prS_z rfl]
    simp only [hc] at CC
    clear hc h1 h3 h4 h5 h7
    go_enter Tryd.func8, Tryd.ntmps8
    rw [show (⟨#[80, 97, 116, 104, 58, 32]⟩ : ByteArray) = hdP from rfl, show (⟨#[72, 97, 115, 104, 58, 32, 115, 104, 97, 50, 53, 54, 58]⟩ : ByteArray) = hdH from rfl, show (⟨#[83, 105, 122, 101, 58, 32]⟩ : ByteArray) = hdZ from rfl, show (⟨#[82, 101, 102, 115, 58]⟩ : ByteArray) = hdR from rfl, show (⟨#[70, 114, 111, 109, 58, 32]⟩ : ByteArray) = hdF from rfl, show (⟨#[83, 105, 103, 110, 58, 32]⟩ : ByteArray) = hdS from rfl]
    go_wp2_with (refine wpList_load_inf (by rfl) (.tmp 1) (by rfl) (by rfl) I0 ?_; refine Hid.out ?_)
    unfold Hid
    generalize w.alloc (.cells (infC P D z (.slice xr nr cr) F (.slice xs ns cs')) 26) = w0 at I0 B0 z0 ⊢
    go_wp2_with fail
    refine (CC w0 B0).mono ?_
    rintro e w1 ⟨rfl, b1⟩
    have I1 : Inf w1 w.heap.size P D z (.slice xr nr cr) F (.slice xs ns cs') := I0.below b1 z0
    have B1 : Hid (Below w.heap.size w w1) := B0.trans (b1.mono B0.size)
    have z1 : Hid (w.heap.size < w1.heap.size) := Nat.lt_of_lt_of_le z0 b1.size
    clear CC I0 B0 z0 b1
    have I2 : Inf (w1.alloc (.cells #[.pointer none, .slice none 0 0] 45)) w.heap.size P D z (.slice xr nr cr) F (.slice xs ns cs') := I1.same (Below.heap_alloc w1 _ _ z1.out)
    have D2 : Bd (w1.alloc (.cells #[.pointer none, .slice none 0 0] 45)) w1.heap.size emp := Bd.new w1
    have B2 : Below w.heap.size w (w1.alloc (.cells #[.pointer none, .slice none 0 0] 45)) := B1.out.alloc B1.out.size _
    have c0 := I2.path
    obtain ⟨b, hb⟩ : ∃ b, w1.heap.size = b := ⟨_, rfl⟩
    have hwb : Hid (w.heap.size < b) := by rw [← hb]; exact z1.out
    go_wp2_with fail
    generalize w1.alloc (.cells #[.pointer none, .slice none 0 0] 45) = w2 at I2 D2 B2 c0 ⊢
    rw [hb] at D2
    clear hb I1 B1 z1 c0
    -- @1
    have CL := line_any b emp hdP P w2 D2 (by show 0 + 6 + _ + 1 ≤ _; omega)
    refine CL.mono ?_
    clear CL
    rintro e w3 ⟨⟨ve3, rfl⟩, D3, b3⟩
    have I3 := I2.below b3 hwb.out
    have B3 : Hid (Below w.heap.size w w3) := B2.trans (b3.mono (Nat.le_of_lt hwb.out))
    change Bd w3 b (pt1 P) at D3
    clear b3 I2 B2 D2
    -- @2
    have hst : (convert 40 9 (.slice (some ⟨w.heap.size, 1, none⟩) 32 32)).run Tryd.prog w3 = .ok (.string (strFn 32 D)) w3 := run_convert_bytes_arg w3 40 5 Tryd.underlying40 Tryd.underlying5 w.heap.size 1 32 32 ((List.range 32).map D) (by simp) (fun i hi => by rw [I3.dig i hi]; simp [List.getD, hi]) 9 Tryd.underlying9
    have C32 := b32_any (strFn 32 D) w3 (by rw [strFn_size]; decide)
    go_wp2_with fail
    refine C32.mono ?_
    clear C32 hst
    rintro e w4 ⟨rfl, b4⟩
    have I4 := I3.below b4 I3.lt
    have D4 := D3.below b4 (Nat.le_refl _)
    have B4 : Hid (Below w.heap.size w w4) := B3.out.trans (b4.mono B3.out.size)
    clear b4 I3 D3 B3
    have CL := line_any b (pt1 P) hdH (b32Str (strFn 32 D)) w4 D4 (by rw [pt1_size, b32_size]; show _ + 13 + _ + 1 ≤ _; omega)
    go_wp2_with fail
    refine CL.mono ?_
    clear CL
    rintro e w5 ⟨⟨ve5, rfl⟩, D5, b5⟩
    have I5 := I4.below b5 hwb.out
    have B5 : Hid (Below w.heap.size w w5) := B4.out.trans (b5.mono (Nat.le_of_lt hwb.out))
    change Bd w5 b (pt2 P D) at D5
    clear b5 I4 B4 D4
    -- @3
    have c33 := I5.size
    have CI := itoa_any z w5 h2 h2' (HT.out.below B5.out)
    go_wp2_with fail
    refine CI.mono ?_
    clear CI c33
    rintro e w6 ⟨rfl, b6⟩
    have I6 := I5.below b6 I5.lt
    have D6 := D5.below b6 (Nat.le_refl _)
    have B6 : Hid (Below w.heap.size w w6) := B5.out.trans (b6.mono B5.out.size)
    clear b6 I5 D5 B5
    have CL := line_any b (pt2 P D) hdZ (itB z) w6 D6 (by rw [pt2_size]; show _ + 6 + _ + 1 ≤ _; omega)
    go_wp2_with fail
    refine CL.mono ?_
    clear CL
    rintro e w7 ⟨⟨ve7, rfl⟩, D7, b7⟩
    have I7 := I6.below b7 hwb.out
    have B7 : Hid (Below w.heap.size w w7) := B6.out.trans (b7.mono (Nat.le_of_lt hwb.out))
    change Bd w7 b (pt3 P D z) at D7
    clear b7 I6 B6 D6
    -- @4
    have c34 := I7.refs
    have CB := bases_any xr nr cr fr w7 (HR.out.below B7.out (Nat.le_refl _)) h6 HP.out
    go_wp2_with fail
    refine CB.mono ?_
    clear CB c34
    rintro e w8 ⟨rfl, b8⟩
    have I8 := I7.below b8 I7.lt
    have D8 := D7.below b8 (Nat.le_refl _)
    have B8 : Hid (Below w.heap.size w w8) := B7.out.trans (b8.mono B7.out.size)
    clear b8 I7 D7 B7
    have CL := line_any b (pt3 P D z) hdR (bsS fr nr) w8 D8 (by rw [pt3_size]; show _ + 5 + _ + 1 ≤ _; omega)
    go_wp2_with fail
    refine CL.mono ?_
    clear CL
    rintro e w9 ⟨⟨ve9, rfl⟩, D9, b9⟩
    have I9 := I8.below b9 hwb.out
    have B9 : Hid (Below w.heap.size w w9) := B8.out.trans (b9.mono (Nat.le_of_lt hwb.out))
    change Bd w9 b (pt4 P D z fr nr) at D9
    clear b9 I8 B8 D8
    have m4 := pt4_size P D z fr nr
    have c35 := I9.from_
    by_cases hF : F.size = 0
    · have HTX : Hid (prT P D z fr nr F fs ns = ptS (pt4 P D z fr nr) fs ns) := by unfold Hid prT; rw [ptF_z hF]
      obtain rfl : F = ⟨#[]⟩ := bytes_ext (by rw [hF]; rfl) (fun k hk => absurd hk (by omega))
      generalize pt4 P D z fr nr = T at D9 HTX m4
      have hlast : Hid (∀ W, Bd W b (ptS T fs ns) → Calls Tryd.prog 18 #[.pointer (some ⟨b, 0, none⟩)] W fun e w' => e = .returned (.string (ptS T fs ns)) ∧ Below b W w') := fun W h => bstr_any b _ W h
      have DL : Hid (Bd w9 b (ptS T fs 0)) := D9
      have IL : Hid (Inf w9 w.heap.size P D z (.slice xr nr cr) ⟨#[]⟩ (.slice xs ns cs')) := I9
      have c36 := I9.signs
      clear D9 I9
      go_wp2
      clear c36
      go_loopw [45] (fun i wr => ∃ k : Nat, k ≤ ns ∧ i = .int .i64 k ∧ Hid (Bd wr b (ptS T fs k)) ∧ Hid (Below w.heap.size w wr)) (fun i _ => ns - (intOf i).toNat)
      case atStart => exact ⟨0, Nat.zero_le _, rfl, DL, B9⟩
      case round =>
        clear DL IL
        obtain ⟨k, hk, rfl, DK, BK⟩ := hrel
        by_cases hlt : k < ns
        · obtain ⟨a, rfl, c0⟩ := HS.out.below BK.out (Nat.le_refl _) k hlt
          have hg := HG.out k hlt
          have hps := ptS_size T fs k (fun i hi => HG.out i (by omega))
          have CL := line_any b (ptS T fs k) hdS (fs k) wr DK.out (by show _ + 6 + _ + 1 ≤ _; omega)
          go_wp2_with fail
          refine CL.mono ?_
          clear CL
          rintro e w11 ⟨⟨ve11, rfl⟩, D11, b11⟩
          have D11' : Hid (Bd w11 b (ptS T fs (k + 1))) := D11
          have B11 : Hid (Below w.heap.size w w11) := BK.out.trans (b11.mono (Nat.le_of_lt hwb.out))
          clear b11 D11 DK BK c0
          go_wp2
          go_roundw
          case rel => exact ⟨k + 1, by omega, by go_num, D11', B11⟩
          case measure => simp [intOf]; omega
        · obtain rfl : k = ns := by omega
          go_wp2_with fail
          refine (hlast.out wr DK.out).mono ?_
          rintro e w12 ⟨rfl, b12⟩
          go_wp2
          go_ret2
          exact ⟨by rw [HTX.out]; rfl, BK.out.trans (b12.mono (Nat.le_of_lt hwb.out))⟩
    · have f1 : (F.toList == []) = false := by
        rw [beq_eq_false_iff_ne]
        intro h
        exact hF ((empty_iff F).1 (by rw [h]; rfl))
      have f2 : (F.toList != []) = true := by rw [bne_iff_ne]; rw [beq_eq_false_iff_ne] at f1; exact f1
      have f3 : ¬ F.toList = [] := by rw [beq_eq_false_iff_ne] at f1; exact f1
      have f4 : F.toList.isEmpty = false := by
        cases h : F.toList.isEmpty
        · rfl
        · exact absurd ((empty_iff F).1 h) hF
      have HTX : Hid (prT P D z fr nr F fs ns = ptS (pt4 P D z fr nr ++ hdF ++ F ++ nl) fs ns) := by unfold Hid prT; rw [ptF_n hF]
      have mF : F.size ≤ 257 := by
        have := HF.out
        rw [frC_n hF] at this
        exact prC_max this
      have CL := line_any b (pt4 P D z fr nr) hdF F w9 D9 (by show _ + 6 + _ + 1 ≤ _; omega)
      go_wp2_with fail
      refine CL.mono ?_
      clear CL
      rintro e w10 ⟨⟨ve10, rfl⟩, D10, b10⟩
      have I10 := I9.below b10 hwb.out
      have B10 : Hid (Below w.heap.size w w10) := B9.out.trans (b10.mono (Nat.le_of_lt hwb.out))
      have m5 : (pt4 P D z fr nr ++ hdF ++ F ++ nl).size ≤ (pt4 P D z fr nr).size + 264 := by
        rw [app_size, app_size, app_size]
        show _ + 6 + _ + 1 ≤ _
        omega
      clear b10 I9 B9 D9 c35 hF
      generalize pt4 P D z fr nr ++ hdF ++ F ++ nl = T at D10 HTX m5
      have hlast : Hid (∀ W, Bd W b (ptS T fs ns) → Calls Tryd.prog 18 #[.pointer (some ⟨b, 0, none⟩)] W fun e w' => e = .returned (.string (ptS T fs ns)) ∧ Below b W w') := fun W h => bstr_any b _ W h
      have DL : Hid (Bd w10 b (ptS T fs 0)) := D10
      have IL : Hid (Inf w10 w.heap.size P D z (.slice xr nr cr) F (.slice xs ns cs')) := I10
      have c36 := I10.signs
      clear D10 I10
      go_wp2
      clear c36
      go_loopw [45] (fun i wr => ∃ k : Nat, k ≤ ns ∧ i = .int .i64 k ∧ Hid (Bd wr b (ptS T fs k)) ∧ Hid (Below w.heap.size w wr)) (fun i _ => ns - (intOf i).toNat)
      case atStart => exact ⟨0, Nat.zero_le _, rfl, DL, B10⟩
      case round =>
        clear DL IL
        obtain ⟨k, hk, rfl, DK, BK⟩ := hrel
        by_cases hlt : k < ns
        · obtain ⟨a, rfl, c0⟩ := HS.out.below BK.out (Nat.le_refl _) k hlt
          have hg := HG.out k hlt
          have hps := ptS_size T fs k (fun i hi => HG.out i (by omega))
          have CL := line_any b (ptS T fs k) hdS (fs k) wr DK.out (by show _ + 6 + _ + 1 ≤ _; omega)
          go_wp2_with fail
          refine CL.mono ?_
          clear CL
          rintro e w11 ⟨⟨ve11, rfl⟩, D11, b11⟩
          have D11' : Hid (Bd w11 b (ptS T fs (k + 1))) := D11
          have B11 : Hid (Below w.heap.size w w11) := BK.out.trans (b11.mono (Nat.le_of_lt hwb.out))
          clear b11 D11 DK BK c0
          go_wp2
          go_roundw
          case rel => exact ⟨k + 1, by omega, by go_num, D11', B11⟩
          case measure => simp [intOf]; omega
        · obtain rfl : k = ns := by omega
          go_wp2_with fail
          refine (hlast.out wr DK.out).mono ?_
          rintro e w12 ⟨rfl, b12⟩
          go_wp2
          go_ret2
          exact ⟨by rw [HTX.out]; rfl, BK.out.trans (b12.mono (Nat.le_of_lt hwb.out))⟩
  · have hb : (ckC P z fr nr F fs ns != 0) = true := by rw [bne_iff_ne]; exact hc
    rw [prS_n hc]
    generalize ckC P z fr nr F fs ns = C at CC hb hc ⊢
    clear hc
    go_enter Tryd.func8, Tryd.ntmps8
    go_wp2_with (refine wpList_load_inf (by rfl) (.tmp 1) (by rfl) (by rfl) I0 ?_; refine Hid.out ?_)
    unfold Hid
    generalize w.alloc (.cells (infC P D z (.slice xr nr cr) F (.slice xs ns cs')) 26) = w0 at I0 B0 z0 ⊢
    go_wp2_with fail
    refine (CC w0 B0).mono ?_
    rintro e w1 ⟨rfl, b1⟩
    go_wp2
    go_ret2
    exact ⟨rfl, B0.trans (b1.mono B0.size)⟩

end Go.Proofs.YtgnlkggodchlbabDoor
/- info.readPath, readHash, isNumber, readSize; walked. -/
namespace Go.Proofs.YtgnlkggodchlbabDoor
open Go.RowKit Go.Shelf

/-- The store path behind a head. -/
def rpC (l h : ByteArray) : Int := if hpQ l h then prC (cpQ l h) else 150
def rpS (l h : ByteArray) : ByteArray := if rpC l h = 0 then cpQ l h else emp
theorem rpC_no {l h : ByteArray} (g : hpQ l h = false) : rpC l h = 150 := by unfold rpC; rw [g]; rfl
theorem rpC_yes {l h : ByteArray} (g : hpQ l h = true) : rpC l h = prC (cpQ l h) := by unfold rpC; rw [g]; rfl
theorem rpS_n {l h : ByteArray} (g : rpC l h ≠ 0) : rpS l h = emp := if_neg g
theorem rpS_z {l h : ByteArray} (g : rpC l h = 0) : rpS l h = cpQ l h := if_pos g

set_option maxRecDepth 100000 in
set_option maxHeartbeats 1000000 in
theorem rdP_any (l h : ByteArray) (w : World) :
    Calls Tryd.prog 36 #[.string l, .string h] w fun e w' => e = .returned (.tuple #[.string (rpS l h), .int .i64 (rpC l h)]) ∧ Below w.heap.size w w' := by
  have C0 := cutQ_any l h w
  cases g : hpQ l h
  · rw [rpC_no g, rpS_n (by rw [rpC_no g]; decide)]
    rw [g] at C0
    clear g
    generalize cpQ l h = q at C0
    go_enter Tryd.func36, Tryd.ntmps36
    go_wp2_with fail
    refine C0.mono ?_
    rintro e w1 ⟨rfl, rfl⟩
    go_wp2
    go_ret2
    exact ⟨rfl, Below.refl _ _⟩
  · have e1 := rpC_yes g
    rw [g] at C0
    rcases prC_is (cpQ l h) with hp | hp
    · rw [rpS_z (by rw [e1]; exact hp), e1, hp]
      have HP : Hid (prC (cpQ l h) = 0) := hp
      clear g e1 hp
      generalize cpQ l h = q at C0 HP ⊢
      go_enter Tryd.func36, Tryd.ntmps36
      go_wp2_with fail
      refine C0.mono ?_
      rintro e w1 ⟨rfl, rfl⟩
      go_wp2_with fail
      refine (parse_any _ _).mono ?_
      rintro e w2 ⟨rfl, b2⟩
      rw [HP.out]
      go_wp2
      go_ret2
      exact ⟨rfl, b2⟩
    · rw [rpS_n (by rw [e1]; rw [bne_iff_ne] at hp; exact hp), e1]
      clear g e1
      generalize cpQ l h = q at C0 hp ⊢
      go_enter Tryd.func36, Tryd.ntmps36
      go_wp2_with fail
      refine C0.mono ?_
      rintro e w1 ⟨rfl, rfl⟩
      go_wp2_with fail
      refine (parse_any _ _).mono ?_
      rintro e w2 ⟨rfl, b2⟩
      go_wp2
      go_ret2
      exact ⟨rfl, b2⟩

/-- The digest of a line Hash. -/
def rhC (l : ByteArray) : Int := if hpQ l hdH then (if dOk (cpQ l hdH) then 0 else 131) else 150
def rhD (l : ByteArray) : Nat → Int := if rhC l = 0 then dFn (cpQ l hdH) else fun _ => 0
theorem rhC_no {l : ByteArray} (g : hpQ l hdH = false) : rhC l = 150 := by unfold rhC; rw [g]; rfl
theorem rhC_yes {l : ByteArray} (g : hpQ l hdH = true) (h : dOk (cpQ l hdH)) : rhC l = 0 := by unfold rhC; rw [g, if_pos rfl, if_pos h]
theorem rhC_bad {l : ByteArray} (g : hpQ l hdH = true) (h : ¬ dOk (cpQ l hdH)) : rhC l = 131 := by unfold rhC; rw [g, if_pos rfl, if_neg h]
theorem rhD_n {l : ByteArray} (g : rhC l ≠ 0) : rhD l = fun _ => 0 := if_neg g
theorem rhD_z {l : ByteArray} (g : rhC l = 0) : rhD l = dFn (cpQ l hdH) := if_pos g
theorem cpQ_size (l h : ByteArray) : (cpQ l h).size ≤ l.size := by
  unfold cpQ
  split
  · rw [ByteArray.size_extract]; omega
  · exact Nat.le_refl _

set_option maxRecDepth 100000 in
set_option maxHeartbeats 1000000 in
theorem rdH_any (l : ByteArray) (w : World) (hl : l.size ≤ 281474976710656) :
    Calls Tryd.prog 37 #[.string l] w fun e w' => e = .returned (.tuple #[.agg (cs .u8 32 (rhD l)), .int .i64 (rhC l)]) ∧ Below w.heap.size w w' := by
  have C0 := fun W => cutQ_any l hdH W
  have hq := cpQ_size l hdH
  have C1 := fun W => dgO_any (cpQ l hdH) W (by omega)
  have R0 : Row .u8 (w.alloc (.cells (cs .u8 32 (fun _ => 0)) 23)) w.heap.size 32 (fun _ => 0) := Row.box
  have B0 : Below w.heap.size w (w.alloc (.cells (cs .u8 32 (fun _ => 0)) 23)) := (Below.refl _ _).alloc (Nat.le_refl _) _
  have z0 : (w.alloc (.cells (cs .u8 32 (fun _ => 0)) 23)).heap.size = w.heap.size + 1 := World.size_alloc _ _
  clear hq
  cases g : hpQ l hdH
  · rw [rhC_no g, rhD_n (by rw [rhC_no g]; decide)]
    simp only [g] at C0
    clear g C1
    generalize cpQ l hdH = q at C0
    go_enter Tryd.func37, Tryd.ntmps37
    rw [show (⟨#[72, 97, 115, 104, 58, 32, 115, 104, 97, 50, 53, 54, 58]⟩ : ByteArray) = hdH from rfl]
    go_wp2_with fail
    rw [cs_zero32]
    generalize w.alloc (.cells (cs .u8 32 (fun _ => 0)) 23) = w0 at R0 B0 z0 ⊢
    refine (C0 w0).mono ?_
    rintro e w1 ⟨rfl, rfl⟩
    clear C0
    go_wp2_with (refine wpList_store_any (by rfl) 23 (.tmp 2) (.tmp 15) (by rfl) w.heap.size (by rfl) (by exact congrArg Value.agg cs_zero32) R0 szD32 (by rfl) ?_; intro W5 R5 U5)
    exact bodyPost_ret (results_ct Tryd.results37 _ _ rfl R5 undDIG szD32) rfl ⟨rfl, U5.below B0 (Nat.le_refl _) (by omega)⟩
  · simp only [g] at C0
    by_cases hd : dOk (cpQ l hdH)
    · rw [rhD_z (rhC_yes g hd), rhC_yes g hd]
      simp only [decide_eq_true hd] at C1
      clear g hd
      generalize dFn (cpQ l hdH) = D at C1 ⊢
      generalize cpQ l hdH = q at C0 C1
      go_enter Tryd.func37, Tryd.ntmps37
      rw [show (⟨#[72, 97, 115, 104, 58, 32, 115, 104, 97, 50, 53, 54, 58]⟩ : ByteArray) = hdH from rfl]
      go_wp2_with fail
      rw [cs_zero32]
      generalize w.alloc (.cells (cs .u8 32 (fun _ => 0)) 23) = w0 at R0 B0 z0 ⊢
      refine (C0 w0).mono ?_
      rintro e w1 ⟨rfl, rfl⟩
      go_wp2_with fail
      refine (C1 w1).mono ?_
      rintro e w3 ⟨rfl, b3⟩
      have R3 : Hid (Row .u8 w3 w.heap.size 32 (fun _ => 0)) := R0.below b3 (by omega)
      have B3 : Hid (Below w.heap.size w w3) := B0.trans (b3.mono (by have := B0.size; omega))
      have z3 : Hid (w.heap.size < w3.heap.size) := by have := b3.size; unfold Hid; omega
      clear C0 C1 R0 B0 z0 b3
      go_wp2_with (refine wpList_store_any (by rfl) 23 (.tmp 6) (.tmp 19) (by rfl) w3.heap.size (by rfl) (by rfl) (Row.rep (by rfl)) szD32 (by rfl) ?_; intro W4 R4 U4; refine Hid.out ?_)
      unfold Hid
      have R4' : Row .u8 W4 w.heap.size 32 (fun _ => 0) := ((R3.out.alloc z3.out _).upd U4 (by rw [World.size_alloc]; have := z3.out; omega) (by have := z3.out; omega))
      have B4 : Below w.heap.size w W4 := (U4.below (B3.out.alloc B3.out.size _) (by have := z3.out; omega) (by rw [World.size_alloc]; have := z3.out; omega))
      have z4 : w.heap.size < W4.heap.size := by rw [U4.size, World.size_alloc]; have := z3.out; omega
      clear R3 B3 U4
      go_wp2_with (first
        | (refine wpList_load_arr (by rfl) 23 (.tmp 6) (by rfl) w3.heap.size (by rfl) R4 undDIG szD32 ?_)
        | (refine wpList_store_any (by rfl) 23 (.tmp 2) (.tmp 24) (by rfl) w.heap.size (by rfl) (by rfl) R4' szD32 (by rfl) ?_; intro W5 R5 U5))
      exact bodyPost_ret (results_ct Tryd.results37 _ _ rfl R5 undDIG szD32) rfl ⟨rfl, U5.below B4 (Nat.le_refl _) (by omega)⟩
    · rw [rhC_bad g hd, rhD_n (by rw [rhC_bad g hd]; decide)]
      simp only [decide_eq_false hd, dFn_no hd] at C1
      clear g hd
      generalize cpQ l hdH = q at C0 C1
      go_enter Tryd.func37, Tryd.ntmps37
      rw [show (⟨#[72, 97, 115, 104, 58, 32, 115, 104, 97, 50, 53, 54, 58]⟩ : ByteArray) = hdH from rfl]
      go_wp2_with fail
      rw [cs_zero32]
      generalize w.alloc (.cells (cs .u8 32 (fun _ => 0)) 23) = w0 at R0 B0 z0 ⊢
      refine (C0 w0).mono ?_
      rintro e w1 ⟨rfl, rfl⟩
      go_wp2_with fail
      refine (C1 w1).mono ?_
      rintro e w3 ⟨rfl, b3⟩
      have R3 : Hid (Row .u8 w3 w.heap.size 32 (fun _ => 0)) := R0.below b3 (by omega)
      have B3 : Hid (Below w.heap.size w w3) := B0.trans (b3.mono (by have := B0.size; omega))
      have z3 : Hid (w.heap.size < w3.heap.size) := by have := b3.size; unfold Hid; omega
      clear C0 C1 R0 B0 z0 b3
      go_wp2_with (refine wpList_store_any (by rfl) 23 (.tmp 6) (.tmp 19) (by rfl) w3.heap.size (by rfl) (by rfl) (Row.rep (by rfl)) szD32 (by rfl) ?_; intro W4 R4 U4; refine Hid.out ?_)
      unfold Hid
      have R4' : Row .u8 W4 w.heap.size 32 (fun _ => 0) := ((R3.out.alloc z3.out _).upd U4 (by rw [World.size_alloc]; have := z3.out; omega) (by have := z3.out; omega))
      have B4 : Below w.heap.size w W4 := (U4.below (B3.out.alloc B3.out.size _) (by have := z3.out; omega) (by rw [World.size_alloc]; have := z3.out; omega))
      have z4 : w.heap.size < W4.heap.size := by rw [U4.size, World.size_alloc]; have := z3.out; omega
      clear R3 B3 U4 R4
      go_wp2_with (refine wpList_store_any (by rfl) 23 (.tmp 2) (.tmp 23) (by rfl) w.heap.size (by rfl) (by exact congrArg Value.agg cs_zero32) R4' szD32 (by rfl) ?_; intro W5 R5 U5)
      exact bodyPost_ret (results_ct Tryd.results37 _ _ rfl R5 undDIG szD32) rfl ⟨rfl, U5.below B4 (Nat.le_refl _) (by omega)⟩

end Go.Proofs.YtgnlkggodchlbabDoor
/- info.isNumber, readSize; walked. -/
namespace Go.Proofs.YtgnlkggodchlbabDoor
open Go.RowKit Go.Shelf

def nmOk (t : ByteArray) : Prop := t.size ≠ 0 ∧ ¬ (bt t 0 = 48 ∧ 1 < t.size) ∧ ∀ k, k < t.size → 48 ≤ bt t k ∧ bt t k ≤ 57
instance (t : ByteArray) : Decidable (nmOk t) := inferInstanceAs (Decidable (_ ∧ _ ∧ _))
/-- The number that the first k digits are. -/
def nv (t : ByteArray) : Nat → Int
  | 0 => 0
  | k + 1 => 10 * nv t k + (bt t k - 48)
theorem nv_mono (t : ByteArray) (h : ∀ k, k < t.size → 48 ≤ bt t k ∧ bt t k ≤ 57) : ∀ m k, k + m ≤ t.size → 0 ≤ nv t k ∧ nv t k ≤ nv t (k + m) := by
  have nn : ∀ k, k ≤ t.size → 0 ≤ nv t k := by
    intro k
    induction k with
    | zero => intro _; exact Int.le_refl 0
    | succ k ih =>
      intro hk
      have h1 := ih (by omega)
      have h2 := h k (by omega)
      unfold nv
      omega
  intro m
  induction m with
  | zero => intro k hk; exact ⟨nn k (by omega), Int.le_refl _⟩
  | succ m ih =>
    intro k hk
    obtain ⟨h1, h2⟩ := ih k (by omega)
    have h3 := h (k + m) (by omega)
    have h4 := nn (k + m) (by omega)
    refine ⟨h1, ?_⟩
    show nv t k ≤ 10 * nv t (k + m) + (bt t (k + m) - 48)
    omega

set_option maxRecDepth 100000 in
set_option maxHeartbeats 1000000 in
theorem isN_any (t : ByteArray) (w : World) (ht : t.size ≤ 281474976710656) :
    Calls Tryd.prog 51 #[.string t] w fun e w' => e = .returned (.bool (decide (nmOk t))) ∧ w' = w := by
  have hb := get_bt t
  by_cases hz : t.size = 0
  · have hh : Hid (decide (nmOk t) = false) := decide_eq_false (fun h => h.1 hz)
    obtain rfl : t = ⟨#[]⟩ := bytes_ext (by rw [hz]; rfl) (fun k hk => absurd hk (by omega))
    clear hb hz
    go_enter Tryd.func51, Tryd.ntmps51
    go_wp2
    go_ret
    exact ⟨by rw [hh.out]; rfl, rfl⟩
  · have he : t.toList.isEmpty = false := by
      cases h : t.toList.isEmpty
      · rfl
      · exact absurd ((empty_iff t).1 h) hz
    have he2 : (t.toList == []) = false := by rw [beq_eq_false_iff_ne]; intro h; rw [h] at he; exact Bool.noConfusion he
    have he3 : ¬ t.toList = [] := fun h => by rw [h] at he; exact Bool.noConfusion he
    have h0 : 0 < t.size := by omega
    by_cases hl : bt t 0 = 48 ∧ 1 < t.size
    · have hh : Hid (decide (nmOk t) = false) := decide_eq_false (fun h => h.2.1 hl)
      obtain ⟨hl1, hl2⟩ := hl
      have q1 : (bt t 0 == 48) = true := by rw [hl1]; rfl
      have q2 : (1 : Int) < (t.size : Int) := by omega
      clear hz
      go_enter Tryd.func51, Tryd.ntmps51
      go_wp2
      go_ret
      exact ⟨by rw [hh.out]; rfl, rfl⟩
    · have HL : Hid (¬ (bt t 0 = 48 ∧ 1 < t.size)) := hl
      have HZ : Hid (t.size ≠ 0) := hz
      have key : (bt t 0 == 48) = false ∨ ((bt t 0 == 48) = true ∧ ¬ (1 : Int) < (t.size : Int)) := by
        by_cases q : bt t 0 = 48
        · right; exact ⟨by rw [q]; rfl, fun h => hl ⟨q, by omega⟩⟩
        · left; rw [beq_eq_false_iff_ne]; exact q
      clear hl hz
      rcases key with q1 | ⟨q1, q2⟩
      all_goals
        go_enter Tryd.func51, Tryd.ntmps51
        go_wp2
        clear he he2 he3
        go_loop [18] (fun i => ∃ k : Nat, k ≤ t.size ∧ i = .int .i64 k ∧ Hid (∀ j, j < k → 48 ≤ bt t j ∧ bt t j ≤ 57)) (fun i => t.size - (intOf i).toNat)
        case atStart => exact ⟨0, Nat.zero_le _, rfl, fun j hj => absurd hj (by omega)⟩
        case round =>
          obtain ⟨k, hk, rfl, hok⟩ := hrel
          by_cases hlt : k < t.size
          · by_cases g1 : bt t k < 48
            · have hh : Hid (decide (nmOk t) = false) := decide_eq_false (fun h => by have := (h.2.2 k hlt).1; omega)
              go_wp2
              go_ret
              exact ⟨by rw [hh.out]; rfl, rfl⟩
            · by_cases g2 : 57 < bt t k
              · have hh : Hid (decide (nmOk t) = false) := decide_eq_false (fun h => by have := (h.2.2 k hlt).2; omega)
                go_wp2
                go_ret
                exact ⟨by rw [hh.out]; rfl, rfl⟩
              · have hok2 : Hid (∀ j, j < k + 1 → 48 ≤ bt t j ∧ bt t j ≤ 57) := fun j hj => by
                  by_cases e : j = k
                  · rw [e]; omega
                  · exact hok.out j (by omega)
                go_wp2
                go_round
                case rel => exact ⟨k + 1, by omega, by go_num, hok2⟩
                case measure => simp [intOf]; omega
          · have hh : Hid (decide (nmOk t) = true) := decide_eq_true ⟨HZ.out, HL.out, fun j hj => hok.out j (by omega)⟩
            go_wp2
            go_ret
            exact ⟨by rw [hh.out]; rfl, rfl⟩

def rzC (l : ByteArray) : Int := if hpQ l hdZ = true ∧ nmOk (cpQ l hdZ) then (if nv (cpQ l hdZ) (cpQ l hdZ).size ≤ 1048576 then 0 else 152) else 150
def rzV (l : ByteArray) : Int := if rzC l = 0 then nv (cpQ l hdZ) (cpQ l hdZ).size else 0
theorem rzC_no {l : ByteArray} (g : ¬ (hpQ l hdZ = true ∧ nmOk (cpQ l hdZ))) : rzC l = 150 := if_neg g
theorem rzC_yes {l : ByteArray} (g : hpQ l hdZ = true ∧ nmOk (cpQ l hdZ)) (h : nv (cpQ l hdZ) (cpQ l hdZ).size ≤ 1048576) : rzC l = 0 := by unfold rzC; rw [if_pos g, if_pos h]
theorem rzC_big {l : ByteArray} (g : hpQ l hdZ = true ∧ nmOk (cpQ l hdZ)) (h : ¬ nv (cpQ l hdZ) (cpQ l hdZ).size ≤ 1048576) : rzC l = 152 := by unfold rzC; rw [if_pos g, if_neg h]
theorem rzV_n {l : ByteArray} (g : rzC l ≠ 0) : rzV l = 0 := if_neg g
theorem rzV_z {l : ByteArray} (g : rzC l = 0) : rzV l = nv (cpQ l hdZ) (cpQ l hdZ).size := if_pos g

set_option maxRecDepth 100000 in
set_option maxHeartbeats 1000000 in
theorem rdZ_any (l : ByteArray) (w : World) (hl : l.size ≤ 281474976710656) :
    Calls Tryd.prog 38 #[.string l] w fun e w' => e = .returned (.tuple #[.int .i64 (rzV l), .int .i64 (rzC l)]) ∧ w' = w := by
  have C0 := cutQ_any l hdZ w
  have hq := cpQ_size l hdZ
  have C1 := isN_any (cpQ l hdZ) w (by omega)
  cases g : hpQ l hdZ
  · have e1 := rzC_no (l := l) (fun h => by rw [g] at h; exact Bool.noConfusion h.1)
    rw [rzV_n (by rw [e1]; decide), e1]
    rw [g] at C0
    clear g e1 C1 hq
    generalize cpQ l hdZ = q at C0
    go_enter Tryd.func38, Tryd.ntmps38
    rw [show (⟨#[83, 105, 122, 101, 58, 32]⟩ : ByteArray) = hdZ from rfl]
    go_wp2_with fail
    refine C0.mono ?_
    rintro e w1 ⟨rfl, rfl⟩
    go_wp2
    go_ret2
    exact ⟨rfl, rfl⟩
  · by_cases hn : nmOk (cpQ l hdZ)
    · rw [decide_eq_true hn] at C1
      rw [g] at C0
      generalize hV : rzV l = V
      generalize hK : rzC l = K
      have HV : Hid (rzV l = V) := hV
      have HK : Hid (rzC l = K) := hK
      clear hV hK
      have hgn : Hid (hpQ l hdZ = true ∧ nmOk (cpQ l hdZ)) := ⟨g, hn⟩
      have HM : Hid (∀ m k, k + m ≤ (cpQ l hdZ).size → 0 ≤ nv (cpQ l hdZ) k ∧ nv (cpQ l hdZ) k ≤ nv (cpQ l hdZ) (k + m)) := nv_mono _ hn.2.2
      have HD : Hid (∀ k, k < (cpQ l hdZ).size → 48 ≤ bt (cpQ l hdZ) k ∧ bt (cpQ l hdZ) k ≤ 57) := hn.2.2
      have HY : Hid (nv (cpQ l hdZ) (cpQ l hdZ).size ≤ 1048576 → V = nv (cpQ l hdZ) (cpQ l hdZ).size ∧ K = 0) := fun h => ⟨by rw [← HV.out, rzV_z (rzC_yes hgn.out h)], by rw [← HK.out, rzC_yes hgn.out h]⟩
      have HN : Hid (¬ nv (cpQ l hdZ) (cpQ l hdZ).size ≤ 1048576 → V = 0 ∧ K = 152) := fun h => ⟨by rw [← HV.out, rzV_n (by rw [rzC_big hgn.out h]; decide)], by rw [← HK.out, rzC_big hgn.out h]⟩
      clear g hn hgn HV HK
      generalize cpQ l hdZ = q at C0 C1 hq HM HD HY HN
      have hb := get_bt q
      go_enter Tryd.func38, Tryd.ntmps38
      rw [show (⟨#[83, 105, 122, 101, 58, 32]⟩ : ByteArray) = hdZ from rfl]
      go_wp2_with fail
      refine C0.mono ?_
      rintro e w1 ⟨rfl, rfl⟩
      go_wp2_with fail
      refine C1.mono ?_
      rintro e w2 ⟨rfl, rfl⟩
      clear C0 C1
      go_wp2
      go_loop [6, 22] (fun nx i => ∃ (k : Nat) (v : Int), k ≤ q.size ∧ i = .int .i64 k ∧ nx = .int .i64 v ∧ 0 ≤ v ∧ v ≤ 1048576 ∧ Hid (v = nv q k)) (fun _ i => q.size - (intOf i).toNat)
      case atStart => exact ⟨0, 0, Nat.zero_le _, rfl, rfl, Int.le_refl _, by omega, rfl⟩
      case round =>
        obtain ⟨k, v, hk, rfl, rfl, hv0, hv1, hv⟩ := hrel
        by_cases hlt : k < q.size
        · obtain ⟨d0, d1⟩ := HD.out k hlt
          have hs : Hid (nv q (k + 1) = 10 * v + (bt q k - 48)) := by unfold Hid; rw [hv.out]; rfl
          have k1 : IntKind.u8.wrap (bt q k - 48) = bt q k - 48 := by rw [IntKind.wrap_u8]; omega
          by_cases hbig : 1048576 < 10 * v + (bt q k - 48)
          · have hn2 : Hid (V = 0 ∧ K = 152) := HN.out (by
              have := (HM.out (q.size - (k + 1)) (k + 1) (by omega)).2
              rw [show k + 1 + (q.size - (k + 1)) = q.size from by omega, hs.out] at this
              omega)
            go_wp2
            go_ret2
            exact ⟨by rw [hn2.out.1, hn2.out.2]; rfl, rfl⟩
          · go_wp2
            go_round
            case rel => exact ⟨k + 1, 10 * v + (bt q k - 48), by omega, by go_num, by go_num, by omega, by omega, hs.out.symm⟩
            case measure => simp [intOf]; omega
        · obtain rfl : k = q.size := by omega
          have hy : Hid (V = nv q q.size ∧ K = 0) := HY.out (by rw [← hv.out]; exact hv1)
          go_wp2
          go_ret2
          exact ⟨by rw [hy.out.1, hy.out.2, hv.out]; rfl, rfl⟩
    · rw [decide_eq_false hn] at C1
      have e1 := rzC_no (l := l) (fun h => hn h.2)
      rw [rzV_n (by rw [e1]; decide), e1]
      rw [g] at C0
      clear g e1 hq hn
      generalize cpQ l hdZ = q at C0 C1
      go_enter Tryd.func38, Tryd.ntmps38
      rw [show (⟨#[83, 105, 122, 101, 58, 32]⟩ : ByteArray) = hdZ from rfl]
      go_wp2_with fail
      refine C0.mono ?_
      rintro e w1 ⟨rfl, rfl⟩
      go_wp2_with fail
      refine C1.mono ?_
      rintro e w2 ⟨rfl, rfl⟩
      go_wp2
      go_ret2
      exact ⟨rfl, rfl⟩

end Go.Proofs.YtgnlkggodchlbabDoor
/- info.readRefs at no references; info.takeLine at the first four lines; walked. -/
namespace Go.Proofs.YtgnlkggodchlbabDoor
open Go.RowKit Go.Shelf

theorem inf_cell_set {w : World} {g i : Nat} {x : Value} (j : Nat) (h : j ≠ i) : (w.setCell ⟨g, i, none⟩ x).cell? ⟨g, j, none⟩ = w.cell? ⟨g, j, none⟩ :=
  World.cell?_setCell_other _ _ _ _ (fun c => h (by injection c with _ c2 _; exact c2.symm))
theorem Inf.setPath {w : World} {g : Nat} {P : ByteArray} {D : Nat → Int} {z : Int} {vr : Value} {F : ByteArray} {vs : Value} (h : Inf w g P D z vr F vs) (q : ByteArray) : Inf (w.setCell ⟨g, 0, none⟩ (.string q)) g q D z vr F vs :=
  ⟨World.cell?_setCell_same _ _ _ h.path, fun j hj => (inf_cell_set _ (by omega)).trans (h.dig j hj), (inf_cell_set _ (by omega)).trans h.size, (inf_cell_set _ (by omega)).trans h.refs, (inf_cell_set _ (by omega)).trans h.from_, (inf_cell_set _ (by omega)).trans h.signs, fun j hj => by rw [World.frozen?_setCell]; exact h.free j hj⟩
theorem Inf.setSize {w : World} {g : Nat} {P : ByteArray} {D : Nat → Int} {z : Int} {vr : Value} {F : ByteArray} {vs : Value} (h : Inf w g P D z vr F vs) (q : Int) : Inf (w.setCell ⟨g, 33, none⟩ (.int .i64 q)) g P D q vr F vs :=
  ⟨(inf_cell_set _ (by omega)).trans h.path, fun j hj => (inf_cell_set _ (by omega)).trans (h.dig j hj), World.cell?_setCell_same _ _ _ h.size, (inf_cell_set _ (by omega)).trans h.refs, (inf_cell_set _ (by omega)).trans h.from_, (inf_cell_set _ (by omega)).trans h.signs, fun j hj => by rw [World.frozen?_setCell]; exact h.free j hj⟩
theorem Inf.setRefs {w : World} {g : Nat} {P : ByteArray} {D : Nat → Int} {z : Int} {vr : Value} {F : ByteArray} {vs : Value} (h : Inf w g P D z vr F vs) (q : Value) : Inf (w.setCell ⟨g, 34, none⟩ q) g P D z q F vs :=
  ⟨(inf_cell_set _ (by omega)).trans h.path, fun j hj => (inf_cell_set _ (by omega)).trans (h.dig j hj), (inf_cell_set _ (by omega)).trans h.size, World.cell?_setCell_same _ _ _ h.refs, (inf_cell_set _ (by omega)).trans h.from_, (inf_cell_set _ (by omega)).trans h.signs, fun j hj => by rw [World.frozen?_setCell]; exact h.free j hj⟩
theorem Inf.setFrom {w : World} {g : Nat} {P : ByteArray} {D : Nat → Int} {z : Int} {vr : Value} {F : ByteArray} {vs : Value} (h : Inf w g P D z vr F vs) (q : ByteArray) : Inf (w.setCell ⟨g, 35, none⟩ (.string q)) g P D z vr q vs :=
  ⟨(inf_cell_set _ (by omega)).trans h.path, fun j hj => (inf_cell_set _ (by omega)).trans (h.dig j hj), (inf_cell_set _ (by omega)).trans h.size, (inf_cell_set _ (by omega)).trans h.refs, World.cell?_setCell_same _ _ _ h.from_, (inf_cell_set _ (by omega)).trans h.signs, fun j hj => by rw [World.frozen?_setCell]; exact h.free j hj⟩
theorem Inf.setSigns {w : World} {g : Nat} {P : ByteArray} {D : Nat → Int} {z : Int} {vr : Value} {F : ByteArray} {vs : Value} (h : Inf w g P D z vr F vs) (q : Value) : Inf (w.setCell ⟨g, 36, none⟩ q) g P D z vr F q :=
  ⟨(inf_cell_set _ (by omega)).trans h.path, fun j hj => (inf_cell_set _ (by omega)).trans (h.dig j hj), (inf_cell_set _ (by omega)).trans h.size, (inf_cell_set _ (by omega)).trans h.refs, (inf_cell_set _ (by omega)).trans h.from_, World.cell?_setCell_same _ _ _ h.signs, fun j hj => by rw [World.frozen?_setCell]; exact h.free j hj⟩
theorem Inf.there {w : World} {g : Nat} {P : ByteArray} {D : Nat → Int} {z : Int} {vr : Value} {F : ByteArray} {vs : Value} (h : Inf w g P D z vr F vs) : w.there g 1 32 := fun j hj => ⟨by rw [h.dig j hj]; rfl, h.free (1 + j) (by omega)⟩
theorem Inf.setDig {w : World} {g : Nat} {P : ByteArray} {D : Nat → Int} {z : Int} {vr : Value} {F : ByteArray} {vs : Value} (h : Inf w g P D z vr F vs) (E : Nat → Int) : Inf (w.setCells g 1 (cs .u8 32 E).toList) g P E z vr F vs := by
  have hl : (cs .u8 32 E).toList.length = 32 := by rw [Array.length_toList, cs_size]
  have o : ∀ j, (j < 1 ∨ 33 ≤ j) → (w.setCells g 1 (cs .u8 32 E).toList).cell? ⟨g, j, none⟩ = w.cell? ⟨g, j, none⟩ := fun j hj => World.cell?_setCells_out g _ 1 w _ (fun _ _ => by rw [hl]; rcases hj with q | q; exact Or.inl q; exact Or.inr (by show 1 + 32 ≤ j; omega))
  refine ⟨(o _ (by omega)).trans h.path, fun j hj => ?_, (o _ (by omega)).trans h.size, (o _ (by omega)).trans h.refs, (o _ (by omega)).trans h.from_, (o _ (by omega)).trans h.signs, fun j hj => by rw [World.frozen?_setCells]; exact h.free j hj⟩
  have := World.cell?_setCells_in g (cs .u8 32 E).toList 1 w (fun i hi => by rw [hl] at hi; rw [h.dig i hi]; rfl) j (by rw [hl]; exact hj)
  rw [this]
  simp [cs]

set_option maxRecDepth 100000 in
set_option maxHeartbeats 1000000 in
theorem tl0_any (g : Nat) (l : ByteArray) (w : World) {P : ByteArray} {D : Nat → Int} {z : Int} {vr : Value} {F : ByteArray} {vs : Value} (h : Inf w g P D z vr F vs) :
    Calls Tryd.prog 24 #[.pointer (some ⟨g, 0, none⟩), .int .i64 0, .string l] w fun e w' => e = .returned (.int .i64 (rpC l hdP)) ∧ Inf w' g (rpS l hdP) D z vr F vs ∧ Below g w w' := by
  have C0 := rdP_any l hdP w
  generalize rpC l hdP = c at C0 ⊢
  generalize rpS l hdP = s at C0 ⊢
  go_enter Tryd.func24, Tryd.ntmps24
  rw [show (⟨#[80, 97, 116, 104, 58, 32]⟩ : ByteArray) = hdP from rfl]
  go_wp2_with fail
  refine C0.mono ?_
  rintro e w1 ⟨rfl, b1⟩
  have I1 := h.below b1 h.lt
  have c0 := I1.path
  have f0 := I1.free 0 (by omega)
  have I2 : Hid (Inf (w1.setCell ⟨g, 0, none⟩ (.string s)) g s D z vr F vs) := I1.setPath s
  have B2 : Hid (Below g w (w1.setCell ⟨g, 0, none⟩ (.string s))) := (b1.mono (Nat.le_of_lt h.lt)).setCell (Nat.le_refl _) _
  clear b1 C0 I1
  go_wp2
  try rw [Exit.noGoto_ret]
  go_ret
  exact ⟨rfl, I2.out, B2.out⟩

set_option maxRecDepth 100000 in
set_option maxHeartbeats 1000000 in
theorem tl1_any (g : Nat) (l : ByteArray) (w : World) (hl : l.size ≤ 281474976710656) {P : ByteArray} {D : Nat → Int} {z : Int} {vr : Value} {F : ByteArray} {vs : Value} (h : Inf w g P D z vr F vs) :
    Calls Tryd.prog 24 #[.pointer (some ⟨g, 0, none⟩), .int .i64 1, .string l] w fun e w' => e = .returned (.int .i64 (rhC l)) ∧ Inf w' g P (rhD l) z vr F vs ∧ Below g w w' := by
  have C0 := rdH_any l w hl
  generalize rhC l = c at C0 ⊢
  generalize rhD l = E at C0 ⊢
  go_enter Tryd.func24, Tryd.ntmps24
  go_wp2_with fail
  refine C0.mono ?_
  rintro e w1 ⟨rfl, b1⟩
  have I1 := h.below b1 h.lt
  have I2 : Hid (Inf (w1.setCells g 1 (cs .u8 32 E).toList) g P E z vr F vs) := I1.setDig E
  have B2 : Hid (Below g w (w1.setCells g 1 (cs .u8 32 E).toList)) := setCells_below g (Nat.le_refl _) _ _ _ _ (b1.mono (Nat.le_of_lt h.lt))
  have HT : Hid (w1.there g 1 32) := I1.there
  have c0 := I1.path
  clear b1 C0 I1
  go_wp2_with (refine wpList_store_mid (by rfl) 23 (.tmp 33) (.tmp 30) (by rfl) g 1 (cs .u8 32 E) (by rfl) (by rfl) (by rw [cs_size]; exact HT.out) (by rw [cs_size]; exact szD32) (cs_all _ _ _) ?_; refine Hid.out ?_)
  unfold Hid
  generalize w1.setCells g 1 (cs .u8 32 E).toList = w2 at I2 B2 ⊢
  go_wp2
  try rw [Exit.noGoto_ret]
  go_ret
  exact ⟨rfl, I2.out, B2.out⟩

set_option maxRecDepth 100000 in
set_option maxHeartbeats 1000000 in
theorem tl2_any (g : Nat) (l : ByteArray) (w : World) (hl : l.size ≤ 281474976710656) {P : ByteArray} {D : Nat → Int} {z : Int} {vr : Value} {F : ByteArray} {vs : Value} (h : Inf w g P D z vr F vs) :
    Calls Tryd.prog 24 #[.pointer (some ⟨g, 0, none⟩), .int .i64 2, .string l] w fun e w' => e = .returned (.int .i64 (rzC l)) ∧ Inf w' g P D (rzV l) vr F vs ∧ Below g w w' := by
  have C0 := rdZ_any l w hl
  generalize rzC l = c at C0 ⊢
  generalize rzV l = q at C0 ⊢
  go_enter Tryd.func24, Tryd.ntmps24
  go_wp2_with fail
  refine C0.mono ?_
  rintro e w1 ⟨rfl, rfl⟩
  have c0 := h.size
  have f0 := h.free 33 (by omega)
  have I2 : Hid (Inf (w1.setCell ⟨g, 33, none⟩ (.int .i64 q)) g P D q vr F vs) := h.setSize q
  have B2 : Hid (Below g w1 (w1.setCell ⟨g, 33, none⟩ (.int .i64 q))) := (Below.refl g w1).setCell (p := ⟨g, 33, none⟩) (Nat.le_refl _) _
  clear C0
  go_wp2
  try rw [Exit.noGoto_ret]
  go_ret
  exact ⟨rfl, I2.out, B2.out⟩

set_option maxRecDepth 100000 in
set_option maxHeartbeats 1000000 in
theorem rdR_empty (w : World) :
    Calls Tryd.prog 39 #[.string hdR] w fun e w' => e = .returned (.tuple #[.slice none 0 0, .int .i64 0]) ∧ w' = w := by
  have C0 := cutQ_any hdR hdR w
  rw [show cpQ hdR hdR = ⟨#[]⟩ from by decide +kernel, show hpQ hdR hdR = true from by decide +kernel] at C0
  go_enter Tryd.func39, Tryd.ntmps39
  rw [show (⟨#[82, 101, 102, 115, 58]⟩ : ByteArray) = hdR from rfl]
  go_wp2_with fail
  refine C0.mono ?_
  rintro e w1 ⟨rfl, rfl⟩
  go_wp2
  go_ret2
  exact ⟨rfl, rfl⟩

set_option maxRecDepth 100000 in
set_option maxHeartbeats 1000000 in
theorem tl3_empty (g : Nat) (w : World) {P : ByteArray} {D : Nat → Int} {z : Int} {vr : Value} {F : ByteArray} {vs : Value} (h : Inf w g P D z vr F vs) :
    Calls Tryd.prog 24 #[.pointer (some ⟨g, 0, none⟩), .int .i64 3, .string hdR] w fun e w' => e = .returned (.int .i64 0) ∧ Inf w' g P D z (.slice none 0 0) F vs ∧ Below g w w' := by
  have C0 := rdR_empty w
  have c0 := h.refs
  have f0 := h.free 34 (by omega)
  have I2 : Hid (Inf (w.setCell ⟨g, 34, none⟩ (.slice none 0 0)) g P D z (.slice none 0 0) F vs) := h.setRefs (.slice none 0 0)
  have B2 : Hid (Below g w (w.setCell ⟨g, 34, none⟩ (.slice none 0 0))) := (Below.refl g w).setCell (p := ⟨g, 34, none⟩) (Nat.le_refl _) _
  go_enter Tryd.func24, Tryd.ntmps24
  go_wp2_with fail
  refine C0.mono ?_
  rintro e w1 ⟨rfl, rfl⟩
  clear C0
  go_wp2
  try rw [Exit.noGoto_ret]
  go_ret
  exact ⟨rfl, I2.out, B2.out⟩

end Go.Proofs.YtgnlkggodchlbabDoor
/- info.readRefs: walked. -/
namespace Go.Proofs.YtgnlkggodchlbabDoor
open Go.RowKit Go.Shelf

def blk1 : ByteArray := ⟨#[32]⟩
def dirR : ByteArray := ⟨#[47, 100, 101, 112, 111, 116, 47, 115, 116, 111, 114, 101, 47]⟩
/-- What stands behind the head and a blank; its pieces. -/
def rrT (l : ByteArray) : ByteArray := cpQ (cpQ l hdR) blk1
def rrN (l : ByteArray) : Nat := (Sq.pcs (rrT l) 1024 0).length
def rrF (l : ByteArray) (j : Nat) : ByteArray := dirR ++ Sq.nth (Sq.pcs (rrT l) 1024 0) j
/-- The error's number of a line of references. -/
def rrC (l : ByteArray) : Int := if hpQ l hdR = true ∧ (cpQ l hdR).size = 0 then 0 else if hpQ l hdR = true ∧ hpQ (cpQ l hdR) blk1 = true then crf (rrF l) (rrN l) else 150
def rrM (l : ByteArray) : Nat := if (cpQ l hdR).size = 0 then 0 else rrN l

theorem mem_sum {L : List ByteArray} {x : ByteArray} (h : x ∈ L) : x.size + 1 ≤ (L.map (fun x => x.size + 1)).sum := by
  induction L with
  | nil => cases h
  | cons a l ih =>
    rw [List.map_cons, List.sum_cons]
    rcases List.mem_cons.1 h with rfl | h
    · omega
    · have := ih h; omega
theorem piece_le (t : ByteArray) (j : Nat) : (Sq.nth (Sq.pcs t 1024 0) j).size ≤ t.size := by
  unfold Sq.nth
  by_cases h : j < (Sq.pcs t 1024 0).length
  · have hm : (Sq.pcs t 1024 0).getD j ByteArray.empty ∈ Sq.pcs t 1024 0 := by
      rw [List.getD_eq_getElem?_getD, List.getElem?_eq_getElem h]; exact List.getElem_mem _
    have := mem_sum hm
    rw [Sq.pcs_sum t 1024 0 (Nat.zero_le _)] at this
    omega
  · rw [List.getD_eq_getElem?_getD, List.getElem?_eq_none (by omega)]
    exact Nat.zero_le _
theorem dirR_size : dirR.size = 13 := rfl

set_option maxRecDepth 100000 in
set_option maxHeartbeats 2000000 in
theorem rdR_more (l : ByteArray) (w : World) (hl : (rrT l).size ≤ 140737488351232) (h1 : hpQ l hdR = true) (h2 : (cpQ l hdR).toList.isEmpty = false) (h3 : hpQ (cpQ l hdR) blk1 = true) :
    Calls Tryd.prog 39 #[.string l] w fun e w' => (∃ v, e = .returned (.tuple #[v, .int .i64 (crf (rrF l) (rrN l))]) ∧ (crf (rrF l) (rrN l) ≠ 0 → v = .slice none 0 0) ∧ (crf (rrF l) (rrN l) = 0 → ∃ c, v = .slice (some ⟨w.heap.size, 0, none⟩) (rrN l) c ∧ rrN l ≤ c ∧ VRow w' w.heap.size (rrN l) (fun j => .string (rrF l j)))) ∧ Below w.heap.size w w' := by
  have C0 := fun W => cutQ_any l hdR W
  have C1 := fun W => cutQ_any (cpQ l hdR) blk1 W
  rw [h1] at C0
  rw [h3] at C1
  have C2 := fun W => Sq.splitn_any (rrT l) W hl
  have hn : rrN l ≤ 1025 := Sq.pcs_len _ _ _
  have hp : 0 < rrN l := Sq.pcs_pos _ _ _
  rw [show (⟨#[32]⟩ : ByteArray) = blk1 from rfl] at C2
  have CK := fun (n c : Nat) (f : Nat → ByteArray) (g : Nat) (W : World) (V : VRow W g n (fun j => .string (f j))) => ckR_any (some ⟨g, 0, none⟩) n c f W (fun i hi => ⟨_, rfl, by have := V.cell i hi; rw [Addr.add_lit, Nat.zero_add]; exact this⟩)
  change ∀ W, Calls Tryd.prog 31 #[.string (cpQ l hdR), .string blk1] W fun e w' => e = .returned (.tuple #[.string (rrT l), .bool true]) ∧ w' = W at C1
  unfold rrN at hn hp ⊢
  have hF : Hid (∀ j, rrF l j = dirR ++ Sq.nth (Sq.pcs (rrT l) 1024 0) j) := fun j => rfl
  have HZ : Hid (∀ j, (Sq.nth (Sq.pcs (rrT l) 1024 0) j).size ≤ 140737488351232) := fun j => Nat.le_trans (piece_le _ _) hl
  generalize rrF l = F at hF ⊢
  generalize Sq.pcs (rrT l) 1024 0 = L at C2 hF hn hp HZ ⊢
  generalize rrT l = t at C1 C2
  generalize cpQ l hdR = r at C0 C1 h2
  clear h1 h3 hl
  go_enter Tryd.func39, Tryd.ntmps39
  rw [show (⟨#[82, 101, 102, 115, 58]⟩ : ByteArray) = hdR from rfl, show (⟨#[32]⟩ : ByteArray) = blk1 from rfl, show (⟨#[47, 100, 101, 112, 111, 116, 47, 115, 116, 111, 114, 101, 47]⟩ : ByteArray) = dirR from rfl]
  go_wp2_with fail
  refine (C0 _).mono ?_
  rintro e w1 ⟨rfl, rfl⟩
  go_wp2_with fail
  refine (C1 _).mono ?_
  rintro e w2 ⟨rfl, rfl⟩
  go_wp2_with fail
  refine (C2 _).mono ?_
  rintro e w3 ⟨⟨c, rfl, hc, _⟩, V, B⟩
  clear C0 C1 C2
  go_wp2
  go_loopw [36] (fun xi wr => ∃ k : Nat, k ≤ L.length ∧ xi = .int .i64 k ∧ Hid (VRow wr w2.heap.size L.length (fun j => .string (if j < k then F j else Sq.nth L j))) ∧ Hid (Below w2.heap.size w2 wr)) (fun i _ => L.length - (intOf i).toNat)
  case atStart => exact ⟨0, Nat.zero_le _, rfl, V.congr (fun j _ => by rw [if_neg (by omega)]), B⟩
  case round =>
    obtain ⟨k, hk, rfl, VK, BK⟩ := hrel
    by_cases hlt : k < L.length
    · have c1 := VK.out.cell k hlt
      have f1 := VK.out.free k hlt
      rw [if_neg (by omega)] at c1
      have hs : Hid (VRow (wr.setCell ⟨w2.heap.size, k, none⟩ (.string (dirR ++ Sq.nth L k))) w2.heap.size L.length (fun j => .string (if j < k + 1 then F j else Sq.nth L j))) := (VK.out.set k _ hlt).congr (fun j hj => by
        by_cases ej : j = k
        · rw [if_pos ej, if_pos (by omega), ej, hF.out]
        · rw [if_neg ej]
          by_cases e2 : j < k
          · rw [if_pos e2, if_pos (by omega)]
          · rw [if_neg e2, if_neg (by omega)])
      have hB2 : Hid (Below w2.heap.size w2 (wr.setCell ⟨w2.heap.size, k, none⟩ (.string (dirR ++ Sq.nth L k)))) := BK.out.setCell (p := ⟨w2.heap.size, k, none⟩) (Nat.le_refl _) _
      have hx := HZ.out k
      have hd := dirR_size
      generalize Sq.nth L k = x at c1 hs hB2 hx
      go_wp2
      go_roundw
      case rel => exact ⟨k + 1, by omega, by go_num, hs, hB2⟩
      case measure => simp [intOf]; omega
    · have VE : VRow wr w2.heap.size L.length (fun j => .string (F j)) := VK.out.congr (fun j hj => by rw [if_pos (by omega)])
      go_wp2_with fail
      refine (CK L.length c F w2.heap.size wr VE).mono ?_
      rintro e w4 ⟨rfl, b4⟩
      have VE4 : Hid (VRow w4 w2.heap.size L.length (fun j => .string (F j))) := VE.below b4 (VE.lt hp)
      have B4 : Hid (Below w2.heap.size w2 w4) := BK.out.trans (b4.mono BK.out.size)
      rcases crf_is F L.length with h0 | h0
      · rw [h0]
        go_wp2
        go_ret2
        exact ⟨⟨_, by rw [h0]; rfl, fun h => absurd h0 h, fun _ => ⟨c, rfl, hc, VE4.out⟩⟩, B4.out⟩
      · have h0' : crf F L.length ≠ 0 := by simpa using h0
        go_wp2
        go_ret2
        exact ⟨⟨_, rfl, fun _ => rfl, fun h => absurd h h0'⟩, B4.out⟩

end Go.Proofs.YtgnlkggodchlbabDoor
/- A slice of texts gathered by append; info.readSign; walked. -/
namespace Go.Proofs.YtgnlkggodchlbabDoor
open Go.RowKit Go.Shelf

/-- v is a slice of these texts, which the call itself made (blocks from B on). -/
def OwnS (w : World) (B : Nat) (v : Value) (L : List ByteArray) : Prop := w.ownsRow B 9 1 v L.length (L.map Value.string)
theorem OwnS.nil (w : World) (B : Nat) : OwnS w B (.slice none 0 0) [] := World.ownsRow_nil _ _ _ _
theorem OwnS.alloc {w : World} {B : Nat} {v : Value} {L : List ByteArray} (h : OwnS w B v L) (o : Obj) : OwnS (w.alloc o) B v L := World.ownsRow.alloc h o
theorem OwnS.shape {w : World} {B : Nat} {v : Value} {L : List ByteArray} (h : OwnS w B v L) : ∃ x c, v = .slice x L.length c ∧ L.length ≤ c ∧ SIs w x L.length (Sq.nth L) := by
  obtain ⟨_, ⟨h1, h2⟩ | ⟨g, cap, cur, hv, hb, hg, hnc, _, _, htake⟩⟩ := h
  · rw [h2]
    exact ⟨none, 0, h1, Nat.le_refl _, fun i hi => absurd hi (by omega)⟩
  · refine ⟨_, cap, hv, hnc, fun j hj => ⟨_, rfl, ?_⟩⟩
    rw [Addr.add_lit, Nat.zero_add, cell_of_row w g j cur 9 (0, 0) hg]
    have h2 : (cur.toList.take (L.length * 1))[j]? = some (Value.string (Sq.nth L j)) := by
      rw [htake]; simp [hj, Sq.nth]
    rw [List.getElem?_take] at h2
    split at h2
    · simpa using h2
    · cases h2
/-- Another world in which the slice's own block is as it was. -/
theorem OwnS.same {w w' : World} {B : Nat} {v : Value} {L : List ByteArray} (h : OwnS w B v L) (e : ∀ g, v.ownBlock = some g → w'.heap[g]? = w.heap[g]?) : OwnS w' B v L := by
  obtain ⟨h0, ⟨h1, h2⟩ | ⟨g, cap, cur, hv, hb, hg, hr⟩⟩ := h
  · exact ⟨h0, Or.inl ⟨h1, h2⟩⟩
  · exact ⟨h0, Or.inr ⟨g, cap, cur, hv, hb, (e g (by rw [hv]; rfl)).trans hg, hr⟩⟩
theorem OwnS.ge {w : World} {B : Nat} {v : Value} {L : List ByteArray} (h : OwnS w B v L) {g : Nat} (e : v.ownBlock = some g) : B ≤ g ∧ g < w.heap.size := by
  obtain ⟨h0, ⟨h1, h2⟩ | ⟨g', cap, cur, hv, hb, hg, hr⟩⟩ := h
  · rw [h1] at e; cases e
  · rw [hv] at e
    cases e
    exact ⟨hb, (Array.getElem?_eq_some_iff.1 hg).1⟩

/-- append(s, y), s the call's own. -/
theorem wpList_append_s (w : World) {ops : Array Oper} {rest : List Oper} {o : Oper} {a : Act} {Q : Exit → Act → World → Prop} (hgd : o.guard = none) (s x : Operand)
    (ho : o.op = .call { callee := .builtin .append, args := #[s, x], argTypes := #[24, 24] })
    (B : Nat) (v : Value) (L : List ByteArray) (hs : a.eval s = v) (hown : OwnS w B v L)
    (g c : Nat) (y : ByteArray) (hx : a.eval x = .slice (some ⟨g, 0, none⟩) 1 c) (hc : w.cell? ⟨g, 0, none⟩ = some (.string y)) (hn : L.length ≤ 8796093022000) (hbase : B ≤ w.heap.size)
    (h : ∀ v' w', OwnS w' B v' (L ++ [y]) → w.grownBy w' v.ownBlock → wpList Tryd.prog ops Q rest (a.put o.dst v') w') : wpList Tryd.prog ops Q (o :: rest) a w := by
  obtain ⟨i0, hi, hz0, hz1, hz2⟩ := info_parts Sq.info_str
  refine wpList_append_own w hgd s x 24 ho B 9 i0 (.string ByteArray.empty) 1 16 Tryd.underlying24 hi hz0 hz1 hz2 rfl (by decide) v L.length _ hs hown ⟨g, 0, none⟩ 1 c [.string y] hx rfl ?_ ?_ (by unfold maxLen; omega) ?_ hbase ?_
  · intro j u hj
    match j, hj with
    | 0, hj => simp at hj; subst hj; simpa [Addr.add] using hc
  · intro u hu; simp at hu; subst hu; rfl
  · omega
  · intro v' w' h1 h2 _
    refine h v' w' ?_ h2
    unfold OwnS
    rw [List.length_append, List.map_append]
    exact h1

theorem grown_below {w w' : World} (r : Option Nat) (b : Below w.heap.size w w') : w.grownBy w' r := ⟨b.os, b.tape, b.output, b.size, fun k hk _ => b.block k hk⟩
theorem grown_trans {w w1 w2 : World} {r : Option Nat} (a : w.grownBy w1 r) (b : w1.grownBy w2 r) : w.grownBy w2 r :=
  ⟨b.os.trans a.os, b.tape.trans a.tape, b.output.trans a.output, Nat.le_trans a.size b.size, fun k hk hne => (b.block k (Nat.lt_of_lt_of_le hk a.size) hne).trans (a.block k hk hne)⟩
theorem grown_alloc (w : World) (o : Obj) (r : Option Nat) : w.grownBy (w.alloc o) r := grown_below r ((Below.refl _ _).alloc (Nat.le_refl _) _)

/-- The signature of a line; the error's number. -/
def rsS (l : ByteArray) : ByteArray := cpQ l hdS
def rsC (L : List ByteArray) (l : ByteArray) : Int := if hpQ l hdS = true then nxC (Sq.nth L) L.length (rsS l) else 150
theorem rsS_size (l : ByteArray) : (rsS l).size ≤ l.size := by
  unfold rsS cpQ
  split
  · rw [ByteArray.size_extract]; omega
  · exact Nat.le_refl _

set_option maxRecDepth 100000 in
set_option maxHeartbeats 2000000 in
theorem rdS_any (B : Nat) (v : Value) (L : List ByteArray) (l : ByteArray) (w : World) (hown : OwnS w B v L) (hB : B ≤ w.heap.size) (hn : L.length ≤ 8796093022000) (hl : l.size ≤ 140737488351232) :
    Calls Tryd.prog 41 #[v, .string l] w fun e w' => (∃ v', e = .returned (.tuple #[v', .int .i64 (rsC L l)]) ∧ (rsC L l = 0 → OwnS w' B v' (L ++ [rsS l])) ∧ (rsC L l ≠ 0 → v' = .slice none 0 0)) ∧ w.grownBy w' v.ownBlock := by
  obtain ⟨x, c, rfl, hc, hS⟩ := hown.shape
  have C0 := fun W => cutQ_any l hdS W
  have HO : Hid (OwnS w B (.slice x L.length c) L) := hown
  cases hp : hpQ l hdS
  · have hC : Hid (rsC L l = 150) := by unfold Hid rsC; rw [hp]; rfl
    rw [hp] at C0
    rw [hC.out]
    go_enter Tryd.func41, Tryd.ntmps41
    rw [show (⟨#[83, 105, 103, 110, 58, 32]⟩ : ByteArray) = hdS from rfl]
    go_wp2_with fail
    refine (C0 _).mono ?_
    rintro e w1 ⟨rfl, rfl⟩
    go_wp2
    go_ret2
    exact ⟨⟨_, rfl, fun h => absurd h (by decide), fun _ => rfl⟩, grown_below _ (Below.refl _ _)⟩
  · have hC : Hid (rsC L l = nxC (Sq.nth L) L.length (rsS l)) := by unfold Hid rsC; rw [hp]; rfl
    have hss := rsS_size l
    have C1 := ckN_any x L.length c (Sq.nth L) (rsS l) w hS (by omega) (by omega)
    rw [hp] at C0
    rw [hC.out]
    change ∀ W, Calls Tryd.prog 31 #[.string l, .string hdS] W fun e w' => e = .returned (.tuple #[.string (rsS l), .bool true]) ∧ w' = W at C0
    clear hown hS hp hss
    generalize rsS l = s at C0 C1 ⊢
    by_cases h0 : nxC (Sq.nth L) L.length s = 0
    · rw [h0] at C1 ⊢
      go_enter Tryd.func41, Tryd.ntmps41
      rw [show (⟨#[83, 105, 103, 110, 58, 32]⟩ : ByteArray) = hdS from rfl]
      go_wp2_with fail
      refine (C0 _).mono ?_
      rintro e w1 ⟨rfl, rfl⟩
      go_wp2_with fail
      refine C1.mono ?_
      rintro e w2 ⟨rfl, b2⟩
      have O2 : Hid (OwnS (w2.alloc (.cells #[.string s] 9)) B (.slice x L.length c) L) := (HO.out.same (fun g hg => b2.block g (HO.out.ge hg).2)).alloc _
      have hB2 : Hid (B ≤ w2.heap.size) := Nat.le_trans hB b2.size
      clear C0 C1
      go_wp2_with (refine wpList_append_s _ (by rfl) (.tmp 22) (.tmp 24) (by rfl) B (.slice x L.length c) L (by rfl) O2.out w2.heap.size 1 s (by rfl) (by rw [World.cell?_alloc_new]; rfl) hn (by rw [World.size_alloc]; have := hB2.out; omega) ?_; intro v' w5 O5 G5; refine Hid.out ?_)
      unfold Hid
      go_wp2
      go_ret2
      exact ⟨⟨_, rfl, fun _ => O5, fun h => absurd rfl h⟩, grown_trans (grown_trans (grown_below _ b2) (grown_alloc _ _ _)) G5⟩
    · have h0' : (nxC (Sq.nth L) L.length s != 0) = true := by rw [bne_iff_ne]; exact h0
      generalize nxC (Sq.nth L) L.length s = d at C1 h0 h0' ⊢
      go_enter Tryd.func41, Tryd.ntmps41
      rw [show (⟨#[83, 105, 103, 110, 58, 32]⟩ : ByteArray) = hdS from rfl]
      go_wp2_with fail
      refine (C0 _).mono ?_
      rintro e w1 ⟨rfl, rfl⟩
      go_wp2_with fail
      refine C1.mono ?_
      rintro e w2 ⟨rfl, b2⟩
      clear C0 C1
      go_wp2
      go_ret2
      exact ⟨⟨_, rfl, fun h => absurd h h0, fun _ => rfl⟩, grown_below _ b2⟩

end Go.Proofs.YtgnlkggodchlbabDoor
/- info.readRefs, all; takeLine at the later lines; walked. -/
namespace Go.Proofs.YtgnlkggodchlbabDoor
open Go.RowKit Go.Shelf

/-- The references of a line. -/
def rrL (l : ByteArray) : List ByteArray := if (cpQ l hdR).size = 0 then [] else (Sq.pcs (rrT l) 1024 0).map (fun x => dirR ++ x)
/-- v is a slice of these texts in a block from B on, or nil. -/
def OwnR (w : World) (B : Nat) (v : Value) (R : List ByteArray) : Prop := (v = .slice none 0 0 ∧ R = []) ∨ ∃ b c, v = .slice (some ⟨b, 0, none⟩) R.length c ∧ R.length ≤ c ∧ B ≤ b ∧ 0 < R.length ∧ VRow w b R.length (fun j => .string (Sq.nth R j))
theorem OwnR.same {w w' : World} {B : Nat} {v : Value} {R : List ByteArray} (h : OwnR w B v R) (e : ∀ g, v.ownBlock = some g → w'.heap[g]? = w.heap[g]?) : OwnR w' B v R := by
  rcases h with h | ⟨b, c, hv, h1, h2, h3, h4⟩
  · exact Or.inl h
  · exact Or.inr ⟨b, c, hv, h1, h2, h3, h4.same (e b (by rw [hv]; rfl))⟩
theorem OwnR.ge {w : World} {B : Nat} {v : Value} {R : List ByteArray} (h : OwnR w B v R) {g : Nat} (e : v.ownBlock = some g) : B ≤ g ∧ g < w.heap.size := by
  rcases h with ⟨h, _⟩ | ⟨b, c, hv, h1, h2, h3, h4⟩
  · rw [h] at e; cases e
  · rw [hv] at e
    cases e
    exact ⟨h2, h4.lt h3⟩
theorem OwnR.mono {w : World} {B B' : Nat} {v : Value} {R : List ByteArray} (h : OwnR w B v R) (e : B' ≤ B) : OwnR w B' v R := by
  rcases h with h | ⟨b, c, hv, h1, h2, h3, h4⟩
  · exact Or.inl h
  · exact Or.inr ⟨b, c, hv, h1, Nat.le_trans e h2, h3, h4⟩
theorem OwnR.shape {w : World} {B : Nat} {v : Value} {R : List ByteArray} (h : OwnR w B v R) : ∃ x c, v = .slice x R.length c ∧ R.length ≤ c ∧ SIs w x R.length (Sq.nth R) := by
  rcases h with ⟨h, rfl⟩ | ⟨b, c, hv, h1, h2, h3, h4⟩
  · exact ⟨none, 0, h, Nat.le_refl _, fun i hi => absurd hi (by simp)⟩
  · exact ⟨_, c, hv, h1, fun j hj => ⟨_, rfl, by rw [Addr.add_lit, Nat.zero_add]; exact h4.cell j hj⟩⟩
theorem OwnR.slice {w : World} {B : Nat} {v : Value} {R : List ByteArray} {c : Int} (h1 : c ≠ 0 → v = .slice none 0 0) (h2 : c = 0 → OwnR w B v R) : ∃ x n m, v = .slice x n m := by
  by_cases h : c = 0
  · obtain ⟨x, m, hv, _⟩ := (h2 h).shape
    exact ⟨x, _, m, hv⟩
  · exact ⟨_, _, _, h1 h⟩
theorem OwnS.slice {w : World} {B : Nat} {v : Value} {R : List ByteArray} {c : Int} (h1 : c ≠ 0 → v = .slice none 0 0) (h2 : c = 0 → OwnS w B v R) : ∃ x n m, v = .slice x n m := by
  by_cases h : c = 0
  · obtain ⟨x, m, hv, _⟩ := (h2 h).shape
    exact ⟨x, _, m, hv⟩
  · exact ⟨_, _, _, h1 h⟩
theorem nth_map (L : List ByteArray) (j : Nat) (h : j < L.length) : Sq.nth (L.map (fun x => dirR ++ x)) j = dirR ++ Sq.nth L j := by
  unfold Sq.nth
  simp [List.getD, h]
theorem empty_size (r : ByteArray) : r.toList.isEmpty = true ↔ r.size = 0 := empty_iff r

set_option maxRecDepth 100000 in
set_option maxHeartbeats 2000000 in
theorem rdR_any (l : ByteArray) (w : World) (hl : l.size ≤ 140737488351232) :
    Calls Tryd.prog 39 #[.string l] w fun e w' => (∃ v, e = .returned (.tuple #[v, .int .i64 (rrC l)]) ∧ (rrC l ≠ 0 → v = .slice none 0 0) ∧ (rrC l = 0 → OwnR w' w.heap.size v (rrL l))) ∧ Below w.heap.size w w' := by
  have C0 := fun W => cutQ_any l hdR W
  cases hp : hpQ l hdR
  · have hC : Hid (rrC l = 150) := by unfold Hid rrC; simp [hp]
    rw [hC.out]
    rw [hp] at C0
    have C1 := fun W => cutQ_any (cpQ l hdR) blk1 W
    generalize cpQ (cpQ l hdR) blk1 = r1 at C1
    generalize hpQ (cpQ l hdR) blk1 = q1 at C1
    generalize cpQ l hdR = r at C0 C1
    go_enter Tryd.func39, Tryd.ntmps39
    rw [show (⟨#[82, 101, 102, 115, 58]⟩ : ByteArray) = hdR from rfl, show (⟨#[32]⟩ : ByteArray) = blk1 from rfl]
    go_wp2_with fail
    refine (C0 _).mono ?_
    rintro e w1 ⟨rfl, rfl⟩
    go_wp2_with fail
    refine (C1 _).mono ?_
    rintro e w2 ⟨rfl, rfl⟩
    go_wp2
    go_ret2
    exact ⟨⟨_, rfl, fun _ => rfl, fun h => absurd h (by decide)⟩, Below.refl _ _⟩
  · by_cases hz : (cpQ l hdR).size = 0
    · have hC : Hid (rrC l = 0) := by unfold Hid rrC; simp [hp, hz]
      have hR : Hid (rrL l = []) := by unfold Hid rrL; rw [if_pos hz]
      rw [hC.out, hR.out]
      have he : (cpQ l hdR).toList.isEmpty = true := (empty_iff _).2 hz
      rw [hp] at C0
      generalize cpQ l hdR = r at C0 he
      clear hz
      go_enter Tryd.func39, Tryd.ntmps39
      rw [show (⟨#[82, 101, 102, 115, 58]⟩ : ByteArray) = hdR from rfl]
      go_wp2_with fail
      refine (C0 _).mono ?_
      rintro e w1 ⟨rfl, rfl⟩
      go_wp2
      go_ret2
      exact ⟨⟨_, rfl, fun h => absurd rfl h, fun _ => Or.inl ⟨rfl, rfl⟩⟩, Below.refl _ _⟩
    · have he : (cpQ l hdR).toList.isEmpty = false := by
        cases h : (cpQ l hdR).toList.isEmpty
        · rfl
        · exact absurd ((empty_iff _).1 h) hz
      cases hq : hpQ (cpQ l hdR) blk1
      · have hC : Hid (rrC l = 150) := by unfold Hid rrC; simp [hp, hz, hq]
        rw [hC.out]
        rw [hp] at C0
        have C1 := fun W => cutQ_any (cpQ l hdR) blk1 W
        rw [hq] at C1
        generalize cpQ (cpQ l hdR) blk1 = r1 at C1
        generalize cpQ l hdR = r at C0 C1 he
        clear hz
        go_enter Tryd.func39, Tryd.ntmps39
        rw [show (⟨#[82, 101, 102, 115, 58]⟩ : ByteArray) = hdR from rfl, show (⟨#[32]⟩ : ByteArray) = blk1 from rfl]
        go_wp2_with fail
        refine (C0 _).mono ?_
        rintro e w1 ⟨rfl, rfl⟩
        go_wp2_with fail
        refine (C1 _).mono ?_
        rintro e w2 ⟨rfl, rfl⟩
        go_wp2
        go_ret2
        exact ⟨⟨_, rfl, fun _ => rfl, fun h => absurd h (by decide)⟩, Below.refl _ _⟩
      · have hC : rrC l = crf (rrF l) (rrN l) := by unfold rrC; simp [hp, hz, hq]
        have hlt : (rrT l).size ≤ l.size := by
          unfold rrT
          rw [cpQ_yes hq, cpQ_yes hp, ByteArray.size_extract, ByteArray.size_extract]
          omega
        refine (rdR_more l w (by omega) hp he hq).mono ?_
        rintro e w' ⟨⟨v, rfl, h1, h2⟩, b⟩
        rw [hC]
        refine ⟨⟨v, rfl, h1, fun h => ?_⟩, b⟩
        obtain ⟨c, hv, hc, V⟩ := h2 h
        have hRL : rrL l = (Sq.pcs (rrT l) 1024 0).map (fun x => dirR ++ x) := by unfold rrL; rw [if_neg hz]
        have hlen : (rrL l).length = rrN l := by rw [hRL, List.length_map]; rfl
        refine Or.inr ⟨w.heap.size, c, by rw [hlen]; exact hv, by rw [hlen]; exact hc, Nat.le_refl _, by rw [hlen]; exact Sq.pcs_pos _ _ _, ?_⟩
        rw [hlen]
        refine V.congr (fun j hj => ?_)
        rw [hRL, nth_map _ _ hj]
        rfl

end Go.Proofs.YtgnlkggodchlbabDoor
/- info.takeLine at the later lines; walked. -/
namespace Go.Proofs.YtgnlkggodchlbabDoor
open Go.RowKit Go.Shelf

/-- What lies below B is as it was but for block g. -/
structure Kept (B g : Nat) (w w' : World) : Prop where
  os : w'.os = w.os
  tape : w'.tape = w.tape
  output : w'.output = w.output
  size : w.heap.size ≤ w'.heap.size
  block : ∀ k, k < B → k ≠ g → w'.heap[k]? = w.heap[k]?
theorem Kept.below {B g : Nat} {w w' : World} (h : Kept B g w w') (hg : g ≤ B) : Below g w w' := ⟨h.os, h.tape, h.output, h.size, fun k hk => h.block k (Nat.lt_of_lt_of_le hk hg) (Nat.ne_of_lt hk)⟩
theorem Kept.of_grown {B g : Nat} {w w1 : World} {r : Option Nat} (h : w.grownBy w1 r) (hr : ∀ k, r = some k → B ≤ k) (hB : B ≤ w.heap.size) : Kept B g w w1 :=
  ⟨h.os, h.tape, h.output, h.size, fun k hk _ => h.block k (Nat.lt_of_lt_of_le hk hB) (fun e => by have := hr k e.symm; omega)⟩
theorem Kept.set {B g : Nat} {w w1 : World} (h : Kept B g w w1) (i : Nat) (v : Value) : Kept B g w (w1.setCell ⟨g, i, none⟩ v) := by
  have b := (Below.refl 0 w1).setCell (p := ⟨g, i, none⟩) (Nat.zero_le _) v
  refine ⟨b.os.trans h.os, b.tape.trans h.tape, b.output.trans h.output, by rw [World.size_setCell]; exact h.size, fun k hk hne => ?_⟩
  rw [← h.block k hk hne]
  exact Below.heap_setCell w1 ⟨g, i, none⟩ v k hne

set_option maxRecDepth 100000 in
set_option maxHeartbeats 1000000 in
theorem tl3_any (g : Nat) (l : ByteArray) (w : World) (hl : l.size ≤ 140737488351232) {P : ByteArray} {D : Nat → Int} {z : Int} {vr : Value} {F : ByteArray} {vs : Value} (h : Inf w g P D z vr F vs) :
    Calls Tryd.prog 24 #[.pointer (some ⟨g, 0, none⟩), .int .i64 3, .string l] w fun e w' => e = .returned (.int .i64 (rrC l)) ∧ (rrC l = 0 → ∃ v, Inf w' g P D z v F vs ∧ OwnR w' w.heap.size v (rrL l)) ∧ Kept w.heap.size g w w' := by
  have C0 := rdR_any l w hl
  generalize rrC l = c at C0 ⊢
  generalize rrL l = R at C0 ⊢
  go_enter Tryd.func24, Tryd.ntmps24
  go_wp2_with fail
  refine C0.mono ?_
  rintro e w1 ⟨⟨v, rfl, hv0, hv⟩, b1⟩
  obtain ⟨x, n, m, rfl⟩ := OwnR.slice hv0 hv
  have I1 := h.below b1 h.lt
  have c0 := I1.refs
  have f0 := I1.free 34 (by omega)
  have hg := h.lt
  have I2 : Hid (Inf (w1.setCell ⟨g, 34, none⟩ (.slice x n m)) g P D z (.slice x n m) F vs) := I1.setRefs (.slice x n m)
  have K2 : Hid (Kept w.heap.size g w (w1.setCell ⟨g, 34, none⟩ (.slice x n m))) := (Kept.of_grown (grown_below none b1) (fun k hk => by cases hk) (Nat.le_refl _)).set 34 _
  have O2 : Hid (c = 0 → OwnR (w1.setCell ⟨g, 34, none⟩ (.slice x n m)) w.heap.size (.slice x n m) R) := fun hc => (hv hc).same (fun b hb => Below.heap_setCell w1 ⟨g, 34, none⟩ (.slice x n m) b (fun e => by have := (hv hc).ge hb; have e' : b = g := e; omega))
  clear b1 C0 I1 hv hv0
  go_wp2
  try rw [Exit.noGoto_ret]
  go_ret
  exact ⟨rfl, fun hc => ⟨_, I2.out, O2.out hc⟩, K2.out⟩

set_option maxRecDepth 100000 in
set_option maxHeartbeats 1000000 in
theorem tl4_any (g : Nat) (l : ByteArray) (w : World) (hp : hpQ l hdF = true) {P : ByteArray} {D : Nat → Int} {z : Int} {vr : Value} {F : ByteArray} {vs : Value} (h : Inf w g P D z vr F vs) :
    Calls Tryd.prog 24 #[.pointer (some ⟨g, 0, none⟩), .int .i64 4, .string l] w fun e w' => e = .returned (.int .i64 (rpC l hdF)) ∧ Inf w' g P D z vr (rpS l hdF) vs ∧ Kept w.heap.size g w w' := by
  have CH := fun W => hasPS_any l hdF W
  rw [hp] at CH
  have C0 := fun W => rdP_any l hdF W
  generalize rpC l hdF = c at C0 ⊢
  generalize rpS l hdF = s at C0 ⊢
  clear hp
  go_enter Tryd.func24, Tryd.ntmps24
  rw [show (⟨#[70, 114, 111, 109, 58, 32]⟩ : ByteArray) = hdF from rfl]
  go_wp2_with fail
  refine (CH _).mono ?_
  rintro e w0 ⟨rfl, rfl⟩
  go_wp2_with fail
  refine (C0 _).mono ?_
  rintro e w1 ⟨rfl, b1⟩
  have I1 := h.below b1 h.lt
  have c0 := I1.from_
  have f0 := I1.free 35 (by omega)
  have I2 : Hid (Inf (w1.setCell ⟨g, 35, none⟩ (.string s)) g P D z vr s vs) := I1.setFrom s
  have K2 : Hid (Kept w0.heap.size g w0 (w1.setCell ⟨g, 35, none⟩ (.string s))) := (Kept.of_grown (grown_below none b1) (fun k hk => by cases hk) (Nat.le_refl _)).set 35 _
  clear b1 C0 I1 CH
  go_wp2
  try rw [Exit.noGoto_ret]
  go_ret
  exact ⟨rfl, I2.out, K2.out⟩

set_option maxRecDepth 100000 in
set_option maxHeartbeats 2000000 in
theorem tlS_any (B g : Nat) (n : Nat) (L : List ByteArray) (l : ByteArray) (w : World) (hn : 5 ≤ n ∨ n = 4 ∧ hpQ l hdF = false) (hn2 : n ≤ 140737488355328) (hL : L.length ≤ 8796093022000) (hl : l.size ≤ 140737488351232) {P : ByteArray} {D : Nat → Int} {z : Int} {vr : Value} {F : ByteArray} {vs : Value} (h : Inf w g P D z vr F vs) (ho : OwnS w B vs L) (hg : g < B) (hB : B ≤ w.heap.size) :
    Calls Tryd.prog 24 #[.pointer (some ⟨g, 0, none⟩), .int .i64 n, .string l] w fun e w' => e = .returned (.int .i64 (rsC L l)) ∧ (rsC L l = 0 → ∃ v, Inf w' g P D z vr F v ∧ OwnS w' B v (L ++ [rsS l])) ∧ Kept B g w w' := by
  have C0 := rdS_any B vs L l w ho hB hL hl
  have hvr : ∀ k, vs.ownBlock = some k → B ≤ k := fun k hk => (ho.ge hk).1
  generalize rsC L l = c at C0 ⊢
  generalize L ++ [rsS l] = L' at C0 ⊢
  have c0 := h.signs
  have FIN : Hid (∀ (v' : Value) (w1 : World), (c = 0 → OwnS w1 B v' L') → w.grownBy w1 vs.ownBlock → Inf w1 g P D z vr F vs ∧ (c = 0 → ∃ v, Inf (w1.setCell ⟨g, 36, none⟩ v') g P D z vr F v ∧ OwnS (w1.setCell ⟨g, 36, none⟩ v') B v L') ∧ Kept B g w (w1.setCell ⟨g, 36, none⟩ v')) := by
    intro v' w1 hv G
    have I1 : Inf w1 g P D z vr F vs := h.same (G.block g h.lt (fun e => by have := hvr g e.symm; omega))
    refine ⟨I1, fun hc => ⟨v', I1.setSigns v', (hv hc).same (fun b hb => Below.heap_setCell w1 ⟨g, 36, none⟩ v' b (fun e => by have := (hv hc).ge hb; have e' : b = g := e; omega))⟩, (Kept.of_grown G hvr hB).set 36 _⟩
  rcases hn with hn | ⟨rfl, hp⟩
  · have n0 : ¬ (n : Int) = 0 := by omega
    have n1 : ¬ (n : Int) = 1 := by omega
    have n2 : ¬ (n : Int) = 2 := by omega
    have n3 : ¬ (n : Int) = 3 := by omega
    have n4 : ¬ (n : Int) = 4 := by omega
    go_enter Tryd.func24, Tryd.ntmps24
    go_wp2_with fail
    refine C0.mono ?_
    rintro e w1 ⟨⟨v, rfl, hv, hv0⟩, G⟩
    obtain ⟨y, m, o, rfl⟩ := OwnS.slice hv0 hv
    obtain ⟨I1, R1, K1⟩ := FIN.out _ w1 hv G
    have R2 : Hid (c = 0 → ∃ v_1, Inf (w1.setCell ⟨g, 36, none⟩ (.slice y m o)) g P D z vr F v_1 ∧ OwnS (w1.setCell ⟨g, 36, none⟩ (.slice y m o)) B v_1 L') := R1
    have c1 := I1.signs
    have f1 := I1.free 36 (by omega)
    clear C0 FIN R1 hv
    go_wp2
    try rw [Exit.noGoto_ret]
    go_ret
    exact ⟨rfl, R2.out, K1⟩
  · have CH := fun W => hasPS_any l hdF W
    rw [hp] at CH
    go_enter Tryd.func24, Tryd.ntmps24
    rw [show (⟨#[70, 114, 111, 109, 58, 32]⟩ : ByteArray) = hdF from rfl]
    go_wp2_with fail
    refine (CH _).mono ?_
    rintro e w0 ⟨rfl, rfl⟩
    go_wp2_with fail
    refine C0.mono ?_
    rintro e w1 ⟨⟨v, rfl, hv, hv0⟩, G⟩
    obtain ⟨y, m, o, rfl⟩ := OwnS.slice hv0 hv
    obtain ⟨I1, R1, K1⟩ := FIN.out _ w1 hv G
    have R2 : Hid (c = 0 → ∃ v_1, Inf (w1.setCell ⟨g, 36, none⟩ (.slice y m o)) g P D z vr F v_1 ∧ OwnS (w1.setCell ⟨g, 36, none⟩ (.slice y m o)) B v_1 L') := R1
    have c1 := I1.signs
    have f1 := I1.free 36 (by omega)
    clear C0 FIN R1 hv CH
    go_wp2
    try rw [Exit.noGoto_ret]
    go_ret
    exact ⟨rfl, R2.out, K1⟩

end Go.Proofs.YtgnlkggodchlbabDoor
/- info.takeLine at any line: one theorem. -/
namespace Go.Proofs.YtgnlkggodchlbabDoor
open Go.RowKit Go.Shelf

/-- An info as data. -/
structure IS where
  P : ByteArray
  D : Nat → Int
  z : Int
  R : List ByteArray
  F : ByteArray
  S : List ByteArray
def IS.zero : IS := ⟨⟨#[]⟩, fun _ => 0, 0, [], ⟨#[]⟩, []⟩
/-- Line n taken: the error's number, and what is told then. -/
def tkC (s : IS) (n : Nat) (l : ByteArray) : Int := if n = 0 then rpC l hdP else if n = 1 then rhC l else if n = 2 then rzC l else if n = 3 then rrC l else if n = 4 ∧ hpQ l hdF = true then rpC l hdF else rsC s.S l
def tkS (s : IS) (n : Nat) (l : ByteArray) : IS := if n = 0 then { s with P := rpS l hdP } else if n = 1 then { s with D := rhD l } else if n = 2 then { s with z := rzV l } else if n = 3 then { s with R := rrL l } else if n = 4 ∧ hpQ l hdF = true then { s with F := rpS l hdF } else { s with S := s.S ++ [rsS l] }

/-- Block g holds the info that n lines told. -/
structure IM (w : World) (g n : Nat) (s : IS) (vr vs : Value) (B : Nat) : Prop where
  inf : Inf w g s.P s.D s.z vr s.F vs
  refs : OwnR w (g + 1) vr s.R
  rb : ∀ k, vr.ownBlock = some k → k < B
  signs : OwnS w B vs s.S
  hg : g < B
  hB : B ≤ w.heap.size
  e1 : n ≤ 3 → vr = .slice none 0 0 ∧ s.R = []
  e2 : n ≤ 4 → vs = .slice none 0 0 ∧ s.S = []
def IMx (w : World) (g n : Nat) (s : IS) : Prop := ∃ vr vs B, IM w g n s vr vs B

theorem IM.start {w : World} {g : Nat} (h : Inf w g ⟨#[]⟩ (fun _ => 0) 0 (.slice none 0 0) ⟨#[]⟩ (.slice none 0 0)) : IMx w g 0 IS.zero :=
  ⟨_, _, w.heap.size, h, Or.inl ⟨rfl, rfl⟩, fun k hk => (by cases hk), OwnS.nil _ _, h.lt, Nat.le_refl _, fun _ => ⟨rfl, rfl⟩, fun _ => ⟨rfl, rfl⟩⟩
/-- Another world in which nothing below its end has changed. -/
theorem IMx.below {w w' : World} {g n : Nat} {s : IS} (h : IMx w g n s) (b : Below w.heap.size w w') : IMx w' g n s := by
  obtain ⟨vr, vs, B, h⟩ := h
  exact ⟨vr, vs, B, h.inf.below b h.inf.lt, h.refs.same (fun k hk => b.block k (h.refs.ge hk).2), h.rb, h.signs.same (fun k hk => b.block k (h.signs.ge hk).2), h.hg, Nat.le_trans h.hB b.size, h.e1, h.e2⟩
theorem IMx.lt {w : World} {g n : Nat} {s : IS} (h : IMx w g n s) : g < w.heap.size := by
  obtain ⟨vr, vs, B, h⟩ := h
  exact h.inf.lt

/-- An early line: no references, no signatures yet. -/
theorem IM.early {w w' : World} {g n : Nat} {s s' : IS} {vr vs : Value} {B : Nat} (h : IM w g n s vr vs B) (hn : n ≤ 2) (h' : Inf w' g s'.P s'.D s'.z vr s'.F vs) (hR : s'.R = s.R) (hS : s'.S = s.S) : IMx w' g (n + 1) s' := by
  obtain ⟨r1, r2⟩ := h.e1 (by omega)
  obtain ⟨q1, q2⟩ := h.e2 (by omega)
  refine ⟨vr, vs, w'.heap.size, h', Or.inl ⟨r1, by rw [hR, r2]⟩, fun k hk => (by rw [r1] at hk; cases hk), by rw [q1, hS, q2]; exact OwnS.nil _ _, h'.lt, Nat.le_refl _, fun _ => ⟨r1, by rw [hR, r2]⟩, fun _ => ⟨q1, by rw [hS, q2]⟩⟩

theorem take_any (g n : Nat) (s : IS) (l : ByteArray) (w : World) (h : IMx w g n s) (hl : l.size ≤ 140737488351232) (hS : s.S.length ≤ 8796093022000) (hn2 : n ≤ 140737488355328) :
    Calls Tryd.prog 24 #[.pointer (some ⟨g, 0, none⟩), .int .i64 n, .string l] w fun e w' => e = .returned (.int .i64 (tkC s n l)) ∧ (tkC s n l = 0 → IMx w' g (n + 1) (tkS s n l)) ∧ Below g w w' := by
  obtain ⟨vr, vs, B, h⟩ := h
  have hgl := h.inf.lt
  by_cases h0 : n = 0
  · subst h0
    refine (tl0_any g l w h.inf).mono ?_
    rintro e w' ⟨rfl, I, b⟩
    exact ⟨rfl, fun _ => h.early (by omega) (s' := tkS s 0 l) I rfl rfl, b⟩
  by_cases h1 : n = 1
  · subst h1
    refine (tl1_any g l w (by omega) h.inf).mono ?_
    rintro e w' ⟨rfl, I, b⟩
    exact ⟨rfl, fun _ => h.early (by omega) (s' := tkS s 1 l) I rfl rfl, b⟩
  by_cases h2 : n = 2
  · subst h2
    refine (tl2_any g l w (by omega) h.inf).mono ?_
    rintro e w' ⟨rfl, I, b⟩
    exact ⟨rfl, fun _ => h.early (by omega) (s' := tkS s 2 l) I rfl rfl, b⟩
  by_cases h3 : n = 3
  · subst h3
    obtain ⟨q1, q2⟩ := h.e2 (by omega)
    refine (tl3_any g l w hl h.inf).mono ?_
    rintro e w' ⟨rfl, I, K⟩
    refine ⟨rfl, fun hc => ?_, K.below (Nat.le_of_lt hgl)⟩
    obtain ⟨v, I1, O1⟩ := I hc
    exact ⟨v, vs, w'.heap.size, I1, O1.mono hgl, fun k hk => (O1.ge hk).2, by rw [q1]; show OwnS _ _ _ s.S; rw [q2]; exact OwnS.nil _ _, I1.lt, Nat.le_refl _, fun h => absurd h (by omega), fun _ => ⟨q1, q2⟩⟩
  by_cases h4 : n = 4 ∧ hpQ l hdF = true
  · obtain ⟨rfl, hp⟩ := h4
    obtain ⟨q1, q2⟩ := h.e2 (by omega)
    have ec : tkC s 4 l = rpC l hdF := by unfold tkC; simp [hp]
    have es : tkS s 4 l = { s with F := rpS l hdF } := by unfold tkS; simp [hp]
    rw [ec, es]
    refine (tl4_any g l w hp h.inf).mono ?_
    rintro e w' ⟨rfl, I1, K⟩
    have O1 : OwnR w' (g + 1) vr s.R := h.refs.same (fun k hk => K.block k (h.refs.ge hk).2 (by have := (h.refs.ge hk).1; omega))
    exact ⟨rfl, fun hc => ⟨vr, vs, w'.heap.size, I1, O1, fun k hk => (O1.ge hk).2, by rw [q1]; show OwnS _ _ _ s.S; rw [q2]; exact OwnS.nil _ _, I1.lt, Nat.le_refl _, fun h => absurd h (by omega), fun h => absurd h (by omega)⟩, K.below (Nat.le_of_lt hgl)⟩
  · have ec : tkC s n l = rsC s.S l := by unfold tkC; rw [if_neg h0, if_neg h1, if_neg h2, if_neg h3, if_neg h4]
    have es : tkS s n l = { s with S := s.S ++ [rsS l] } := by unfold tkS; rw [if_neg h0, if_neg h1, if_neg h2, if_neg h3, if_neg h4]
    rw [ec, es]
    refine (tlS_any B g n s.S l w ?_ hn2 hS hl h.inf h.signs h.hg h.hB).mono ?_
    · by_cases h5 : n = 4
      · right
        refine ⟨h5, ?_⟩
        cases hp : hpQ l hdF
        · rfl
        · exact absurd ⟨h5, hp⟩ h4
      · left; omega
    rintro e w' ⟨rfl, I, K⟩
    refine ⟨rfl, fun hc => ?_, K.below (Nat.le_of_lt h.hg)⟩
    obtain ⟨v, I1, O1⟩ := I hc
    exact ⟨vr, v, B, I1, h.refs.same (fun k hk => K.block k (h.rb k hk) (by have := (h.refs.ge hk).1; omega)), h.rb, O1, h.hg, Nat.le_trans h.hB K.size, fun h => absurd h (by omega), fun h => absurd h (by omega)⟩

end Go.Proofs.YtgnlkggodchlbabDoor
