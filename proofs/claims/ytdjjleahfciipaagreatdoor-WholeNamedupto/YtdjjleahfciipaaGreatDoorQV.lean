/- Gathered: WnW. -/
import Derived.Test.YtdjjleahfciipaaGreatDoorQy
import Derived.Test.YtdjjleahfciipaaGreatDoorQH
import Derived.Test.YtdjjleahfciipaaGreatDoorQU
/- WholeNamed, walked (own text of the verifier). -/
namespace Go.Proofs.YtdjjleahfciipaaGreatDoor
open Go.RowKit Go.Shelf
namespace Sc

theorem wpList_load_arrH {P : Program} {ops : Array Oper} {rest : List Oper} {o : Oper} {a : Act} {w : World} {Q : Exit → Act → World → Prop} {k : IntKind} {n e : Nat} {f : Nat → Int} (hgd : Region.wanted o (yielded ops a.tmps) = true) (ty : TypeId) (x : Operand) (ho : o.op = .load ty x)
    (g : Nat) (hx : a.eval x = .pointer (some ⟨g, 0, none⟩)) (h : Row k w g n f) (hu : P.underlying ty = some (.array n e)) (hi : (P.info? ty).map (·.size) = some n)
    (hK : wpList P ops Q rest (a.put o.dst (.agg (cs k n f))) w) : wpList P ops Q (o :: rest) a w :=
  wpList_step fun K hK' => by
    rw [if_pos hgd]
    exact wp_load_mid ty x ho g 0 hx (cs k n f).toList (.array n e) h.range hu rfl (by rw [hi]; simp [cs_size]) (hK' _ _ (by simpa using hK))
theorem ser_facts {T : Tr} (hS : smT T) (hW : wfT T) : ((serT T).2 ≠ 0 ∧ (serT T).1 = ⟨#[]⟩) ∨ ((serT T).2 = 0 ∧ 0 < (serT T).1.size ∧ (serT T).1.size ≤ 1048600) := by
  by_cases h : (ckT T).2 = 0
  · refine .inr ?_
    have e : serT T = (NB.ba (arcT T), 0) := by unfold serT; rw [if_neg (by simpa using h)]
    have h2 := (arc_le hS hW h).2
    have h3 : (NB.ba (arcT T)).size = fwS (wMagic :: wdT T) := by rw [NB.ba_size]; exact frm_len _
    have h4 : 8 + wMagic.size + padN wMagic.size = 24 := by decide +kernel
    have h5 : fwS (wMagic :: wdT T) = 8 + wMagic.size + padN wMagic.size + fwS (wdT T) := rfl
    rw [e]
    exact ⟨rfl, by show 0 < (NB.ba (arcT T)).size; omega, by show (NB.ba (arcT T)).size ≤ _; omega⟩
  · refine .inl ?_
    have e : serT T = (⟨#[]⟩, (ckT T).2) := by unfold serT; rw [if_pos h]
    rw [e]
    exact ⟨h, rfl⟩
theorem mk_facts (F : Nat → Int) (l : ByteArray) : (mkC (fun _ => ⟨#[]⟩) 0 l = 0 ∧ labOk l) ∨ (mkC (fun _ => ⟨#[]⟩) 0 l = 130 ∧ iffy (mkC (fun _ => ⟨#[]⟩) 0 l) (mkS (fun _ => ⟨#[]⟩) 0 F l) = ⟨#[]⟩) := by
  rcases lab_cases l with ⟨h1, h2⟩ | ⟨h1, h2⟩
  · refine .inl ⟨?_, h1⟩
    rw [mkC_refs h2]
    unfold crf
    rw [if_neg (by omega), if_pos (by unfold refsOk; intro i hi; omega)]
  · have e := mkC_lab (f := fun _ => (⟨#[]⟩ : ByteArray)) (n := 0) h2
    exact .inr ⟨e, by rw [e]; exact iffy_no (by decide) _⟩

theorem len_oneW {f : List UInt8} {F : List (List UInt8)} {P : Prop} (nd : F.Nodup) (mem : ∀ h, h ∈ F ↔ h = f ∧ P) : (P → F = [f]) ∧ (¬ P → F = []) := by
  constructor
  · intro hP
    match F, nd, mem with
    | [], _, mem => exact absurd ((mem f).2 ⟨rfl, hP⟩) (by simp)
    | [a], _, mem => rw [((mem a).1 (by simp)).1]
    | a :: b :: l, nd, mem =>
      have ha := ((mem a).1 (by simp)).1
      have hb := ((mem b).1 (by simp)).1
      rw [ha, hb] at nd
      simp at nd
  · intro hP
    match F, mem with
    | [], _ => rfl
    | a :: l, mem => exact absurd ((mem a).1 (by simp)).2 hP

set_option maxRecDepth 100000 in
set_option maxHeartbeats 16000000 in
theorem named_walk (m : Nat) (k : Int) (e : Bool) (t : ByteArray) (x : Option Addr) (n c : Nat) (T : Tr) (s l : ByteArray) (w : World) (hA : At w m (.agg #[Value.int IntKind.i64 k, Value.bool e, Value.string t, Value.slice x n c]) T) (hS : smT T) (_hs : s.size ≤ 1048576) (_hl : l.size ≤ 1048576) (hK : KT w) (hP : PT w) :
    Calls Tryz.prog 3 #[.agg #[Value.int IntKind.i64 k, Value.bool e, Value.string t, Value.slice x n c], .string s, .string l] w fun en w' => en = .returned (.bool true) ∧ Below w.heap.size w w' := by
  have hW := At.wf _ _ _ hA
  have HH : Hid (At w m (.agg #[Value.int IntKind.i64 k, Value.bool e, Value.string t, Value.slice x n c]) T ∧ smT T ∧ wfT T) := ⟨hA, hS, hW⟩
  have HK : Hid (KT w ∧ PT w ∧ 0 < w.heap.size) := ⟨hK, hP, hK.lt⟩
  clear hA hS hW hK hP
  have bA : Below w.heap.size w (w.alloc (Obj.cells #[Value.int IntKind.i64 k, Value.bool e, Value.string t, Value.slice x n c] 25)) := (Below.refl _ _).alloc (Nat.le_refl _) _
  have HG : Hid ((w.alloc (Obj.cells #[Value.int IntKind.i64 k, Value.bool e, Value.string t, Value.slice x n c] 25)).heap[w.heap.size]? = some (.cells #[Value.int IntKind.i64 k, Value.bool e, Value.string t, Value.slice x n c] 25 (0, 0)) ∧ Below w.heap.size w (w.alloc (Obj.cells #[Value.int IntKind.i64 k, Value.bool e, Value.string t, Value.slice x n c] 25))) := ⟨heap_alloc_new _ _, bA⟩
  clear bA
  go_enter Tryz.func3, Tryz.ntmps3
  go_upto_region 1 with fail
  obtain ⟨G, hG⟩ : ∃ G, w.heap.size = G := ⟨_, rfl⟩
  have HGe : Hid (w.heap.size = G) := hG
  generalize w.alloc (Obj.cells #[Value.int IntKind.i64 k, Value.bool e, Value.string t, Value.slice x n c] 25) = w1 at *
  rw [hG] at HG HK ⊢
  clear hG
  have HW1 : Hid (Below G w w1 ∧ G < w1.heap.size) := ⟨HG.out.2, heap_lt HG.out.1⟩
  have HA1 : Hid (At w1 m (.agg #[Value.int IntKind.i64 k, Value.bool e, Value.string t, Value.slice x n c]) T ∧ KT w1 ∧ PT w1) := ⟨HH.out.1.below (by rw [HGe.out]; exact HG.out.2), HK.out.1.below (by rw [HGe.out]; exact HG.out.2), HK.out.2.1.below (by rw [HGe.out]; exact HG.out.2)⟩
  have CW := awN w1
  go_wp2_with fail
  refine CW.mono ?_
  rintro e2 w2 ⟨rfl, b2⟩
  have HG2 : Hid (w2.heap[G]? = some (.cells #[Value.int IntKind.i64 k, Value.bool e, Value.string t, Value.slice x n c] 25 (0, 0)) ∧ Below w1.heap.size w1 w2) := ⟨(b2.block _ (heap_lt HG.out.1)).trans HG.out.1, b2⟩
  clear CW b2 HG
  obtain ⟨u0, u1, u2, u3, _⟩ := cell4n HG2.out.1
  have CS := nserial_any m k e t x n c T w2 (HA1.out.1.below HG2.out.2) HH.out.2.1 HH.out.2.2
  have hser := ser_facts HH.out.2.1 HH.out.2.2
  generalize serT T = R at CS hser
  obtain ⟨X, C⟩ := R
  dsimp only at CS hser
  have HSER : Hid ((C ≠ 0 ∧ X = ⟨#[]⟩) ∨ (C = 0 ∧ 0 < X.size ∧ X.size ≤ 1048600)) := hser
  have hXs : X.size ≤ 1048600 := by
    rcases hser with ⟨_, h⟩ | ⟨_, _, h⟩
    · rw [h]; decide
    · exact h
  clear hser
  go_wp2_with fail
  refine CS.mono ?_
  rintro e3 w3 ⟨rfl, b3⟩
  have B3 : Hid (Below w1.heap.size w1 w3) := HG2.out.2.trans (b3.mono HG2.out.2.size)
  have K3 : Hid (KT w3 ∧ PT w3) := ⟨HA1.out.2.1.below B3.out, HA1.out.2.2.below B3.out⟩
  clear CS b3 HG2 u0 u1 u2 u3 HH HK
  have CM := modulo_any X s w3 (by omega) K3.out.1 K3.out.2
  go_wp2_with fail
  refine CM.mono ?_
  rintro e4 w4 ⟨b4, hmod⟩
  obtain ⟨F, v, nF, L, rfl, hcase, RI4⟩ : ∃ F v nF L, e4 = .returned (.tuple #[.agg (cs .u8 32 F), v, .int .i64 nF]) ∧ ((nF = 131 ∧ hsh s ≠ 0) ∨ (nF = 0 ∧ hsh s = 0 ∧ F = dgS (mo X s) ∧ L = pl s.data.toList 0 X.data.toList)) ∧ RI w4 w4.heap.size v L := by
    rcases hmod with ⟨h, rfl⟩ | ⟨h, v, ri, rfl⟩
    · exact ⟨_, _, _, [], rfl, .inl ⟨rfl, h⟩, ⟨none, 0, rfl, fun i t h => by cases h⟩⟩
    · exact ⟨_, _, _, _, rfl, .inr ⟨rfl, h, rfl, rfl⟩, ri⟩
  clear hmod CM
  have B4 : Hid (Below w1.heap.size w1 w4) := B3.out.trans (b4.mono B3.out.size)
  have K4 : Hid (KT w4 ∧ PT w4) := ⟨K3.out.1.below b4, K3.out.2.below b4⟩
  have HRI4 : Hid (RI w4 w4.heap.size v L) := RI4
  have HCASE : Hid ((nF = 131 ∧ hsh s ≠ 0) ∨ (nF = 0 ∧ hsh s = 0 ∧ F = dgS (mo X s) ∧ L = pl s.data.toList 0 X.data.toList)) := hcase
  have R0 : Row .u8 (w4.alloc (.cells (cs .u8 32 fun _ => 0) 31)) w4.heap.size 32 (fun _ => 0) := Row.box
  clear b4 B3 K3 RI4 hcase
  go_wp2_with (first | (refine wpList_store_any (by rfl) 31 (.tmp 9) (.tmp 39) (by rfl) w4.heap.size (by rfl) (by rfl) R0 szDIGm (by rfl) ?_; intro W5 R5 U5) | (refine wpList_load_arr (by rfl) 31 (.tmp 9) (by rfl) w4.heap.size (by rfl) R5 undDIGm szDIGm ?_))
  have B45 : Below w4.heap.size w4 W5 := U5.below ((Below.refl _ _).alloc (Nat.le_refl _) _) (Nat.le_refl _) (by rw [World.size_alloc]; omega)
  have B5 : Hid (Below w1.heap.size w1 W5) := B4.out.trans (B45.mono B4.out.size)
  have HR5 : Hid (Row .u8 W5 w4.heap.size 32 F) := R5
  have HZ5 : Hid (w4.heap.size < W5.heap.size) := by unfold Hid; rw [U5.size, World.size_alloc]; omega
  have RI5 : Hid (RI W5 w4.heap.size v L) := RI.below HRI4.out B45 (Nat.le_refl _)
  have K5 : Hid (KT W5 ∧ PT W5) := ⟨K4.out.1.below B45, K4.out.2.below B45⟩
  obtain ⟨D2, hD2⟩ : ∃ D, w4.heap.size = D := ⟨_, rfl⟩
  rw [hD2] at HR5 HZ5 RI5 ⊢
  clear U5 R5 R0 B45 B4 K4 HRI4 hD2
  have CK := make_any none 0 0 (fun _ => ⟨#[]⟩) F l W5 (fun i hi => absurd hi (by omega)) K5.out.1
  have hmk := mk_facts F l
  obtain ⟨P, MC, hPM⟩ : ∃ P MC, iffy (mkC (fun _ => ⟨#[]⟩) 0 l) (mkS (fun _ => ⟨#[]⟩) 0 F l) = P ∧ mkC (fun _ => ⟨#[]⟩) 0 l = MC := ⟨_, _, rfl, rfl⟩
  rw [hPM.1, hPM.2] at CK
  have HMK : Hid ((MC = 0 ∧ labOk l ∧ P = mkS (fun _ => ⟨#[]⟩) 0 F l) ∨ (MC = 130 ∧ P = ⟨#[]⟩)) := by
    rcases hmk with ⟨h1, h2⟩ | ⟨h1, h2⟩
    · exact .inl ⟨hPM.2 ▸ h1, h2, by rw [← hPM.1, h1]; exact iffy_yes rfl _⟩
    · exact .inr ⟨hPM.2 ▸ h1, by rw [← hPM.1]; exact h2⟩
  have HPM : Hid (iffy (mkC (fun _ => ⟨#[]⟩) 0 l) (mkS (fun _ => ⟨#[]⟩) 0 F l) = P ∧ mkC (fun _ => ⟨#[]⟩) 0 l = MC) := hPM
  clear hPM hmk
  refine CK.mono ?_
  rintro e6 w6 ⟨rfl, b6⟩
  have B6 : Hid (Below w1.heap.size w1 w6) := B5.out.trans (b6.mono B5.out.size)
  have HR6 : Hid (Row .u8 w6 D2 32 F) := HR5.out.below b6 HZ5.out
  have HZ6 : Hid (D2 < w6.heap.size) := Nat.lt_of_lt_of_le HZ5.out b6.size
  have RI6 : Hid (RI w6 D2 v L) := RI.below RI5.out b6 (Nat.le_of_lt HZ5.out)
  have K6 : Hid (KT w6 ∧ PT w6) := ⟨K5.out.1.below b6, K5.out.2.below b6⟩
  have HWB : Hid (∀ W, Below w1.heap.size w1 W → Below w.heap.size w W) := fun W b => by rw [HGe.out]; exact HW1.out.1.trans (b.mono (by have := HW1.out.2; omega))
  clear CK b6 B5 HR5 HZ5 RI5 K5
  by_cases hall : C = 0 ∧ nF = 0 ∧ MC = 0
  · obtain ⟨rfl, rfl, rfl⟩ := hall
    obtain ⟨hlab, hP⟩ : labOk l ∧ P = mkS (fun _ => ⟨#[]⟩) 0 F l := by
      rcases HMK.out with ⟨_, a, b⟩ | ⟨a, _⟩
      · exact ⟨a, b⟩
      · exact absurd a (by decide)
    obtain ⟨hs0, hF, hL⟩ : hsh s = 0 ∧ F = dgS (mo X s) ∧ L = pl s.data.toList 0 X.data.toList := by
      rcases HCASE.out with ⟨a, _⟩ | ⟨_, a, b, d⟩
      · exact absurd a (by decide)
      · exact ⟨a, b, d⟩
    obtain ⟨g1, g2, g3, -, -⟩ := mkS_good (fun _ => ⟨#[]⟩) 0 F l hlab
    rw [← hP] at g1 g2 g3
    have CP := parse_anyP P w6
    rw [g1, g2, g3] at CP
    obtain ⟨O, hOe⟩ : ∃ O, hashP (fun _ => ⟨#[]⟩) 0 F l = O := ⟨_, rfl⟩
    have hO : hsh O = 0 := by rw [← hOe]; exact hsh_yes (hashP_ok _ _ _ _)
    rw [hOe] at CP
    have HH0 : Hid (hsh s = 0 ∧ hsh O = 0) := ⟨hs0, hO⟩
    have HFL : Hid (F = dgS (mo X s) ∧ L = pl s.data.toList 0 X.data.toList) := ⟨hF, hL⟩
    have HPP : Hid (labOk l ∧ P = mkS (fun _ => ⟨#[]⟩) 0 F l) := ⟨hlab, hP⟩
    have hll : (l.toList != l.toList) = false := by simp
    have hLl : L.length ≤ X.size := by rw [hL, ← size_list]; exact pl_len _ _ _
    clear hlab hP hs0 hF hL g1 g2 g3 hOe hO
    go_wp2_with fail
    refine CP.mono ?_
    rintro e7 w7 ⟨rfl, b7⟩
    have B7 : Hid (Below w1.heap.size w1 w7) := B6.out.trans (b7.mono B6.out.size)
    have HR7 : Hid (Row .u8 w7 D2 32 F) := HR6.out.below b7 HZ6.out
    have HZ7 : Hid (D2 < w7.heap.size) := Nat.lt_of_lt_of_le HZ6.out b7.size
    have RI7 : Hid (RI w7 D2 v L) := RI.below RI6.out b7 (Nat.le_of_lt HZ6.out)
    have K7 : Hid (KT w7 ∧ PT w7) := ⟨K6.out.1.below b7, K6.out.2.below b7⟩
    clear CP b7 B6 HR6 HZ6 RI6 K6
    have CR := rewrite_any X s O w7 (by omega)
    go_wp2_with fail
    refine CR.mono ?_
    rintro e8 w8 ⟨b8, ⟨h1, -⟩ | ⟨_, h1, -⟩ | ⟨-, -, v8, own8, rfl⟩⟩
    · exact absurd HH0.out.1 h1
    · exact absurd HH0.out.2 h1
    have B8 : Hid (Below w1.heap.size w1 w8) := B7.out.trans (b8.mono B7.out.size)
    have HR8 : Hid (Row .u8 w8 D2 32 F) := HR7.out.below b8 HZ7.out
    have HZ8 : Hid (D2 < w8.heap.size) := Nat.lt_of_lt_of_le HZ7.out b8.size
    have RI8 : Hid (RI w8 D2 v L) := RI.below RI7.out b8 (Nat.le_of_lt HZ7.out)
    have K8 : Hid (KT w8 ∧ PT w8) := ⟨K7.out.1.below b8, K7.out.2.below b8⟩
    have RV8 : Hid (RI w8 w8.heap.size v8 L) := by
      have := ri_own own8
      rw [← HFL.out.2] at this
      exact this
    have hYz : (ba (rw' s.data.toList O.data.toList X.data.toList)).size = X.size := by rw [ba_size, rw_len (isH_of HH0.out.2).len, size_list]
    have hYl : Hid ((ba (rw' s.data.toList O.data.toList X.data.toList)).data.toList = rw' s.data.toList O.data.toList X.data.toList) := by unfold Hid; simp [ba]
    have hmo : Hid (pl O.data.toList 0 (ba (rw' s.data.toList O.data.toList X.data.toList)).data.toList = L → mo (ba (rw' s.data.toList O.data.toList X.data.toList)) O = mo X s) := fun h => by
      rw [hYl.out, HFL.out.2] at h
      exact mo_same X s O HH0.out.1 HH0.out.2 h
    clear CR b8 B7 HR7 HZ7 RI7 K7 own8 hYl
    generalize ba (rw' s.data.toList O.data.toList X.data.toList) = Y at *
    have CM := modulo_any Y O w8 (by omega) K8.out.1 K8.out.2
    go_wp2_with fail
    refine CM.mono ?_
    rintro e9 w9 ⟨b9, ⟨h1, -⟩ | ⟨-, v9, ri9, rfl⟩⟩
    · exact absurd HH0.out.2 h1
    have B9 : Hid (Below w1.heap.size w1 w9) := B8.out.trans (b9.mono B8.out.size)
    have HR9 : Hid (Row .u8 w9 D2 32 F) := HR8.out.below b9 HZ8.out
    have HZ9 : Hid (D2 < w9.heap.size ∧ w8.heap.size ≤ w9.heap.size) := ⟨Nat.lt_of_lt_of_le HZ8.out b9.size, b9.size⟩
    have RI9 : Hid (RI w9 D2 v L) := RI.below RI8.out b9 (Nat.le_of_lt HZ8.out)
    have RV9 : Hid (RI w9 w8.heap.size v8 L) := RI.below RV8.out b9 (Nat.le_refl _)
    have RT9 : Hid (RI w9 w9.heap.size v9 (pl O.data.toList 0 Y.data.toList)) := ri9
    have K9 : Hid (KT w9 ∧ PT w9) := ⟨K8.out.1.below b9, K8.out.2.below b9⟩
    have hMl : (pl O.data.toList 0 Y.data.toList).length ≤ Y.size := by rw [← size_list]; exact pl_len _ _ _
    clear CM b9 B8 HR8 HZ8 RI8 RV8 K8 ri9
    obtain ⟨M, hM⟩ : ∃ M, pl O.data.toList 0 Y.data.toList = M := ⟨_, rfl⟩
    have HM : Hid (pl O.data.toList 0 Y.data.toList = M) := hM
    rw [hM] at RT9 hMl hmo
    clear hM
    have R0 : Row .u8 (w9.alloc (.cells (cs .u8 32 fun _ => 0) 31)) w9.heap.size 32 (fun _ => 0) := Row.box
    obtain ⟨xa, ca, rfl, ha⟩ := RI9.out
    obtain ⟨xb, cb, rfl, hb⟩ := RV9.out
    obtain ⟨xt, ct, rfl, ht⟩ := RT9.out
    have HCa : Hid (∀ i t, L[i]? = some t → ∃ b o, xa = some ⟨b, o, none⟩ ∧ b < D2 ∧ w9.cell? ⟨b, o + i, none⟩ = some (.int .i64 ((t : Nat) : Int))) := ha
    have HCb : Hid (∀ i t, L[i]? = some t → ∃ b o, xb = some ⟨b, o, none⟩ ∧ b < w8.heap.size ∧ w9.cell? ⟨b, o + i, none⟩ = some (.int .i64 ((t : Nat) : Int))) := hb
    have HCt : Hid (∀ i t, M[i]? = some t → ∃ b o, xt = some ⟨b, o, none⟩ ∧ b < w9.heap.size ∧ w9.cell? ⟨b, o + i, none⟩ = some (.int .i64 ((t : Nat) : Int))) := ht
    clear ha hb ht RI9 RV9 RT9
    by_cases hML : M.length = L.length
    · have hee : ((M.length : Int) != (L.length : Int)) = false := by rw [hML]; simp
      have HML : Hid (M.length = L.length) := hML
      clear hML
      go_wp2_with (refine wpList_store_any (by rfl) 31 (.tmp 20) (.tmp 104) (by rfl) w9.heap.size (by rfl) (by rfl) R0 szDIGm (by rfl) ?_; intro W0 R10 U10)
      have B910 : Below w9.heap.size w9 W0 := U10.below ((Below.refl _ _).alloc (Nat.le_refl _) _) (Nat.le_refl _) (by rw [World.size_alloc]; omega)
      have B10 : Hid (Below w1.heap.size w1 W0) := B9.out.trans (B910.mono B9.out.size)
      have HR10 : Hid (Row .u8 W0 D2 32 F) := HR9.out.below B910 HZ9.out.1
      have HS10 : Hid (Row .u8 W0 w9.heap.size 32 (dgS (mo Y O))) := R10
      have HZ10 : Hid (D2 < W0.heap.size ∧ w9.heap.size < W0.heap.size) := ⟨Nat.lt_of_lt_of_le HZ9.out.1 B910.size, by rw [U10.size, World.size_alloc]; omega⟩
      have K10 : Hid (KT W0 ∧ PT W0) := ⟨K9.out.1.below B910, K9.out.2.below B910⟩
      have HCa0 : Hid (∀ i t, L[i]? = some t → ∃ b o, xa = some ⟨b, o, none⟩ ∧ W0.cell? ⟨b, o + i, none⟩ = some (.int .i64 ((t : Nat) : Int))) := fun i t h => by
        obtain ⟨b, o, h1, h2, h3⟩ := HCa.out i t h
        exact ⟨b, o, h1, (B910.cell (p := ⟨b, o + i, none⟩) (by show b < _; have := HZ9.out.1; omega)).trans h3⟩
      have HCb0 : Hid (∀ i t, L[i]? = some t → ∃ b o, xb = some ⟨b, o, none⟩ ∧ W0.cell? ⟨b, o + i, none⟩ = some (.int .i64 ((t : Nat) : Int))) := fun i t h => by
        obtain ⟨b, o, h1, h2, h3⟩ := HCb.out i t h
        exact ⟨b, o, h1, (B910.cell (p := ⟨b, o + i, none⟩) (by show b < _; have := HZ9.out.2; omega)).trans h3⟩
      have HCt0 : Hid (∀ i t, M[i]? = some t → ∃ b o, xt = some ⟨b, o, none⟩ ∧ W0.cell? ⟨b, o + i, none⟩ = some (.int .i64 ((t : Nat) : Int))) := fun i t h => by
        obtain ⟨b, o, h1, h2, h3⟩ := HCt.out i t h
        exact ⟨b, o, h1, (B910.cell (p := ⟨b, o + i, none⟩) h2).trans h3⟩
      obtain ⟨D3, hD3⟩ : ∃ D, w9.heap.size = D := ⟨_, rfl⟩
      rw [hD3] at HS10 HZ10 ⊢
      clear U10 R10 R0 B910 B9 HR9 HZ9 K9 HCa HCb HCt hD3 hee
      go_loopg [134] L.length (fun gk iv wr => ∃ j : Nat, gk + j = L.length ∧ iv = .int .i64 (j : Int) ∧ Hid (∀ i, i < j → M[i]? = L[i]?) ∧ Hid (∃ q, wr = W0.drewN q))
      case atStart => exact ⟨0, rfl, rfl, fun i hi => absurd hi (by omega), 0, rfl⟩
      case round =>
        obtain ⟨j, hgj, rfl, hA, hq⟩ := hrel
        obtain ⟨q, hqq⟩ := hq.out
        subst hqq
        clear hq
        by_cases hj : j < L.length
        · obtain ⟨p, hp⟩ : ∃ p, L[j]? = some p := ⟨_, List.getElem?_eq_getElem hj⟩
          obtain ⟨r, hr⟩ : ∃ r, M[j]? = some r := ⟨_, List.getElem?_eq_getElem (by have := HML.out; omega)⟩
          obtain ⟨ba1, o1, rfl, c1⟩ := HCa0.out j p hp
          obtain ⟨ba2, o2, rfl, c2⟩ := HCb0.out j p hp
          obtain ⟨ba3, o3, rfl, c3⟩ := HCt0.out j r hr
          have d1 : (W0.drewN q).cell? ⟨ba1, o1 + j, none⟩ = some (.int .i64 ((p : Nat) : Int)) := c1
          have d2 : (W0.drewN q).cell? ⟨ba2, o2 + j, none⟩ = some (.int .i64 ((p : Nat) : Int)) := c2
          have hjM : j < M.length := by have := HML.out; omega
          have hjI : (j : Int) < (L.length : Int) := by omega
          have hjMI : (j : Int) < (M.length : Int) := by omega
          have hpp : (((p : Nat) : Int) != ((p : Nat) : Int)) = false := by simp
          have HPR : Hid (L[j]? = some p ∧ M[j]? = some r) := ⟨hp, hr⟩
          clear hp hr
          go_wp2_with fail
          go_quiet (fail)
          generalize hw9 : (W0.drewN q).drewN nq = w10
          have HW10 : Hid (∃ q, w10 = W0.drewN q) := ⟨q + nq, by rw [← hw9, World.drewN_drewN]⟩
          have d3 : w10.cell? ⟨ba3, o3 + j, none⟩ = some (.int .i64 ((r : Nat) : Int)) := by rw [← hw9]; exact c3
          have d4 : w10.cell? ⟨ba2, o2 + j, none⟩ = some (.int .i64 ((p : Nat) : Int)) := by rw [← hw9]; exact d2
          clear hw9 d1 d2 c1 c2 c3
          by_cases hrp : r = p
          · subst hrp
            have hA2 : Hid (∀ i, i < j + 1 → M[i]? = L[i]?) := fun i hi => by
              by_cases h : i = j
              · rw [h, HPR.out.1, HPR.out.2]
              · exact hA.out i (by omega)
            go_wp2_with fail
            go_quiet (fail)
            generalize hw9 : w10.drewN nq = w11
            have HW11 : Hid (∃ q, w11 = W0.drewN q) := by obtain ⟨a, b⟩ := HW10.out; exact ⟨a + nq, by rw [← hw9, b, World.drewN_drewN]⟩
            clear hw9 d3 d4
            go_wp2
            go_roundg (gk - 1)
            case measure => omega
            case rel => exact ⟨j + 1, by omega, by go_num, hA2, HW11⟩
          · have he : (((r : Nat) : Int) != ((p : Nat) : Int)) = true := by rw [bne_iff_ne]; omega
            go_wp2_with fail
            go_quiet (fail)
            go_wp2
            go_ret
            refine ⟨rfl, HWB.out _ ?_⟩
            obtain ⟨a, b⟩ := HW10.out
            rw [b]
            exact bel_drewN (bel_drewN B10.out a) _
        · have hML : M = L := by
            refine List.ext_getElem? (fun i => ?_)
            by_cases hi : i < j
            · exact hA.out i hi
            · rw [List.getElem?_eq_none (by have := HML.out; omega), List.getElem?_eq_none (by omega)]
          have HMLe : Hid (M = L) := hML
          have hmo2 := hmo.out hML
          rw [hmo2, ← HFL.out.1] at HS10
          clear hML hmo2 hA hmo HCa0 HCb0 HCt0
          have B11 : Hid (Below w1.heap.size w1 (W0.drewN q)) := bel_drewN B10.out q
          have R11 : Row .u8 (W0.drewN q) D3 32 F := HS10.out.drewN q
          have HR11 : Hid (Row .u8 (W0.drewN q) D2 32 F) := HR10.out.drewN q
          have HS11 : Hid (Row .u8 (W0.drewN q) D3 32 F) := R11
          have HZ11 : Hid (D2 < (W0.drewN q).heap.size ∧ D3 < (W0.drewN q).heap.size) := HZ10.out
          have K11 : Hid (KT (W0.drewN q) ∧ PT (W0.drewN q)) := ⟨K10.out.1.below (bel_drewN (Below.refl _ _) q), K10.out.2.below (bel_drewN (Below.refl _ _) q)⟩
          have CK := make_any none 0 0 (fun _ => ⟨#[]⟩) F l (W0.drewN q) (fun i hi => absurd hi (by omega)) K11.out.1
          rw [HPM.out.1, HPM.out.2] at CK
          clear B10 HR10 HS10 HZ10 K10
          generalize W0.drewN q = w11 at *
          go_wp2_with (refine wpList_load_arr (by rfl) 31 (.tmp 20) (by rfl) D3 (by rfl) R11 undDIGm szDIGm ?_)
          refine CK.mono ?_
          rintro e12 w12 ⟨rfl, b12⟩
          have B12 : Hid (Below w1.heap.size w1 w12) := B11.out.trans (b12.mono B11.out.size)
          have HR12 : Hid (Row .u8 w12 D2 32 F) := HR11.out.below b12 HZ11.out.1
          have HS12 : Hid (Row .u8 w12 D3 32 F) := HS11.out.below b12 HZ11.out.2
          have HZ12 : Hid (D2 < w12.heap.size ∧ D3 < w12.heap.size) := ⟨Nat.lt_of_lt_of_le HZ11.out.1 b12.size, Nat.lt_of_lt_of_le HZ11.out.2 b12.size⟩
          clear CK b12 R11 B11 HR11 HS11 HZ11 K11
          go_wp2_with fail
          have HB12' : Hid (w1.heap.size ≤ w12.heap.size) := B12.out.size
          have hbk := heap_alloc_new w12 (.cells #[.string O] 9)
          have B13 : Hid (Below w12.heap.size w12 (w12.alloc (.cells #[.string O] 9))) := (Below.refl _ _).alloc (Nat.le_refl _) _
          have hz : (w12.alloc (.cells #[.string O] 9)).heap.size = w12.heap.size + 1 := World.size_alloc _ _
          have CN : Calls Tryz.prog 10 #[.slice (some ⟨w12.heap.size, 0, none⟩) 1 1] (w12.alloc (.cells #[.string O] 9)) _ := Sn.new [O] (some ⟨w12.heap.size, 0, none⟩) 1 _ (by simp) (fun i a ha => ⟨_, rfl, by rw [hz]; exact Nat.lt_succ_self _, by
            rw [Addr.add_lit, Nat.zero_add, Lib.cell_of_heap hbk]
            match i, ha with
            | 0, ha => simp at ha; subst ha; rfl⟩)
          clear hbk hz
          refine (show Calls Tryz.prog 10 #[.slice (some ⟨w12.heap.size, 0, none⟩) 1 1] (w12.alloc (.cells #[.string O] 9)) _ from CN.mono ?_)
          rintro e14 w14 ⟨b14, ⟨⟨a, ha, hbad⟩, rfl⟩ | ⟨-, g, rfl, SN⟩⟩
          · exfalso
            rw [List.mem_singleton] at ha
            subst ha
            exact hbad HH0.out.2
          have b1214 : Below w12.heap.size w12 w14 := B13.out.trans (b14.mono B13.out.size)
          have B14 : Hid (Below w1.heap.size w1 w14) := B12.out.trans (b1214.mono B12.out.size)
          have HR14 : Hid (Row .u8 w14 D2 32 F) := HR12.out.below b1214 HZ12.out.1
          have HS14 : Hid (Row .u8 w14 D3 32 F) := HS12.out.below b1214 HZ12.out.2
          have HZ14 : Hid (D2 < w12.heap.size ∧ D3 < w12.heap.size ∧ w12.heap.size ≤ w14.heap.size) := ⟨HZ12.out.1, HZ12.out.2, b1214.size⟩
          have HSN : Hid (Sn w12.heap.size w14 g [O.data.toList] []) := by
            obtain ⟨m', N, kept, S, F', fv, q1, q2, q3, q4, q5, q6⟩ := SN
            have hle : w12.heap.size ≤ (w12.alloc (.cells #[.string O] 9)).heap.size := B13.out.size
            exact ⟨m', N, kept, S, F', fv, q1, q2, q3, Nat.le_trans hle q4, Nat.le_trans hle q5, fun k hk => Nat.le_trans hle (q6 k hk)⟩
          clear CN b14 b1214 SN B13 B12 HR12 HS12 HZ12
          obtain ⟨y, w15, CV, TX, b15, hy⟩ := conv_str w14 Y
          have CF := (HSN.out.below b15).feed (by have := HZ14.out.2.2; have := b15.size; omega) y _ TX (fun a z c' he => by have := hy a z c' he; have := HSN.out.lt; omega) (by rw [size_list]; simp; omega)
          have HZ15 : Hid (w14.heap.size ≤ w15.heap.size) := b15.size
          have B15 : Hid (Below w1.heap.size w1 w15) := B14.out.trans (b15.mono B14.out.size)
          have HR15 : Hid (Row .u8 w15 D2 32 F) := HR14.out.below b15 (by have := HZ14.out; omega)
          have HS15 : Hid (Row .u8 w15 D3 32 F) := HS14.out.below b15 (by have := HZ14.out; omega)
          clear TX hy b15 HSN B14 HR14 HS14
          go_wp2_with fail
          refine CF.mono ?_
          rintro e16 w16 ⟨rfl, SN16, b16⟩
          have B16 : Hid (Below w1.heap.size w1 w16) := B15.out.trans (b16.mono HB12'.out)
          have R16 : Row .u8 w16 D2 32 F := HR15.out.below b16 HZ14.out.1
          have S16 : Row .u8 w16 D3 32 F := HS15.out.below b16 HZ14.out.2.1
          have HSN16 : Hid (Sn w12.heap.size w16 g [O.data.toList] Y.data.toList) := SN16
          have heq : ∀ w, (Op.equalIn 10000 31 (.agg (cs .u8 32 F)) (.agg (cs .u8 32 F))).run Tryz.prog w = .ok true w := fun w => run_equalIn_same w 9998 31 5 .u8 .u8 32 _ undDIGm (by kernel_rfl) (by kernel_rfl) (by kernel_rfl)
          have hPP : (P.toList == P.toList) = true := by simp
          have CF2 := HSN16.out.found (by rw [size_list]; omega)
          clear CF CV SN16 b16 B15 HR15 HS15
          go_wp2_with (first | (refine wpList_load_arrH (by rfl) 31 (.tmp 9) (by rfl) D2 (by rfl) R16 undDIGm szDIGm ?_) | (refine wpList_load_arrH (by rfl) 31 (.tmp 20) (by rfl) D3 (by rfl) S16 undDIGm szDIGm ?_))
          refine CF2.mono ?_
          rintro e17 w17 ⟨vf, F3, rfl, tx, nd, mem, -, -, b17⟩
          have hL3 := len_oneW (F := F3) (f := O.data.toList) (P := occ O.data.toList Y.data.toList) nd (fun h => (mem h).trans (by rw [List.mem_singleton]; constructor <;> (rintro ⟨rfl, h⟩; exact ⟨rfl, h⟩)))
          have hOc := pl_occ (isH_of HH0.out.2).len Y.data.toList 0
          rw [HM.out, HMLe.out] at hOc
          have hlens : (F3.length = 1 ∧ 0 < L.length) ∨ (F3.length = 0 ∧ L.length = 0) := by
            by_cases h : occ O.data.toList Y.data.toList
            · exact .inl ⟨by rw [hL3.1 h]; rfl, List.length_pos_iff.2 (hOc.2 h)⟩
            · exact .inr ⟨by rw [hL3.2 h]; rfl, by
                rcases Nat.eq_zero_or_pos L.length with e | e
                · exact e
                · exact absurd (hOc.1 (List.length_pos_iff.1 e)) h⟩
          obtain ⟨xf, cf, rfl, -⟩ := tx
          have hsl : (srt F3).length = F3.length := List.length_mergeSort _
          have B17 : Hid (Below w1.heap.size w1 w17) := B16.out.trans (b17.mono B16.out.size)
          have HLN : Hid ((F3.length = 1 ∧ 0 < L.length) ∨ (F3.length = 0 ∧ L.length = 0)) := hlens
          clear CF2 b17 B16 hL3 hOc nd mem heq hlens R16 S16
          rw [hsl]
          clear hsl
          rcases HLN.out with ⟨l1, l2⟩ | ⟨l1, l2⟩
          · rw [l1]
            have l3 : (0 : Int) < (L.length : Int) := by omega
            go_wp2_with fail
            go_ret
            exact ⟨by simp, HWB.out _ B17.out⟩
          · rw [l1]
            have l3 : ¬ (0 : Int) < (L.length : Int) := by omega
            go_wp2_with fail
            go_ret
            exact ⟨by simp, HWB.out _ B17.out⟩
    · have hee : ((M.length : Int) != (L.length : Int)) = true := by rw [bne_iff_ne]; omega
      go_wp2_with (refine wpList_store_any (by rfl) 31 (.tmp 20) (.tmp 104) (by rfl) w9.heap.size (by rfl) (by rfl) R0 szDIGm (by rfl) ?_; intro W0 R10 U10)
      have B910 : Below w9.heap.size w9 W0 := U10.below ((Below.refl _ _).alloc (Nat.le_refl _) _) (Nat.le_refl _) (by rw [World.size_alloc]; omega)
      go_ret
      exact ⟨rfl, HWB.out _ (B9.out.trans (B910.mono B9.out.size))⟩
  · have HAL : Hid (¬ (C = 0 ∧ nF = 0 ∧ MC = 0)) := hall
    clear hall
    rcases HSER.out with ⟨c1, c2⟩ | ⟨c1, c2, c3⟩
    · have q1 : (C == 0) = false := beq_eq_false_iff_ne.2 c1
      have q2 : X.toList.isEmpty = true := by rw [c2]; decide +kernel
      have HC1 : Hid ((C != 0) = true) := bne_iff_ne.2 c1
      clear c2
      rcases HCASE.out with ⟨d1, _⟩ | ⟨d1, _⟩ <;> rcases HMK.out with ⟨m1, _⟩ | ⟨m1, m2⟩
      · subst d1; subst m1
        go_wp2
        go_ret
        exact ⟨by show Ending.returned (Value.bool (C != 0)) = _; rw [HC1.out], HWB.out _ B6.out⟩
      · subst d1; subst m1
        have q3 : P.toList.isEmpty = true := by rw [m2]; decide +kernel
        go_wp2
        go_ret
        exact ⟨by show Ending.returned (Value.bool (C != 0)) = _; rw [HC1.out], HWB.out _ B6.out⟩
      · subst d1; subst m1
        go_wp2
        go_ret
        exact ⟨by show Ending.returned (Value.bool (C != 0)) = _; rw [HC1.out], HWB.out _ B6.out⟩
      · subst d1; subst m1
        have q3 : P.toList.isEmpty = true := by rw [m2]; decide +kernel
        go_wp2
        go_ret
        exact ⟨by show Ending.returned (Value.bool (C != 0)) = _; rw [HC1.out], HWB.out _ B6.out⟩
    · have q2 : X.toList.isEmpty = false := by
        rw [List.isEmpty_eq_false_iff, ByteArray.toList_eq]
        intro h
        have h9 : X.size = 0 := by
          have := congrArg List.length h
          rw [size_list] at this
          exact this
        omega
      subst c1
      rcases HCASE.out with ⟨d1, _⟩ | ⟨d1, _⟩ <;> rcases HMK.out with ⟨m1, _⟩ | ⟨m1, m2⟩
      · subst d1; subst m1
        go_wp2
        go_ret
        exact ⟨rfl, HWB.out _ B6.out⟩
      · subst d1; subst m1
        have q3 : P.toList.isEmpty = true := by rw [m2]; decide +kernel
        go_wp2
        go_ret
        exact ⟨rfl, HWB.out _ B6.out⟩
      · exact absurd ⟨rfl, d1, m1⟩ HAL.out
      · subst d1; subst m1
        have q3 : P.toList.isEmpty = true := by rw [m2]; decide +kernel
        go_wp2
        go_ret
        exact ⟨rfl, HWB.out _ B6.out⟩

theorem named_walkF (m : Nat) (k : Int) (e : Bool) (t : ByteArray) (x : Option Addr) (n c : Nat) (T : Tr) (s l : ByteArray) (w : World) (hA : At w m (.agg #[Value.int IntKind.i64 k, Value.bool e, Value.string t, Value.slice x n c]) T) (hS : smT T) (hs : s.size ≤ 1048576) (hl : l.size ≤ 1048576) (h : KT w ∧ PT w) :
    Calls Tryz.prog 3 #[.agg #[Value.int IntKind.i64 k, Value.bool e, Value.string t, Value.slice x n c], .string s, .string l] w fun en w' => en = .returned (.bool true) ∧ Below w.heap.size w w' := named_walk m k e t x n c T s l w hA hS hs hl h.1 h.2

end Sc
end Go.Proofs.YtdjjleahfciipaaGreatDoor
