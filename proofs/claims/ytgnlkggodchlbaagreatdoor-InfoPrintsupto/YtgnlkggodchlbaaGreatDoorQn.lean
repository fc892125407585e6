/- Gathered: IuA LtE LtF LtG LtH InQ InR InS InT. -/
import Derived.Laws.OwnMore
import Derived.Deep.AppendLies
import Derived.Test.YtgnlkggodchlbaaGreatDoorQc
import Derived.Test.YtgnlkggodchlbaaGreatDoorQg
import Derived.Test.YtgnlkggodchlbaaGreatDoorQi
import Derived.Test.YtgnlkggodchlbaaGreatDoorQj
import Derived.Test.YtgnlkggodchlbaaGreatDoorQm
/- The document's Lines; walked. -/
namespace Go.Proofs.YtgnlkggodchlbaaGreatDoor
open Go.RowKit Go.Shelf

theorem pr_prts {p : ByteArray} (h : prC p = 0) : shp p ∧ hshOk (pHash p) ∧ labOk (pLab p) := by
  unfold prC at h
  split at h
  · rename_i h1
    split at h
    · rename_i h2
      rcases lab_cases (pLab p) with ⟨h3, _⟩ | ⟨_, h3⟩
      · exact ⟨h1, h2, h3⟩
      · rw [h3] at h; cases h
    · cases h
  · cases h
/-- The lines of an info, the first k signatures among them. -/
def lnO (P : ByteArray) (D : Nat → Int) (z : Int) (fr : Nat → ByteArray) (nr : Nat) (F : ByteArray) (fs : Nat → ByteArray) (k : Nat) : List ByteArray :=
  ([hdP ++ P, hdH ++ b32Str (strFn 32 D), hdZ ++ itB z, hdR ++ bsS fr nr] ++ (if F.size = 0 then [] else [hdF ++ F])) ++ (List.range k).map (fun i => hdS ++ fs i)
theorem lnO_len (P : ByteArray) (D : Nat → Int) (z : Int) (fr : Nat → ByteArray) (nr : Nat) (F : ByteArray) (fs : Nat → ByteArray) (k : Nat) : (lnO P D z fr nr F fs k).length ≤ 5 + k := by
  unfold lnO
  by_cases h : F.size = 0 <;> simp [h] <;> omega
theorem lnO_succ (P : ByteArray) (D : Nat → Int) (z : Int) (fr : Nat → ByteArray) (nr : Nat) (F : ByteArray) (fs : Nat → ByteArray) (k : Nat) : lnO P D z fr nr F fs (k + 1) = lnO P D z fr nr F fs k ++ [hdS ++ fs k] := by
  unfold lnO
  rw [List.range_succ, List.map_append, List.append_assoc]
  simp
structure LnW (w : World) (P : ByteArray) (D : Nat → Int) (z : Int) (F : ByteArray) (vr vs : Value) (g : Nat) (W : World) : Prop where
  inf : Inf W g P D z vr F vs
  bel : Below w.heap.size w W
theorem LnW.next {w : World} {P : ByteArray} {D : Nat → Int} {z : Int} {F : ByteArray} {vr vs : Value} {g : Nat} {W W' : World} (h : LnW w P D z F vr vs g W) (c : Below W.heap.size W W') : LnW w P D z F vr vs g W' :=
  ⟨h.inf.below c h.inf.lt, h.bel.trans (c.mono h.bel.size)⟩

set_option maxRecDepth 100000 in
set_option maxHeartbeats 4000000 in
theorem rlin_any (P : ByteArray) (D : Nat → Int) (z : Int) (F : ByteArray) (xr : Option Addr) (nr cr : Nat) (fr : Nat → ByteArray) (xs : Option Addr) (ns cz : Nat) (fs : Nat → ByteArray) (w : World) (hr : SIs w xr nr fr) (hs : SIs w xs ns fs) (hns : ns ≤ 1048576) (hck : ckC P z fr nr F fs ns = 0) (hT : PT w) :
    Calls Tryz.prog 19 #[.agg (infC P D z (.slice xr nr cr) F (.slice xs ns cz))] w fun e w' => (∃ v, e = .returned v ∧ OwnS w' w.heap.size v (lnO P D z fr nr F fs ns)) ∧ Below w.heap.size w w' := by
  have I0 : Inf (w.alloc (.cells (infC P D z (.slice xr nr cr) F (.slice xs ns cz)) 34)) w.heap.size P D z (.slice xr nr cr) F (.slice xs ns cz) := Inf.box _ _ _ _ _ _ _ _
  have B0 : Hid (Below w.heap.size w (w.alloc (.cells (infC P D z (.slice xr nr cr) F (.slice xs ns cz)) 34))) := (Below.refl _ _).alloc (Nat.le_refl _) _
  have HR : Hid (SIs w xr nr fr) := hr
  have HS : Hid (SIs w xs ns fs) := hs
  have HT : Hid (PT w) := hT
  obtain ⟨h1, ⟨h2, h2'⟩, h3, h4, h5⟩ := ckC_parts hck
  obtain ⟨h6, h7⟩ := crf_ok h3
  have HP : Hid (∀ i, i < nr → 13 ≤ (fr i).size ∧ (fr i).size ≤ 257) := fun i hi => ⟨by have := (pr_prts (h7 i hi).1).1.1; omega, prC_max (h7 i hi).1⟩
  have HG : Hid (∀ i, i < ns → (fs i).size ≤ 85) := fun i hi => snOk_max (snC_ok ((ssC_ok h5) i hi).1)
  have mP := prC_max h1
  have mI := itoa_le z h2 h2'
  have HF : Hid (F.size ≤ 257) := by
    by_cases hF : F.size = 0
    · unfold Hid; omega
    · rw [frC_n hF] at h4; exact prC_max h4
  clear hr hs hT hck h1 h3 h4 h5 h7
  go_enter Tryz.func19, Tryz.ntmps19
  rw [show (⟨#[80, 97, 116, 104, 58, 32]⟩ : ByteArray) = hdP from rfl, show (⟨#[72, 97, 115, 104, 58, 32, 115, 104, 97, 50, 53, 54, 58]⟩ : ByteArray) = hdH from rfl, show (⟨#[83, 105, 122, 101, 58, 32]⟩ : ByteArray) = hdZ from rfl, show (⟨#[82, 101, 102, 115, 58]⟩ : ByteArray) = hdR from rfl, show (⟨#[70, 114, 111, 109, 58, 32]⟩ : ByteArray) = hdF from rfl, show (⟨#[83, 105, 103, 110, 58, 32]⟩ : ByteArray) = hdS from rfl]
  go_wp2
  generalize w.alloc (.cells (infC P D z (.slice xr nr cr) F (.slice xs ns cz)) 34) = w0 at I0 B0 ⊢
  go_loopw [3, 4] (fun v i wr => ∃ k : Nat, k ≤ nr ∧ v = .string (hdR ++ bsS fr k) ∧ i = .int .i64 k ∧ wr = w0) (fun _ i _ => nr - (intOf i).toNat)
  case atStart => exact ⟨0, Nat.zero_le _, by show _ = Value.string (hdR ++ ⟨#[]⟩); rfl, rfl, rfl⟩
  case round =>
    obtain ⟨k, hk, rfl, rfl, rfl⟩ := hrel
    have c34 := I0.refs
    by_cases hlt : k < nr
    · obtain ⟨a, rfl, c0⟩ := HR.out.below B0.out (Nat.le_refl _) k hlt
      obtain ⟨hs1, hs2⟩ := HP.out k hlt
      have hbs := bsS_size fr k (fun i hi => (HP.out i (by omega)).2)
      have hD : Hid (hdR ++ bsS fr (k + 1) = hdR ++ bsS fr k ++ ((⟨#[32]⟩ : ByteArray) ++ (fr k).extract 13 (fr k).size)) := by
        show hdR ++ (bsS fr k ++ ((⟨#[32]⟩ : ByteArray) ++ (fr k).extract 13 (fr k).size)) = _
        rw [ByteArray.append_assoc]
      have hsz : (hdR ++ bsS fr k).size ≤ 300000 := by rw [app_size]; show 5 + _ ≤ _; omega
      generalize hdR ++ bsS fr k = T at hD hsz ⊢
      generalize fr k = f at c0 hs1 hs2 hD
      go_wp2
      go_roundw
      case rel => exact ⟨k + 1, by omega, by rw [hD.out], by go_num, trivial⟩
      case measure => simp [intOf]; omega
    · obtain rfl : k = nr := by omega
      -- @6
      have hst : (convert 43 9 (.slice (some ⟨w.heap.size, 1, none⟩) 32 32)).run Tryz.prog wr = .ok (.string (strFn 32 D)) wr := run_convert_bytes_arg wr 43 5 Tryz.underlying43 Tryz.underlying5 w.heap.size 1 32 32 ((List.range 32).map D) (by simp) (fun i hi => by rw [I0.dig i hi]; simp [List.getD, hi]) 9 Tryz.underlying9
      have C32 := rb32_any (strFn 32 D) wr (by rw [strFn_size]; decide)
      go_wp2_with fail
      refine C32.mono ?_
      clear C32 hst c34
      rintro e w2 ⟨rfl, b2⟩
      have I3 := I0.below b2 I0.lt
      have B3 : Hid (Below w.heap.size w w2) := B0.out.trans (b2.mono B0.out.size)
      clear b2 I0 B0
      go_wp2_with fail
      -- @7
      have K4 : LnW w P D z F (.slice xr k cr) (.slice xs ns cz) w.heap.size w2.drew := ⟨I3.same rfl, B3.out.drew⟩
      have CI := fun W (q : LnW w P D z F (.slice xr k cr) (.slice xs ns cz) w.heap.size W) => itoa_any z W h2 h2' (HT.out.below q.bel)
      have mH : (b32Str (strFn 32 D)).size ≤ 52 := by rw [b32_size]; exact Nat.le_refl _
      have mR : (hdR ++ bsS fr k).size ≤ 300000 := by rw [app_size]; have := bsS_size fr k (fun i hi => (HP.out i hi).2); show 5 + _ ≤ _; omega
      have z1 : hdP.size = 6 := rfl
      have z2 : hdH.size = 13 := rfl
      have z3 : hdZ.size = 6 := rfl
      have HL0 : Hid (∀ j, lnO P D z fr k F fs j = ([hdP ++ P, hdH ++ b32Str (strFn 32 D), hdZ ++ itB z, hdR ++ bsS fr k] ++ (if F.size = 0 then [] else [hdF ++ F])) ++ (List.range j).map (fun i => hdS ++ fs i)) := fun j => rfl
      clear I3 B3
      generalize b32Str (strFn 32 D) = H at mH HL0 ⊢
      generalize hdR ++ bsS fr k = R at mR HL0 ⊢
      generalize itB z = Z at mI CI HL0 ⊢
      refine wp_region_held_drew (S := LnW w P D z F (.slice xr k cr) (.slice xs ns cz) w.heap.size) (by kernel_rfl) K4 (fun hH => ?_)
      generalize w2.drew = W at hH ⊢
      clear K4
      -- @R
      refine wpAnyH_take (i := 0) (oi := { dst := some 28, op := Op.fieldAddr 34 (Operand.tmp 1) 0, type := 0, pos := "ref.go:125", after := #[], guard := none }) (v := .pointer (some ⟨w.heap.size, 0, none⟩)) rfl (by kernel_rfl) (by kernel_rfl) (by kernel_rfl) (fun _ _ _ h => h) (Or.inl ⟨by rfl, by intro w _; go_simp⟩) hH ?_
      simp only [Act.put, List.setIfInBounds_toArray, List.set_cons_zero, List.set_cons_succ]
      refine wpAnyH_take (i := 1) (oi := { dst := some 29, op := Op.load 9 (Operand.tmp 28), type := 9, pos := "ref.go:125", after := #[{ on := 0, ground := Ground.data }], guard := none }) (v := .string P) rfl (by kernel_rfl) (by kernel_rfl) (by kernel_rfl) (fun _ _ _ h => h) (Or.inl ⟨by rfl, by intro w' s'; have c9 := s'.inf.path; go_simp⟩) hH ?_
      simp only [Act.put, List.setIfInBounds_toArray, List.set_cons_zero, List.set_cons_succ]
      refine wpAnyH_take (i := 2) (oi := { dst := some 30, op := Op.binOp BinOp.add 9 (Operand.const (Value.string hdP)) (Operand.tmp 29) 9, type := 9, pos := "ref.go:125", after := #[{ on := 1, ground := Ground.data }], guard := none }) (v := .string (hdP ++ P)) rfl (by kernel_rfl) (by kernel_rfl) (by kernel_rfl) (fun _ _ _ h => h) (Or.inl ⟨by rfl, by intro w _; go_simp; omega⟩) hH ?_
      simp only [Act.put, List.setIfInBounds_toArray, List.set_cons_zero, List.set_cons_succ]
      refine wpAnyH_take (i := 3) (oi := { dst := some 31, op := Op.move (Operand.tmp 5), type := 9, pos := "ref.go:125", after := #[], guard := none }) (v := .string H) rfl (by kernel_rfl) (by kernel_rfl) (by kernel_rfl) (fun _ _ _ h => h) (Or.inl ⟨by rfl, by intro w _; go_simp⟩) hH ?_
      simp only [Act.put, List.setIfInBounds_toArray, List.set_cons_zero, List.set_cons_succ]
      refine wpAnyH_take (i := 4) (oi := { dst := some 32, op := Op.binOp BinOp.add 9 (Operand.const (Value.string hdH)) (Operand.tmp 31) 9, type := 9, pos := "ref.go:125", after := #[{ on := 3, ground := Ground.data }], guard := none }) (v := .string (hdH ++ H)) rfl (by kernel_rfl) (by kernel_rfl) (by kernel_rfl) (fun _ _ _ h => h) (Or.inl ⟨by rfl, by intro w _; go_simp; omega⟩) hH ?_
      simp only [Act.put, List.setIfInBounds_toArray, List.set_cons_zero, List.set_cons_succ]
      refine wpAnyH_take (i := 5) (oi := { dst := some 33, op := Op.fieldAddr 34 (Operand.tmp 1) 2, type := 0, pos := "ref.go:125", after := #[], guard := none }) (v := .pointer (some ⟨w.heap.size, 33, none⟩)) rfl (by kernel_rfl) (by kernel_rfl) (by kernel_rfl) (fun _ _ _ h => h) (Or.inl ⟨by rfl, by intro w _; go_simp⟩) hH ?_
      simp only [Act.put, List.setIfInBounds_toArray, List.set_cons_zero, List.set_cons_succ]
      refine wpAnyH_take (i := 6) (oi := { dst := some 34, op := Op.load 3 (Operand.tmp 33), type := 3, pos := "ref.go:125", after := #[{ on := 5, ground := Ground.data }], guard := none }) (v := .int .i64 z) rfl (by kernel_rfl) (by kernel_rfl) (by kernel_rfl) (fun _ _ _ h => h) (Or.inl ⟨by rfl, by intro w' s'; have c9 := s'.inf.size; go_simp⟩) hH ?_
      simp only [Act.put, List.setIfInBounds_toArray, List.set_cons_zero, List.set_cons_succ]
      refine wpAnyH_take (i := 9) (oi := { dst := some 37, op := Op.move (Operand.tmp 3), type := 9, pos := "ref.go:125", after := #[], guard := none }) (v := .string R) rfl (by kernel_rfl) (by kernel_rfl) (by kernel_rfl) (fun _ _ _ h => h) (Or.inl ⟨by rfl, by intro w _; go_simp⟩) hH ?_
      simp only [Act.put, List.setIfInBounds_toArray, List.set_cons_zero, List.set_cons_succ]
      refine wpAnyH_ready (rs := [7]) (by kernel_rfl) (by decide) (AllReadyH.cons rfl (fun K hK => ?_) AllReadyH.nil)
      rw [if_pos (by rfl)]
      go_simp
      refine (CI _ hH).mono ?_
      rintro e v1 ⟨rfl, c1⟩
      go_wp2_with fail
      have hH1 := hH.next c1
      refine hK.out _ _ hH1 (fun _ => ?_)
      clear hK K
      try simp only [Act.put, List.setIfInBounds_toArray, List.set_cons_zero, List.set_cons_succ]
      refine wpAnyH_take (i := 8) (oi := { dst := some 36, op := Op.binOp BinOp.add 9 (Operand.const (Value.string hdZ)) (Operand.tmp 35) 9, type := 9, pos := "ref.go:125", after := #[{ on := 7, ground := Ground.data }], guard := none }) (v := .string (hdZ ++ Z)) rfl (by kernel_rfl) (by kernel_rfl) (by kernel_rfl) (fun _ _ _ h => h) (Or.inl ⟨by rfl, by intro w _; go_simp; omega⟩) hH1 ?_
      simp only [Act.put, List.setIfInBounds_toArray, List.set_cons_zero, List.set_cons_succ]
      refine wpAnyH_ready (rs := [10]) (by kernel_rfl) (by decide) (AllReadyH.cons rfl (fun K hK => ?_) AllReadyH.nil)
      rw [if_pos (by rfl)]
      go_simp
      have hHa := hH1.next (W' := v1.alloc (.cells #[.string (hdP ++ P), .string (hdH ++ H), .string (hdZ ++ Z), .string R] 9)) ((Below.refl _ _).alloc (Nat.le_refl _) _)
      have OQ : OwnS (v1.alloc (.cells #[.string (hdP ++ P), .string (hdH ++ H), .string (hdZ ++ Z), .string R] 9)) (w.heap.size + 1) (.slice (some ⟨v1.heap.size, 0, none⟩) 4 4) [hdP ++ P, hdH ++ H, hdZ ++ Z, R] := World.ownsRow_lit v1 #[.string (hdP ++ P), .string (hdH ++ H), .string (hdZ ++ Z), .string R] 4 hH1.inf.lt (by decide) rfl
      refine hK.out _ _ hHa (fun _ => ?_)
      clear hK K
      try simp only [Act.put, List.setIfInBounds_toArray, List.set_cons_zero, List.set_cons_succ]
      refine wpAnyH_ready (rs := [11]) (by kernel_rfl) (by decide) (AllReadyH.cons rfl (fun K hK => ?_) AllReadyH.nil)
      rw [if_pos (by rfl)]
      go_simp
      refine hK.out _ _ hHa (fun _ => ?_)
      clear hK K
      try simp only [Act.put, List.setIfInBounds_toArray, List.set_cons_zero, List.set_cons_succ]
      refine wpAnyH_done (by kernel_rfl) ?_ _
      -- @8
      have hbv : Hid (w.heap.size < v1.heap.size) := hH1.inf.lt
      generalize v1.heap.size = b at OQ hbv ⊢
      generalize v1.alloc (.cells #[.string (hdP ++ P), .string (hdH ++ H), .string (hdZ ++ Z), .string R] 9) = WA at hHa OQ ⊢
      clear hH hH1 c1 CI mH mR z1 z2 z3 mI mP
      have c35 := hHa.inf.from_
      by_cases hF : F.size = 0
      · obtain rfl : F = ⟨#[]⟩ := bytes_ext (by rw [hF]; rfl) (fun k hk => absurd hk (by omega))
        have HL0 : Hid (∀ j, lnO P D z fr k ⟨#[]⟩ fs j = [hdP ++ P, hdH ++ H, hdZ ++ Z, R] ++ (List.range j).map (fun i => hdS ++ fs i)) := fun j => by rw [HL0.out j]; rfl
        have HL5 : Hid ([hdP ++ P, hdH ++ H, hdZ ++ Z, R].length ≤ 5) := by unfold Hid; simp
        have HO : Hid (OwnS WA (w.heap.size + 1) (.slice (some ⟨b, 0, none⟩) 4 4) [hdP ++ P, hdH ++ H, hdZ ++ Z, R]) := OQ
        have HW : Hid (LnW w P D z ⟨#[]⟩ (.slice xr k cr) (.slice xs ns cz) w.heap.size WA) := hHa
        clear OQ hHa hF
        go_wp2
        clear c35
        generalize [hdP ++ P, hdH ++ H, hdZ ++ Z, R] = L0 at HL0 HL5 HO
        go_loopw [6, 7] (fun v i wq => ∃ j : Nat, j ≤ ns ∧ i = .int .i64 j ∧ Hid (OwnS wq (w.heap.size + 1) v (L0 ++ (List.range j).map (fun i => hdS ++ fs i))) ∧ Hid (LnW w P D z ⟨#[]⟩ (.slice xr k cr) (.slice xs ns cz) w.heap.size wq)) (fun _ i _ => ns - (intOf i).toNat)
        case atStart => exact ⟨0, Nat.zero_le _, rfl, by simpa using HO, HW⟩
        case round =>
          obtain ⟨j, hj, rfl, O, Q⟩ := hrel
          clear HO HW
          have c36 := Q.out.inf.signs
          by_cases hlt : j < ns
          · obtain ⟨a, rfl, c0⟩ := HS.out.below Q.out.bel (Nat.le_refl _) j hlt
            have hg9 := HG.out j hlt
            have zS : hdS.size = 6 := rfl
            have OA : Hid (OwnS (wr.alloc (.cells #[.string (hdS ++ fs j)] 9)) (w.heap.size + 1) u6 (L0 ++ (List.range j).map (fun i => hdS ++ fs i))) := O.out.alloc _
            have hlw : Hid (w.heap.size < wr.heap.size) := Q.out.inf.lt
            have hnl : Hid ((L0 ++ (List.range j).map (fun i => hdS ++ fs i)).length ≤ 8796093022000) := by unfold Hid; rw [List.length_append, List.length_map, List.length_range]; have := HL5.out; omega
            have hge : Hid (∀ q, u6.ownBlock = some q → w.heap.size + 1 ≤ q) := fun q hq => (O.out.ge hq).1
            generalize hfj : fs j = f at c0 hg9 OA
            go_wp2_with (refine wpList_append_s _ (by rfl) (.tmp 55) (.tmp 62) (by rfl) (w.heap.size + 1) u6 _ (by rfl) OA.out wr.heap.size 1 (hdS ++ f) (by rfl) (by rw [World.cell?_alloc_new]; rfl) hnl.out (by rw [World.size_alloc]; have := hlw.out; omega) ?_; intro v' w5 O5 G5; refine Hid.out ?_)
            unfold Hid
            have O6 : Hid (OwnS w5 (w.heap.size + 1) v' (L0 ++ (List.range (j + 1)).map (fun i => hdS ++ fs i))) := by
              unfold Hid
              rw [List.range_succ, List.map_append, ← List.append_assoc]
              simp only [List.map_cons, List.map_nil, hfj]
              exact O5
            have Q6 : Hid (LnW w P D z ⟨#[]⟩ (.slice xr k cr) (.slice (some a) ns cz) w.heap.size w5) := by
              have b1 : Below w.heap.size w (wr.alloc (.cells #[.string (hdS ++ f)] 9)) := Q.out.bel.alloc Q.out.bel.size _
              have sm : ∀ i, i ≤ w.heap.size → w5.heap[i]? = (wr.alloc (.cells #[.string (hdS ++ f)] 9)).heap[i]? := fun i hi => G5.block i (by rw [World.size_alloc]; have := hlw.out; omega) (fun e => by have := hge.out i e.symm; omega)
              exact ⟨Q.out.inf.same ((sm _ (Nat.le_refl _)).trans (Below.heap_alloc _ _ _ hlw.out)), G5.os.trans b1.os, G5.tape.trans b1.tape, G5.output.trans b1.output, Nat.le_trans b1.size G5.size, fun i hi => (sm i (by omega)).trans (b1.block i hi)⟩
            clear O5 G5 OA O Q
            go_wp2
            go_roundw
            case rel => exact ⟨j + 1, by omega, by go_num, O6, Q6⟩
            case measure => simp [intOf]; omega
          · obtain rfl : j = ns := by omega
            go_wp2
            go_ret
            exact ⟨⟨_, rfl, by rw [HL0.out]; exact World.ownsRow.mono O.out (by omega)⟩, Q.out.bel⟩
      · have f1 : (F.toList == []) = false := by
          rw [beq_eq_false_iff_ne]
          intro h
          exact hF ((empty_iff F).1 (by rw [h]; rfl))
        have f2 : (F.toList != []) = true := by rw [bne_iff_ne]; rw [beq_eq_false_iff_ne] at f1; exact f1
        have f3 : ¬ F.toList = [] := by rw [beq_eq_false_iff_ne] at f1; exact f1
        have f4 : F.toList.isEmpty = false := by
          cases h : F.toList.isEmpty
          · rfl
          · exact absurd ((empty_iff F).1 h) hF
        have HL0 : Hid (∀ j, lnO P D z fr k F fs j = ([hdP ++ P, hdH ++ H, hdZ ++ Z, R] ++ [hdF ++ F]) ++ (List.range j).map (fun i => hdS ++ fs i)) := fun j => by rw [HL0.out j, if_neg hF]
        have HL5 : Hid (([hdP ++ P, hdH ++ H, hdZ ++ Z, R] ++ [hdF ++ F]).length ≤ 5) := by unfold Hid; simp
        have mF := HF.out
        have zF : hdF.size = 6 := rfl
        have OA : Hid (OwnS (WA.alloc (.cells #[.string (hdF ++ F)] 9)) (w.heap.size + 1) (.slice (some ⟨b, 0, none⟩) 4 4) [hdP ++ P, hdH ++ H, hdZ ++ Z, R]) := OQ.alloc _
        have HW0 : Hid (LnW w P D z F (.slice xr k cr) (.slice xs ns cz) w.heap.size WA) := hHa
        have hlw : Hid (w.heap.size < WA.heap.size) := hHa.inf.lt
        clear OQ hHa hF
        generalize hL4 : [hdP ++ P, hdH ++ H, hdZ ++ Z, R] = L4 at HL0 HL5 OA
        have h44 : L4.length = 4 := by rw [← hL4]; rfl
        have H44 : Hid (L4.length ≤ 8796093022000) := by unfold Hid; omega
        clear hL4 h44
        go_wp2_with (refine wpList_append_s _ (by rfl) (.tmp 42) (.tmp 46) (by rfl) (w.heap.size + 1) (.slice (some ⟨b, 0, none⟩) 4 4) L4 (by rfl) OA.out WA.heap.size 1 (hdF ++ F) (by rfl) (by rw [World.cell?_alloc_new]; rfl) H44.out (by rw [World.size_alloc]; have := hlw.out; omega) ?_; intro v' w5 O5 G5; refine Hid.out ?_)
        unfold Hid
        have HO : Hid (OwnS w5 (w.heap.size + 1) v' (L4 ++ [hdF ++ F])) := O5
        have HW : Hid (LnW w P D z F (.slice xr k cr) (.slice xs ns cz) w.heap.size w5) := by
          have b1 : Below w.heap.size w (WA.alloc (.cells #[.string (hdF ++ F)] 9)) := HW0.out.bel.alloc HW0.out.bel.size _
          have sm : ∀ i, i ≤ w.heap.size → w5.heap[i]? = (WA.alloc (.cells #[.string (hdF ++ F)] 9)).heap[i]? := fun i hi => G5.block i (by rw [World.size_alloc]; have := hlw.out; omega) (fun e => by simp [Value.ownBlock] at e; have := hbv.out; omega)
          exact ⟨HW0.out.inf.same ((sm _ (Nat.le_refl _)).trans (Below.heap_alloc _ _ _ hlw.out)), G5.os.trans b1.os, G5.tape.trans b1.tape, G5.output.trans b1.output, Nat.le_trans b1.size G5.size, fun i hi => (sm i (by omega)).trans (b1.block i hi)⟩
        clear O5 G5 OA HW0 hlw
        generalize L4 ++ [hdF ++ F] = L0 at HL0 HL5 HO
        go_wp2
        clear c35
        go_loopw [6, 7] (fun v i wq => ∃ j : Nat, j ≤ ns ∧ i = .int .i64 j ∧ Hid (OwnS wq (w.heap.size + 1) v (L0 ++ (List.range j).map (fun i => hdS ++ fs i))) ∧ Hid (LnW w P D z F (.slice xr k cr) (.slice xs ns cz) w.heap.size wq)) (fun _ i _ => ns - (intOf i).toNat)
        case atStart => exact ⟨0, Nat.zero_le _, rfl, by simpa using HO, HW⟩
        case round =>
          obtain ⟨j, hj, rfl, O, Q⟩ := hrel
          clear HO HW
          have c36 := Q.out.inf.signs
          by_cases hlt : j < ns
          · obtain ⟨a, rfl, c0⟩ := HS.out.below Q.out.bel (Nat.le_refl _) j hlt
            have hg9 := HG.out j hlt
            have zS : hdS.size = 6 := rfl
            have OA : Hid (OwnS (wr.alloc (.cells #[.string (hdS ++ fs j)] 9)) (w.heap.size + 1) u6 (L0 ++ (List.range j).map (fun i => hdS ++ fs i))) := O.out.alloc _
            have hlw : Hid (w.heap.size < wr.heap.size) := Q.out.inf.lt
            have hnl : Hid ((L0 ++ (List.range j).map (fun i => hdS ++ fs i)).length ≤ 8796093022000) := by unfold Hid; rw [List.length_append, List.length_map, List.length_range]; have := HL5.out; omega
            have hge : Hid (∀ q, u6.ownBlock = some q → w.heap.size + 1 ≤ q) := fun q hq => (O.out.ge hq).1
            generalize hfj : fs j = f at c0 hg9 OA
            go_wp2_with (refine wpList_append_s _ (by rfl) (.tmp 55) (.tmp 62) (by rfl) (w.heap.size + 1) u6 _ (by rfl) OA.out wr.heap.size 1 (hdS ++ f) (by rfl) (by rw [World.cell?_alloc_new]; rfl) hnl.out (by rw [World.size_alloc]; have := hlw.out; omega) ?_; intro v' w5 O5 G5; refine Hid.out ?_)
            unfold Hid
            have O6 : Hid (OwnS w5 (w.heap.size + 1) v' (L0 ++ (List.range (j + 1)).map (fun i => hdS ++ fs i))) := by
              unfold Hid
              rw [List.range_succ, List.map_append, ← List.append_assoc]
              simp only [List.map_cons, List.map_nil, hfj]
              exact O5
            have Q6 : Hid (LnW w P D z F (.slice xr k cr) (.slice (some a) ns cz) w.heap.size w5) := by
              have b1 : Below w.heap.size w (wr.alloc (.cells #[.string (hdS ++ f)] 9)) := Q.out.bel.alloc Q.out.bel.size _
              have sm : ∀ i, i ≤ w.heap.size → w5.heap[i]? = (wr.alloc (.cells #[.string (hdS ++ f)] 9)).heap[i]? := fun i hi => G5.block i (by rw [World.size_alloc]; have := hlw.out; omega) (fun e => by have := hge.out i e.symm; omega)
              exact ⟨Q.out.inf.same ((sm _ (Nat.le_refl _)).trans (Below.heap_alloc _ _ _ hlw.out)), G5.os.trans b1.os, G5.tape.trans b1.tape, G5.output.trans b1.output, Nat.le_trans b1.size G5.size, fun i hi => (sm i (by omega)).trans (b1.block i hi)⟩
            clear O5 G5 OA O Q
            go_wp2
            go_roundw
            case rel => exact ⟨j + 1, by omega, by go_num, O6, Q6⟩
            case measure => simp [intOf]; omega
          · obtain rfl : j = ns := by omega
            go_wp2
            go_ret
            exact ⟨⟨_, rfl, by rw [HL0.out]; exact World.ownsRow.mono O.out (by omega)⟩, Q.out.bel⟩
end Go.Proofs.YtgnlkggodchlbaaGreatDoor
/- Numbers by their bits, for the document's own FromBase32. -/
namespace Go.Proofs.YtgnlkggodchlbaaGreatDoor
open Go.RowKit

/-- Bit j of the number that the letters are, the last letter the lowest. -/
def vbF (s : ByteArray) (j : Nat) : Int := vl (bt s (s.size - 1 - j / 5)) / 2 ^ (j % 5) % 2
/-- The number that the first i bits are. -/
def xN (s : ByteArray) (i : Nat) : Nat := num 2 (fun j => (vbF s j).toNat) i

theorem vbF_bd (s : ByteArray) (j : Nat) : 0 ≤ vbF s j ∧ vbF s j < 2 := by unfold vbF; omega

theorem vbF_at (s : ByteArray) (k d c : Nat) (hd : k + d + 1 = s.size) (hc : c < 5) (y : Int) (hy : y = vl (bt s d) / 2 ^ c) : y % 2 = vbF s (5 * k + c) := by
  unfold vbF
  rw [show (5 * k + c) / 5 = k from by omega, show (5 * k + c) % 5 = c from by omega, show s.size - 1 - k = d from by omega, hy]

theorem xN_lt (s : ByteArray) (i : Nat) : xN s i < 2 ^ i := num_lt 2 _ i (by omega) (fun j _ => by have := vbF_bd s j; omega)

theorem xN_zero (s : ByteArray) (i : Nat) (h : vbF s i = 0) : xN s (i + 1) = xN s i := by
  unfold xN; rw [num, h]; simp

theorem xN_one (s : ByteArray) (i : Nat) (h : vbF s i = 1) : xN s (i + 1) = xN s i + 2 ^ i := by
  unfold xN; rw [num, h]; simp

theorem num2_ge (f : Nat → Nat) (i n : Nat) (hi : i < n) (h : 1 ≤ f i) : 2 ^ i ≤ num 2 f n := by
  induction n with
  | zero => omega
  | succ n ih =>
    rw [num]
    by_cases e : i = n
    · subst e
      have : 1 * 2 ^ i ≤ f i * 2 ^ i := Nat.mul_le_mul_right _ h
      omega
    · have := ih (by omega)
      omega

theorem five_bits (x : Nat) (h : x < 32) (p : Nat) : ((x : Int) / 2 ^ 0 % 2).toNat * (p * 2 ^ 0) + ((x : Int) / 2 ^ 1 % 2).toNat * (p * 2 ^ 1) + ((x : Int) / 2 ^ 2 % 2).toNat * (p * 2 ^ 2) + ((x : Int) / 2 ^ 3 % 2).toNat * (p * 2 ^ 3) + ((x : Int) / 2 ^ 4 % 2).toNat * (p * 2 ^ 4) = x * p := by
  have e : x = ((x : Int) / 2 ^ 0 % 2).toNat * 1 + ((x : Int) / 2 ^ 1 % 2).toNat * 2 + ((x : Int) / 2 ^ 2 % 2).toNat * 4 + ((x : Int) / 2 ^ 3 % 2).toNat * 8 + ((x : Int) / 2 ^ 4 % 2).toNat * 16 := by omega
  conv => rhs; rw [e]
  simp only [Nat.add_mul, Nat.mul_assoc, Nat.mul_comm p]

theorem xN_vnum (s : ByteArray) (k : Nat) (hk : k ≤ s.size) (hok : ∀ j, j < s.size → 0 ≤ vl (bt s j)) : xN s (5 * k) = vnum s k := by
  induction k with
  | zero => rfl
  | succ k ih =>
    have h0 := hok (s.size - 1 - k) (by omega)
    have h1 := vl_spec _ (bt_bd s (s.size - 1 - k))
    obtain ⟨v, hv⟩ : ∃ v : Nat, vl (bt s (s.size - 1 - k)) = v := ⟨(vl (bt s (s.size - 1 - k))).toNat, by omega⟩
    have hv32 : v < 32 := by omega
    rw [vnum_succ s k v hv, ← ih (by omega)]
    have hb : ∀ c, c < 5 → vbF s (5 * k + c) = (v : Int) / 2 ^ c % 2 := fun c hc => by
      rw [← vbF_at s k (s.size - 1 - k) c (by omega) hc ((v : Int) / 2 ^ c) (by rw [hv])]
    have hp : 32 ^ k = 2 ^ (5 * k) := by rw [show (32 : Nat) = 2 ^ 5 from rfl, ← Nat.pow_mul]
    rw [hp, ← five_bits v hv32 (2 ^ (5 * k))]
    unfold xN
    rw [show 5 * (k + 1) = 5 * k + 4 + 1 from by omega, num, num, num, num, num]
    simp only [Nat.add_assoc]
    rw [hb 1 (by omega), hb 2 (by omega), hb 3 (by omega), hb 4 (by omega), show vbF s (5 * k) = (v : Int) / 2 ^ 0 % 2 from hb 0 (by omega)]
    simp only [Nat.pow_add, Nat.pow_zero, Nat.mul_one]

theorem pow2_split (i : Nat) : 2 ^ i = 256 ^ (i / 8) * 2 ^ (i % 8) := by
  rw [show (256 : Nat) = 2 ^ 8 from rfl, ← Nat.pow_mul, ← Nat.pow_add]
  congr 1
  omega

theorem step2_bd (N i : Nat) (hN : N < 2 ^ i) : 0 ≤ fbFn N (i / 8) ∧ fbFn N (i / 8) + 2 ^ (i % 8) < 256 ∧ (1 : Int) ≤ 2 ^ (i % 8) ∧ (2 : Int) ^ (i % 8) ≤ 128 := by
  rw [pow2_split] at hN
  have hr : i % 8 < 8 := Nat.mod_lt _ (by omega)
  have hp := pow2_lt (i % 8) hr
  have hx : N / 256 ^ (i / 8) < 2 ^ (i % 8) := (Nat.div_lt_iff_lt_mul (Nat.pow_pos (by omega))).2 (by rw [Nat.mul_comm]; exact hN)
  unfold fbFn
  have e : (2 : Int) ^ (i % 8) = ((2 ^ (i % 8) : Nat) : Int) := by rw [Int.natCast_pow]; rfl
  rw [e]
  generalize 2 ^ (i % 8) = p at *
  generalize N / 256 ^ (i / 8) = x at *
  omega

theorem step2 (N i : Nat) (hN : N < 2 ^ i) (t : Nat) : (if t = i / 8 then fbFn N (i / 8) + 2 ^ (i % 8) else fbFn N t) = fbFn (N + 2 ^ i) t := by
  rw [pow2_split] at hN ⊢
  have hr : i % 8 < 8 := Nat.mod_lt _ (by omega)
  generalize i / 8 = q at hN ⊢
  generalize i % 8 = r at hN hr ⊢
  have hp := pow2_lt r hr
  have hx : N / 256 ^ q < 2 ^ r := (Nat.div_lt_iff_lt_mul (Nat.pow_pos (by omega))).2 (by rw [Nat.mul_comm]; exact hN)
  have hq : (N + 256 ^ q * 2 ^ r) / 256 ^ q = N / 256 ^ q + 2 ^ r := Nat.add_mul_div_left _ _ (Nat.pow_pos (by omega))
  unfold fbFn
  by_cases e1 : t = q
  · rw [if_pos e1, e1, hq]
    rw [show (2 : Int) ^ r = ((2 ^ r : Nat) : Int) from by rw [Int.natCast_pow]; rfl]
    clear hq hN
    generalize 2 ^ r = p at *
    generalize N / 256 ^ q = x at *
    omega
  · rw [if_neg e1]
    congr 1
    by_cases e3 : t < q
    · obtain ⟨d, rfl⟩ : ∃ d, q = t + 1 + d := ⟨q - t - 1, by omega⟩
      have : 256 ^ (t + 1 + d) * 2 ^ r = 256 ^ t * (256 * (256 ^ d * 2 ^ r)) := by
        rw [Nat.pow_add, Nat.pow_succ]
        simp only [Nat.mul_assoc]
      rw [this, Nat.add_mul_div_left _ _ (Nat.pow_pos (by omega)), Nat.add_mul_mod_self_left]
    · obtain ⟨d, rfl⟩ : ∃ d, t = q + 1 + d := ⟨t - q - 1, by omega⟩
      have h2 : (N + 256 ^ q * 2 ^ r) / 256 ^ (q + 1) = 0 := by
        rw [Nat.pow_succ, ← Nat.div_div_eq_div_mul, hq]
        clear hq hN
        generalize 2 ^ r = p at *
        generalize N / 256 ^ q = x at *
        omega
      have hz : N / 256 ^ (q + 1) = 0 := by
        rw [Nat.pow_succ, ← Nat.div_div_eq_div_mul]
        clear hq hN h2
        generalize 2 ^ r = p at *
        generalize N / 256 ^ q = x at *
        omega
      rw [Nat.pow_add, ← Nat.div_div_eq_div_mul, ← Nat.div_div_eq_div_mul, h2, hz]

theorem spare_bad (s : ByteArray) (n i : Nat) (hi : i < 5 * s.size) (h : vbF s i = 1) (hn : 8 * n ≤ i) (hl : 5 * s.size ≤ 8 * n + 4) : fbFn (xN s (5 * s.size)) n ≠ 0 := by
  have h1 : 2 ^ i ≤ xN s (5 * s.size) := num2_ge _ i _ hi (by show 1 ≤ (vbF s i).toNat; rw [h]; decide)
  have h2 := xN_lt s (5 * s.size)
  have h3 : 2 ^ (5 * s.size) ≤ 256 ^ n * 16 := by
    rw [show 256 ^ n * 16 = 2 ^ (8 * n + 4) from by rw [show (256 : Nat) = 2 ^ 8 from rfl, ← Nat.pow_mul, Nat.pow_add]]
    exact Nat.pow_le_pow_right (by omega) hl
  have h4 : 256 ^ n ≤ 2 ^ i := by
    rw [show (256 : Nat) = 2 ^ 8 from rfl, ← Nat.pow_mul]
    exact Nat.pow_le_pow_right (by omega) hn
  generalize xN s (5 * s.size) = X at *
  have h5 : X / 256 ^ n < 16 := (Nat.div_lt_iff_lt_mul (Nat.pow_pos (by omega))).2 (by rw [Nat.mul_comm]; omega)
  have h6 : 1 ≤ X / 256 ^ n := (Nat.le_div_iff_mul_le (Nat.pow_pos (by omega))).2 (by omega)
  unfold fbFn
  omega

theorem spare_good (X n : Nat) (h : X < 256 ^ n) : fbFn X n = 0 := by
  unfold fbFn; rw [Nat.div_eq_of_lt h]; rfl

theorem pow_room (i n : Nat) (h : i < 8 * n) (X : Nat) (hX : X < 2 ^ (i + 1)) : X < 256 ^ n := by
  refine Nat.lt_of_lt_of_le hX ?_
  rw [show (256 : Nat) = 2 ^ 8 from rfl, ← Nat.pow_mul]
  exact Nat.pow_le_pow_right (by omega) (by omega)
#print axioms spare_bad
#print axioms step2
#print axioms xN_vnum
end Go.Proofs.YtgnlkggodchlbaaGreatDoor
/- What the document's own FromBase32 answers: as the program's. -/
namespace Go.Proofs.YtgnlkggodchlbaaGreatDoor
open Go.RowKit

set_option maxHeartbeats 1000000 in
set_option maxRecDepth 100000 in
theorem rfb32_zero (s : ByteArray) (w : World) (hs : s.size = 0) :
    Calls Tryz.prog 69 #[.string s] w fun e w' => e = .returned (.tuple #[.string ⟨#[]⟩, .int .i64 0]) ∧ Below w.heap.size w w' := by
  obtain ⟨i0, hi, hz0, hz1, hz2⟩ := info_parts Tryz.hinfo5
  go_enter Tryz.func69, Tryz.ntmps69
  go_wp2
  go_loopw [4] (fun i wr => i = .int .i64 0 ∧ w = wr) (fun _ _ => 0)
  case atStart => exact ⟨rfl, rfl⟩
  case round =>
    obtain ⟨rfl, rfl⟩ := hrel
    go_wp2
    go_loopw [5, 6] (fun v i wq => v = .slice none 0 0 ∧ i = .int .i64 (-1) ∧ w = wq) (fun _ _ _ => 0)
    case atStart => exact ⟨rfl, rfl, rfl⟩
    case round =>
      obtain ⟨rfl, rfl, rfl⟩ := hrel
      go_wp2_with fail
      rw [run_make (P := Tryz.prog) _ 43 5 i0 (.int .u8 0) Tryz.underlying43 hi hz0 .i64 .i64 _ _ (by omega) (by omega) (by rw [hz2]; omega) (by omega)]
      have R0 : Row .u8 (w.alloc (.cells (madeCells (Value.int .u8 0).cells ((0 : Int).toNat * i0.size)) 5)) w.heap.size 0 (fun _ => 0) := Row.made (by rw [hz1]; omega)
      have B0 : Below w.heap.size w (w.alloc (.cells (madeCells (Value.int .u8 0).cells ((0 : Int).toNat * i0.size)) 5)) := (Below.refl _ _).alloc (Nat.le_refl _) _
      generalize w.alloc (.cells (madeCells (Value.int .u8 0).cells ((0 : Int).toNat * i0.size)) 5) = W1 at R0 B0 ⊢
      clear hi hz0 hz1 hz2
      have c1 := run_string_row (P := Tryz.prog) (src := 43) (dst := 9) (c := 0) Tryz.underlying43 Tryz.underlying5 Tryz.underlying9 R0
      go_wp2
      go_loopw [10] (fun i wr => i = .int .i64 0 ∧ wr = W1) (fun _ _ => 0)
      case atStart => exact ⟨rfl, rfl⟩
      case round =>
        obtain ⟨rfl, rfl⟩ := hrel
        go_wp2
        go_ret2
        exact ⟨rfl, B0⟩

#print axioms rfb32_zero
end Go.Proofs.YtgnlkggodchlbaaGreatDoor
/- What the document's own FromBase32 answers: as the program's. -/
namespace Go.Proofs.YtgnlkggodchlbaaGreatDoor
open Go.RowKit

set_option maxHeartbeats 4000000 in
set_option maxRecDepth 100000 in
theorem rfb32_go (s : ByteArray) (w : World) (hs : s.size ≤ 1048576) (hp : 0 < s.size) :
    Calls Tryz.prog 69 #[.string s] w fun e w' => e = .returned (.tuple #[.string (fbStr s), .int .i64 (fbErr s)]) ∧ Below w.heap.size w w' := by
  obtain ⟨i0, hi, hz0, hz1, hz2⟩ := info_parts Tryz.hinfo5
  obtain ⟨i3, hi3, hz03, hz13, hz23⟩ := info_parts Tryz.hinfo3
  have hlen : Hid (lf (5 * s.size / 8) ≠ s.size → fbStr s = ⟨#[]⟩ ∧ fbErr s = 21) := fun h => by
    have e : fbErr s = 21 := by unfold fbErr; rw [if_neg h]
    refine ⟨?_, e⟩
    unfold fbStr; rw [e, if_neg (by omega)]
  have hbad : Hid (lf (5 * s.size / 8) = s.size → fbOk s s.size = false → fbStr s = ⟨#[]⟩ ∧ fbErr s = 20) := fun hl h => by
    have e : fbErr s = 20 := by unfold fbErr; rw [if_pos hl, h, if_neg (by simp)]
    refine ⟨?_, e⟩
    unfold fbStr; rw [e, if_neg (by omega)]
  have hspare : Hid (lf (5 * s.size / 8) = s.size → fbOk s s.size = true → fbFn (vnum s s.size) (5 * s.size / 8) ≠ 0 → fbStr s = ⟨#[]⟩ ∧ fbErr s = 22) := fun hl h g => by
    have e : fbErr s = 22 := by unfold fbErr; rw [if_pos hl, h, if_pos rfl, if_neg (by unfold fbFn at g; omega)]
    refine ⟨?_, e⟩
    unfold fbStr; rw [e, if_neg (by omega)]
  have hgood : Hid (lf (5 * s.size / 8) = s.size → fbOk s s.size = true → fbFn (vnum s s.size) (5 * s.size / 8) = 0 → fbStr s = strFn (5 * s.size / 8) (fbFn (vnum s s.size)) ∧ fbErr s = 0) := fun hl h g => by
    have e : fbErr s = 0 := by unfold fbErr; rw [if_pos hl, h, if_pos rfl, if_pos (by unfold fbFn at g; omega)]
    refine ⟨?_, e⟩
    unfold fbStr; rw [e, if_pos rfl]
  go_enter Tryz.func69, Tryz.ntmps69
  go_wp2
  go_loop [4] (fun i => ∃ k : Nat, k ≤ s.size ∧ i = .int .i64 k ∧ (k = 0 ∨ (8 * (k - 1) + 4) / 5 < s.size)) (fun i => s.size - (intOf i).toNat)
  case atStart => exact ⟨0, Nat.zero_le _, rfl, .inl rfl⟩
  case round =>
    obtain ⟨n, hn, rfl, hlow⟩ := hrel
    have HLOW : Hid (n = 0 ∨ (8 * (n - 1) + 4) / 5 < s.size) := hlow
    clear hlow
    by_cases h1 : (8 * n + 4) / 5 < s.size
    · clear hi hz0 hz1 hz2 hi3 hz03 hz13 hz23
      go_wp2
      go_round
      case rel => exact ⟨n + 1, by omega, by go_num, .inr (by rw [Nat.add_sub_cancel]; exact h1)⟩
      case measure => simp [intOf]; omega
    · by_cases h2 : (8 * n + 4) / 5 = s.size
      · have hnn : Hid (5 * s.size / 8 = n) := by unfold Hid; omega
        have hlf : Hid (lf (5 * s.size / 8) = s.size) := by unfold Hid lf; rw [hnn.out]; exact h2
        have hm : 5 * s.size ≤ 8 * n + 4 := by omega
        have hm2 : 8 * n ≤ 5 * s.size := by omega
        have t1 : ((8 * (n : Int) + 4) / 5 != (s.size : Int)) = false := by simp; omega
        have t2 : ¬ (8 * (n : Int) + 4) / 5 < (s.size : Int) := by omega
        clear h1 h2 HLOW
        go_wp2
        go_loopw [5, 6] (fun v i wr => ∃ k : Nat, k ≤ s.size ∧ i = .int .i64 ((s.size : Int) - 1 - (k : Int)) ∧ (∀ j, j < k → 0 ≤ vl (bt s (s.size - 1 - j))) ∧ Own .i64 3 wr w.heap.size v (5 * k) (vbF s) ∧ Below w.heap.size w wr) (fun _ i _ => (intOf i + 1).toNat)
        case atStart => exact ⟨0, Nat.zero_le _, by simp, fun j hj => absurd hj (by omega), Own.nil _ _ _ _ _, Below.refl _ _⟩
        case round =>
          obtain ⟨k, hk, rfl, hok, O, B⟩ := hrel
          have HOK : Hid (∀ j, j < k → 0 ≤ vl (bt s (s.size - 1 - j))) := hok
          clear hok
          by_cases hlt : k < s.size
          · obtain ⟨d, hd⟩ : ∃ d : Nat, k + d + 1 = s.size := ⟨s.size - 1 - k, by omega⟩
            have hb := get_bt s
            have hbd := bt_bd s d
            have hds : d < s.size := by omega
            rw [show ((s.size : Int) - 1 - (k : Int)) = (d : Int) from by omega]
            go_wp2_with fail
            refine (rvalue_any _ _ hbd.1 hbd.2).mono ?_
            rintro e w2 ⟨rfl, rfl⟩
            have hx := vl_spec _ hbd
            have hx0 : -1 ≤ vl (bt s d) := by omega
            have hx1 : vl (bt s d) < 32 := by omega
            clear hx
            by_cases g : vl (bt s d) < 0
            · have HB := hbad.out hlf.out (fbOk_no s s.size d hds g)
              go_wp2
              go_ret2
              rw [HB.1, HB.2]
              exact ⟨rfl, B⟩
            · have hx2 : 0 ≤ vl (bt s d) := by omega
              clear g hx0
              go_wp2
              go_loopw [5, 7, 8] (fun v x j wi => ∃ (c : Nat) (y : Int), c ≤ 5 ∧ j = .int .i64 c ∧ x = .int .i64 y ∧ 0 ≤ y ∧ y < 32 ∧ y = vl (bt s d) / 2 ^ c ∧ Own .i64 3 wi w.heap.size v (5 * k + c) (vbF s) ∧ Below w.heap.size w wi) (fun _ _ j _ => 5 - (intOf j).toNat)
              case atStart => exact ⟨0, vl (bt s d), by omega, rfl, rfl, hx2, hx1, by simp, O, B⟩
              case round =>
                obtain ⟨c, y, hc, rfl, rfl, hy0, hy1, hy, O, B⟩ := hrel
                have HY : Hid (y = vl (bt s d) / 2 ^ c) := hy
                have HX : Hid (0 ≤ vl (bt s d)) := hx2
                clear hy hbd hx1 hx2
                by_cases hcl : c < 5
                · have hbit : Hid (y % 2 = vbF s (5 * k + c)) := vbF_at s k d c hd hcl y HY.out
                  have hhalf : Hid (y / 2 = vl (bt s d) / 2 ^ (c + 1)) := half_at _ c y HY.out
                  have hsz := B.size
                  go_wp2_with (at_builtin; refine wpList_append_one _ rfl _ _ 74 rfl w.heap.size 3 i3 .i64 8 Tryz.underlying74 hi3 hz03 hz13 hz23 (by decide) _ (5 * k + c) (vbF s) rfl (O.alloc _) _ 1 (y % 2) rfl ?c1 hbit.out (by omega) (by simp; omega) ?_)
                  case c1 => simp
                  intro v' w1 O' b' _
                  have B' : Below w.heap.size w w1 := (B.alloc hsz _).trans b'
                  clear O B b'
                  go_wp2
                  go_roundw
                  case rel => exact ⟨c + 1, y / 2, by omega, by go_num, by go_num, by omega, by omega, hhalf.out, O', B'⟩
                  case measure => simp [intOf]; omega
                · obtain rfl : c = 5 := by omega
                  go_wp2
                  go_roundw
                  case rel =>
                    refine ⟨k + 1, by omega, by congr 1; omega, fun j hj => ?_, by rw [show 5 * (k + 1) = 5 * k + 5 from by omega]; exact O, B⟩
                    by_cases e : j = k
                    · rw [e, show s.size - 1 - k = d from by omega]; exact HX.out
                    · exact HOK.out j (by omega)
                  case measure => simp [intOf]
          · obtain rfl : k = s.size := by omega
            have hall : Hid (∀ j, j < s.size → 0 ≤ vl (bt s j)) := fun j hj => by
              have := HOK.out (s.size - 1 - j) (by omega)
              rw [show s.size - 1 - (s.size - 1 - j) = j from by omega] at this
              exact this
            clear HOK
            obtain ⟨ga, capa, rfl, hga0, hga1, hcapa, RA⟩ := O.open (by omega)
            have hokk : Hid (fbOk s s.size = true) := (fbOk_iff s s.size).2 hall.out
            have hxv : Hid (xN s (5 * s.size) = vnum s s.size) := xN_vnum s s.size (Nat.le_refl _) hall.out
            clear O hi3 hz03 hz13 hz23 t1 t2 hlen hbad
            go_wp2_with fail
            rw [run_make (P := Tryz.prog) wr 43 5 i0 (.int .u8 0) Tryz.underlying43 hi hz0 .i64 .i64 _ _ (by omega) (by omega) (by rw [hz2]; omega) (by omega)]
            have R0 : Row .u8 (wr.alloc (.cells (madeCells (Value.int .u8 0).cells ((n : Int).toNat * i0.size)) 5)) wr.heap.size n (fun _ => 0) := Row.made (by rw [hz1]; omega)
            have RA0 : Row .i64 (wr.alloc (.cells (madeCells (Value.int .u8 0).cells ((n : Int).toNat * i0.size)) 5)) ga (5 * s.size) (vbF s) := RA.alloc hga1 _
            have B0 : Below w.heap.size w (wr.alloc (.cells (madeCells (Value.int .u8 0).cells ((n : Int).toNat * i0.size)) 5)) := B.alloc B.size _
            have hG : w.heap.size ≤ wr.heap.size := B.size
            generalize wr.alloc (.cells (madeCells (Value.int .u8 0).cells ((n : Int).toNat * i0.size)) 5) = W1 at R0 B0 RA0 ⊢
            rw [Int.toNat_natCast]
            clear hi hz0 hz1 hz2 RA B
            generalize wr.heap.size = go_ at *
            go_wp2
            go_loopw [10] (fun i wq => ∃ k : Nat, k ≤ 5 * s.size ∧ i = .int .i64 k ∧ xN s k < 256 ^ n ∧ Row .u8 wq go_ n (fbFn (xN s k)) ∧ Row .i64 wq ga (5 * s.size) (vbF s) ∧ Below w.heap.size w wq) (fun i _ => 5 * s.size - (intOf i).toNat)
            case atStart => exact ⟨0, Nat.zero_le _, rfl, Nat.pow_pos (by omega), R0.congr (fun j _ => by simp [fbFn, xN, num]), RA0, B0⟩
            case round =>
              obtain ⟨k, hk, rfl, hroom, R, RA, B⟩ := hrel
              have HR : Hid (xN s k < 256 ^ n) := hroom
              clear hroom
              by_cases hlt2 : k < 5 * s.size
              · have c1 := RA.cell k hlt2
                have hvb := vbF_bd s k
                by_cases hz : vbF s k = 0
                · have t3 : (vbF s k == 0) = true := by rw [hz]; rfl
                  have HZ : Hid (vbF s k = 0) := hz
                  clear hz
                  go_wp2
                  go_roundw
                  case rel => exact ⟨k + 1, by omega, by go_num, by rw [xN_zero s k HZ.out]; exact HR.out, by rw [xN_zero s k HZ.out]; exact R, RA, B⟩
                  case measure => simp [intOf]; omega
                · have t3 : (vbF s k == 0) = false := by rw [beq_eq_false_iff_ne]; exact hz
                  have HZ : Hid (vbF s k = 1) := by unfold Hid; omega
                  clear hz
                  by_cases h8 : 8 * n ≤ k
                  · have HB := hspare.out hlf.out hokk.out (by rw [hnn.out, ← hxv.out]; exact spare_bad s n k hlt2 HZ.out h8 hm)
                    have HB1 : Hid (fbStr s = ⟨#[]⟩) := HB.1
                    have HB2 : Hid (fbErr s = 22) := HB.2
                    clear HB
                    go_wp2
                    go_ret2
                    rw [HB1.out, HB2.out]
                    exact ⟨rfl, B⟩
                  · have hlt8 : k / 8 < n := by omega
                    have c2 := R.cell (k / 8) hlt8
                    have f2 := R.free (k / 8) hlt8
                    have hbd := step2_bd (xN s k) k (xN_lt s k)
                    have hst : Hid (∀ t, (if t = k / 8 then fbFn (xN s k) (k / 8) + 2 ^ (k % 8) else fbFn (xN s k) t) = fbFn (xN s (k + 1)) t) := fun t => by
                      rw [xN_one s k HZ.out]; exact step2 (xN s k) k (xN_lt s k) t
                    have hroom2 : Hid (xN s (k + 1) < 256 ^ n) := pow_room k n (by omega) _ (xN_lt s (k + 1))
                    go_wp2
                    go_roundw
                    case rel => exact ⟨k + 1, by omega, by go_num, hroom2.out, (R.set (k / 8) _ hlt8).congr (fun t _ => hst.out t), RA.other _ _ (by simp; omega), B.setCell hG _⟩
                    case measure => simp [intOf]; omega
              · obtain rfl : k = 5 * s.size := by omega
                have hfin := hgood.out hlf.out hokk.out (by rw [hnn.out, ← hxv.out]; exact spare_good _ n HR.out)
                rw [hnn.out, ← hxv.out] at hfin
                have HF1 : Hid (fbStr s = strFn n (fbFn (xN s (5 * s.size)))) := hfin.1
                have HF2 : Hid (fbErr s = 0) := hfin.2
                clear hfin
                have c1 := run_string_row (P := Tryz.prog) (src := 43) (dst := 9) (c := n) Tryz.underlying43 Tryz.underlying5 Tryz.underlying9 R
                go_wp2
                go_ret2
                rw [HF1.out, HF2.out]
                exact ⟨rfl, B⟩
      · have hlf : Hid (lf (5 * s.size / 8) ≠ s.size) := fun h => by
          unfold lf at h
          have h3 := HLOW.out
          generalize 5 * s.size / 8 = q at h
          have h4 : q ≤ n - 1 := by omega
          have h5 : (8 * q + 4) / 5 ≤ (8 * (n - 1) + 4) / 5 := Nat.div_le_div_right (by omega)
          omega
        have t1 : ((8 * (n : Int) + 4) / 5 != (s.size : Int)) = true := by simp; omega
        have t2 : ¬ (8 * (n : Int) + 4) / 5 < (s.size : Int) := by omega
        clear h1 h2 HLOW hi hz0 hz1 hz2 hi3 hz03 hz13 hz23
        go_wp2
        go_ret2
        rw [(hlen.out hlf.out).1, (hlen.out hlf.out).2]
        exact ⟨rfl, Below.refl _ _⟩
#print axioms rfb32_go
end Go.Proofs.YtgnlkggodchlbaaGreatDoor
/- The document's own FromBase32, at every text. -/
namespace Go.Proofs.YtgnlkggodchlbaaGreatDoor
open Go.RowKit
theorem rfb32_any (s : ByteArray) (w : World) (hs : s.size ≤ 1048576) :
    Calls Tryz.prog 69 #[.string s] w fun e w' => e = .returned (.tuple #[.string (fbStr s), .int .i64 (fbErr s)]) ∧ Below w.heap.size w w' := by
  by_cases h : s.size = 0
  · have e : fbErr s = 0 := by unfold fbErr; rw [h, if_pos (by decide), if_pos (show fbOk s 0 = true from rfl), if_pos (by show 0 / _ % 256 = 0; rw [Nat.zero_div])]
    have e2 : fbStr s = ⟨#[]⟩ := by unfold fbStr; rw [e, if_pos rfl, h]; rfl
    rw [e, e2]
    exact rfb32_zero s w h
  · exact rfb32_go s w hs (by omega)

end Go.Proofs.YtgnlkggodchlbaaGreatDoor
/- The document's CheckSigner, Digest; walked. -/
namespace Go.Proofs.YtgnlkggodchlbaaGreatDoor
open Go.RowKit

theorem sgB_cases (c : Int) : (sgB c = true ∧ ((97 ≤ c ∧ c ≤ 122) ∨ (48 ≤ c ∧ c ≤ 57 ∧ ¬ 97 ≤ c) ∨ (c = 46) ∨ (c = 45))) ∨ (sgB c = false ∧ (¬ 97 ≤ c ∨ (97 ≤ c ∧ ¬ c ≤ 122)) ∧ (¬ 48 ≤ c ∨ (48 ≤ c ∧ ¬ c ≤ 57)) ∧ c ≠ 46 ∧ c ≠ 45) := by
  unfold sgB
  by_cases h : (97 ≤ c ∧ c ≤ 122) ∨ (48 ≤ c ∧ c ≤ 57) ∨ c = 46 ∨ c = 45
  · left
    refine ⟨decide_eq_true h, ?_⟩
    omega
  · right
    refine ⟨decide_eq_false h, ?_⟩
    omega

set_option maxRecDepth 100000 in
set_option maxHeartbeats 2000000 in
theorem rckS_any (s : ByteArray) (w : World) :
    Calls Tryz.prog 52 #[.string s] w fun e w' => e = .returned (.int .i64 (sgC s)) ∧ w' = w := by
  by_cases hz : s.size < 1
  · have hh : Hid (sgC s = 151) := sgC_no (fun h => by have := h.1; omega)
    have hz' : (s.size : Int) < 1 := by omega
    go_enter Tryz.func52, Tryz.ntmps52
    go_wp2
    go_ret
    exact ⟨by rw [hh.out]; rfl, rfl⟩
  · have hz' : ¬ (s.size : Int) < 1 := by omega
    by_cases h32 : 32 < s.size
    · have hh : Hid (sgC s = 151) := sgC_no (fun h => by have := h.2.1; omega)
      have h32' : (32 : Int) < (s.size : Int) := by omega
      go_enter Tryz.func52, Tryz.ntmps52
      go_wp2
      go_ret
      exact ⟨by rw [hh.out]; rfl, rfl⟩
    · have h32' : ¬ (32 : Int) < (s.size : Int) := by omega
      have HZ : Hid (¬ s.size < 1) := hz
      have H32 : Hid (¬ 32 < s.size) := h32
      have hb := get_bt s
      clear hz h32
      go_enter Tryz.func52, Tryz.ntmps52
      go_wp2
      clear hz' h32'
      go_loop [3] (fun i => ∃ k : Nat, k ≤ s.size ∧ i = .int .i64 k ∧ Hid (∀ j, j < k → sgB (bt s j) = true)) (fun i => s.size - (intOf i).toNat)
      case atStart => exact ⟨0, Nat.zero_le _, rfl, fun j hj => absurd hj (by omega)⟩
      case round =>
        obtain ⟨k, hk, rfl, hok⟩ := hrel
        by_cases hlt : k < s.size
        · have hk32 : k < 32 := by have := H32.out; omega
          rcases sgB_cases (bt s k) with ⟨hv, hc⟩ | ⟨hv, h1, h2, h3, h4⟩
          · have hok2 : Hid (∀ j, j < k + 1 → sgB (bt s j) = true) := fun j hj => by
              by_cases e : j = k
              · rw [e]; exact hv
              · exact hok.out j (by omega)
            clear hv hok
            rcases hc with ⟨q1, q2⟩ | ⟨q1, q2, q3⟩ | q | q
            · go_wp2
              go_round
              case rel => exact ⟨k + 1, by omega, by go_num, hok2⟩
              case measure => simp [intOf]; omega
            · go_wp2
              go_round
              case rel => exact ⟨k + 1, by omega, by go_num, hok2⟩
              case measure => simp [intOf]; omega
            · have q1 : ¬ 97 ≤ bt s k := by omega
              have q2 : ¬ 48 ≤ bt s k := by omega
              have q3 : (bt s k == 46) = true := by rw [q]; rfl
              have q4 : (bt s k != 46) = false := by rw [q]; rfl
              go_wp2
              go_round
              case rel => exact ⟨k + 1, by omega, by go_num, hok2⟩
              case measure => simp [intOf]; omega
            · have q1 : ¬ 97 ≤ bt s k := by omega
              have q2 : ¬ 48 ≤ bt s k := by omega
              have q3 : (bt s k == 45) = true := by rw [q]; rfl
              have q4 : (bt s k != 45) = false := by rw [q]; rfl
              have q5 : (bt s k == 46) = false := by rw [q]; rfl
              have q6 : (bt s k != 46) = true := by rw [q]; rfl
              go_wp2
              go_round
              case rel => exact ⟨k + 1, by omega, by go_num, hok2⟩
              case measure => simp [intOf]; omega
          · have hh : Hid (sgC s = 151) := sgC_no (fun h => by have := h.2.2 k hlt; rw [hv] at this; exact Bool.noConfusion this)
            have q3 : (bt s k == 46) = false := by rw [beq_eq_false_iff_ne]; exact h3
            have q4 : (bt s k != 46) = true := by rw [bne_iff_ne]; exact h3
            have q5 : (bt s k == 45) = false := by rw [beq_eq_false_iff_ne]; exact h4
            have q6 : (bt s k != 45) = true := by rw [bne_iff_ne]; exact h4
            clear hv h3 h4
            rcases h1 with h1 | ⟨h1, h1'⟩
            all_goals rcases h2 with h2 | ⟨h2, h2'⟩
            all_goals first
              | (exfalso; omega)
              | (go_wp2
                 go_ret
                 exact ⟨by rw [hh.out]; rfl, rfl⟩)
        · have hh : Hid (sgC s = 0) := sgC_yes ⟨by have := HZ.out; omega, by have := H32.out; omega, fun j hj => hok.out j (by omega)⟩
          go_wp2
          go_ret
          exact ⟨by rw [hh.out]; rfl, rfl⟩

theorem undD32 : Tryz.prog.underlying 22 = some (.array 32 5) := by kernel_rfl
theorem szR32 : (Tryz.prog.info? 22).map (·.size) = some 32 := by kernel_rfl

set_option maxRecDepth 100000 in
set_option maxHeartbeats 2000000 in
theorem rdgO_any (t : ByteArray) (w : World) (ht : t.size ≤ 1048576) :
    Calls Tryz.prog 51 #[.string t] w fun e w' => e = .returned (.tuple #[.agg (cs .u8 32 (dFn t)), .bool (decide (dOk t))]) ∧ Below w.heap.size w w' := by
  have C0 := fun W => rfb32_any t W ht
  have R0 : Row .u8 (w.alloc (.cells (cs .u8 32 (fun _ => 0)) 22)) w.heap.size 32 (fun _ => 0) := Row.box
  have B0 : Below w.heap.size w (w.alloc (.cells (cs .u8 32 (fun _ => 0)) 22)) := (Below.refl _ _).alloc (Nat.le_refl _) _
  have z0 : (w.alloc (.cells (cs .u8 32 (fun _ => 0)) 22)).heap.size = w.heap.size + 1 := World.size_alloc _ _
  by_cases hd : dOk t
  · rw [dFn_yes hd, decide_eq_true hd]
    obtain ⟨h1, h2⟩ := (dOk_iff t).1 hd
    have h52 := hd.1
    have hbd : Hid (∀ k, 0 ≤ bt (fbStr t) k ∧ bt (fbStr t) k < 256) := bt_bd _
    generalize fbErr t = E at C0 h1
    generalize fbStr t = S at C0 h2 hbd ⊢
    subst h1
    have k1 : ((t.size : Int) == 52) = true := by rw [h52]; rfl
    have k2 : ((t.size : Int) != 52) = false := by rw [h52]; rfl
    have k3 : (t.size : Int) = 52 := by omega
    have hb := get_bt S
    clear hd h52
    go_enter Tryz.func51, Tryz.ntmps51
    go_wp2_with fail
    rw [cs_zero32]
    generalize w.alloc (.cells (cs .u8 32 (fun _ => 0)) 22) = w0 at R0 B0 z0 ⊢
    refine (C0 w0).mono ?_
    rintro e w1 ⟨rfl, b1⟩
    have R1 : Hid (Row .u8 w1 w.heap.size 32 (fun _ => 0)) := R0.below b1 (by omega)
    have B1 : Hid (Below w.heap.size w w1) := B0.trans (b1.mono B0.size)
    have z1 : Hid (w.heap.size < w1.heap.size) := by have := b1.size; unfold Hid; omega
    clear R0 B0 z0 b1 C0
    go_wp2
    rw [cs_zero32]
    clear k1 k2 k3
    have D2 : Hid (Row .u8 (w1.alloc (.cells (cs .u8 32 (fun _ => 0)) 22)) w1.heap.size 32 (fun j => if j < 0 then bt S j else 0)) := Row.box.congr (fun j _ => by rw [if_neg (by omega)])
    have R2 : Hid (Row .u8 (w1.alloc (.cells (cs .u8 32 (fun _ => 0)) 22)) w.heap.size 32 (fun _ => 0)) := R1.out.alloc z1.out _
    have B2 : Hid (Below w.heap.size w (w1.alloc (.cells (cs .u8 32 (fun _ => 0)) 22))) := B1.out.alloc B1.out.size _
    generalize w1.alloc (.cells (cs .u8 32 (fun _ => 0)) 22) = w2 at D2 R2 B2 ⊢
    obtain ⟨g, hg⟩ : ∃ g, w1.heap.size = g := ⟨_, rfl⟩
    have hgw : Hid (w.heap.size < g) := by rw [← hg]; exact z1.out
    rw [hg] at D2 ⊢
    clear hg R1 B1 z1
    go_loopw [7] (fun xi wr => ∃ k : Nat, k ≤ 32 ∧ xi = .int .i64 (k : Int) ∧ Hid (Row .u8 wr g 32 (fun j => if j < k then bt S j else 0)) ∧ Hid (Row .u8 wr w.heap.size 32 (fun _ => 0)) ∧ Hid (Below w.heap.size w wr)) (fun i _ => 32 - (intOf i).toNat)
    case atStart => exact ⟨0, Nat.zero_le _, rfl, D2, R2, B2⟩
    case round =>
      clear D2 R2 B2
      obtain ⟨k, hk, rfl, DK, RK, BK⟩ := hrel
      by_cases hlt : k < 32
      · have c0 := DK.out.cell k hlt
        have f0 := DK.out.free k hlt
        have hkS : k < S.size := by omega
        have D3 : Hid (Row .u8 (wr.setCell ⟨g, k, none⟩ (.int .u8 (bt S k))) g 32 (fun j => if j < k + 1 then bt S j else 0)) := (DK.out.set k (bt S k) hlt).congr (fun j hj => by
          by_cases e : j = k
          · rw [if_pos e, if_pos (by omega), e]
          · rw [if_neg e]
            by_cases e2 : j < k
            · rw [if_pos e2, if_pos (by omega)]
            · rw [if_neg e2, if_neg (by omega)])
        have R3 : Hid (Row .u8 (wr.setCell ⟨g, k, none⟩ (.int .u8 (bt S k))) w.heap.size 32 (fun _ => 0)) := RK.out.other _ _ (by show w.heap.size ≠ g; have := hgw.out; omega)
        have B3 : Hid (Below w.heap.size w (wr.setCell ⟨g, k, none⟩ (.int .u8 (bt S k)))) := BK.out.setCell (by show _ ≤ g; have := hgw.out; omega) _
        clear DK RK BK
        go_wp2
        go_roundw
        case rel => exact ⟨k + 1, by omega, by go_num, D3, R3, B3⟩
        case measure => simp [intOf]; omega
      · obtain rfl : k = 32 := by omega
        have DF : Row .u8 wr g 32 (bt S) := DK.out.congr (fun j hj => by rw [if_pos hj])
        have RF := RK.out
        have hl := BK.out.size
        have hgl : g < wr.heap.size := World.block_lt_of_cell? _ _ (DF.cell 0 (by omega))
        go_wp2_with (first
          | (refine wpList_load_arr (by rfl) 22 (.tmp 6) (by rfl) g (by rfl) DF undD32 szR32 ?_)
          | (refine wpList_store_any (by rfl) 22 (.tmp 2) (.tmp 30) (by rfl) w.heap.size (by rfl) (by rfl) RF szR32 (by rfl) ?_; intro W5 R5 U5))
        exact bodyPost_ret (results_ct Tryz.results51 _ _ rfl R5 undD32 szR32) rfl ⟨rfl, U5.below BK.out (Nat.le_refl _) (by have := hgw.out; omega)⟩
  · rw [dFn_no hd, decide_eq_false hd]
    have hd2 : ¬ (t.size = 52 ∧ fbErr t = 0) := hd
    generalize fbErr t = E at C0 hd2
    generalize fbStr t = S at C0
    clear hd
    have key : (E = 0 ∧ (t.size : Int) ≠ 52) ∨ E ≠ 0 := by
      by_cases he : E = 0
      · left; exact ⟨he, fun h => hd2 ⟨by omega, he⟩⟩
      · right; exact he
    clear hd2
    rcases key with ⟨he, h52⟩ | he
    · subst he
      have k1 : ((t.size : Int) == 52) = false := by rw [beq_eq_false_iff_ne]; exact h52
      have k2 : ((t.size : Int) != 52) = true := by rw [bne_iff_ne]; exact h52
      clear h52
      go_enter Tryz.func51, Tryz.ntmps51
      go_wp2_with fail
      rw [cs_zero32]
      generalize w.alloc (.cells (cs .u8 32 (fun _ => 0)) 22) = w0 at R0 B0 z0 ⊢
      refine (C0 w0).mono ?_
      rintro e w1 ⟨rfl, b1⟩
      have R1 : Row .u8 w1 w.heap.size 32 (fun _ => 0) := R0.below b1 (by omega)
      have B1 : Below w.heap.size w w1 := B0.trans (b1.mono B0.size)
      have z1 : w.heap.size < w1.heap.size := by have := b1.size; omega
      clear R0 B0 z0 b1 C0
      go_wp2_with (refine wpList_store_any (by rfl) 22 (.tmp 2) (.tmp 20) (by rfl) w.heap.size (by rfl) (by exact congrArg Value.agg cs_zero32) R1 szR32 (by rfl) ?_; intro W5 R5 U5)
      exact bodyPost_ret (results_ct Tryz.results51 _ _ rfl R5 undD32 szR32) rfl ⟨rfl, U5.below B1 (Nat.le_refl _) (by omega)⟩
    · have k1 : (E == 0) = false := by rw [beq_eq_false_iff_ne]; exact he
      have k2 : (E != 0) = true := by rw [bne_iff_ne]; exact he
      clear he
      go_enter Tryz.func51, Tryz.ntmps51
      go_wp2_with fail
      rw [cs_zero32]
      generalize w.alloc (.cells (cs .u8 32 (fun _ => 0)) 22) = w0 at R0 B0 z0 ⊢
      refine (C0 w0).mono ?_
      rintro e w1 ⟨rfl, b1⟩
      have R1 : Row .u8 w1 w.heap.size 32 (fun _ => 0) := R0.below b1 (by omega)
      have B1 : Below w.heap.size w w1 := B0.trans (b1.mono B0.size)
      have z1 : w.heap.size < w1.heap.size := by have := b1.size; omega
      clear R0 B0 z0 b1 C0
      go_wp2_with (refine wpList_store_any (by rfl) 22 (.tmp 2) (.tmp 20) (by rfl) w.heap.size (by rfl) (by exact congrArg Value.agg cs_zero32) R1 szR32 (by rfl) ?_; intro W5 R5 U5)
      exact bodyPost_ret (results_ct Tryz.results51 _ _ rfl R5 undD32 szR32) rfl ⟨rfl, U5.below B1 (Nat.le_refl _) (by omega)⟩

end Go.Proofs.YtgnlkggodchlbaaGreatDoor
/- The document's SplitSign; walked. -/
namespace Go.Proofs.YtgnlkggodchlbaaGreatDoor
open Go.RowKit

set_option maxRecDepth 100000 in
set_option maxHeartbeats 1000000 in
theorem rspS_any (s : ByteArray) (w : World) (hs : s.size ≤ 1048576) :
    Calls Tryz.prog 33 #[.string s] w fun e w' => e = .returned (.tuple #[.string (snN s), .agg (cs .u8 32 (snD s)), .int .i64 (snC s)]) ∧ Below w.heap.size w w' := by
  have R0 : Row .u8 (w.alloc (.cells (cs .u8 32 (fun _ => 0)) 22)) w.heap.size 32 (fun _ => 0) := Row.box
  have B0 : Below w.heap.size w (w.alloc (.cells (cs .u8 32 (fun _ => 0)) 22)) := (Below.refl _ _).alloc (Nat.le_refl _) _
  have z0 : w.heap.size < (w.alloc (.cells (cs .u8 32 (fun _ => 0)) 22)).heap.size := by rw [World.size_alloc]; omega
  have hb := get_bt s
  generalize hN : snN s = xN
  generalize hE : snD s = xD
  generalize hC : snC s = xC
  have HN : Hid (snN s = xN) := hN
  have HE : Hid (snD s = xD) := hE
  have HC : Hid (snC s = xC) := hC
  clear hN hE hC
  go_enter Tryz.func33, Tryz.ntmps33
  go_wp2
  rw [cs_zero32]
  generalize w.alloc (.cells (cs .u8 32 (fun _ => 0)) 22) = w0 at R0 B0 z0 ⊢
  go_loop [5] (fun i => ∃ k : Nat, k ≤ s.size ∧ i = .int .i64 (k : Int) ∧ Hid (∀ j, j < k → bt s j ≠ 58)) (fun i => s.size - (intOf i).toNat)
  case atStart => exact ⟨0, Nat.zero_le _, rfl, fun j hj => absurd hj (by omega)⟩
  case round =>
    obtain ⟨k, hk, rfl, hok⟩ := hrel
    by_cases hlt : k < s.size
    · by_cases hc : bt s k = 58
      · have hf : fst s 58 = k := fst_uniq hk hok.out (Or.inr hc)
        have e1 : (bt s k == 58) = true := by rw [hc]; rfl
        have e2 : (bt s k != 58) = false := by rw [hc]; rfl
        have e3 : ((k : Int) == (s.size : Int)) = false := by rw [beq_eq_false_iff_ne]; omega
        have e4 : ¬ (k : Int) = (s.size : Int) := by omega
        have k1 : k + 1 ≤ s.size := by omega
        have k2 : (k : Int) + 1 ≤ (s.size : Int) := by omega
        have k3 : ¬ (k : Int) + 1 < 0 := by omega
        have k4 : ((k : Int) + 1).toNat = k + 1 := by omega
        have hA : snA s = s.extract 0 k := by unfold snA; rw [hf]
        have hB : snB s = s.extract (k + 1) s.size := by unfold snB; rw [hf]
        have hBs : (snB s).size ≤ 1048576 := by rw [hB, ByteArray.size_extract]; omega
        have CD := rdgO_any (snB s) w0 hBs
        rw [hB] at CD
        by_cases hD : dOk (snB s)
        · by_cases hS : sgOk (snA s)
          · have hsn : snOk s := ⟨by rw [hf]; exact hlt, hS, hD⟩
            have eD : Hid (dFn (s.extract (k + 1) s.size) = xD) := by unfold Hid; rw [← hB, dFn_yes hD, ← HE.out, snD_yes hsn]
            have eN : Hid (xN = s.extract 0 k) := by unfold Hid; rw [← HN.out, snN_yes hsn, hA]
            have eC : Hid (xC = 0) := by unfold Hid; rw [← HC.out, snC_yes hsn]
            rw [eD.out, show decide (dOk (s.extract (k + 1) s.size)) = true from by rw [← hB]; exact decide_eq_true hD] at CD
            have HCS : Hid (sgC (s.extract 0 k) = 0) := by unfold Hid; rw [← hA]; exact sgC_yes hS
            clear hf hA hB hD hS hsn hok hBs hc HN HE HC eD
            go_wp2_with fail
            refine CD.mono ?_
            clear CD
            rintro e w3 ⟨rfl, b3⟩
            have R3 : Hid (Row .u8 w3 w.heap.size 32 (fun _ => 0)) := R0.below b3 z0
            have B3 : Hid (Below w.heap.size w w3) := B0.trans (b3.mono B0.size)
            have z3 : Hid (w.heap.size < w3.heap.size) := Nat.lt_of_lt_of_le z0 b3.size
            clear b3 R0 B0 z0
            go_wp2_with (refine wpList_store_any (by rfl) 22 (.tmp 6) (.tmp 31) (by rfl) w3.heap.size (by rfl) (by rfl) (Row.rep (by rfl)) szR32 (by rfl) ?_; intro W4 R4 U4; refine Hid.out ?_)
            unfold Hid
            have R4' : Hid (Row .u8 W4.drew w.heap.size 32 (fun _ => 0)) := ((R3.out.alloc z3.out _).upd U4 (by rw [World.size_alloc]; have := z3.out; omega) (by have := z3.out; omega)).drew
            have B4 : Hid (Below w.heap.size w W4.drew) := (U4.below (B3.out.alloc B3.out.size _) (by have := z3.out; omega) (by rw [World.size_alloc]; have := z3.out; omega)).drew
            have z4 : Hid (w.heap.size < W4.drew.heap.size) := by show w.heap.size < W4.heap.size; rw [U4.size, World.size_alloc]; have := z3.out; omega
            have z5 : Hid (w3.heap.size < W4.drew.heap.size) := by show w3.heap.size < W4.heap.size; rw [U4.size, World.size_alloc]; omega
            clear R3 B3 U4
            go_wp2_with fail
            refine (rckS_any _ _).mono ?_
            rintro e w5 ⟨rfl, hw5⟩
            subst hw5
            rw [HCS.out]
            clear HCS
            go_wp2
            refine wp_region_held_drew (S := fun W => Row .u8 W w3.heap.size 32 xD) (by kernel_rfl) R4.drew (fun hH => ?_)
            generalize w5.drew = W at R4' B4 z4 z5 hH ⊢
            refine wpAnyH_take (i := 0) (oi := { dst := some 43, op := Op.move (Operand.tmp 0), type := 9, pos := "ref.go:73", after := #[], guard := none }) (v := .string s) rfl (by kernel_rfl) (by kernel_rfl) (by kernel_rfl) (fun _ _ _ h => h) (Or.inl ⟨by rfl, by intro w _; go_simp⟩) hH ?_
            simp only [Act.put, List.setIfInBounds_toArray, List.set_cons_zero, List.set_cons_succ]
            refine wpAnyH_take (i := 1) (oi := { dst := some 44, op := Op.move (Operand.tmp 5), type := 3, pos := "ref.go:73", after := #[], guard := none }) (v := .int .i64 (k : Int)) rfl (by kernel_rfl) (by kernel_rfl) (by kernel_rfl) (fun _ _ _ h => h) (Or.inl ⟨by rfl, by intro w _; go_simp⟩) hH ?_
            simp only [Act.put, List.setIfInBounds_toArray, List.set_cons_zero, List.set_cons_succ]
            refine wpAnyH_take (i := 2) (oi := { dst := some 45, op := Op.slice 9 (Operand.tmp 43) none (some (Operand.tmp 44)) none, type := 9, pos := "ref.go:73", after := #[{ on := 0, ground := Ground.data }, { on := 1, ground := Ground.data }], guard := none }) (v := .string (s.extract 0 k)) rfl (by kernel_rfl) (by kernel_rfl) (by kernel_rfl) (fun _ _ _ h => h) (Or.inl ⟨by rfl, by intro w _; go_simp⟩) hH ?_
            simp only [Act.put, List.setIfInBounds_toArray, List.set_cons_zero, List.set_cons_succ]
            refine wpAnyH_take (i := 3) (oi := { dst := some 46, op := Op.load 22 (Operand.tmp 6), type := 22, pos := "ref.go:73", after := #[{ on := 4, ground := Ground.gcOnly Departure.lateStores }], guard := none }) rfl (by kernel_rfl) (by kernel_rfl) (by kernel_rfl) (fun _ _ _ h => h) (yieldsIf_arr (by rfl) 22 (.tmp 6) rfl w3.heap.size rfl (fun w' s => s) undD32 szR32) hH ?_
            simp only [Act.put, List.setIfInBounds_toArray, List.set_cons_zero, List.set_cons_succ]
            refine wpAnyH_ready (rs := [4]) (by kernel_rfl) (by decide) (AllReadyH.cons rfl (fun K hK => ?_) AllReadyH.nil)
            rw [if_pos (by rfl)]
            go_simp
            refine hK.out _ _ hH (fun hH2 => ?_)
            clear hK K
            try simp only [Act.put, List.setIfInBounds_toArray, List.set_cons_zero, List.set_cons_succ]
            refine wpAnyH_ready (rs := [5]) (by kernel_rfl) (by decide) (AllReadyH.cons rfl (fun K hK => ?_) AllReadyH.nil)
            rw [if_pos (by rfl)]
            refine wp_store_mid 22 (.tmp 3) (.tmp 46) rfl w.heap.size 0 (cs .u8 32 xD) rfl rfl (by rw [cs_size]; exact R4'.out.thereAll) (by rw [cs_size]; exact szR32) (cs_all _ _ _) ?_
            have U6 := put_upd W w.heap.size .u8 32 xD
            have R6 := put_row (f := xD) R4'.out
            have R7 : Row .u8 (put W w.heap.size .u8 32 xD) w3.heap.size 32 xD := hH2.upd U6 z5.out (by have := z3.out; omega)
            change K _ (put W w.heap.size .u8 32 xD)
            generalize put W w.heap.size .u8 32 xD = W6 at U6 R6 R7 ⊢
            refine hK.out _ _ R7 (fun hH3 => ?_)
            clear hK K
            try simp only [Act.put]
            refine wpAnyH_ready (rs := [6]) (by kernel_rfl) (by decide) (AllReadyH.cons rfl (fun K hK => ?_) AllReadyH.nil)
            rw [if_pos (by rfl)]
            go_simp
            refine hK.out _ _ hH3 (fun hH4 => ?_)
            clear hK K
            try simp only [Act.put, List.setIfInBounds_toArray, List.set_cons_zero, List.set_cons_succ]
            refine wpAnyH_done (by kernel_rfl) ?_ _
            go_wp2
            exact bodyPost_ret (results_tct Tryz.results33 _ _ rfl R6 undD32 szR32) rfl ⟨by rw [eN.out, eC.out]; rfl, U6.below B4.out (Nat.le_refl _) (by have := z4.out; omega)⟩
          · have hsn : ¬ snOk s := fun h => hS h.2.1
            have eN : Hid (xN = ⟨#[]⟩) := by unfold Hid; rw [← HN.out, snN_no hsn]
            have eD : Hid (xD = fun _ => 0) := by unfold Hid; rw [← HE.out, snD_no hsn]
            have eC : Hid (xC = 151) := by unfold Hid; rw [← HC.out, snC_no hsn]
            rw [show decide (dOk (s.extract (k + 1) s.size)) = true from by rw [← hB]; exact decide_eq_true hD] at CD
            generalize dFn (s.extract (k + 1) s.size) = Y at CD
            have HCS : Hid (sgC (s.extract 0 k) = 151) := by unfold Hid; rw [← hA]; exact sgC_no hS
            clear hf hA hB hD hS hsn hok hBs hc HN HE HC
            go_wp2_with fail
            refine CD.mono ?_
            clear CD
            rintro e w3 ⟨rfl, b3⟩
            have R3 : Hid (Row .u8 w3 w.heap.size 32 (fun _ => 0)) := R0.below b3 z0
            have B3 : Hid (Below w.heap.size w w3) := B0.trans (b3.mono B0.size)
            have z3 : Hid (w.heap.size < w3.heap.size) := Nat.lt_of_lt_of_le z0 b3.size
            clear b3 R0 B0 z0
            go_wp2_with (refine wpList_store_any (by rfl) 22 (.tmp 6) (.tmp 31) (by rfl) w3.heap.size (by rfl) (by rfl) (Row.rep (by rfl)) szR32 (by rfl) ?_; intro W4 R4 U4; refine Hid.out ?_)
            unfold Hid
            have R4' : Row .u8 W4 w.heap.size 32 (fun _ => 0) := ((R3.out.alloc z3.out _).upd U4 (by rw [World.size_alloc]; have := z3.out; omega) (by have := z3.out; omega))
            have B4 : Below w.heap.size w W4 := (U4.below (B3.out.alloc B3.out.size _) (by have := z3.out; omega) (by rw [World.size_alloc]; have := z3.out; omega))
            have z4 : w.heap.size < W4.heap.size := by rw [U4.size, World.size_alloc]; have := z3.out; omega
            clear R3 B3 U4 R4
            go_wp2_with fail
            refine (rckS_any _ _).mono ?_
            rintro e w5 ⟨rfl, hw5⟩
            subst hw5
            rw [HCS.out]
            clear HCS
            go_wp2_with (refine wpList_store_any (by rfl) 22 (.tmp 3) (.tmp 42) (by rfl) w.heap.size (by rfl) (by exact congrArg Value.agg cs_zero32) R4' szR32 (by rfl) ?_; intro W5 R5 U5)
            exact bodyPost_ret (results_tct Tryz.results33 _ _ rfl R5 undD32 szR32) rfl ⟨by rw [eN.out, eD.out, eC.out]; rfl, U5.below B4 (Nat.le_refl _) (by omega)⟩
        · have hsn : ¬ snOk s := fun h => hD h.2.2
          have eN : Hid (xN = ⟨#[]⟩) := by unfold Hid; rw [← HN.out, snN_no hsn]
          have eD : Hid (xD = fun _ => 0) := by unfold Hid; rw [← HE.out, snD_no hsn]
          have eC : Hid (xC = 151) := by unfold Hid; rw [← HC.out, snC_no hsn]
          rw [show decide (dOk (s.extract (k + 1) s.size)) = false from by rw [← hB]; exact decide_eq_false hD] at CD
          generalize dFn (s.extract (k + 1) s.size) = Y at CD
          clear hf hA hB hD hsn hok hBs hc HN HE HC
          go_wp2_with fail
          refine CD.mono ?_
          clear CD
          rintro e w3 ⟨rfl, b3⟩
          have R3 : Hid (Row .u8 w3 w.heap.size 32 (fun _ => 0)) := R0.below b3 z0
          have B3 : Hid (Below w.heap.size w w3) := B0.trans (b3.mono B0.size)
          have z3 : Hid (w.heap.size < w3.heap.size) := Nat.lt_of_lt_of_le z0 b3.size
          clear b3 R0 B0 z0
          go_wp2_with (refine wpList_store_any (by rfl) 22 (.tmp 6) (.tmp 31) (by rfl) w3.heap.size (by rfl) (by rfl) (Row.rep (by rfl)) szR32 (by rfl) ?_; intro W4 R4 U4; refine Hid.out ?_)
          unfold Hid
          have R4' : Row .u8 W4 w.heap.size 32 (fun _ => 0) := ((R3.out.alloc z3.out _).upd U4 (by rw [World.size_alloc]; have := z3.out; omega) (by have := z3.out; omega))
          have B4 : Below w.heap.size w W4 := (U4.below (B3.out.alloc B3.out.size _) (by have := z3.out; omega) (by rw [World.size_alloc]; have := z3.out; omega))
          have z4 : w.heap.size < W4.heap.size := by rw [U4.size, World.size_alloc]; have := z3.out; omega
          clear R3 B3 U4 R4
          go_wp2_with (refine wpList_store_any (by rfl) 22 (.tmp 3) (.tmp 42) (by rfl) w.heap.size (by rfl) (by exact congrArg Value.agg cs_zero32) R4' szR32 (by rfl) ?_; intro W5 R5 U5)
          exact bodyPost_ret (results_tct Tryz.results33 _ _ rfl R5 undD32 szR32) rfl ⟨by rw [eN.out, eD.out, eC.out]; rfl, U5.below B4 (Nat.le_refl _) (by omega)⟩
      · have e1 : (bt s k == 58) = false := by rw [beq_eq_false_iff_ne]; exact hc
        have e2 : (bt s k != 58) = true := by rw [bne_iff_ne]; exact hc
        have hok2 : Hid (∀ j, j < k + 1 → bt s j ≠ 58) := fun j hj => by
          by_cases e : j = k
          · rw [e]; exact hc
          · exact hok.out j (by omega)
        clear hc
        go_wp2
        go_round
        case rel => exact ⟨k + 1, by omega, by go_num, hok2⟩
        case measure => simp [intOf]; omega
    · obtain rfl : k = s.size := by omega
      have hf : fst s 58 = s.size := fst_uniq (Nat.le_refl _) hok.out (Or.inl rfl)
      have hsn : ¬ snOk s := fun h => by have := h.1; omega
      have eN : Hid (xN = ⟨#[]⟩) := by unfold Hid; rw [← HN.out, snN_no hsn]
      have eD : Hid (xD = fun _ => 0) := by unfold Hid; rw [← HE.out, snD_no hsn]
      have eC : Hid (xC = 151) := by unfold Hid; rw [← HC.out, snC_no hsn]
      have e3 : ((s.size : Int) == (s.size : Int)) = true := by simp
      clear hf hsn hok HN HE HC
      go_wp2_with (refine wpList_store_any (by rfl) 22 (.tmp 3) (.tmp 24) (by rfl) w.heap.size (by rfl) (by exact congrArg Value.agg cs_zero32) R0 szR32 (by rfl) ?_; intro W5 R5 U5)
      exact bodyPost_ret (results_tct Tryz.results33 _ _ rfl R5 undD32 szR32) rfl ⟨by rw [eN.out, eD.out, eC.out]; rfl, U5.below B0 (Nat.le_refl _) (by omega)⟩

end Go.Proofs.YtgnlkggodchlbaaGreatDoor
/- The document's path, Unsigned, Check; the laws' plain; walked. -/
namespace Go.Proofs.YtgnlkggodchlbaaGreatDoor
open Go.RowKit Go.Shelf

set_option maxHeartbeats 400000 in
theorem rpath_any (p : ByteArray) (w : World) :
    Calls Tryz.prog 35 #[.string p] w fun e w' => e = .returned (.int .i64 (prC p)) ∧ w' = w := by
  have C0 := rparse_any p w
  generalize prH p = a at C0
  generalize prL p = b at C0
  generalize prC p = c at C0 ⊢
  go_enter Tryz.func35, Tryz.ntmps35
  go_wp2_with fail
  refine C0.mono ?_
  rintro e w1 ⟨rfl, rfl⟩
  go_wp2
  go_ret
  exact ⟨rfl, rfl⟩

theorem szRINF : (Tryz.prog.info? 34).map (·.size) = some 37 := by kernel_rfl
theorem wpList_load_rinf {ops : Array Oper} {rest : List Oper} {o : Oper} {a : Act} {w : World} {Q : Exit → Act → World → Prop} {g : Nat} {P : ByteArray} {D : Nat → Int} {z : Int} {vr : Value} {F : ByteArray} {vs : Value} (hgd : o.guard = none) (x : Operand) (ho : o.op = .load 34 x)
    (hx : a.eval x = .pointer (some ⟨g, 0, none⟩)) (h : Inf w g P D z vr F vs) (hK : wpList Tryz.prog ops Q rest (a.put o.dst (.agg (infC P D z vr F vs))) w) : wpList Tryz.prog ops Q (o :: rest) a w :=
  wpList_load_mid hgd 34 x ho g 0 hx (infL P D z vr F vs) _ h.range Tryz.underlying34 rfl (by rw [szRINF]; exact congrArg some (infC_size P D z vr F vs).symm) hK

set_option maxRecDepth 100000 in
set_option maxHeartbeats 2000000 in
theorem runs_any (P : ByteArray) (D : Nat → Int) (z : Int) (F : ByteArray) (xr : Option Addr) (nr cr : Nat) (fr : Nat → ByteArray) (vs : Value) (w : World) (hr : SIs w xr nr fr) :
    Calls Tryz.prog 21 #[.agg (infC P D z (.slice xr nr cr) F vs)] w fun e w' => e = .returned (.int .i64 (unC P z fr nr F)) ∧ Below w.heap.size w w' := by
  have I0 : Inf (w.alloc (.cells (infC P D z (.slice xr nr cr) F vs) 34)) w.heap.size P D z (.slice xr nr cr) F vs := Inf.box _ _ _ _ _ _ _ _
  have B0 : Below w.heap.size w (w.alloc (.cells (infC P D z (.slice xr nr cr) F vs) 34)) := (Below.refl _ _).alloc (Nat.le_refl _) _
  have HR : Hid (SIs w xr nr fr) := hr
  clear hr
  generalize hC : unC P z fr nr F = C
  have HC : Hid (unC P z fr nr F = C) := hC
  clear hC
  unfold unC at HC
  have p0 := I0.path
  have CP := fun W => rpath_any P W
  rcases prC_is P with hP | hP
  · rw [hP] at CP
    by_cases hz0 : 0 ≤ z
    · have hz0' : ¬ z < 0 := by omega
      by_cases hz1 : z ≤ 1048576
      · have hz1' : ¬ 1048576 < z := by omega
        have HC1 : Hid (orC (crf fr nr) (frC F) = C) := by
          have h1 := HC.out
          rw [orC_z hP, orC_z (szC_yes hz0 hz1)] at h1
          exact h1
        rcases crf_is fr nr with hR | hR
        · have HC2 : Hid (frC F = C) := by
            have h1 := HC1.out
            rw [orC_z hR] at h1
            exact h1
          by_cases hF : F.size = 0
          · have hc : Hid (C = 0) := by
              have h1 := HC2.out
              rw [frC_z hF] at h1
              exact h1.symm
            obtain rfl : F = ⟨#[]⟩ := bytes_ext (by rw [hF]; rfl) (fun k hk => absurd hk (by omega))
            clear HC HC1 HC2 hF
            go_enter Tryz.func21, Tryz.ntmps21
            go_wp2_with fail
            generalize w.alloc (.cells (infC P D z (.slice xr nr cr) ⟨#[]⟩ vs) 34) = w0 at I0 B0 p0 ⊢
            refine (CP w0).mono ?_
            rintro e w1 ⟨rfl, rfl⟩
            have B1 : Hid (Below w.heap.size w w1) := B0
            have I1 := I0
            clear I0 B0 p0 CP
            have c33 := I1.size
            have c34 := I1.refs
            have CR := rckR_any xr nr cr fr w1 (HR.out.below B1.out (Nat.le_refl _))
            rw [hR] at CR
            go_wp2_with fail
            refine CR.mono ?_
            rintro e w2 ⟨rfl, rfl⟩
            have I2 := I1
            have B2 : Hid (Below w.heap.size w w2) := B1
            have c35 := I2.from_
            go_wp2
            go_ret
            exact ⟨by rw [hc.out]; rfl, B2.out⟩
          · have f1 : (F.toList == []) = false := by
              rw [beq_eq_false_iff_ne]
              intro h
              exact hF ((empty_iff F).1 (by rw [h]; rfl))
            have f2 : (F.toList != []) = true := by rw [bne_iff_ne]; rw [beq_eq_false_iff_ne] at f1; exact f1
            have f3 : ¬ F.toList = [] := by rw [beq_eq_false_iff_ne] at f1; exact f1
            have f4 : F.toList.isEmpty = false := by
              cases h : F.toList.isEmpty
              · rfl
              · exact absurd ((empty_iff F).1 h) hF
            have hc : Hid (C = prC F) := by
              have h1 := HC2.out
              rw [frC_n hF] at h1
              exact h1.symm
            clear HC HC1 HC2 hF
            go_enter Tryz.func21, Tryz.ntmps21
            go_wp2_with fail
            generalize w.alloc (.cells (infC P D z (.slice xr nr cr) F vs) 34) = w0 at I0 B0 p0 ⊢
            refine (CP w0).mono ?_
            rintro e w1 ⟨rfl, rfl⟩
            have B1 : Hid (Below w.heap.size w w1) := B0
            have I1 := I0
            clear I0 B0 p0 CP
            have c33 := I1.size
            have c34 := I1.refs
            have CR := rckR_any xr nr cr fr w1 (HR.out.below B1.out (Nat.le_refl _))
            rw [hR] at CR
            go_wp2_with fail
            refine CR.mono ?_
            rintro e w2 ⟨rfl, rfl⟩
            have I2 := I1
            have B2 : Hid (Below w.heap.size w w2) := B1
            have c35 := I2.from_
            go_wp2_with fail
            refine (rpath_any F w2).mono ?_
            rintro e w3 ⟨rfl, rfl⟩
            go_wp2
            go_ret
            exact ⟨by rw [hc.out]; rfl, B2.out⟩
        · have hc : Hid (C = crf fr nr) := by
            have h1 := HC1.out
            rw [bne_iff_ne] at hR
            rw [orC_n hR] at h1
            exact h1.symm
          clear HC HC1
          go_enter Tryz.func21, Tryz.ntmps21
          go_wp2_with fail
          generalize w.alloc (.cells (infC P D z (.slice xr nr cr) F vs) 34) = w0 at I0 B0 p0 ⊢
          refine (CP w0).mono ?_
          rintro e w1 ⟨rfl, rfl⟩
          have B1 : Hid (Below w.heap.size w w1) := B0
          have I1 := I0
          clear I0 B0 p0 CP
          have c33 := I1.size
          have c34 := I1.refs
          have CR := rckR_any xr nr cr fr w1 (HR.out.below B1.out (Nat.le_refl _))
          go_wp2_with fail
          refine CR.mono ?_
          rintro e w2 ⟨rfl, rfl⟩
          have I2 := I1
          have B2 : Hid (Below w.heap.size w w2) := B1
          go_wp2
          go_ret
          exact ⟨by rw [hc.out]; rfl, B2.out⟩
      · have hz1' : 1048576 < z := by omega
        have hc : Hid (C = 152) := by
          have h1 := HC.out
          have h2 := szC_no (z := z) (by omega)
          rw [orC_z hP, h2, orC_n (by decide)] at h1
          exact h1.symm
        clear HC
        go_enter Tryz.func21, Tryz.ntmps21
        go_wp2_with fail
        generalize w.alloc (.cells (infC P D z (.slice xr nr cr) F vs) 34) = w0 at I0 B0 p0 ⊢
        refine (CP w0).mono ?_
        rintro e w1 ⟨rfl, rfl⟩
        have B1 : Hid (Below w.heap.size w w1) := B0
        have I1 := I0
        clear I0 B0 p0 CP
        have c33 := I1.size
        go_wp2
        go_ret
        exact ⟨by rw [hc.out]; rfl, B1.out⟩
    · have hz0' : z < 0 := by omega
      have hc : Hid (C = 152) := by
        have h1 := HC.out
        have h2 := szC_no (z := z) (by omega)
        rw [orC_z hP, h2, orC_n (by decide)] at h1
        exact h1.symm
      clear HC
      go_enter Tryz.func21, Tryz.ntmps21
      go_wp2_with fail
      generalize w.alloc (.cells (infC P D z (.slice xr nr cr) F vs) 34) = w0 at I0 B0 p0 ⊢
      refine (CP w0).mono ?_
      rintro e w1 ⟨rfl, rfl⟩
      have B1 : Hid (Below w.heap.size w w1) := B0
      have I1 := I0
      clear I0 B0 p0 CP
      have c33 := I1.size
      go_wp2
      go_ret
      exact ⟨by rw [hc.out]; rfl, B1.out⟩
  · have hc : Hid (C = prC P) := by
      have h1 := HC.out
      rw [bne_iff_ne] at hP
      unfold Hid
      rw [orC_n hP] at h1
      exact h1.symm
    clear HC
    go_enter Tryz.func21, Tryz.ntmps21
    go_wp2_with fail
    generalize w.alloc (.cells (infC P D z (.slice xr nr cr) F vs) 34) = w0 at I0 B0 p0 ⊢
    refine (CP w0).mono ?_
    rintro e w1 ⟨rfl, rfl⟩
    have B1 : Hid (Below w.heap.size w w1) := B0
    have I1 := I0
    clear I0 B0 p0 CP
    have c33 := I1.size
    go_wp2
    go_ret
    exact ⟨by rw [hc.out]; rfl, B1.out⟩

end Go.Proofs.YtgnlkggodchlbaaGreatDoor
/- The document's Check; the laws' plain; walked. -/
namespace Go.Proofs.YtgnlkggodchlbaaGreatDoor
open Go.RowKit Go.Shelf

theorem snOk_min {s : ByteArray} (h : snOk s) : 46 ≤ s.size := by
  obtain ⟨h1, h2, h3⟩ := h
  have b := h3.1
  unfold snB at b
  rw [ByteArray.size_extract] at b
  omega
theorem sn_of {s : ByteArray} (h : snC s = 0) : snOk s := by
  unfold snC at h
  split at h
  · rename_i a; exact a
  · exact absurd h (by decide)
theorem less_aheadS (f : Nat → ByteArray) (k : Nat) (h : snC (f k) = 0) : (0 < k → Op.bytesLess (f (k - 1)).toList (f k).toList = true) ↔ Op.bytesLess (ahead f k).toList (f k).toList = true := by
  unfold ahead
  by_cases e : k = 0
  · rw [if_pos e]
    constructor
    · intro _
      have e : (ByteArray.toList ⟨#[]⟩) = [] := by decide +kernel
      rw [e]
      exact less_nil _ (snOk_min (sn_of h))
    · intro _ q; omega
  · rw [if_neg e]
    exact ⟨fun g => g (by omega), fun g _ => g⟩
theorem ahead_succ (f : Nat → ByteArray) (k : Nat) : ahead f (k + 1) = f k := by unfold ahead; rw [if_neg (by omega), Nat.add_sub_cancel]

set_option maxRecDepth 100000 in
set_option maxHeartbeats 2000000 in
theorem rick_any (P : ByteArray) (D : Nat → Int) (z : Int) (F : ByteArray) (xr : Option Addr) (nr cr : Nat) (fr : Nat → ByteArray) (xs : Option Addr) (ns cs' : Nat) (fs : Nat → ByteArray) (w : World)
    (hr : SIs w xr nr fr) (hs : SIs w xs ns fs) (hns : ns ≤ 1152921504606846976) (hsz : ∀ i, i < ns → (fs i).size ≤ 1048576) :
    Calls Tryz.prog 18 #[.agg (infC P D z (.slice xr nr cr) F (.slice xs ns cs'))] w fun e w' => e = .returned (.int .i64 (ckC P z fr nr F fs ns)) ∧ Below w.heap.size w w' := by
  have I0 : Inf (w.alloc (.cells (infC P D z (.slice xr nr cr) F (.slice xs ns cs')) 34)) w.heap.size P D z (.slice xr nr cr) F (.slice xs ns cs') := Inf.box _ _ _ _ _ _ _ _
  have B0 : Below w.heap.size w (w.alloc (.cells (infC P D z (.slice xr nr cr) F (.slice xs ns cs')) 34)) := (Below.refl _ _).alloc (Nat.le_refl _) _
  have CU := fun W (b : Below w.heap.size w W) => runs_any P D z F xr nr cr fr (.slice xs ns cs') W (hr.below b (Nat.le_refl _))
  have HS : Hid (SIs w xs ns fs) := hs
  have HZ : Hid (∀ i, i < ns → (fs i).size ≤ 1048576) := hsz
  clear hr hs hsz
  generalize hC : ckC P z fr nr F fs ns = C
  have HC : Hid (ckC P z fr nr F fs ns = C) := hC
  clear hC
  unfold ckC at HC
  by_cases hU : unC P z fr nr F = 0
  · have hc : Hid (C = ssC fs ns) := by
      have h1 := HC.out
      rw [orC_z hU] at h1
      exact h1.symm
    simp only [hU] at CU
    clear HC hU
    go_enter Tryz.func18, Tryz.ntmps18
    go_wp2_with (refine wpList_load_rinf (by rfl) (.tmp 1) (by rfl) (by rfl) I0 ?_; refine Hid.out ?_)
    unfold Hid
    generalize w.alloc (.cells (infC P D z (.slice xr nr cr) F (.slice xs ns cs')) 34) = w0 at I0 B0 ⊢
    go_wp2_with fail
    refine (CU w0 B0).mono ?_
    rintro e w1 ⟨rfl, b1⟩
    have I1 : Hid (Inf w1 w.heap.size P D z (.slice xr nr cr) F (.slice xs ns cs')) := I0.below b1 I0.lt
    have B1 : Hid (Below w.heap.size w w1) := B0.trans (b1.mono B0.size)
    clear CU I0 B0 b1
    go_wp2
    go_loopw [4, 5] (fun lx xi wr => ∃ k : Nat, k ≤ ns ∧ xi = .int .i64 (k : Int) ∧ lx = .string (ahead fs k) ∧ Hid (ssOk fs k) ∧ Hid (Inf wr w.heap.size P D z (.slice xr nr cr) F (.slice xs ns cs')) ∧ Hid (Below w.heap.size w wr)) (fun _ i _ => ns - (intOf i).toNat)
    case atStart => exact ⟨0, Nat.zero_le _, rfl, rfl, fun i hi => absurd hi (by omega), I1, B1⟩
    case round =>
      clear I1 B1
      obtain ⟨k, hk, rfl, rfl, hok, IK, BK⟩ := hrel
      have c36 := IK.out.signs
      by_cases hlt : k < ns
      · have S1 := HS.out.below BK.out (Nat.le_refl _)
        obtain ⟨a, rfl, c0⟩ := S1 k hlt
        have CS := rspS_any (fs k) wr (HZ.out k hlt)
        clear S1
        have hl1 : (k : Int) < (ns : Int) := by omega
        rcases snC_is (fs k) with h0 | h0
        · have HLA : Hid ((0 < k → Op.bytesLess (fs (k - 1)).toList (fs k).toList = true) ↔ Op.bytesLess (ahead fs k).toList (fs k).toList = true) := less_aheadS fs k h0
          have H0 : Hid (snC (fs k) = 0) := h0
          rw [h0] at CS
          clear h0
          generalize snD (fs k) = E at CS
          generalize snN (fs k) = N at CS
          have hah : Hid (ahead fs (k + 1) = fs k) := ahead_succ fs k
          go_wp2_with fail
          refine CS.mono ?_
          clear CS
          rintro e w2 ⟨rfl, b2⟩
          have I2 : Hid (Inf w2 w.heap.size P D z (.slice (xr) nr cr) F (.slice (some a) ns cs')) := IK.out.below b2 IK.out.lt
          have B2 : Hid (Below w.heap.size w w2) := BK.out.trans (b2.mono BK.out.size)
          have c2 : Hid (w2.cell? (a.add k) = some (.string (fs k))) := (b2.cell (World.block_lt_of_cell? _ _ c0)).trans c0
          clear b2 IK BK c0 c36
          go_wp2_with (refine wpList_store_any (by rfl) 22 (.tmp 7) (.tmp 29) (by rfl) w2.heap.size (by rfl) (by rfl) (Row.rep (by rfl)) szR32 (by rfl) ?_; intro W4 R4 U4; refine Hid.out ?_)
          unfold Hid
          have hlt2 : Hid (∀ i, i < w2.heap.size → W4.heap[i]? = w2.heap[i]?) := fun i hi => (U4.block i (by rw [World.size_alloc]; omega) (by omega)).trans (Below.heap_alloc w2 _ i hi)
          have I4 : Hid (Inf W4 w.heap.size P D z (.slice (xr) nr cr) F (.slice (some a) ns cs')) := I2.out.same (hlt2.out _ I2.out.lt)
          have B4 : Hid (Below w.heap.size w W4) := U4.below (B2.out.alloc B2.out.size _) B2.out.size (by rw [World.size_alloc]; have := B2.out.size; omega)
          have c4 : W4.cell? (a.add k) = some (.string (fs k)) := (World.cell?_of_block (w := w2) (w' := W4) (a := a.add k) (hlt2.out _ (World.block_lt_of_cell? _ _ c2.out))).trans c2.out
          have d36 := I4.out.signs
          clear R4 U4 hlt2 I2 B2 c2
          cases h2 : Op.bytesLess (ahead fs k).toList (fs k).toList
          · have hh : Hid (ssC fs ns = 151) := ssC_no (fun g => by
              have := HLA.out.1 (g k hlt).2
              rw [h2] at this
              exact Bool.noConfusion this)
            have LE : (Op.bytesLess (fs k).toList (ahead fs k).toList || (fs k).toList == (ahead fs k).toList) = true := by rw [le_not, h2]; rfl
            clear h2 HLA
            generalize ahead fs k = L at LE ⊢
            go_wp2
            go_ret
            exact ⟨by rw [hc.out, hh.out]; rfl, B4.out⟩
          · have hok2 : Hid (ssOk fs (k + 1)) := ssOk_succ hok.out H0.out (HLA.out.2 h2)
            have LE : (Op.bytesLess (fs k).toList (ahead fs k).toList || (fs k).toList == (ahead fs k).toList) = false := by rw [le_not, h2]; rfl
            clear h2 HLA
            generalize ahead fs k = L at LE ⊢
            go_wp2
            go_roundw
            case rel => exact ⟨k + 1, by omega, by go_num, by rw [hah.out], hok2, I4, B4⟩
            case measure => simp [intOf]; omega
        · have hh : Hid (ssC fs ns = 151) := ssC_no (fun g => by have := (g k hlt).1; rw [h0] at this; exact absurd this (by decide))
          rw [h0] at CS
          clear h0
          generalize snD (fs k) = E at CS
          generalize snN (fs k) = N at CS
          go_wp2_with fail
          refine CS.mono ?_
          clear CS
          rintro e w2 ⟨rfl, b2⟩
          have B2 : Hid (Below w.heap.size w w2) := BK.out.trans (b2.mono BK.out.size)
          clear b2 IK BK c0 c36
          go_wp2_with (refine wpList_store_any (by rfl) 22 (.tmp 7) (.tmp 29) (by rfl) w2.heap.size (by rfl) (by rfl) (Row.rep (by rfl)) szR32 (by rfl) ?_; intro W4 R4 U4; refine Hid.out ?_)
          unfold Hid
          have B4 : Hid (Below w.heap.size w W4) := U4.below (B2.out.alloc B2.out.size _) B2.out.size (by rw [World.size_alloc]; have := B2.out.size; omega)
          clear R4 U4 B2
          generalize ahead fs k = L
          go_wp2
          go_ret
          exact ⟨by rw [hc.out, hh.out]; rfl, B4.out⟩
      · obtain rfl : k = ns := by omega
        have hh : Hid (ssC fs k = 0) := ssC_yes hok.out
        go_wp2
        go_ret
        exact ⟨by rw [hc.out, hh.out]; rfl, BK.out⟩
  · have hc : Hid (C = unC P z fr nr F) := by
      have h1 := HC.out
      rw [orC_n hU] at h1
      exact h1.symm
    have hU' : (unC P z fr nr F != 0) = true := by rw [bne_iff_ne]; exact hU
    have hU'' : (unC P z fr nr F == 0) = false := by rw [beq_eq_false_iff_ne]; exact hU
    clear HC hU
    generalize unC P z fr nr F = U at CU hc hU' hU''
    go_enter Tryz.func18, Tryz.ntmps18
    go_wp2_with (refine wpList_load_rinf (by rfl) (.tmp 1) (by rfl) (by rfl) I0 ?_; refine Hid.out ?_)
    unfold Hid
    generalize w.alloc (.cells (infC P D z (.slice xr nr cr) F (.slice xs ns cs')) 34) = w0 at I0 B0 ⊢
    go_wp2_with fail
    refine (CU w0 B0).mono ?_
    rintro e w1 ⟨rfl, b1⟩
    go_wp2
    go_ret
    exact ⟨by rw [hc.out]; rfl, B0.trans (b1.mono B0.size)⟩

end Go.Proofs.YtgnlkggodchlbaaGreatDoor
