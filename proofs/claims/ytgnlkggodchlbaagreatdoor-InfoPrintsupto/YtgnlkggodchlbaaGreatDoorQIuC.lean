/- The document's Fingerprint; walked. -/
import Derived.Test.YtgnlkggodchlbaaGreatDoorQIuB
import Derived.Test.YtgnlkggodchlbaaGreatDoorQFpA
namespace Go.Proofs.YtgnlkggodchlbaaGreatDoor
open Go.RowKit Go.Shelf

theorem un_fp (P : ByteArray) (z : Int) (fr : Nat → ByteArray) (nr : Nat) (F : ByteArray) : unC P z fr nr F = fpC P z fr nr F := by
  unfold fpC ckC
  rw [ssC_yes (fun i hi => absurd hi (by omega))]
  by_cases h : unC P z fr nr F = 0
  · rw [orC_z h, h]
  · rw [orC_n h]
def s1f : ByteArray := ⟨#[49, 59]⟩
def s2f : ByteArray := ⟨#[59, 115, 104, 97, 50, 53, 54, 58]⟩
/-- What stands ahead of the references. -/
def fpH (P : ByteArray) (D : Nat → Int) (z : Int) : ByteArray := s1f ++ P ++ s2f ++ b32Str (strFn 32 D) ++ smc ++ itB z ++ smc
theorem fpT_head (P : ByteArray) (D : Nat → Int) (z : Int) (fr : Nat → ByteArray) (nr : Nat) : fpT P D z fr nr = fpH P D z ++ jnS fr cma nr := by
  show ((((⟨#[49]⟩ : ByteArray) ++ smc ++ P) ++ smc ++ (sha7 ++ b32Str (strFn 32 D))) ++ smc ++ itB z) ++ smc ++ jnS fr cma nr = _
  unfold fpH
  rw [show s1f = (⟨#[49]⟩ : ByteArray) ++ smc from by decide +kernel, show s2f = smc ++ sha7 from by decide +kernel]
  simp only [ByteArray.append_assoc]
theorem LnW.cnv {w : World} {P : ByteArray} {D : Nat → Int} {z : Int} {F : ByteArray} {vr vs : Value} {g : Nat} {W : World} (h : LnW w P D z F vr vs g W) : (convert 43 9 (.slice (some ⟨g, 1, none⟩) 32 32)).run Tryz.prog W = .ok (.string (strFn 32 D)) W :=
  run_convert_bytes_arg W 43 5 Tryz.underlying43 Tryz.underlying5 g 1 32 32 ((List.range 32).map D) (by simp) (fun i hi => by rw [h.inf.dig i hi]; simp [List.getD, hi]) 9 Tryz.underlying9

set_option maxRecDepth 100000 in
set_option maxHeartbeats 4000000 in
theorem rfng_any (P : ByteArray) (D : Nat → Int) (z : Int) (F : ByteArray) (xr : Option Addr) (nr cr : Nat) (fr : Nat → ByteArray) (xs : Option Addr) (ns cz : Nat) (w : World) (hr : SIs w xr nr fr) (hT : PT w) :
    Calls Tryz.prog 9 #[.agg (infC P D z (.slice xr nr cr) F (.slice xs ns cz))] w fun e w' => e = .returned (.tuple #[.string (prS (fpC P z fr nr F) (fpT P D z fr nr)), .int .i64 (fpC P z fr nr F)]) ∧ Below w.heap.size w w' := by
  have I0 : Inf (w.alloc (.cells (infC P D z (.slice xr nr cr) F (.slice xs ns cz)) 34)) w.heap.size P D z (.slice xr nr cr) F (.slice xs ns cz) := Inf.box _ _ _ _ _ _ _ _
  have B0 : Below w.heap.size w (w.alloc (.cells (infC P D z (.slice xr nr cr) F (.slice xs ns cz)) 34)) := (Below.refl _ _).alloc (Nat.le_refl _) _
  have HR : Hid (SIs w xr nr fr) := hr
  have HT : Hid (PT w) := hT
  have CC := fun W (b : Below w.heap.size w W) => runs_any P D z F xr nr cr fr (.slice xs ns cz) W (hr.below b (Nat.le_refl _))
  simp only [un_fp] at CC
  clear hr hT
  by_cases hc : fpC P z fr nr F = 0
  · obtain ⟨h1, ⟨h2, h2'⟩, h3, h4, h5⟩ := ckC_parts hc
    obtain ⟨h6, h7⟩ := crf_ok h3
    have HP : Hid (∀ i, i < nr → (fr i).size ≤ 257) := fun i hi => prC_max (h7 i hi).1
    have mP := prC_max h1
    have mI := itoa_le z h2 h2'
    have HQ : Hid (fpT P D z fr nr = fpH P D z ++ jnS fr cma nr) := fpT_head P D z fr nr
    rw [prS_z hc]
    rw [hc] at CC ⊢
    clear hc h1 h3 h4 h5 h7
    unfold fpH at HQ
    go_enter Tryz.func9, Tryz.ntmps9
    rw [show (⟨#[49, 59]⟩ : ByteArray) = s1f from rfl, show (⟨#[59, 115, 104, 97, 50, 53, 54, 58]⟩ : ByteArray) = s2f from rfl, show (⟨#[59]⟩ : ByteArray) = smc from rfl, show (⟨#[44]⟩ : ByteArray) = cma from rfl]
    go_wp2_with (refine wpList_load_rinf (by rfl) (.tmp 1) (by rfl) (by rfl) I0 ?_; refine Hid.out ?_)
    unfold Hid
    generalize w.alloc (.cells (infC P D z (.slice xr nr cr) F (.slice xs ns cz)) 34) = w0 at I0 B0 ⊢
    go_wp2_with fail
    refine (CC w0 B0).mono ?_
    rintro e w1 ⟨rfl, b1⟩
    have K1 : LnW w P D z F (.slice xr nr cr) (.slice xs ns cz) w.heap.size w1.drew := ⟨(I0.below b1 I0.lt).same rfl, (B0.trans (b1.mono B0.size)).drew⟩
    clear I0 B0 b1 CC
    have m32 : (b32Str (strFn 32 D)).size ≤ 52 := by rw [b32_size]; exact Nat.le_refl _
    have z1 : s1f.size = 2 := rfl
    have z2 : s2f.size = 8 := rfl
    have z3 : smc.size = 1 := rfl
    have C3 := fun W => rb32_any (strFn 32 D) W (by rw [strFn_size]; decide)
    have CI := fun W (q : LnW w P D z F (.slice xr nr cr) (.slice xs ns cz) w.heap.size W) => itoa_any z W h2 h2' (HT.out.below q.bel)
    generalize b32Str (strFn 32 D) = H at m32 C3 HQ
    generalize itB z = Z at mI CI HQ
    go_wp2_with fail
    -- @4
    refine wp_region_held_drew (S := LnW w P D z F (.slice xr nr cr) (.slice xs ns cz) w.heap.size) (by kernel_rfl) K1 (fun hH => ?_)
    generalize w1.drew = W at hH ⊢
    clear K1
    -- @R
    refine wpAnyH_take (i := 0) (oi := { dst := some 12, op := Op.fieldAddr 34 (Operand.tmp 1) 0, type := 0, pos := "ref.go:155", after := #[], guard := none }) (v := .pointer (some ⟨w.heap.size, 0, none⟩)) rfl (by kernel_rfl) (by kernel_rfl) (by kernel_rfl) (fun _ _ _ h => h) (Or.inl ⟨by rfl, by intro w _; go_simp⟩) hH ?_
    simp only [Act.put, List.setIfInBounds_toArray, List.set_cons_zero, List.set_cons_succ]
    refine wpAnyH_take (i := 1) (oi := { dst := some 13, op := Op.load 9 (Operand.tmp 12), type := 9, pos := "ref.go:155", after := #[{ on := 0, ground := Ground.data }], guard := none }) (v := .string P) rfl (by kernel_rfl) (by kernel_rfl) (by kernel_rfl) (fun _ _ _ h => h) (Or.inl ⟨by rfl, by intro w' s'; have c9 := s'.inf.path; go_simp⟩) hH ?_
    simp only [Act.put, List.setIfInBounds_toArray, List.set_cons_zero, List.set_cons_succ]
    refine wpAnyH_take (i := 2) (oi := { dst := some 14, op := Op.binOp BinOp.add 9 (Operand.const (Value.string s1f)) (Operand.tmp 13) 9, type := 9, pos := "ref.go:155", after := #[{ on := 1, ground := Ground.data }], guard := none }) (v := .string (s1f ++ P)) rfl (by kernel_rfl) (by kernel_rfl) (by kernel_rfl) (fun _ _ _ h => h) (Or.inl ⟨by rfl, by intro w _; go_simp; omega⟩) hH ?_
    simp only [Act.put, List.setIfInBounds_toArray, List.set_cons_zero, List.set_cons_succ]
    refine wpAnyH_take (i := 3) (oi := { dst := some 15, op := Op.binOp BinOp.add 9 (Operand.tmp 14) (Operand.const (Value.string s2f)) 9, type := 9, pos := "ref.go:155", after := #[{ on := 2, ground := Ground.data }], guard := none }) (v := .string (s1f ++ P ++ s2f)) rfl (by kernel_rfl) (by kernel_rfl) (by kernel_rfl) (fun _ _ _ h => h) (Or.inl ⟨by rfl, by intro w _; go_simp; omega⟩) hH ?_
    simp only [Act.put, List.setIfInBounds_toArray, List.set_cons_zero, List.set_cons_succ]
    refine wpAnyH_take (i := 4) (oi := { dst := some 16, op := Op.fieldAddr 34 (Operand.tmp 1) 1, type := 0, pos := "ref.go:155", after := #[], guard := none }) (v := .pointer (some ⟨w.heap.size, 1, none⟩)) rfl (by kernel_rfl) (by kernel_rfl) (by kernel_rfl) (fun _ _ _ h => h) (Or.inl ⟨by rfl, by intro w _; go_simp⟩) hH ?_
    simp only [Act.put, List.setIfInBounds_toArray, List.set_cons_zero, List.set_cons_succ]
    refine wpAnyH_take (i := 5) (oi := { dst := some 17, op := Op.slice 22 (Operand.tmp 16) none none none, type := 43, pos := "ref.go:155", after := #[{ on := 4, ground := Ground.data }], guard := none }) (v := .slice (some ⟨w.heap.size, 1, none⟩) 32 32) rfl (by kernel_rfl) (by kernel_rfl) (by kernel_rfl) (fun _ _ _ h => h) (Or.inl ⟨by rfl, by intro w _; go_simp⟩) hH ?_
    simp only [Act.put, List.setIfInBounds_toArray, List.set_cons_zero, List.set_cons_succ]
    refine wpAnyH_take (i := 6) (oi := { dst := some 18, op := Op.convert 43 9 (Operand.tmp 17), type := 9, pos := "ref.go:155", after := #[{ on := 5, ground := Ground.data }], guard := none }) (v := .string (strFn 32 D)) rfl (by kernel_rfl) (by kernel_rfl) (by kernel_rfl) (fun _ _ _ h => h) (Or.inl ⟨by rfl, by intro w' s'; have c9 := s'.cnv; go_simp⟩) hH ?_
    simp only [Act.put, List.setIfInBounds_toArray, List.set_cons_zero, List.set_cons_succ]
    refine wpAnyH_take (i := 10) (oi := { dst := some 22, op := Op.fieldAddr 34 (Operand.tmp 1) 2, type := 0, pos := "ref.go:155", after := #[], guard := none }) (v := .pointer (some ⟨w.heap.size, 33, none⟩)) rfl (by kernel_rfl) (by kernel_rfl) (by kernel_rfl) (fun _ _ _ h => h) (Or.inl ⟨by rfl, by intro w _; go_simp⟩) hH ?_
    simp only [Act.put, List.setIfInBounds_toArray, List.set_cons_zero, List.set_cons_succ]
    refine wpAnyH_take (i := 11) (oi := { dst := some 23, op := Op.load 3 (Operand.tmp 22), type := 3, pos := "ref.go:155", after := #[{ on := 10, ground := Ground.data }], guard := none }) (v := .int .i64 z) rfl (by kernel_rfl) (by kernel_rfl) (by kernel_rfl) (fun _ _ _ h => h) (Or.inl ⟨by rfl, by intro w' s'; have c9 := s'.inf.size; go_simp⟩) hH ?_
    simp only [Act.put, List.setIfInBounds_toArray, List.set_cons_zero, List.set_cons_succ]
    refine wpAnyH_ready (rs := [7]) (by kernel_rfl) (by decide) (AllReadyH.cons rfl (fun K hK => ?_) AllReadyH.nil)
    rw [if_pos (by rfl)]
    go_simp
    refine (C3 _).mono ?_
    rintro e v1 ⟨rfl, c1⟩
    go_wp2_with fail
    have hH1 := hH.next c1
    refine hK.out _ _ hH1 (fun _ => ?_)
    clear hK K
    try simp only [Act.put, List.setIfInBounds_toArray, List.set_cons_zero, List.set_cons_succ]
    refine wpAnyH_take (i := 8) (oi := { dst := some 20, op := Op.binOp BinOp.add 9 (Operand.tmp 15) (Operand.tmp 19) 9, type := 9, pos := "ref.go:155", after := #[{ on := 3, ground := Ground.data }, { on := 7, ground := Ground.data }], guard := none }) (v := .string (s1f ++ P ++ s2f ++ H)) rfl (by kernel_rfl) (by kernel_rfl) (by kernel_rfl) (fun _ _ _ h => h) (Or.inl ⟨by rfl, by intro w _; go_simp; omega⟩) hH1 ?_
    simp only [Act.put, List.setIfInBounds_toArray, List.set_cons_zero, List.set_cons_succ]
    refine wpAnyH_take (i := 9) (oi := { dst := some 21, op := Op.binOp BinOp.add 9 (Operand.tmp 20) (Operand.const (Value.string smc)) 9, type := 9, pos := "ref.go:155", after := #[{ on := 8, ground := Ground.data }], guard := none }) (v := .string (s1f ++ P ++ s2f ++ H ++ smc)) rfl (by kernel_rfl) (by kernel_rfl) (by kernel_rfl) (fun _ _ _ h => h) (Or.inl ⟨by rfl, by intro w _; go_simp; omega⟩) hH1 ?_
    simp only [Act.put, List.setIfInBounds_toArray, List.set_cons_zero, List.set_cons_succ]
    refine wpAnyH_ready (rs := [12]) (by kernel_rfl) (by decide) (AllReadyH.cons rfl (fun K hK => ?_) AllReadyH.nil)
    rw [if_pos (by rfl)]
    go_simp
    refine (CI _ hH1).mono ?_
    rintro e v2 ⟨rfl, c2⟩
    go_wp2_with fail
    have hH2 := hH1.next c2
    refine hK.out _ _ hH2 (fun _ => ?_)
    clear hK K
    try simp only [Act.put, List.setIfInBounds_toArray, List.set_cons_zero, List.set_cons_succ]
    refine wpAnyH_take (i := 13) (oi := { dst := some 25, op := Op.binOp BinOp.add 9 (Operand.tmp 21) (Operand.tmp 24) 9, type := 9, pos := "ref.go:155", after := #[{ on := 9, ground := Ground.data }, { on := 12, ground := Ground.data }], guard := none }) (v := .string (s1f ++ P ++ s2f ++ H ++ smc ++ Z)) rfl (by kernel_rfl) (by kernel_rfl) (by kernel_rfl) (fun _ _ _ h => h) (Or.inl ⟨by rfl, by intro w _; go_simp; omega⟩) hH2 ?_
    simp only [Act.put, List.setIfInBounds_toArray, List.set_cons_zero, List.set_cons_succ]
    refine wpAnyH_take (i := 14) (oi := { dst := some 26, op := Op.binOp BinOp.add 9 (Operand.tmp 25) (Operand.const (Value.string smc)) 9, type := 9, pos := "ref.go:155", after := #[{ on := 13, ground := Ground.data }], guard := none }) (v := .string (s1f ++ P ++ s2f ++ H ++ smc ++ Z ++ smc)) rfl (by kernel_rfl) (by kernel_rfl) (by kernel_rfl) (fun _ _ _ h => h) (Or.inl ⟨by rfl, by intro w _; go_simp; omega⟩) hH2 ?_
    simp only [Act.put, List.setIfInBounds_toArray, List.set_cons_zero, List.set_cons_succ]
    refine wpAnyH_ready (rs := [15]) (by kernel_rfl) (by decide) (AllReadyH.cons rfl (fun K hK => ?_) AllReadyH.nil)
    rw [if_pos (by rfl)]
    go_simp
    refine hK.out _ _ hH2 (fun _ => ?_)
    clear hK K
    try simp only [Act.put, List.setIfInBounds_toArray, List.set_cons_zero, List.set_cons_succ]
    refine wpAnyH_done (by kernel_rfl) ?_ _
    have I5 := hH2.inf
    have B5 : Hid (Below w.heap.size w v2) := hH2.bel
    have mT : (s1f ++ P ++ s2f ++ H ++ smc ++ Z ++ smc).size ≤ 1000 := by
      repeat rw [app_size]
      omega
    generalize s1f ++ P ++ s2f ++ H ++ smc ++ Z ++ smc = T at mT HQ ⊢
    clear hH hH1 hH2 c1 c2 C3 CI m32 mI z1 z2 z3 mP
    have eT : T = T ++ (⟨#[]⟩ : ByteArray) := by apply ByteArray.ext; simp
    have HET : Hid (T = T ++ (⟨#[]⟩ : ByteArray)) := eT
    clear eT
    go_wp2
    go_loopw [5, 6] (fun t i wr => ∃ k : Nat, k ≤ nr ∧ t = .string (T ++ jnS fr cma k) ∧ i = .int .i64 k ∧ wr = v2) (fun _ i _ => nr - (intOf i).toNat)
    case atStart => exact ⟨0, Nat.zero_le _, congrArg Value.string HET.out, rfl, rfl⟩
    case round =>
      obtain ⟨k, hk, rfl, rfl, rfl⟩ := hrel
      have c34 := I5.refs
      by_cases hlt : k < nr
      · obtain ⟨a, rfl, c0⟩ := HR.out.below B5.out (Nat.le_refl _) k hlt
        have hs2 := HP.out k hlt
        have hjs := jnS_257 fr cma rfl k (fun i hi => HP.out i (by omega))
        have hsz : (T ++ jnS fr cma k).size ≤ 300000 := by rw [app_size]; omega
        have zc : cma.size = 1 := rfl
        by_cases hk0 : k = 0
        · have hD : Hid (T ++ jnS fr cma (k + 1) = T ++ jnS fr cma k ++ fr k) := by
            subst hk0
            show T ++ fr 0 = T ++ (⟨#[]⟩ : ByteArray) ++ fr 0
            rw [← HET.out]
          have hkn : ¬ (0 : Int) < (k : Int) := by omega
          have hkn' : ¬ 0 < k := by omega
          clear hk0
          generalize T ++ jnS fr cma k = U at hsz hD ⊢
          generalize fr k = f at c0 hs2 hD
          go_wp2
          go_roundw
          case rel => exact ⟨k + 1, by omega, by rw [hD.out], by go_num, trivial⟩
          case measure => simp [intOf]; omega
        · have hD : Hid (T ++ jnS fr cma (k + 1) = T ++ jnS fr cma k ++ cma ++ fr k) := by
            unfold Hid
            rw [jnS, if_neg hk0]
            simp only [ByteArray.append_assoc]
          have hkp : (0 : Int) < (k : Int) := by omega
          have hkp' : 0 < k := by omega
          clear hk0
          generalize T ++ jnS fr cma k = U at hsz hD ⊢
          generalize fr k = f at c0 hs2 hD
          go_wp2
          go_roundw
          case rel => exact ⟨k + 1, by omega, by rw [hD.out], by go_num, trivial⟩
          case measure => simp [intOf]; omega
      · obtain rfl : k = nr := by omega
        go_wp2
        go_ret2
        exact ⟨by rw [HQ.out]; rfl, B5.out⟩
  · have hc' : (fpC P z fr nr F != 0) = true := by rw [bne_iff_ne]; exact hc
    rw [prS_n hc, show emp = (⟨#[]⟩ : ByteArray) from rfl]
    generalize fpC P z fr nr F = cc at CC hc' hc ⊢
    go_enter Tryz.func9, Tryz.ntmps9
    go_wp2_with (refine wpList_load_rinf (by rfl) (.tmp 1) (by rfl) (by rfl) I0 ?_; refine Hid.out ?_)
    unfold Hid
    generalize w.alloc (.cells (infC P D z (.slice xr nr cr) F (.slice xs ns cz)) 34) = w0 at I0 B0 ⊢
    go_wp2_with fail
    refine (CC w0 B0).mono ?_
    rintro e w1 ⟨rfl, b1⟩
    have B1 : Hid (Below w.heap.size w w1) := B0.trans (b1.mono B0.size)
    clear I0 B0 b1 CC
    go_wp2
    go_ret2
    exact ⟨rfl, B1.out⟩
end Go.Proofs.YtgnlkggodchlbaaGreatDoor
