/- info.Fingerprint; walked. -/
import Derived.Test.YtgnlkggodchlbaaGreatDoorQj
import Derived.Test.YtgnlkggodchlbaaGreatDoorQp
namespace Go.Proofs.YtgnlkggodchlbaaGreatDoor
open Go.RowKit Go.Shelf

def cma : ByteArray := ⟨#[44]⟩
def smc : ByteArray := ⟨#[59]⟩
def sha7 : ByteArray := ⟨#[115, 104, 97, 50, 53, 54, 58]⟩
/-- The fingerprint's five parts. -/
def fpF (P : ByteArray) (D : Nat → Int) (z : Int) (fr : Nat → ByteArray) (nr : Nat) : Nat → ByteArray
  | 0 => ⟨#[49]⟩
  | 1 => P
  | 2 => sha7 ++ b32Str (strFn 32 D)
  | 3 => itB z
  | _ => jnS fr cma nr
def fpT (P : ByteArray) (D : Nat → Int) (z : Int) (fr : Nat → ByteArray) (nr : Nat) : ByteArray := jnS (fpF P D z fr nr) smc 5
/-- The error's number: the signatures left out. -/
def fpC (P : ByteArray) (z : Int) (fr : Nat → ByteArray) (nr : Nat) (F : ByteArray) : Int := ckC P z fr nr F (fun _ => emp) 0
theorem jnS_257 (f : Nat → ByteArray) (sep : ByteArray) (hs : sep.size = 1) : ∀ k, (∀ i, i < k → (f i).size ≤ 257) → (jnS f sep k).size ≤ 258 * k
  | 0, _ => Nat.le_refl _
  | 1, h => by rw [jnS_one]; have := h 0 (by omega); omega
  | k + 1 + 1, h => by
    have h1 := jnS_257 f sep hs (k + 1) (fun i hi => h i (by omega))
    have h2 := h (k + 1) (by omega)
    rw [jnS_more, app_size, app_size]
    omega
/-- What the drawn region keeps. -/
structure FgW (w : World) (P : ByteArray) (D : Nat → Int) (z : Int) (F : ByteArray) (vr : Value) (g : Nat) (W : World) : Prop where
  inf : Inf W g P D z vr F (.slice none 0 0)
  bel : Below w.heap.size w W
theorem FgW.next {w : World} {P : ByteArray} {D : Nat → Int} {z : Int} {F : ByteArray} {vr : Value} {g : Nat} {W W' : World} (h : FgW w P D z F vr g W) (c : Below W.heap.size W W') : FgW w P D z F vr g W' :=
  ⟨h.inf.below c h.inf.lt, h.bel.trans (c.mono h.bel.size)⟩

set_option maxRecDepth 100000 in
set_option maxHeartbeats 4000000 in
theorem fing_any (P : ByteArray) (D : Nat → Int) (z : Int) (F : ByteArray) (xr : Option Addr) (nr cr : Nat) (fr : Nat → ByteArray) (xs : Option Addr) (ns cz : Nat) (w : World) (hr : SIs w xr nr fr) (hrc : nr ≤ cr) (hT : PT w) :
    Calls Tryz.prog 8 #[.agg (infC P D z (.slice xr nr cr) F (.slice xs ns cz))] w fun e w' => e = .returned (.tuple #[.string (prS (fpC P z fr nr F) (fpT P D z fr nr)), .int .i64 (fpC P z fr nr F)]) ∧ Below w.heap.size w w' := by
  have I0 : Inf (w.alloc (.cells (infC P D z (.slice xr nr cr) F (.slice xs ns cz)) 26)) w.heap.size P D z (.slice xr nr cr) F (.slice xs ns cz) := Inf.box _ _ _ _ _ _ _ _
  have B0 : Below w.heap.size w (w.alloc (.cells (infC P D z (.slice xr nr cr) F (.slice xs ns cz)) 26)) := (Below.refl _ _).alloc (Nat.le_refl _) _
  have HR : Hid (SIs w xr nr fr) := hr
  have HT : Hid (PT w) := hT
  have CC := fun W (b : Below w.heap.size w W) => ick_any P D z F xr nr cr fr none 0 0 (fun _ => emp) W (hr.below b (Nat.le_refl _)) (fun i hi => absurd hi (by omega)) (Nat.le_refl _) (by omega) (fun i hi => absurd hi (by omega))
  change ∀ W, Below w.heap.size w W → Calls Tryz.prog 11 #[.agg (infC P D z (.slice xr nr cr) F (.slice none 0 0))] W fun e w' => e = .returned (.int .i64 (fpC P z fr nr F)) ∧ Below W.heap.size W w' at CC
  clear hr hT
  have I1 : Inf ((w.alloc (.cells (infC P D z (.slice xr nr cr) F (.slice xs ns cz)) 26)).setCell ⟨w.heap.size, 36, none⟩ (.slice none 0 0)) w.heap.size P D z (.slice xr nr cr) F (.slice none 0 0) := I0.setSigns _
  have B1 : Below w.heap.size w ((w.alloc (.cells (infC P D z (.slice xr nr cr) F (.slice xs ns cz)) 26)).setCell ⟨w.heap.size, 36, none⟩ (.slice none 0 0)) := B0.setCell (p := ⟨w.heap.size, 36, none⟩) (Nat.le_refl _) _
  have c36 := I0.signs
  have f36 := I0.free 36 (by omega)
  clear B0
  by_cases hc : fpC P z fr nr F = 0
  · obtain ⟨h1, ⟨h2, h2'⟩, h3, h4, h5⟩ := ckC_parts hc
    obtain ⟨h6, h7⟩ := crf_ok h3
    have HP : Hid (∀ i, i < nr → (fr i).size ≤ 257) := fun i hi => prC_max (h7 i hi).1
    have mP := prC_max h1
    have mI := itoa_le z h2 h2'
    rw [prS_z hc]
    rw [hc] at CC ⊢
    clear hc h1 h3 h4 h5 h7
    go_enter Tryz.func8, Tryz.ntmps8
    rw [show (⟨#[44]⟩ : ByteArray) = cma from rfl, show (⟨#[59]⟩ : ByteArray) = smc from rfl, show (⟨#[115, 104, 97, 50, 53, 54, 58]⟩ : ByteArray) = sha7 from rfl]
    iterate 6 go_step
    generalize w.alloc (.cells (infC P D z (.slice xr nr cr) F (.slice xs ns cz)) 26) = wa at I0 I1 B1 c36 f36 ⊢
    go_wp2_with (refine wpList_load_infG (by rfl) (.tmp 1) (by rfl) (by rfl) I1 ?_; refine Hid.out ?_)
    unfold Hid
    generalize wa.setCell ⟨w.heap.size, 36, none⟩ (.slice none 0 0) = w0 at I1 B1 ⊢
    clear I0 c36 f36
    go_wp2_with fail
    refine (CC w0 B1).mono ?_
    rintro e w1 ⟨rfl, b1⟩
    have I2 := I1.below b1 I1.lt
    have B2 : Hid (Below w.heap.size w w1) := B1.trans (b1.mono B1.size)
    clear CC I1 B1 b1
    -- @1
    have hst : (convert 43 9 (.slice (some ⟨w.heap.size, 1, none⟩) 32 32)).run Tryz.prog w1 = .ok (.string (strFn 32 D)) w1 := run_convert_bytes_arg w1 43 5 Tryz.underlying43 Tryz.underlying5 w.heap.size 1 32 32 ((List.range 32).map D) (by simp) (fun i hi => by rw [I2.dig i hi]; simp [List.getD, hi]) 9 Tryz.underlying9
    have C32 := b32_any (strFn 32 D) w1 (by rw [strFn_size]; decide)
    go_wp2_with fail
    refine C32.mono ?_
    clear C32 hst
    rintro e w2 ⟨rfl, b2⟩
    have I3 := I2.below b2 I2.lt
    have B3 : Hid (Below w.heap.size w w2) := B2.out.trans (b2.mono B2.out.size)
    clear b2 I2 B2
    have m32 : (b32Str (strFn 32 D)).size ≤ 52 := by rw [b32_size]; exact Nat.le_refl _
    have hs7 : sha7.size = 7 := rfl
    have mH : (sha7 ++ b32Str (strFn 32 D)).size ≤ 59 := by rw [app_size]; omega
    have c34 := I3.refs
    have CJ := join_any xr nr cr fr cma w2 (HR.out.below B3.out (Nat.le_refl _)) hrc (by omega) (fun i hi => by have := HP.out i hi; omega) rfl
    go_wp2_with fail
    refine CJ.mono ?_
    clear CJ c34
    rintro e w3 ⟨rfl, b3⟩
    have I4 := I3.below b3 I3.lt
    have B4 : Hid (Below w.heap.size w w3) := B3.out.trans (b3.mono B3.out.size)
    have mJ := jnS_257 fr cma rfl nr (fun i hi => HP.out i hi)
    clear b3 I3 B3
    have HFP : Hid (fpF P D z fr nr = fun i => if i = 0 then ⟨#[49]⟩ else if i = 1 then P else if i = 2 then sha7 ++ b32Str (strFn 32 D) else if i = 3 then itB z else jnS fr cma nr) := by
      unfold Hid
      funext i
      match i with
      | 0 => rfl
      | 1 => rfl
      | 2 => rfl
      | 3 => rfl
      | i + 4 => simp [fpF]
    go_wp2_with fail
    -- @7
    have HQ : Hid (fpT P D z fr nr = jnS (fun i => if i = 0 then ⟨#[49]⟩ else if i = 1 then P else if i = 2 then sha7 ++ b32Str (strFn 32 D) else if i = 3 then itB z else jnS fr cma nr) smc 5) := by unfold Hid fpT; rw [HFP.out]
    clear HFP m32 hs7
    generalize sha7 ++ b32Str (strFn 32 D) = H at mH HQ ⊢
    generalize jnS fr cma nr = J at mJ HQ ⊢
    have K4 : FgW w P D z F (.slice xr nr cr) w.heap.size w3.drew := ⟨I4.same rfl, B4.out.drew⟩
    have CI := fun W (q : FgW w P D z F (.slice xr nr cr) w.heap.size W) => itoa_any z W h2 h2' (HT.out.below q.bel)
    clear I4 B4
    generalize itB z = Z at mI CI HQ ⊢
    refine wp_region_held_drew (S := FgW w P D z F (.slice xr nr cr) w.heap.size) (by kernel_rfl) K4 (fun hH => ?_)
    generalize w3.drew = W at hH ⊢
    clear K4
    -- @R
    refine wpAnyH_take (i := 0) (oi := { dst := some 21, op := Op.fieldAddr 26 (Operand.tmp 1) 0, type := 0, pos := "info.go:99", after := #[], guard := none }) (v := .pointer (some ⟨w.heap.size, 0, none⟩)) rfl (by kernel_rfl) (by kernel_rfl) (by kernel_rfl) (fun _ _ _ h => h) (Or.inl ⟨by rfl, by intro w _; go_simp⟩) hH ?_
    simp only [Act.put, List.setIfInBounds_toArray, List.set_cons_zero, List.set_cons_succ]
    refine wpAnyH_take (i := 1) (oi := { dst := some 22, op := Op.load 9 (Operand.tmp 21), type := 9, pos := "info.go:99", after := #[{ on := 0, ground := Ground.data }], guard := none }) (v := .string P) rfl (by kernel_rfl) (by kernel_rfl) (by kernel_rfl) (fun _ _ _ h => h) (Or.inl ⟨by rfl, by intro w' s'; have c9 := s'.inf.path; go_simp⟩) hH ?_
    simp only [Act.put, List.setIfInBounds_toArray, List.set_cons_zero, List.set_cons_succ]
    refine wpAnyH_take (i := 2) (oi := { dst := some 23, op := Op.move (Operand.tmp 5), type := 9, pos := "info.go:99", after := #[], guard := none }) (v := .string H) rfl (by kernel_rfl) (by kernel_rfl) (by kernel_rfl) (fun _ _ _ h => h) (Or.inl ⟨by rfl, by intro w _; go_simp⟩) hH ?_
    simp only [Act.put, List.setIfInBounds_toArray, List.set_cons_zero, List.set_cons_succ]
    refine wpAnyH_take (i := 3) (oi := { dst := some 24, op := Op.fieldAddr 26 (Operand.tmp 1) 2, type := 0, pos := "info.go:99", after := #[], guard := none }) (v := .pointer (some ⟨w.heap.size, 33, none⟩)) rfl (by kernel_rfl) (by kernel_rfl) (by kernel_rfl) (fun _ _ _ h => h) (Or.inl ⟨by rfl, by intro w _; go_simp⟩) hH ?_
    simp only [Act.put, List.setIfInBounds_toArray, List.set_cons_zero, List.set_cons_succ]
    refine wpAnyH_take (i := 4) (oi := { dst := some 25, op := Op.load 3 (Operand.tmp 24), type := 3, pos := "info.go:99", after := #[{ on := 3, ground := Ground.data }], guard := none }) (v := .int .i64 z) rfl (by kernel_rfl) (by kernel_rfl) (by kernel_rfl) (fun _ _ _ h => h) (Or.inl ⟨by rfl, by intro w' s'; have c9 := s'.inf.size; go_simp⟩) hH ?_
    simp only [Act.put, List.setIfInBounds_toArray, List.set_cons_zero, List.set_cons_succ]
    refine wpAnyH_take (i := 6) (oi := { dst := some 27, op := Op.move (Operand.tmp 6), type := 9, pos := "info.go:99", after := #[], guard := none }) (v := .string J) rfl (by kernel_rfl) (by kernel_rfl) (by kernel_rfl) (fun _ _ _ h => h) (Or.inl ⟨by rfl, by intro w _; go_simp⟩) hH ?_
    simp only [Act.put, List.setIfInBounds_toArray, List.set_cons_zero, List.set_cons_succ]
    refine wpAnyH_ready (rs := [5]) (by kernel_rfl) (by decide) (AllReadyH.cons rfl (fun K hK => ?_) AllReadyH.nil)
    rw [if_pos (by rfl)]
    go_simp
    refine (CI _ hH).mono ?_
    rintro e v1 ⟨rfl, c1⟩
    go_wp2_with fail
    have hH1 := hH.next c1
    refine hK.out _ _ hH1 (fun _ => ?_)
    clear hK K
    try simp only [Act.put, List.setIfInBounds_toArray, List.set_cons_zero, List.set_cons_succ]
    refine wpAnyH_ready (rs := [7]) (by kernel_rfl) (by decide) (AllReadyH.cons rfl (fun K hK => ?_) AllReadyH.nil)
    rw [if_pos (by rfl)]
    go_simp
    have hHa := hH1.next (W' := v1.alloc (.cells #[.string ⟨#[49]⟩, .string P, .string H, .string Z, .string J] 9)) ((Below.refl _ _).alloc (Nat.le_refl _) _)
    have CJ5 := join_any (some ⟨v1.heap.size, 0, none⟩) 5 5 (fun i => if i = 0 then ⟨#[49]⟩ else if i = 1 then P else if i = 2 then H else if i = 3 then Z else J) smc (v1.alloc (.cells #[.string ⟨#[49]⟩, .string P, .string H, .string Z, .string J] 9)) (fun i hi => ⟨_, rfl, by
      rw [Addr.add_lit, Nat.zero_add, World.cell?_alloc_new]
      rcases (show i = 0 ∨ i = 1 ∨ i = 2 ∨ i = 3 ∨ i = 4 from by omega) with rfl | rfl | rfl | rfl | rfl <;> rfl⟩) (Nat.le_refl _) (by decide) (fun i hi => by
      rcases (show i = 0 ∨ i = 1 ∨ i = 2 ∨ i = 3 ∨ i = 4 from by omega) with rfl | rfl | rfl | rfl | rfl
      · show (1 : Nat) ≤ _; decide
      · show P.size ≤ _; omega
      · show H.size ≤ _; omega
      · show Z.size ≤ _; omega
      · show J.size ≤ _; omega) rfl
    refine hK.out _ _ hHa (fun _ => ?_)
    clear hK K
    try simp only [Act.put, List.setIfInBounds_toArray, List.set_cons_zero, List.set_cons_succ]
    refine wpAnyH_ready (rs := [8]) (by kernel_rfl) (by decide) (AllReadyH.cons rfl (fun K hK => ?_) AllReadyH.nil)
    rw [if_pos (by rfl)]
    go_simp
    refine (CJ5).mono ?_
    rintro e v2 ⟨rfl, c2⟩
    go_wp2_with fail
    have hH2 := hHa.next c2
    refine hK.out _ _ hH2 (fun _ => ?_)
    clear hK K
    try simp only [Act.put, List.setIfInBounds_toArray, List.set_cons_zero, List.set_cons_succ]
    refine wpAnyH_ready (rs := [9]) (by kernel_rfl) (by decide) (AllReadyH.cons rfl (fun K hK => ?_) AllReadyH.nil)
    rw [if_pos (by rfl)]
    go_simp
    refine hK.out _ _ hH2 (fun _ => ?_)
    clear hK K
    try simp only [Act.put, List.setIfInBounds_toArray, List.set_cons_zero, List.set_cons_succ]
    refine wpAnyH_ready (rs := [10]) (by kernel_rfl) (by decide) (AllReadyH.cons rfl (fun K hK => ?_) AllReadyH.nil)
    rw [if_pos (by rfl)]
    go_simp
    refine hK.out _ _ hH2 (fun _ => ?_)
    clear hK K
    try simp only [Act.put, List.setIfInBounds_toArray, List.set_cons_zero, List.set_cons_succ]
    refine wpAnyH_done (by kernel_rfl) ?_ _
    go_wp2
    go_ret2
    exact ⟨by rw [HQ.out]; rfl, hH2.bel⟩
  · rw [prS_n hc, show emp = (⟨#[]⟩ : ByteArray) from rfl]
    have hc' : (fpC P z fr nr F != 0) = true := by rw [bne_iff_ne]; exact hc
    generalize fpC P z fr nr F = cc at CC hc' hc ⊢
    go_enter Tryz.func8, Tryz.ntmps8
    iterate 6 go_step
    generalize w.alloc (.cells (infC P D z (.slice xr nr cr) F (.slice xs ns cz)) 26) = wa at I0 I1 B1 c36 f36 ⊢
    go_wp2_with (refine wpList_load_infG (by rfl) (.tmp 1) (by rfl) (by rfl) I1 ?_; refine Hid.out ?_)
    unfold Hid
    generalize wa.setCell ⟨w.heap.size, 36, none⟩ (.slice none 0 0) = w0 at I1 B1 ⊢
    clear I0 c36 f36
    go_wp2_with fail
    refine (CC w0 B1).mono ?_
    rintro e w1 ⟨rfl, b1⟩
    have B2 : Hid (Below w.heap.size w w1) := B1.trans (b1.mono B1.size)
    clear CC I1 B1 b1
    go_wp2
    go_ret2
    exact ⟨rfl, B2.out⟩
end Go.Proofs.YtgnlkggodchlbaaGreatDoor
