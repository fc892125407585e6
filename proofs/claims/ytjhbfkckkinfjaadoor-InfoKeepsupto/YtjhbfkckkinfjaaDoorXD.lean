/- ShC JoA FpA, gathered (own text of the verifier). -/
import Derived.Test.YtjhbfkckkinfjaaDoorRows
import Derived.Shelf.Strings.Builder1
import Derived.Shelf.Strings.Builder2
import Derived.Test.YtjhbfkckkinfjaaDoorInH
import Derived.Test.YtjhbfkckkinfjaaDoorPtR
import Derived.Test.YtjhbfkckkinfjaaDoorInJ
import Derived.Test.YtjhbfkckkinfjaaDoorXA
namespace Go.Proofs.YtjhbfkckkinfjaaDoor
open Go.Shelf Go.RowKit
def Tryd.lays165_ren : Go.Shelf.Ren := ⟨fun | 165 => 28 | 240 => 23 | 241 => 42 | 276 => 40 | 277 => 56 | n => n, fun | 70 => 38 | 3 => 3 | 0 => 0 | 4 => 4 | 9 => 9 | 20 => 20 | 72 => 41 | 37 => 39 | 164 => 78 | 5 => 5 | n => n, fun | n => n⟩
theorem Tryd.lays165 : Go.Proofs.Lays.n165 Tryd.prog Tryd.lays165_ren := {
  mixed := by kernel_rfl
  f165 := Tryd.func28.trans (congrArg some (by kernel_rfl))
  f240 := Tryd.func23.trans (congrArg some (by kernel_rfl))
  f241 := Tryd.func42.trans (congrArg some (by kernel_rfl))
  f276 := Tryd.func40.trans (congrArg some (by kernel_rfl))
  f277 := Tryd.func56.trans (congrArg some (by kernel_rfl))
  t0 := Tryd.underlying0
  a0 := Tryd.isAgg0
  z0 := Tryd.sizeOf0
  v0 := Tryd.zeroValue0
  t3 := Tryd.underlying3
  a3 := Tryd.isAgg3
  z3 := Tryd.sizeOf3
  v3 := Tryd.zeroValue3
  t4 := Tryd.underlying4
  a4 := Tryd.isAgg4
  z4 := Tryd.sizeOf4
  v4 := Tryd.zeroValue4
  t9 := Tryd.underlying9
  a9 := Tryd.isAgg9
  z9 := Tryd.sizeOf9
  v9 := Tryd.zeroValue9
  t20 := Tryd.underlying20
  a20 := Tryd.isAgg20
  z20 := Tryd.sizeOf20
  v20 := Tryd.zeroValue20
  t37 := Tryd.underlying39
  a37 := Tryd.isAgg39
  z37 := Tryd.sizeOf39
  v37 := Tryd.zeroValue39
  t70 := Tryd.underlying38
  a70 := Tryd.isAgg38
  z70 := Tryd.sizeOf38
  v70 := Tryd.zeroValue38
  t72 := Tryd.underlying41
  a72 := Tryd.isAgg41
  z72 := Tryd.sizeOf41
  v72 := Tryd.zeroValue41
  t164 := Tryd.underlying78
  a164 := Tryd.isAgg78
  z164 := Tryd.sizeOf78
  v164 := Tryd.zeroValue78 }
theorem Tryd.Builder_Extra_165 : Builder.Extra Tryd.prog Tryd.lays165_ren := {
  sizeBuilder := by kernel_rfl
  liesBuilder := by kernel_rfl
  t5 := Tryd.underlying5
  a5 := Tryd.isAgg5
  z5 := Tryd.sizeOf5
  v5 := Tryd.zeroValue5
  infoByte := by kernel_rfl
  cellsByte := by kernel_rfl
  sizeByte := by kernel_rfl
  neB5 := by decide }
open Go.RowKit in
theorem Tryd.Builder_Grow_fresh (B b n : Nat) (w : World) (hB : B ≤ b) (hbk : w.heap[b]? = some (.cells #[.pointer none, .slice none 0 0] 41 (0, 0))) (hBw : B ≤ w.heap.size) (hn : n ≤ 281474976710656) :
    Calls Tryd.prog 28 #[.pointer (some ⟨b, 0, none⟩), .int .i64 n] w fun e w' => e = .returned (.tuple #[]) ∧ (Lib.BuilderAt 41 5 B b (.pointer (some ⟨b, 0, none⟩)) [] w' ∧ Below B w w') := Any.Builder_Grow_fresh Tryd.lays165 Tryd.Builder_Extra_165 B b n w hB hbk hBw hn
end Go.Proofs.YtjhbfkckkinfjaaDoor
namespace Go.Proofs.YtjhbfkckkinfjaaDoor
open Go.RowKit Go.Shelf

/-- The first k texts with sep between them. -/
def jnS (f : Nat → ByteArray) (sep : ByteArray) : Nat → ByteArray
  | 0 => ⟨#[]⟩
  | k + 1 => if k = 0 then f 0 else jnS f sep k ++ sep ++ f k
theorem jnS_one (f : Nat → ByteArray) (sep : ByteArray) : jnS f sep 1 = f 0 := rfl
theorem jnS_more (f : Nat → ByteArray) (sep : ByteArray) (k : Nat) : jnS f sep (k + 1 + 1) = jnS f sep (k + 1) ++ sep ++ f (k + 1) := if_neg (by omega)
theorem jnS_size (f : Nat → ByteArray) (sep : ByteArray) (hs : sep.size = 1) : ∀ k, (∀ i, i < k → (f i).size ≤ 1048576) → (jnS f sep k).size ≤ 1048577 * k
  | 0, _ => Nat.le_refl _
  | 1, h => by rw [jnS_one]; have := h 0 (by omega); omega
  | k + 1 + 1, h => by
    have h1 := jnS_size f sep hs (k + 1) (fun i hi => h i (by omega))
    have h2 := h (k + 1) (by omega)
    rw [jnS_more, app_size, app_size]
    omega
/-- The sum of the first k sizes. -/
def szS (f : Nat → ByteArray) : Nat → Nat
  | 0 => 0
  | k + 1 => szS f k + (f k).size
theorem szS_le (f : Nat → ByteArray) : ∀ k, (∀ i, i < k → (f i).size ≤ 1048576) → szS f k ≤ 1048576 * k
  | 0, _ => Nat.le_refl _
  | k + 1, h => by
    have h1 := szS_le f k (fun i hi => h i (by omega))
    have h2 := h k (by omega)
    rw [szS]
    omega

theorem add_one_add (a : Addr) (j : Nat) : (a.add 1).add j = a.add (j + 1) := by
  cases a with
  | mk b o q =>
    by_cases h : j = 0
    · subst h; cases q <;> simp [Addr.add]
    · cases q <;> simp [Addr.add, h] <;> omega

set_option maxRecDepth 100000 in
set_option maxHeartbeats 4000000 in
theorem join_any (x : Option Addr) (n c : Nat) (f : Nat → ByteArray) (sep : ByteArray) (w : World) (hS : SIs w x n f) (hc : n ≤ c) (hn : n ≤ 1048576) (hz : ∀ i, i < n → (f i).size ≤ 1048576) (hsep : sep.size = 1) :
    Calls Tryd.prog 16 #[.slice x n c, .string sep] w fun e w' => e = .returned (.string (jnS f sep n)) ∧ Below w.heap.size w w' := by
  have HS : Hid (SIs w x n f) := hS
  have HZ : Hid (∀ i, i < n → (f i).size ≤ 1048576) := hz
  clear hS hz
  by_cases h0 : n = 0
  · subst h0
    clear HZ
    go_enter Tryd.func16, Tryd.ntmps16
    go_wp2
    go_ret
    exact ⟨rfl, Below.refl _ _⟩
  by_cases h1 : n = 1
  · subst h1
    obtain ⟨a, rfl, c0⟩ := HS.out 0 (by omega)
    have ea : a.add 0 = a := by cases a with | mk b o q => cases q <;> simp [Addr.add]
    have c0' := c0
    rw [ea] at c0'
    clear HZ
    go_enter Tryd.func16, Tryd.ntmps16
    go_wp2
    try rw [Exit.noGoto_ret]
    go_ret
    exact ⟨rfl, Below.refl _ _⟩
  have h2 : 2 ≤ n := by omega
  obtain ⟨ad, rfl, ca0⟩ := HS.out 0 (by omega)
  have q1 : ((n : Int) == 0) = false := by rw [beq_eq_false_iff_ne]; omega
  have q2 : ((n : Int) == 1) = false := by rw [beq_eq_false_iff_ne]; omega
  have hq : ¬ (9223372036854775807 : Int) / ((n : Int) - 1) ≤ 1 := by
    have : 2 ≤ (9223372036854775807 : Int) / ((n : Int) - 1) := Int.le_ediv_of_mul_le (by omega) (by omega)
    omega
  have ea : ad.add 0 = ad := by cases ad with | mk b o q => cases q <;> simp [Addr.add]
  have HA0 : Hid (w.cell? ad = some (.string (f 0))) := by rw [ea] at ca0; exact ca0
  clear h0 h1 ca0 ea
  go_enter Tryd.func16, Tryd.ntmps16
  go_wp2
  -- @1
  go_loopw [5, 41] (fun v i wr => ∃ k : Nat, k ≤ n ∧ v = .int .i64 ((n : Int) - 1 + (szS f k : Nat)) ∧ i = .int .i64 k ∧ wr = w) (fun _ i _ => n - (intOf i).toNat)
  case atStart => exact ⟨0, Nat.zero_le _, by show _ = Value.int .i64 ((n : Int) - 1 + 0); go_num, rfl, rfl⟩
  case round =>
    obtain ⟨k, hk, rfl, rfl, rfl⟩ := hrel
    have hle := szS_le f k (fun i hi => HZ.out i (by omega))
    by_cases hlt : k < n
    · obtain ⟨a9, ha9, c9⟩ := HS.out k hlt
      obtain rfl : ad = a9 := by injection ha9
      have hz9 := HZ.out k hlt
      have e9 : Hid (szS f (k + 1) = szS f k + (f k).size) := rfl
      generalize szS f k = S at hle e9 ⊢
      generalize hF : f k = F at c9 hz9 e9
      go_wp2
      go_roundw
      case rel => exact ⟨k + 1, by omega, by rw [e9.out]; go_num, by go_num, trivial⟩
      case measure => simp [intOf]; omega
    · obtain rfl : k = n := by omega
      have N0 : (wr.alloc (.cells #[.pointer none, .slice none 0 0] 41)).heap[wr.heap.size]? = some (.cells #[.pointer none, .slice none 0 0] 41 (0, 0)) := heap_alloc_new wr _
      have B0 : Hid (Below wr.heap.size wr (wr.alloc (.cells #[.pointer none, .slice none 0 0] 41))) := (Below.refl _ _).alloc (Nat.le_refl _) _
      have CG := Tryd.Builder_Grow_fresh wr.heap.size wr.heap.size (k - 1 + szS f k) (wr.alloc (.cells #[.pointer none, .slice none 0 0] 41)) (Nat.le_refl _) N0 (by rw [World.size_alloc]; omega) (by omega)
      have eG : ((k - 1 + szS f k : Nat) : Int) = (k : Int) - 1 + (szS f k : Nat) := by omega
      rw [eG] at CG
      clear N0 eG
      go_wp2_with fail
      -- @2
      refine CG.mono ?_
      clear CG
      rintro e w1 ⟨rfl, D1, b1⟩
      obtain ⟨b, hb⟩ : ∃ b, wr.heap.size = b := ⟨_, rfl⟩
      have HD1 : Bd w1 b ⟨#[]⟩ := by rw [← hb]; exact Or.inr D1
      have HB1 : Hid (Below b wr w1) := by rw [← hb]; exact B0.out.trans b1
      rw [hb]
      have HWB : Hid (wr.heap.size = b) := hb
      clear D1 b1 B0 hb hle
      have hA1 : w1.cell? ad = some (.string (f 0)) := by rw [HB1.out.cell (by rw [← HWB.out]; exact World.block_lt_of_cell? _ _ HA0.out)]; exact HA0.out
      have hz0 := HZ.out 0 (by omega)
      have CW := ws_any b ⟨#[]⟩ (f 0) w1 HD1 (by show 0 + _ ≤ _; omega)
      rw [show (⟨#[]⟩ : ByteArray) ++ f 0 = jnS f sep 1 from by rw [jnS_one]; apply ByteArray.ext; simp] at CW
      have hc1 : 1 ≤ k := by omega
      go_wp2_with fail
      refine CW.mono ?_
      clear CW
      rintro e w2 ⟨rfl, D2, b2⟩
      have HD2 : Hid (Bd w2 b (jnS f sep 1)) := D2
      have HB2 : Hid (Below b wr w2) := HB1.out.trans b2
      clear D2 b2 HD1 HB1 hA1 hz0
      go_wp2
      -- @3
      obtain ⟨wo, hwo⟩ : ∃ wo, wo = wr := ⟨_, rfl⟩
      subst hwo
      go_loopw [65] (fun i wq => ∃ j : Nat, j + 1 ≤ k ∧ i = .int .i64 j ∧ Hid (Bd wq b (jnS f sep (j + 1))) ∧ Hid (Below b wo wq)) (fun i _ => k - (intOf i).toNat)
      case atStart => exact ⟨0, by omega, rfl, HD2, HB2⟩
      case round =>
        obtain ⟨j, hj, rfl, D, B⟩ := hrel
        clear HD2 HB2
        by_cases hlt : j + 1 < k
        · obtain ⟨a9, ha9, c9⟩ := HS.out.below B.out (Nat.le_of_eq HWB.out) (j + 1) hlt
          obtain rfl : ad = a9 := by injection ha9
          have e9 : (⟨ad.block, ad.off + 1 + j, none⟩ : Addr) = ad.add (j + 1) := by unfold Addr.add; rw [if_neg (by omega), Nat.add_assoc, Nat.add_comm 1 j]
          rw [← e9] at c9
          clear e9
          have hz9 := HZ.out (j + 1) hlt
          have hjs := jnS_size f sep hsep (j + 1) (fun i hi => HZ.out i (by omega))
          have hlt' : j < k - 1 := by omega
          have hltI : (j : Int) < (k : Int) - 1 := by omega
          have CW := fun W (d : Bd W b (jnS f sep (j + 1))) => ws_any b (jnS f sep (j + 1)) sep W d (by omega)
          have CV := fun W (d : Bd W b (jnS f sep (j + 1) ++ sep)) => ws_any b (jnS f sep (j + 1) ++ sep) (f (j + 1)) W d (by rw [app_size]; omega)
          simp only [← jnS_more] at CV
          generalize f (j + 1) = F at c9 CV
          go_wp2_with fail
          refine (CW _ D.out).mono ?_
          rintro e w3 ⟨rfl, d3, b3⟩
          have B3 : Hid (Below b wo w3) := B.out.trans b3
          clear CW D B b3
          go_wp2_with fail
          refine (CV _ d3).mono ?_
          rintro e w4 ⟨rfl, d4, b4⟩
          have D4 : Hid (Bd w4 b (jnS f sep (j + 1 + 1))) := d4
          have B4 : Hid (Below b wo w4) := B3.out.trans b4
          clear CV d3 d4 b4 B3
          go_wp2
          go_roundw
          case rel => exact ⟨j + 1, by omega, by go_num, D4, B4⟩
          case measure => simp [intOf]; omega
        · obtain rfl : k = j + 1 := by omega
          have hltI : ¬ (j : Int) < ((j + 1 : Nat) : Int) - 1 := by omega
          have CS := bstr_any b (jnS f sep (j + 1)) wr D.out
          go_wp2_with fail
          refine CS.mono ?_
          rintro e w5 ⟨rfl, b5⟩
          have B5 : Hid (Below b wo w5) := B.out.trans b5
          clear CS b5
          go_wp2
          go_ret
          exact ⟨rfl, by have := B5.out; rw [HWB.out]; exact this⟩
end Go.Proofs.YtjhbfkckkinfjaaDoor
namespace Go.Proofs.YtjhbfkckkinfjaaDoor
open Go.RowKit Go.Shelf

def cma : ByteArray := ⟨#[44]⟩
def smc : ByteArray := ⟨#[59]⟩
def sha7 : ByteArray := ⟨#[115, 104, 97, 50, 53, 54, 58]⟩
/-- The fingerprint's five parts. -/
def fpF (P : ByteArray) (D : Nat → Int) (z : Int) (fr : Nat → ByteArray) (nr : Nat) : Nat → ByteArray
  | 0 => ⟨#[49]⟩
  | 1 => P
  | 2 => sha7 ++ b32Str (strFn 32 D)
  | 3 => itB z
  | _ => jnS fr cma nr
def fpT (P : ByteArray) (D : Nat → Int) (z : Int) (fr : Nat → ByteArray) (nr : Nat) : ByteArray := jnS (fpF P D z fr nr) smc 5
/-- The error's number: the signatures left out. -/
def fpC (P : ByteArray) (z : Int) (fr : Nat → ByteArray) (nr : Nat) (F : ByteArray) : Int := ckC P z fr nr F (fun _ => emp) 0
theorem jnS_257 (f : Nat → ByteArray) (sep : ByteArray) (hs : sep.size = 1) : ∀ k, (∀ i, i < k → (f i).size ≤ 257) → (jnS f sep k).size ≤ 258 * k
  | 0, _ => Nat.le_refl _
  | 1, h => by rw [jnS_one]; have := h 0 (by omega); omega
  | k + 1 + 1, h => by
    have h1 := jnS_257 f sep hs (k + 1) (fun i hi => h i (by omega))
    have h2 := h (k + 1) (by omega)
    rw [jnS_more, app_size, app_size]
    omega
/-- What the drawn region keeps. -/
structure FgW (w : World) (P : ByteArray) (D : Nat → Int) (z : Int) (F : ByteArray) (vr : Value) (g : Nat) (W : World) : Prop where
  inf : Inf W g P D z vr F (.slice none 0 0)
  bel : Below w.heap.size w W
theorem FgW.next {w : World} {P : ByteArray} {D : Nat → Int} {z : Int} {F : ByteArray} {vr : Value} {g : Nat} {W W' : World} (h : FgW w P D z F vr g W) (c : Below W.heap.size W W') : FgW w P D z F vr g W' :=
  ⟨h.inf.below c h.inf.lt, h.bel.trans (c.mono h.bel.size)⟩

set_option maxRecDepth 100000 in
set_option maxHeartbeats 4000000 in
theorem fing_any (P : ByteArray) (D : Nat → Int) (z : Int) (F : ByteArray) (xr : Option Addr) (nr cr : Nat) (fr : Nat → ByteArray) (xs : Option Addr) (ns cz : Nat) (w : World) (hr : SIs w xr nr fr) (hrc : nr ≤ cr) (hT : PT w) :
    Calls Tryd.prog 6 #[.agg (infC P D z (.slice xr nr cr) F (.slice xs ns cz))] w fun e w' => e = .returned (.tuple #[.string (prS (fpC P z fr nr F) (fpT P D z fr nr)), .int .i64 (fpC P z fr nr F)]) ∧ Below w.heap.size w w' := by
  have I0 : Inf (w.alloc (.cells (infC P D z (.slice xr nr cr) F (.slice xs ns cz)) 26)) w.heap.size P D z (.slice xr nr cr) F (.slice xs ns cz) := Inf.box _ _ _ _ _ _ _ _
  have B0 : Below w.heap.size w (w.alloc (.cells (infC P D z (.slice xr nr cr) F (.slice xs ns cz)) 26)) := (Below.refl _ _).alloc (Nat.le_refl _) _
  have HR : Hid (SIs w xr nr fr) := hr
  have HT : Hid (PT w) := hT
  have CC := fun W (b : Below w.heap.size w W) => ick_any P D z F xr nr cr fr none 0 0 (fun _ => emp) W (hr.below b (Nat.le_refl _)) (fun i hi => absurd hi (by omega)) (Nat.le_refl _) (by omega) (fun i hi => absurd hi (by omega))
  change ∀ W, Below w.heap.size w W → Calls Tryd.prog 7 #[.agg (infC P D z (.slice xr nr cr) F (.slice none 0 0))] W fun e w' => e = .returned (.int .i64 (fpC P z fr nr F)) ∧ Below W.heap.size W w' at CC
  clear hr hT
  have I1 : Inf ((w.alloc (.cells (infC P D z (.slice xr nr cr) F (.slice xs ns cz)) 26)).setCell ⟨w.heap.size, 36, none⟩ (.slice none 0 0)) w.heap.size P D z (.slice xr nr cr) F (.slice none 0 0) := I0.setSigns _
  have B1 : Below w.heap.size w ((w.alloc (.cells (infC P D z (.slice xr nr cr) F (.slice xs ns cz)) 26)).setCell ⟨w.heap.size, 36, none⟩ (.slice none 0 0)) := B0.setCell (p := ⟨w.heap.size, 36, none⟩) (Nat.le_refl _) _
  have c36 := I0.signs
  have f36 := I0.free 36 (by omega)
  clear B0
  by_cases hc : fpC P z fr nr F = 0
  · obtain ⟨h1, ⟨h2, h2'⟩, h3, h4, h5⟩ := ckC_parts hc
    obtain ⟨h6, h7⟩ := crf_ok h3
    have HP : Hid (∀ i, i < nr → (fr i).size ≤ 257) := fun i hi => prC_max (h7 i hi).1
    have mP := prC_max h1
    have mI := itoa_le z h2 h2'
    rw [prS_z hc]
    rw [hc] at CC ⊢
    clear hc h1 h3 h4 h5 h7
    go_enter Tryd.func6, Tryd.ntmps6
    rw [show (⟨#[44]⟩ : ByteArray) = cma from rfl, show (⟨#[59]⟩ : ByteArray) = smc from rfl, show (⟨#[115, 104, 97, 50, 53, 54, 58]⟩ : ByteArray) = sha7 from rfl]
    iterate 6 go_step
    generalize w.alloc (.cells (infC P D z (.slice xr nr cr) F (.slice xs ns cz)) 26) = wa at I0 I1 B1 c36 f36 ⊢
    go_wp2_with (refine wpList_load_infG (by rfl) (.tmp 1) (by rfl) (by rfl) I1 ?_; refine Hid.out ?_)
    unfold Hid
    generalize wa.setCell ⟨w.heap.size, 36, none⟩ (.slice none 0 0) = w0 at I1 B1 ⊢
    clear I0 c36 f36
    go_wp2_with fail
    refine (CC w0 B1).mono ?_
    rintro e w1 ⟨rfl, b1⟩
    have I2 := I1.below b1 I1.lt
    have B2 : Hid (Below w.heap.size w w1) := B1.trans (b1.mono B1.size)
    clear CC I1 B1 b1
    -- @1
    have hst : (convert 39 9 (.slice (some ⟨w.heap.size, 1, none⟩) 32 32)).run Tryd.prog w1 = .ok (.string (strFn 32 D)) w1 := run_convert_bytes_arg w1 39 5 Tryd.underlying39 Tryd.underlying5 w.heap.size 1 32 32 ((List.range 32).map D) (by simp) (fun i hi => by rw [I2.dig i hi]; simp [List.getD, hi]) 9 Tryd.underlying9
    have C32 := b32_any (strFn 32 D) w1 (by rw [strFn_size]; decide)
    go_wp2_with fail
    refine C32.mono ?_
    clear C32 hst
    rintro e w2 ⟨rfl, b2⟩
    have I3 := I2.below b2 I2.lt
    have B3 : Hid (Below w.heap.size w w2) := B2.out.trans (b2.mono B2.out.size)
    clear b2 I2 B2
    have m32 : (b32Str (strFn 32 D)).size ≤ 52 := by rw [b32_size]; exact Nat.le_refl _
    have hs7 : sha7.size = 7 := rfl
    have mH : (sha7 ++ b32Str (strFn 32 D)).size ≤ 59 := by rw [app_size]; omega
    have c34 := I3.refs
    have CJ := join_any xr nr cr fr cma w2 (HR.out.below B3.out (Nat.le_refl _)) hrc (by omega) (fun i hi => by have := HP.out i hi; omega) rfl
    go_wp2_with fail
    refine CJ.mono ?_
    clear CJ c34
    rintro e w3 ⟨rfl, b3⟩
    have I4 := I3.below b3 I3.lt
    have B4 : Hid (Below w.heap.size w w3) := B3.out.trans (b3.mono B3.out.size)
    have mJ := jnS_257 fr cma rfl nr (fun i hi => HP.out i hi)
    clear b3 I3 B3
    have HFP : Hid (fpF P D z fr nr = fun i => if i = 0 then ⟨#[49]⟩ else if i = 1 then P else if i = 2 then sha7 ++ b32Str (strFn 32 D) else if i = 3 then itB z else jnS fr cma nr) := by
      unfold Hid
      funext i
      match i with
      | 0 => rfl
      | 1 => rfl
      | 2 => rfl
      | 3 => rfl
      | i + 4 => simp [fpF]
    go_wp2_with fail
    -- @7
    have HQ : Hid (fpT P D z fr nr = jnS (fun i => if i = 0 then ⟨#[49]⟩ else if i = 1 then P else if i = 2 then sha7 ++ b32Str (strFn 32 D) else if i = 3 then itB z else jnS fr cma nr) smc 5) := by unfold Hid fpT; rw [HFP.out]
    clear HFP m32 hs7
    generalize sha7 ++ b32Str (strFn 32 D) = H at mH HQ ⊢
    generalize jnS fr cma nr = J at mJ HQ ⊢
    have K4 : FgW w P D z F (.slice xr nr cr) w.heap.size w3.drew := ⟨I4.same rfl, B4.out.drew⟩
    have CI := fun W (q : FgW w P D z F (.slice xr nr cr) w.heap.size W) => itoa_any z W h2 h2' (HT.out.below q.bel)
    clear I4 B4
    generalize itB z = Z at mI CI HQ ⊢
    refine wp_region_held_drew (S := FgW w P D z F (.slice xr nr cr) w.heap.size) (by kernel_rfl) K4 (fun hH => ?_)
    generalize w3.drew = W at hH ⊢
    clear K4
    -- @R
    refine wpAnyH_take (i := 0) (oi := { dst := some 21, op := Op.fieldAddr 26 (Operand.tmp 1) 0, type := 0, pos := "info.go:99", after := #[], guard := none }) (v := .pointer (some ⟨w.heap.size, 0, none⟩)) rfl (by kernel_rfl) (by kernel_rfl) (by kernel_rfl) (fun _ _ _ h => h) (Or.inl ⟨by rfl, by intro w _; go_simp⟩) hH ?_
    simp only [Act.put, List.setIfInBounds_toArray, List.set_cons_zero, List.set_cons_succ]
    refine wpAnyH_take (i := 1) (oi := { dst := some 22, op := Op.load 9 (Operand.tmp 21), type := 9, pos := "info.go:99", after := #[{ on := 0, ground := Ground.data }], guard := none }) (v := .string P) rfl (by kernel_rfl) (by kernel_rfl) (by kernel_rfl) (fun _ _ _ h => h) (Or.inl ⟨by rfl, by intro w' s'; have c9 := s'.inf.path; go_simp⟩) hH ?_
    simp only [Act.put, List.setIfInBounds_toArray, List.set_cons_zero, List.set_cons_succ]
    refine wpAnyH_take (i := 2) (oi := { dst := some 23, op := Op.move (Operand.tmp 5), type := 9, pos := "info.go:99", after := #[], guard := none }) (v := .string H) rfl (by kernel_rfl) (by kernel_rfl) (by kernel_rfl) (fun _ _ _ h => h) (Or.inl ⟨by rfl, by intro w _; go_simp⟩) hH ?_
    simp only [Act.put, List.setIfInBounds_toArray, List.set_cons_zero, List.set_cons_succ]
    refine wpAnyH_take (i := 3) (oi := { dst := some 24, op := Op.fieldAddr 26 (Operand.tmp 1) 2, type := 0, pos := "info.go:99", after := #[], guard := none }) (v := .pointer (some ⟨w.heap.size, 33, none⟩)) rfl (by kernel_rfl) (by kernel_rfl) (by kernel_rfl) (fun _ _ _ h => h) (Or.inl ⟨by rfl, by intro w _; go_simp⟩) hH ?_
    simp only [Act.put, List.setIfInBounds_toArray, List.set_cons_zero, List.set_cons_succ]
    refine wpAnyH_take (i := 4) (oi := { dst := some 25, op := Op.load 3 (Operand.tmp 24), type := 3, pos := "info.go:99", after := #[{ on := 3, ground := Ground.data }], guard := none }) (v := .int .i64 z) rfl (by kernel_rfl) (by kernel_rfl) (by kernel_rfl) (fun _ _ _ h => h) (Or.inl ⟨by rfl, by intro w' s'; have c9 := s'.inf.size; go_simp⟩) hH ?_
    simp only [Act.put, List.setIfInBounds_toArray, List.set_cons_zero, List.set_cons_succ]
    refine wpAnyH_take (i := 6) (oi := { dst := some 27, op := Op.move (Operand.tmp 6), type := 9, pos := "info.go:99", after := #[], guard := none }) (v := .string J) rfl (by kernel_rfl) (by kernel_rfl) (by kernel_rfl) (fun _ _ _ h => h) (Or.inl ⟨by rfl, by intro w _; go_simp⟩) hH ?_
    simp only [Act.put, List.setIfInBounds_toArray, List.set_cons_zero, List.set_cons_succ]
    refine wpAnyH_ready (rs := [5]) (by kernel_rfl) (by decide) (AllReadyH.cons rfl (fun K hK => ?_) AllReadyH.nil)
    rw [if_pos (by rfl)]
    go_simp
    refine (CI _ hH).mono ?_
    rintro e v1 ⟨rfl, c1⟩
    go_wp2_with fail
    have hH1 := hH.next c1
    refine hK.out _ _ hH1 (fun _ => ?_)
    clear hK K
    try simp only [Act.put, List.setIfInBounds_toArray, List.set_cons_zero, List.set_cons_succ]
    refine wpAnyH_ready (rs := [7]) (by kernel_rfl) (by decide) (AllReadyH.cons rfl (fun K hK => ?_) AllReadyH.nil)
    rw [if_pos (by rfl)]
    go_simp
    have hHa := hH1.next (W' := v1.alloc (.cells #[.string ⟨#[49]⟩, .string P, .string H, .string Z, .string J] 9)) ((Below.refl _ _).alloc (Nat.le_refl _) _)
    have CJ5 := join_any (some ⟨v1.heap.size, 0, none⟩) 5 5 (fun i => if i = 0 then ⟨#[49]⟩ else if i = 1 then P else if i = 2 then H else if i = 3 then Z else J) smc (v1.alloc (.cells #[.string ⟨#[49]⟩, .string P, .string H, .string Z, .string J] 9)) (fun i hi => ⟨_, rfl, by
      rw [Addr.add_lit, Nat.zero_add, World.cell?_alloc_new]
      rcases (show i = 0 ∨ i = 1 ∨ i = 2 ∨ i = 3 ∨ i = 4 from by omega) with rfl | rfl | rfl | rfl | rfl <;> rfl⟩) (Nat.le_refl _) (by decide) (fun i hi => by
      rcases (show i = 0 ∨ i = 1 ∨ i = 2 ∨ i = 3 ∨ i = 4 from by omega) with rfl | rfl | rfl | rfl | rfl
      · show (1 : Nat) ≤ _; decide
      · show P.size ≤ _; omega
      · show H.size ≤ _; omega
      · show Z.size ≤ _; omega
      · show J.size ≤ _; omega) rfl
    refine hK.out _ _ hHa (fun _ => ?_)
    clear hK K
    try simp only [Act.put, List.setIfInBounds_toArray, List.set_cons_zero, List.set_cons_succ]
    refine wpAnyH_ready (rs := [8]) (by kernel_rfl) (by decide) (AllReadyH.cons rfl (fun K hK => ?_) AllReadyH.nil)
    rw [if_pos (by rfl)]
    go_simp
    refine (CJ5).mono ?_
    rintro e v2 ⟨rfl, c2⟩
    go_wp2_with fail
    have hH2 := hHa.next c2
    refine hK.out _ _ hH2 (fun _ => ?_)
    clear hK K
    try simp only [Act.put, List.setIfInBounds_toArray, List.set_cons_zero, List.set_cons_succ]
    refine wpAnyH_ready (rs := [9]) (by kernel_rfl) (by decide) (AllReadyH.cons rfl (fun K hK => ?_) AllReadyH.nil)
    rw [if_pos (by rfl)]
    go_simp
    refine hK.out _ _ hH2 (fun _ => ?_)
    clear hK K
    try simp only [Act.put, List.setIfInBounds_toArray, List.set_cons_zero, List.set_cons_succ]
    refine wpAnyH_ready (rs := [10]) (by kernel_rfl) (by decide) (AllReadyH.cons rfl (fun K hK => ?_) AllReadyH.nil)
    rw [if_pos (by rfl)]
    go_simp
    refine hK.out _ _ hH2 (fun _ => ?_)
    clear hK K
    try simp only [Act.put, List.setIfInBounds_toArray, List.set_cons_zero, List.set_cons_succ]
    refine wpAnyH_done (by kernel_rfl) ?_ _
    go_wp2
    go_ret2
    exact ⟨by rw [HQ.out]; rfl, hH2.bel⟩
  · rw [prS_n hc, show emp = (⟨#[]⟩ : ByteArray) from rfl]
    have hc' : (fpC P z fr nr F != 0) = true := by rw [bne_iff_ne]; exact hc
    generalize fpC P z fr nr F = cc at CC hc' hc ⊢
    go_enter Tryd.func6, Tryd.ntmps6
    iterate 6 go_step
    generalize w.alloc (.cells (infC P D z (.slice xr nr cr) F (.slice xs ns cz)) 26) = wa at I0 I1 B1 c36 f36 ⊢
    go_wp2_with (refine wpList_load_infG (by rfl) (.tmp 1) (by rfl) (by rfl) I1 ?_; refine Hid.out ?_)
    unfold Hid
    generalize wa.setCell ⟨w.heap.size, 36, none⟩ (.slice none 0 0) = w0 at I1 B1 ⊢
    clear I0 c36 f36
    go_wp2_with fail
    refine (CC w0 B1).mono ?_
    rintro e w1 ⟨rfl, b1⟩
    have B2 : Hid (Below w.heap.size w w1) := B1.trans (b1.mono B1.size)
    clear CC I1 B1 b1
    go_wp2
    go_ret2
    exact ⟨rfl, B2.out⟩
end Go.Proofs.YtjhbfkckkinfjaaDoor
