/- Gathered: ShC JoA InU LdG. -/
import Derived.Test.YtgnlkggodchlbaaGreatDoorRows
import Derived.Shelf.Strings.Builder1
import Derived.Shelf.Strings.Builder2
import Derived.Laws.Tables
import Derived.BigFrame
import Derived.Test.YtgnlkggodchlbaaGreatDoorQb
import Derived.Test.YtgnlkggodchlbaaGreatDoorQh
import Derived.Test.YtgnlkggodchlbaaGreatDoorQj
import Derived.Test.YtgnlkggodchlbaaGreatDoorQn
/- Contracts of the library, laid at this program. -/
namespace Go.Proofs.YtgnlkggodchlbaaGreatDoor
open Go.Shelf Go.RowKit
def Tryz.lays165_ren : Go.Shelf.Ren := ⟨fun | 165 => 34 | 240 => 28 | 241 => 53 | 276 => 49 | 277 => 70 | n => n, fun | 70 => 42 | 3 => 3 | 0 => 0 | 4 => 4 | 9 => 9 | 20 => 20 | 72 => 45 | 37 => 43 | 164 => 89 | 5 => 5 | n => n, fun | n => n⟩
theorem Tryz.lays165 : Go.Proofs.Lays.n165 Tryz.prog Tryz.lays165_ren := {
  mixed := by kernel_rfl
  f165 := Tryz.func34.trans (congrArg some (by kernel_rfl))
  f240 := Tryz.func28.trans (congrArg some (by kernel_rfl))
  f241 := Tryz.func53.trans (congrArg some (by kernel_rfl))
  f276 := Tryz.func49.trans (congrArg some (by kernel_rfl))
  f277 := Tryz.func70.trans (congrArg some (by kernel_rfl))
  t0 := Tryz.underlying0
  a0 := Tryz.isAgg0
  z0 := Tryz.sizeOf0
  v0 := Tryz.zeroValue0
  t3 := Tryz.underlying3
  a3 := Tryz.isAgg3
  z3 := Tryz.sizeOf3
  v3 := Tryz.zeroValue3
  t4 := Tryz.underlying4
  a4 := Tryz.isAgg4
  z4 := Tryz.sizeOf4
  v4 := Tryz.zeroValue4
  t9 := Tryz.underlying9
  a9 := Tryz.isAgg9
  z9 := Tryz.sizeOf9
  v9 := Tryz.zeroValue9
  t20 := Tryz.underlying20
  a20 := Tryz.isAgg20
  z20 := Tryz.sizeOf20
  v20 := Tryz.zeroValue20
  t37 := Tryz.underlying43
  a37 := Tryz.isAgg43
  z37 := Tryz.sizeOf43
  v37 := Tryz.zeroValue43
  t70 := Tryz.underlying42
  a70 := Tryz.isAgg42
  z70 := Tryz.sizeOf42
  v70 := Tryz.zeroValue42
  t72 := Tryz.underlying45
  a72 := Tryz.isAgg45
  z72 := Tryz.sizeOf45
  v72 := Tryz.zeroValue45
  t164 := Tryz.underlying89
  a164 := Tryz.isAgg89
  z164 := Tryz.sizeOf89
  v164 := Tryz.zeroValue89 }
theorem Tryz.Builder_Extra_165 : Builder.Extra Tryz.prog Tryz.lays165_ren := {
  sizeBuilder := by kernel_rfl
  liesBuilder := by kernel_rfl
  t5 := Tryz.underlying5
  a5 := Tryz.isAgg5
  z5 := Tryz.sizeOf5
  v5 := Tryz.zeroValue5
  infoByte := by kernel_rfl
  cellsByte := by kernel_rfl
  sizeByte := by kernel_rfl
  neB5 := by decide }
open Go.RowKit in
theorem Tryz.Builder_Grow_fresh (B b n : Nat) (w : World) (hB : B ≤ b) (hbk : w.heap[b]? = some (.cells #[.pointer none, .slice none 0 0] 45 (0, 0))) (hBw : B ≤ w.heap.size) (hn : n ≤ 281474976710656) :
    Calls Tryz.prog 34 #[.pointer (some ⟨b, 0, none⟩), .int .i64 n] w fun e w' => e = .returned (.tuple #[]) ∧ (Lib.BuilderAt 45 5 B b (.pointer (some ⟨b, 0, none⟩)) [] w' ∧ Below B w w') := Any.Builder_Grow_fresh Tryz.lays165 Tryz.Builder_Extra_165 B b n w hB hbk hBw hn
end Go.Proofs.YtgnlkggodchlbaaGreatDoor
/- strings.Join over a builder; walked. -/
namespace Go.Proofs.YtgnlkggodchlbaaGreatDoor
open Go.RowKit Go.Shelf

/-- The first k texts with sep between them. -/
def jnS (f : Nat → ByteArray) (sep : ByteArray) : Nat → ByteArray
  | 0 => ⟨#[]⟩
  | k + 1 => if k = 0 then f 0 else jnS f sep k ++ sep ++ f k
theorem jnS_one (f : Nat → ByteArray) (sep : ByteArray) : jnS f sep 1 = f 0 := rfl
theorem jnS_more (f : Nat → ByteArray) (sep : ByteArray) (k : Nat) : jnS f sep (k + 1 + 1) = jnS f sep (k + 1) ++ sep ++ f (k + 1) := if_neg (by omega)
theorem jnS_size (f : Nat → ByteArray) (sep : ByteArray) (hs : sep.size = 1) : ∀ k, (∀ i, i < k → (f i).size ≤ 1048576) → (jnS f sep k).size ≤ 1048577 * k
  | 0, _ => Nat.le_refl _
  | 1, h => by rw [jnS_one]; have := h 0 (by omega); omega
  | k + 1 + 1, h => by
    have h1 := jnS_size f sep hs (k + 1) (fun i hi => h i (by omega))
    have h2 := h (k + 1) (by omega)
    rw [jnS_more, app_size, app_size]
    omega
/-- The sum of the first k sizes. -/
def szS (f : Nat → ByteArray) : Nat → Nat
  | 0 => 0
  | k + 1 => szS f k + (f k).size
theorem szS_le (f : Nat → ByteArray) : ∀ k, (∀ i, i < k → (f i).size ≤ 1048576) → szS f k ≤ 1048576 * k
  | 0, _ => Nat.le_refl _
  | k + 1, h => by
    have h1 := szS_le f k (fun i hi => h i (by omega))
    have h2 := h k (by omega)
    rw [szS]
    omega

theorem add_one_add (a : Addr) (j : Nat) : (a.add 1).add j = a.add (j + 1) := by
  cases a with
  | mk b o q =>
    by_cases h : j = 0
    · subst h; cases q <;> simp [Addr.add]
    · cases q <;> simp [Addr.add, h] <;> omega

set_option maxRecDepth 100000 in
set_option maxHeartbeats 4000000 in
theorem join_any (x : Option Addr) (n c : Nat) (f : Nat → ByteArray) (sep : ByteArray) (w : World) (hS : SIs w x n f) (hc : n ≤ c) (hn : n ≤ 1048576) (hz : ∀ i, i < n → (f i).size ≤ 1048576) (hsep : sep.size = 1) :
    Calls Tryz.prog 20 #[.slice x n c, .string sep] w fun e w' => e = .returned (.string (jnS f sep n)) ∧ Below w.heap.size w w' := by
  have HS : Hid (SIs w x n f) := hS
  have HZ : Hid (∀ i, i < n → (f i).size ≤ 1048576) := hz
  clear hS hz
  by_cases h0 : n = 0
  · subst h0
    clear HZ
    go_enter Tryz.func20, Tryz.ntmps20
    go_wp2
    go_ret
    exact ⟨rfl, Below.refl _ _⟩
  by_cases h1 : n = 1
  · subst h1
    obtain ⟨a, rfl, c0⟩ := HS.out 0 (by omega)
    have ea : a.add 0 = a := by cases a with | mk b o q => cases q <;> simp [Addr.add]
    have c0' := c0
    rw [ea] at c0'
    clear HZ
    go_enter Tryz.func20, Tryz.ntmps20
    go_wp2
    try rw [Exit.noGoto_ret]
    go_ret
    exact ⟨rfl, Below.refl _ _⟩
  have h2 : 2 ≤ n := by omega
  obtain ⟨ad, rfl, ca0⟩ := HS.out 0 (by omega)
  have q1 : ((n : Int) == 0) = false := by rw [beq_eq_false_iff_ne]; omega
  have q2 : ((n : Int) == 1) = false := by rw [beq_eq_false_iff_ne]; omega
  have hq : ¬ (9223372036854775807 : Int) / ((n : Int) - 1) ≤ 1 := by
    have : 2 ≤ (9223372036854775807 : Int) / ((n : Int) - 1) := Int.le_ediv_of_mul_le (by omega) (by omega)
    omega
  have ea : ad.add 0 = ad := by cases ad with | mk b o q => cases q <;> simp [Addr.add]
  have HA0 : Hid (w.cell? ad = some (.string (f 0))) := by rw [ea] at ca0; exact ca0
  clear h0 h1 ca0 ea
  go_enter Tryz.func20, Tryz.ntmps20
  go_wp2
  -- @1
  go_loopw [5, 41] (fun v i wr => ∃ k : Nat, k ≤ n ∧ v = .int .i64 ((n : Int) - 1 + (szS f k : Nat)) ∧ i = .int .i64 k ∧ wr = w) (fun _ i _ => n - (intOf i).toNat)
  case atStart => exact ⟨0, Nat.zero_le _, by show _ = Value.int .i64 ((n : Int) - 1 + 0); go_num, rfl, rfl⟩
  case round =>
    obtain ⟨k, hk, rfl, rfl, rfl⟩ := hrel
    have hle := szS_le f k (fun i hi => HZ.out i (by omega))
    by_cases hlt : k < n
    · obtain ⟨a9, ha9, c9⟩ := HS.out k hlt
      obtain rfl : ad = a9 := by injection ha9
      have hz9 := HZ.out k hlt
      have e9 : Hid (szS f (k + 1) = szS f k + (f k).size) := rfl
      generalize szS f k = S at hle e9 ⊢
      generalize hF : f k = F at c9 hz9 e9
      go_wp2
      go_roundw
      case rel => exact ⟨k + 1, by omega, by rw [e9.out]; go_num, by go_num, trivial⟩
      case measure => simp [intOf]; omega
    · obtain rfl : k = n := by omega
      have N0 : (wr.alloc (.cells #[.pointer none, .slice none 0 0] 45)).heap[wr.heap.size]? = some (.cells #[.pointer none, .slice none 0 0] 45 (0, 0)) := heap_alloc_new wr _
      have B0 : Hid (Below wr.heap.size wr (wr.alloc (.cells #[.pointer none, .slice none 0 0] 45))) := (Below.refl _ _).alloc (Nat.le_refl _) _
      have CG := Tryz.Builder_Grow_fresh wr.heap.size wr.heap.size (k - 1 + szS f k) (wr.alloc (.cells #[.pointer none, .slice none 0 0] 45)) (Nat.le_refl _) N0 (by rw [World.size_alloc]; omega) (by omega)
      have eG : ((k - 1 + szS f k : Nat) : Int) = (k : Int) - 1 + (szS f k : Nat) := by omega
      rw [eG] at CG
      clear N0 eG
      go_wp2_with fail
      -- @2
      refine CG.mono ?_
      clear CG
      rintro e w1 ⟨rfl, D1, b1⟩
      obtain ⟨b, hb⟩ : ∃ b, wr.heap.size = b := ⟨_, rfl⟩
      have HD1 : Bd w1 b ⟨#[]⟩ := by rw [← hb]; exact Or.inr D1
      have HB1 : Hid (Below b wr w1) := by rw [← hb]; exact B0.out.trans b1
      rw [hb]
      have HWB : Hid (wr.heap.size = b) := hb
      clear D1 b1 B0 hb hle
      have hA1 : w1.cell? ad = some (.string (f 0)) := by rw [HB1.out.cell (by rw [← HWB.out]; exact World.block_lt_of_cell? _ _ HA0.out)]; exact HA0.out
      have hz0 := HZ.out 0 (by omega)
      have CW := ws_any b ⟨#[]⟩ (f 0) w1 HD1 (by show 0 + _ ≤ _; omega)
      rw [show (⟨#[]⟩ : ByteArray) ++ f 0 = jnS f sep 1 from by rw [jnS_one]; apply ByteArray.ext; simp] at CW
      have hc1 : 1 ≤ k := by omega
      go_wp2_with fail
      refine CW.mono ?_
      clear CW
      rintro e w2 ⟨rfl, D2, b2⟩
      have HD2 : Hid (Bd w2 b (jnS f sep 1)) := D2
      have HB2 : Hid (Below b wr w2) := HB1.out.trans b2
      clear D2 b2 HD1 HB1 hA1 hz0
      go_wp2
      -- @3
      obtain ⟨wo, hwo⟩ : ∃ wo, wo = wr := ⟨_, rfl⟩
      subst hwo
      go_loopw [65] (fun i wq => ∃ j : Nat, j + 1 ≤ k ∧ i = .int .i64 j ∧ Hid (Bd wq b (jnS f sep (j + 1))) ∧ Hid (Below b wo wq)) (fun i _ => k - (intOf i).toNat)
      case atStart => exact ⟨0, by omega, rfl, HD2, HB2⟩
      case round =>
        obtain ⟨j, hj, rfl, D, B⟩ := hrel
        clear HD2 HB2
        by_cases hlt : j + 1 < k
        · obtain ⟨a9, ha9, c9⟩ := HS.out.below B.out (Nat.le_of_eq HWB.out) (j + 1) hlt
          obtain rfl : ad = a9 := by injection ha9
          have e9 : (⟨ad.block, ad.off + 1 + j, none⟩ : Addr) = ad.add (j + 1) := by unfold Addr.add; rw [if_neg (by omega), Nat.add_assoc, Nat.add_comm 1 j]
          rw [← e9] at c9
          clear e9
          have hz9 := HZ.out (j + 1) hlt
          have hjs := jnS_size f sep hsep (j + 1) (fun i hi => HZ.out i (by omega))
          have hlt' : j < k - 1 := by omega
          have hltI : (j : Int) < (k : Int) - 1 := by omega
          have CW := fun W (d : Bd W b (jnS f sep (j + 1))) => ws_any b (jnS f sep (j + 1)) sep W d (by omega)
          have CV := fun W (d : Bd W b (jnS f sep (j + 1) ++ sep)) => ws_any b (jnS f sep (j + 1) ++ sep) (f (j + 1)) W d (by rw [app_size]; omega)
          simp only [← jnS_more] at CV
          generalize f (j + 1) = F at c9 CV
          go_wp2_with fail
          refine (CW _ D.out).mono ?_
          rintro e w3 ⟨rfl, d3, b3⟩
          have B3 : Hid (Below b wo w3) := B.out.trans b3
          clear CW D B b3
          go_wp2_with fail
          refine (CV _ d3).mono ?_
          rintro e w4 ⟨rfl, d4, b4⟩
          have D4 : Hid (Bd w4 b (jnS f sep (j + 1 + 1))) := d4
          have B4 : Hid (Below b wo w4) := B3.out.trans b4
          clear CV d3 d4 b4 B3
          go_wp2
          go_roundw
          case rel => exact ⟨j + 1, by omega, by go_num, D4, B4⟩
          case measure => simp [intOf]; omega
        · obtain rfl : k = j + 1 := by omega
          have hltI : ¬ (j : Int) < ((j + 1 : Nat) : Int) - 1 := by omega
          have CS := bstr_any b (jnS f sep (j + 1)) wr D.out
          go_wp2_with fail
          refine CS.mono ?_
          rintro e w5 ⟨rfl, b5⟩
          have B5 : Hid (Below b wo w5) := B.out.trans b5
          clear CS b5
          go_wp2
          go_ret
          exact ⟨rfl, by have := B5.out; rw [HWB.out]; exact this⟩
end Go.Proofs.YtgnlkggodchlbaaGreatDoor
/- The laws' plain; walked. -/
namespace Go.Proofs.YtgnlkggodchlbaaGreatDoor
open Go.RowKit Go.Shelf

theorem Inf.digRange {w : World} {g : Nat} {P : ByteArray} {D : Nat → Int} {z : Int} {vr : Value} {F : ByteArray} {vs : Value} (h : Inf w g P D z vr F vs) : w.rangeAt g 1 (cs .u8 32 D).toList := fun j v hv => by
  have hj : j < 32 := by
    have := (List.getElem?_eq_some_iff.1 hv).1
    rw [Array.length_toList, cs_size] at this; exact this
  rw [h.dig j hj, ← hv]
  simp [cs, hj]

set_option maxRecDepth 100000 in
theorem built_inf (P : ByteArray) (D : Nat → Int) (z : Int) (F : ByteArray) (xr : Option Addr) (nr cr : Nat) (xs : Option Addr) (ns cs' : Nat) : Tryz.prog.built 34 [(0, .string P), (1, .agg (cs .u8 32 D)), (2, .int .i64 z), (3, .slice xr nr cr), (4, .string F), (5, .slice xs ns cs')] = some (infC P D z (.slice xr nr cr) F (.slice xs ns cs')) := by kernel_rfl

theorem wpList_build_some {ops : Array Oper} {rest : List Oper} {o : Oper} {a : Act} {w : World} {Q : Exit → Act → World → Prop} (hg : o.guard = none) (t : TypeId) (parts : Array (Nat × Operand)) (ho : o.op = .build t parts) (cells : Array Value)
    (l : List (Nat × Value)) (hl : (parts.map fun (i, x) => (i, a.eval x)).toList = l) (hb : Tryz.prog.built t l = some cells) (h : wpList Tryz.prog ops Q rest (a.put o.dst (.agg cells)) w) : wpList Tryz.prog ops Q (o :: rest) a w := by
  refine wpList_build hg t parts ho (by rw [hl, hb]; rfl) ?_
  rw [hl, hb]; exact h
/-- The document's whole info stored. -/
theorem wpList_store_rinf {ops : Array Oper} {rest : List Oper} {o : Oper} {a : Act} {w : World} {Q : Exit → Act → World → Prop} {g : Nat} {P P' : ByteArray} {D D' : Nat → Int} {z z' : Int} {vr vr' : Value} {F F' : ByteArray} {vs vs' : Value} (hgd : o.guard = none) (x y : Operand) (ho : o.op = .store 34 x y)
    (hx : a.eval x = .pointer (some ⟨g, 0, none⟩)) (hy : a.eval y = .agg (infC P' D' z' vr' F' vs')) (h : Inf w g P D z vr F vs) (h1 : vr'.oneCell' = true) (h2 : vs'.oneCell' = true) (hdst : o.dst = none)
    (hK : ∀ W, W.rangeAt g 0 (infL P' D' z' vr' F' vs') → Upd w W g → wpList Tryz.prog ops Q rest a W) : wpList Tryz.prog ops Q (o :: rest) a w := by
  refine wpList_store_mid hgd 34 x y ho g 0 (infC P' D' z' vr' F' vs') hx hy (by rw [infC_size]; exact h.there37) (by rw [infC_size]; exact szRINF) (inf_one _ _ _ _ _ _ h1 h2) ?_
  rw [hdst]
  obtain ⟨s1, s2, s3, s4, s5⟩ := setCells_only g (infL P' D' z' vr' F' vs') 0 w
  exact hK _ (World.rangeAt_setCells_same w g 0 (infL P' D' z' vr' F' vs') (by rw [infL_len]; exact h.there37)) ⟨s3, s4, s5, s1, fun i _ hne => s2 i hne⟩
theorem results_rinf {P' : ByteArray} {D' : Nat → Int} {z' : Int} {vr' : Value} {F' : ByteArray} {vs' : Value} {fn : Func} {p : Tmp} (hr : fn.results = #[.cell p 34]) (tmps : Array Value) (w : World) (g : Nat)
    (hp : tmps.getD p undef = .pointer (some ⟨g, 0, none⟩)) (h1 : w.rangeAt g 0 (infL P' D' z' vr' F' vs')) :
    (results fn tmps).run Tryz.prog w = .ok (.agg (infC P' D' z' vr' F' vs')) w := by
  have l1 := run_loadVar_mid (P := Tryz.prog) w g 0 34 (infL P' D' z' vr' F' vs') _ h1 Tryz.underlying34 rfl (by rw [szRINF]; exact congrArg some (infL_len P' D' z' vr' F' vs').symm)
  have hp' : tmps[p]?.getD undef = .pointer (some ⟨g, 0, none⟩) := by simpa using hp
  simp [results, hr, hp', asAddr, l1]
  rfl

set_option maxRecDepth 100000 in
set_option maxHeartbeats 400000 in
theorem plain_any (P : ByteArray) (D : Nat → Int) (z : Int) (F : ByteArray) (xr : Option Addr) (nr cr : Nat) (xs : Option Addr) (ns cs' : Nat) (w : World) :
    Calls Tryz.prog 7 #[.agg (infC P D z (.slice xr nr cr) F (.slice xs ns cs'))] w fun e w' => e = .returned (.agg (infC P D z (.slice xr nr cr) F (.slice xs ns cs'))) ∧ Below w.heap.size w w' := by
  have I0 : Inf ((w.alloc (.cells (infC P D z (.slice xr nr cr) F (.slice xs ns cs')) 26)).alloc (.cells (infC ⟨#[]⟩ (fun _ => 0) 0 (.slice none 0 0) ⟨#[]⟩ (.slice none 0 0)) 34)) w.heap.size P D z (.slice xr nr cr) F (.slice xs ns cs') := (Inf.box _ _ _ _ _ _ _ _).same (Below.heap_alloc _ _ _ (by rw [World.size_alloc]; omega))
  go_enter Tryz.func7, Tryz.ntmps7
  iterate 9 go_step
  rw [inf_zero]
  have J0 : Hid (Inf ((w.alloc (.cells (infC P D z (.slice xr nr cr) F (.slice xs ns cs')) 26)).alloc (.cells (infC ⟨#[]⟩ (fun _ => 0) 0 (.slice none 0 0) ⟨#[]⟩ (.slice none 0 0)) 34)) (w.heap.size + 1) ⟨#[]⟩ (fun _ => 0) 0 (.slice none 0 0) ⟨#[]⟩ (.slice none 0 0)) := by
    have := Inf.box (w.alloc (.cells (infC P D z (.slice xr nr cr) F (.slice xs ns cs')) 26)) 34 ⟨#[]⟩ (fun _ => 0) 0 (.slice none 0 0) ⟨#[]⟩ (.slice none 0 0)
    rw [World.size_alloc] at this
    exact this
  have B0 : Hid (Below w.heap.size w ((w.alloc (.cells (infC P D z (.slice xr nr cr) F (.slice xs ns cs')) 26)).alloc (.cells (infC ⟨#[]⟩ (fun _ => 0) 0 (.slice none 0 0) ⟨#[]⟩ (.slice none 0 0)) 34))) := ((Below.refl _ _).alloc (Nat.le_refl _) _).alloc (by rw [World.size_alloc]; omega) _
  generalize (w.alloc (.cells (infC P D z (.slice xr nr cr) F (.slice xs ns cs')) 26)).alloc (.cells (infC ⟨#[]⟩ (fun _ => 0) 0 (.slice none 0 0) ⟨#[]⟩ (.slice none 0 0)) 34) = w0 at I0 J0 B0 ⊢
  have c0 := I0.path
  have c33 := I0.size
  have c34 := I0.refs
  have c35 := I0.from_
  have c36 := I0.signs
  have RG := I0.digRange
  go_wp2_with (refine wpList_load_mid (by rfl) 23 (.tmp 5) (by rfl) w.heap.size 1 (by rfl) (cs .u8 32 D).toList (.array 32 5) RG undDIG rfl (by rw [szD32, Array.length_toList, cs_size]) ?_; refine Hid.out ?_)
  unfold Hid
  rw [Array.toArray_toList]
  iterate 24 go_step
  refine wpList_build_some (by rfl) 34 _ (by rfl) (infC P D z (.slice xr nr cr) F (.slice xs ns cs')) _ ?_ (built_inf P D z F xr nr cr xs ns cs') ?_
  · kernel_rfl
  refine wpList_store_rinf (by rfl) _ _ (by rfl) (by rfl) (by rfl) J0.out rfl rfl (by rfl) ?_
  intro W RW UW

  go_wp2
  exact bodyPost_ret (results_rinf Tryz.results7 _ _ (w.heap.size + 1) rfl RW) rfl ⟨rfl, UW.below B0.out (by omega) B0.out.size⟩

end Go.Proofs.YtgnlkggodchlbaaGreatDoor
/- A whole info loaded under a guard. -/
namespace Go.Proofs.YtgnlkggodchlbaaGreatDoor
open Go.RowKit Go.Shelf

theorem wpList_load_midG {ops : Array Oper} {rest : List Oper} {op : Oper} {a : Act} {w : World} {Q : Exit → Act → World → Prop} (hw : Region.wanted op (yielded ops a.tmps) = true) (ty : TypeId) (x : Operand) (ho : op.op = .load ty x)
    (b o : Nat) (hx : a.eval x = .pointer (some ⟨b, o, none⟩)) (cs : List Value) (d : TypeDesc) (hc : w.rangeAt b o cs)
    (hu : Tryz.prog.underlying ty = some d) (hd : d.isRow = true) (hi : (Tryz.prog.info? ty).map (·.size) = some cs.length)
    (h : wpList Tryz.prog ops Q rest (a.put op.dst (.agg cs.toArray)) w) : wpList Tryz.prog ops Q (op :: rest) a w :=
  BigFrame.wpList_want hw fun _ hK => wp_load_mid ty x ho b o hx cs d hc hu hd hi (hK _ _ h)
theorem wpList_load_infG {ops : Array Oper} {rest : List Oper} {o : Oper} {a : Act} {w : World} {Q : Exit → Act → World → Prop} {g : Nat} {P : ByteArray} {D : Nat → Int} {z : Int} {vr : Value} {F : ByteArray} {vs : Value} (hgd : Region.wanted o (yielded ops a.tmps) = true) (x : Operand) (ho : o.op = .load 26 x)
    (hx : a.eval x = .pointer (some ⟨g, 0, none⟩)) (h : Inf w g P D z vr F vs) (hK : wpList Tryz.prog ops Q rest (a.put o.dst (.agg (infC P D z vr F vs))) w) : wpList Tryz.prog ops Q (o :: rest) a w :=
  wpList_load_midG hgd 26 x ho g 0 hx (infL P D z vr F vs) _ h.range Tryz.underlying26 rfl (by rw [szINF]; exact congrArg some (infC_size P D z vr F vs).symm) hK

end Go.Proofs.YtgnlkggodchlbaaGreatDoor
