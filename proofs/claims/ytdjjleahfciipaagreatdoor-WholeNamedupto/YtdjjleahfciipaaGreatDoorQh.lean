/- Gathered: ShB BdA JoB JoC TvB. -/
import Derived.Test.YtdjjleahfciipaaGreatDoorRows
import Derived.Shelf.Strings.Builder1
import Derived.Shelf.Strings.Builder2
import Derived.Lib.Strings
import Derived.Lib.Builder
import Derived.WalkMore
import Derived.Below
import Derived.Lib.AppendStr
import Derived.Deep.RegionLaw
import Derived.Deep.RegionWith
import Derived.Test.YtdjjleahfciipaaGreatDoorQa
import Derived.Test.YtdjjleahfciipaaGreatDoorQe
import Derived.Test.YtdjjleahfciipaaGreatDoorQg
/- Contracts of the library, laid at this program. -/
namespace Go.Proofs.YtdjjleahfciipaaGreatDoor
open Go.Shelf Go.RowKit
def Tryz.lays169_ren : Go.Shelf.Ren := ⟨fun | 169 => 17 | n => n, fun | 70 => 52 | 9 => 9 | 0 => 0 | 72 => 54 | 37 => 45 | 127 => 104 | 3 => 3 | 5 => 5 | n => n, fun | n => n⟩
theorem Tryz.lays169 : Go.Proofs.Lays.n169 Tryz.prog Tryz.lays169_ren := {
  mixed := by kernel_rfl
  f169 := Tryz.func17.trans (congrArg some (by kernel_rfl))
  t0 := Tryz.underlying0
  a0 := Tryz.isAgg0
  z0 := Tryz.sizeOf0
  v0 := Tryz.zeroValue0
  t3 := Tryz.underlying3
  a3 := Tryz.isAgg3
  z3 := Tryz.sizeOf3
  v3 := Tryz.zeroValue3
  t9 := Tryz.underlying9
  a9 := Tryz.isAgg9
  z9 := Tryz.sizeOf9
  v9 := Tryz.zeroValue9
  t37 := Tryz.underlying45
  a37 := Tryz.isAgg45
  z37 := Tryz.sizeOf45
  v37 := Tryz.zeroValue45
  t70 := Tryz.underlying52
  a70 := Tryz.isAgg52
  z70 := Tryz.sizeOf52
  v70 := Tryz.zeroValue52
  t72 := Tryz.underlying54
  a72 := Tryz.isAgg54
  z72 := Tryz.sizeOf54
  v72 := Tryz.zeroValue54
  t127 := Tryz.underlying104
  a127 := Tryz.isAgg104
  z127 := Tryz.sizeOf104
  v127 := Tryz.zeroValue104 }
theorem Tryz.Builder_Extra_169 : Builder.Extra Tryz.prog Tryz.lays169_ren := {
  sizeBuilder := by kernel_rfl
  liesBuilder := by kernel_rfl
  t5 := Tryz.underlying5
  a5 := Tryz.isAgg5
  z5 := Tryz.sizeOf5
  v5 := Tryz.zeroValue5
  infoByte := by kernel_rfl
  cellsByte := by kernel_rfl
  sizeByte := by kernel_rfl
  neB5 := by decide }
open Go.RowKit in
theorem Tryz.Builder_String (B b : Nat) (l : List UInt8) (w : World) (h : Lib.IsBuilder 54 5 B b (Lib.byteCells l) w) (h0 : l ≠ []) :
    Calls Tryz.prog 17 #[.pointer (some ⟨b, 0, none⟩)] w fun e w' => e = .returned (.string ⟨l.toArray⟩) ∧ Below B w w' := Any.Builder_String Tryz.lays169 Tryz.Builder_Extra_169 B b l w h h0
open Go.RowKit in
theorem Tryz.Builder_String_empty (B b : Nat) (w : World) (h : Lib.IsBuilder 54 5 B b [] w) (hBw : B ≤ w.heap.size) :
    Calls Tryz.prog 17 #[.pointer (some ⟨b, 0, none⟩)] w fun e w' => e = .returned (.string ⟨#[]⟩) ∧ Below B w w' := Any.Builder_String_empty Tryz.lays169 Tryz.Builder_Extra_169 B b w h hBw
open Go.RowKit in
theorem Tryz.Builder_String_any (B b : Nat) (l : List UInt8) (w : World) (h : Lib.IsBuilder 54 5 B b (Lib.byteCells l) w) (hBw : B ≤ w.heap.size) :
    Calls Tryz.prog 17 #[.pointer (some ⟨b, 0, none⟩)] w fun e w' => e = .returned (.string ⟨l.toArray⟩) ∧ Below B w w' := Any.Builder_String_any Tryz.lays169 Tryz.Builder_Extra_169 B b l w h hBw
def Tryz.lays165_ren : Go.Shelf.Ren := ⟨fun | 165 => 120 | 240 => 72 | 241 => 136 | 276 => 99 | 277 => 142 | n => n, fun | 70 => 52 | 3 => 3 | 0 => 0 | 4 => 4 | 9 => 9 | 20 => 20 | 72 => 54 | 37 => 45 | 164 => 162 | 5 => 5 | n => n, fun | n => n⟩
theorem Tryz.lays165 : Go.Proofs.Lays.n165 Tryz.prog Tryz.lays165_ren := {
  mixed := by kernel_rfl
  f165 := Tryz.func120.trans (congrArg some (by kernel_rfl))
  f240 := Tryz.func72.trans (congrArg some (by kernel_rfl))
  f241 := Tryz.func136.trans (congrArg some (by kernel_rfl))
  f276 := Tryz.func99.trans (congrArg some (by kernel_rfl))
  f277 := Tryz.func142.trans (congrArg some (by kernel_rfl))
  t0 := Tryz.underlying0
  a0 := Tryz.isAgg0
  z0 := Tryz.sizeOf0
  v0 := Tryz.zeroValue0
  t3 := Tryz.underlying3
  a3 := Tryz.isAgg3
  z3 := Tryz.sizeOf3
  v3 := Tryz.zeroValue3
  t4 := Tryz.underlying4
  a4 := Tryz.isAgg4
  z4 := Tryz.sizeOf4
  v4 := Tryz.zeroValue4
  t9 := Tryz.underlying9
  a9 := Tryz.isAgg9
  z9 := Tryz.sizeOf9
  v9 := Tryz.zeroValue9
  t20 := Tryz.underlying20
  a20 := Tryz.isAgg20
  z20 := Tryz.sizeOf20
  v20 := Tryz.zeroValue20
  t37 := Tryz.underlying45
  a37 := Tryz.isAgg45
  z37 := Tryz.sizeOf45
  v37 := Tryz.zeroValue45
  t70 := Tryz.underlying52
  a70 := Tryz.isAgg52
  z70 := Tryz.sizeOf52
  v70 := Tryz.zeroValue52
  t72 := Tryz.underlying54
  a72 := Tryz.isAgg54
  z72 := Tryz.sizeOf54
  v72 := Tryz.zeroValue54
  t164 := Tryz.underlying162
  a164 := Tryz.isAgg162
  z164 := Tryz.sizeOf162
  v164 := Tryz.zeroValue162 }
theorem Tryz.Builder_Extra_165 : Builder.Extra Tryz.prog Tryz.lays165_ren := {
  sizeBuilder := by kernel_rfl
  liesBuilder := by kernel_rfl
  t5 := Tryz.underlying5
  a5 := Tryz.isAgg5
  z5 := Tryz.sizeOf5
  v5 := Tryz.zeroValue5
  infoByte := by kernel_rfl
  cellsByte := by kernel_rfl
  sizeByte := by kernel_rfl
  neB5 := by decide }
open Go.RowKit in
theorem Tryz.Builder_Grow_fresh (B b n : Nat) (w : World) (hB : B ≤ b) (hbk : w.heap[b]? = some (.cells #[.pointer none, .slice none 0 0] 54 (0, 0))) (hBw : B ≤ w.heap.size) (hn : n ≤ 281474976710656) :
    Calls Tryz.prog 120 #[.pointer (some ⟨b, 0, none⟩), .int .i64 n] w fun e w' => e = .returned (.tuple #[]) ∧ (Lib.BuilderAt 54 5 B b (.pointer (some ⟨b, 0, none⟩)) [] w' ∧ Below B w w') := Any.Builder_Grow_fresh Tryz.lays165 Tryz.Builder_Extra_165 B b n w hB hbk hBw hn
end Go.Proofs.YtdjjleahfciipaaGreatDoor
/- strings.Builder: WriteString, String; what a line writes (info.Print's closure); walked. -/
namespace Go.Proofs.YtdjjleahfciipaaGreatDoor
open Go.RowKit Go.Shelf

theorem Tryz.hinfo5 : (Tryz.prog.info? 5).map (fun i => (i.zero, i.size, i.bytes)) = some (some (.int .u8 0), 1, 1) := by kernel_rfl

theorem szSBL : (Tryz.prog.info? 54).map (·.size) = some 2 := by kernel_rfl
theorem liesSBL : liesAt Tryz.prog Tryz.prog.depth 54 (2 / Tryz.prog.cellsOf 54) 0 54 1 = true := by kernel_rfl
theorem und52 : Tryz.prog.underlying 52 = some (.pointer 54) := by kernel_rfl
theorem und113 : Tryz.prog.underlying 162 = some .unsafePointer := by kernel_rfl

set_option maxHeartbeats 1000000 in
set_option maxRecDepth 100000 in
theorem cpC_used (b : Nat) (w : World) (h0 : w.cell? ⟨b, 0, none⟩ = some (.pointer (some ⟨b, 0, none⟩))) :
    Calls Tryz.prog 72 #[.pointer (some ⟨b, 0, none⟩)] w fun e w' => e = .returned (.tuple #[]) ∧ w' = w := by
  obtain ⟨j, hj, _⟩ := Option.map_eq_some_iff.1 szSBL
  go_enter Tryz.func72, Tryz.ntmps72
  go_wp2
  rw [Lib.run_neq_ptr_same w _ und52 hj]
  go_wp2
  go_end0
  exact ⟨rfl, rfl⟩

set_option maxHeartbeats 1000000 in
set_option maxRecDepth 100000 in
theorem cpC_fresh (b : Nat) (w : World) (h0 : w.cell? ⟨b, 0, none⟩ = some (.pointer none)) (hsh : w.shape? b = some (54, 2)) (hfz : w.frozen? ⟨b, 0, none⟩ = false) :
    Calls Tryz.prog 72 #[.pointer (some ⟨b, 0, none⟩)] w fun e w' => e = .returned (.tuple #[]) ∧ w' = w.setCell ⟨b, 0, none⟩ (.pointer (some ⟨b, 0, none⟩)) := by
  obtain ⟨j, hj, hjs⟩ := Option.map_eq_some_iff.1 szSBL
  go_enter Tryz.func72, Tryz.ntmps72
  go_wp2
  rw [Lib.run_to_unsafe w ⟨b, 0, none⟩ und52 und113 hj (by rw [hjs]; decide) hsh (Nat.zero_lt_succ 1)]
  simp only [Result.andThen]
  rw [Oper.upon_value]
  go_wp2
  rw [run_callFunc_extern Tryz.func99 (by kernel_rfl) (by kernel_rfl) (by kernel_rfl) (e := Extern.AbiNoEscape.same) (by kernel_rfl)]
  rw [Lib.run_noEscape]
  simp only [Result.andThen]
  rw [Oper.upon_value]
  go_wp2
  rw [Lib.run_from_unsafe w ⟨b, 0, none⟩ und113 und52 hj hsh liesSBL]
  simp only [Result.andThen]
  rw [Oper.upon_value]
  go_wp2
  go_end0
  exact ⟨rfl, rfl⟩

/-- Block b is a builder that holds the text t. -/
def Bd (w : World) (b : Nat) (t : ByteArray) : Prop := Lib.IsBuilder 54 5 b b (Lib.strCells t) w
theorem Bd.lt {w : World} {b : Nat} {t : ByteArray} (h : Bd w b t) : b < w.heap.size := by rcases h with h | h; exact h.lt; exact h.lt
theorem Bd.new (w : World) : Bd (w.alloc (.cells #[.pointer none, .slice none 0 0] 54)) w.heap.size ⟨#[]⟩ := Lib.fresh_isBuilder 54 5 w
theorem at_below {w w' : World} {B b C : Nat} {p : Value} {bs : List Value} (h : Lib.BuilderAt 54 5 B b p bs w) (g : Below C w w') (hC : w.heap.size ≤ C) : Lib.BuilderAt 54 5 B b p bs w' := by
  have hl := h.lt
  obtain ⟨hB, v, hb, hown, hne⟩ := h
  refine ⟨hB, v, (g.block b (by omega)).trans hb, ?_, hne⟩
  obtain ⟨q, hh | ⟨gg, cap, cur, hv, hbb, hg, hr⟩⟩ := hown
  · exact ⟨q, .inl hh⟩
  · exact ⟨q, .inr ⟨gg, cap, cur, hv, hbb, (g.block gg (by have := (Array.getElem?_eq_some_iff.1 hg).1; omega)).trans hg, hr⟩⟩
theorem Bd.below {w w' : World} {b C : Nat} {t : ByteArray} (h : Bd w b t) (g : Below C w w') (hC : w.heap.size ≤ C) : Bd w' b t := by
  rcases h with h | h
  · exact Or.inl (at_below h g hC)
  · exact Or.inr (at_below h g hC)

theorem cpC_any (b : Nat) (t : ByteArray) (w : World) (h : Bd w b t) :
    Calls Tryz.prog 72 #[.pointer (some ⟨b, 0, none⟩)] w fun e w' => e = .returned (.tuple #[]) ∧ Lib.BuilderAt 54 5 b b (.pointer (some ⟨b, 0, none⟩)) (Lib.strCells t) w' ∧ Below b w w' := by
  rcases h with h | h
  · refine (cpC_fresh b w h.cell0 h.shape h.frozen0).mono ?_
    rintro e w' ⟨rfl, rfl⟩
    exact ⟨rfl, h.used _, (Below.refl b w).setCell (p := ⟨b, 0, none⟩) h.1 _⟩
  · refine (cpC_used b w h.cell0).mono ?_
    rintro e w' ⟨rfl, rfl⟩
    exact ⟨rfl, h, Below.refl b _⟩

theorem strCells_app (a b : ByteArray) : Lib.strCells a ++ Lib.strCells b = Lib.strCells (a ++ b) := by
  unfold Lib.strCells
  simp

set_option maxHeartbeats 1000000 in
set_option maxRecDepth 100000 in
theorem ws_any (b : Nat) (t s : ByteArray) (w : World) (h : Bd w b t) (hlen : t.size + s.size ≤ 140737488355328) :
    Calls Tryz.prog 44 #[.pointer (some ⟨b, 0, none⟩), .string s] w fun e w' => e = .returned (.tuple #[.int .i64 s.size, .nilIface]) ∧ Bd w' b (t ++ s) ∧ Below b w w' := by
  obtain ⟨i0, hi, hz0, hz1, hz2⟩ := info_parts Tryz.hinfo5
  have hbw := h.lt
  go_enter Tryz.func44, Tryz.ntmps44
  go_wp2_with fail
  refine (cpC_any b t w h).mono ?_
  rintro e w1 ⟨rfl, ⟨hB, v, hbk, hown, hne⟩, hb1⟩
  have c0 : w1.cell? ⟨b, 0, none⟩ = some (.pointer (some ⟨b, 0, none⟩)) := by rw [Lib.cell_of_heap hbk]; rfl
  have c1 : w1.cell? ⟨b, 1, none⟩ = some v := by rw [Lib.cell_of_heap hbk]; rfl
  have hl : (Lib.strCells t).length = t.size := Lib.strCells_length t
  go_wp2_with (at_builtin; refine Lib.wpList_append_own_string _ rfl _ _ 45 9 rfl b 5 i0 Tryz.underlying45 Tryz.underlying9 hi hz0 hz1 hz2 _ _ _ rfl hown s rfl ?c3 ?c4 ?c5 ?_)
  case c3 => unfold maxLen; rw [hl]; omega
  case c4 => rw [hl]; omega
  case c5 => have := hb1.size; omega
  intro v' w2 hown' hgrow _
  have hlt : b < w1.heap.size := by have := hb1.size; omega
  have hb2 : w2.heap[b]? = some (.cells #[.pointer (some ⟨b, 0, none⟩), v] 54 (0, 0)) := by
    rw [hgrow.block b hlt (fun e => hne e.symm)]
    exact hbk
  have d0 : w2.cell? ⟨b, 0, none⟩ = some (.pointer (some ⟨b, 0, none⟩)) := by rw [Lib.cell_of_heap hb2]; rfl
  have d1 : w2.cell? ⟨b, 1, none⟩ = some v := by rw [Lib.cell_of_heap hb2]; rfl
  have f1 : w2.frozen? ⟨b, 1, none⟩ = false := Lib.frozen_of_heap hb2 1
  obtain ⟨ao, n', cap, rfl⟩ : ∃ ao n' cap, v' = .slice ao n' cap := by
    rcases hown'.2 with ⟨hv, _⟩ | ⟨g, cap, cur, hv, _⟩
    · exact ⟨_, _, _, hv⟩
    · exact ⟨_, _, _, hv⟩
  have R1 : Hid (Bd (w2.setCell ⟨b, 1, none⟩ (.slice ao n' cap)) b (t ++ s)) := Or.inr (by
    rw [← strCells_app]
    exact Lib.BuilderAt.put (T := 54) (e := 5) hB hb2 (bs' := Lib.strCells t ++ Lib.strCells s) (by simpa [Lib.strCells_length] using hown') (by decide))
  have B1 : Hid (Below b w (w2.setCell ⟨b, 1, none⟩ (.slice ao n' cap))) := (hb1.grown hgrow (by have := hb1.size; omega) (fun k hk => (hown.lt k hk).1)).setCell (p := ⟨b, 1, none⟩) hB _
  clear hown hown' hgrow hbk hb1 hl hne
  go_wp2
  go_ret2
  exact ⟨rfl, R1.out, B1.out⟩

theorem bstr_any (b : Nat) (t : ByteArray) (w : World) (h : Bd w b t) :
    Calls Tryz.prog 17 #[.pointer (some ⟨b, 0, none⟩)] w fun e w' => e = .returned (.string t) ∧ Below b w w' := by
  have hl := h.lt
  exact Tryz.Builder_String_any b b t.data.toList w h (by omega)

end Go.Proofs.YtdjjleahfciipaaGreatDoor
/- strings.Join over a builder; walked. -/
namespace Go.Proofs.YtdjjleahfciipaaGreatDoor
open Go.RowKit Go.Shelf

theorem app_size (a b : ByteArray) : (a ++ b).size = a.size + b.size := ByteArray.size_append
/-- The cells of a row of texts. -/
def SIs (w : World) (x : Option Addr) (n : Nat) (f : Nat → ByteArray) : Prop := ∀ i, i < n → ∃ a, x = some a ∧ w.cell? (a.add i) = some (.string (f i))
theorem add_succ (a : Addr) (k : Nat) : a.add (k + 1) = ⟨a.block, a.off + (k + 1), none⟩ := by unfold Addr.add; rw [if_neg (by omega)]
theorem add_zero' (a : Addr) : a.add 0 = a := by unfold Addr.add; rw [if_pos rfl]
theorem SIs.below {w w' : World} {x : Option Addr} {n B : Nat} {f : Nat → ByteArray} (h : SIs w x n f) (b : Below B w w') (hB : w.heap.size ≤ B) : SIs w' x n f := fun i hi => by
  obtain ⟨a, ha, hc⟩ := h i hi
  refine ⟨a, ha, ?_⟩
  have hl := World.block_lt_of_cell? _ _ hc
  rw [b.cell (p := a.add i) (by omega)]
  exact hc

/-- The first k texts with sep between them. -/
def jnS (f : Nat → ByteArray) (sep : ByteArray) : Nat → ByteArray
  | 0 => ⟨#[]⟩
  | k + 1 => if k = 0 then f 0 else jnS f sep k ++ sep ++ f k
theorem jnS_one (f : Nat → ByteArray) (sep : ByteArray) : jnS f sep 1 = f 0 := rfl
theorem jnS_more (f : Nat → ByteArray) (sep : ByteArray) (k : Nat) : jnS f sep (k + 1 + 1) = jnS f sep (k + 1) ++ sep ++ f (k + 1) := if_neg (by omega)
theorem jnS_size (f : Nat → ByteArray) (sep : ByteArray) (hs : sep.size = 1) : ∀ k, (∀ i, i < k → (f i).size ≤ 1048576) → (jnS f sep k).size ≤ 1048577 * k
  | 0, _ => Nat.le_refl _
  | 1, h => by rw [jnS_one]; have := h 0 (by omega); omega
  | k + 1 + 1, h => by
    have h1 := jnS_size f sep hs (k + 1) (fun i hi => h i (by omega))
    have h2 := h (k + 1) (by omega)
    rw [jnS_more, app_size, app_size]
    omega
/-- The sum of the first k sizes. -/
def szS (f : Nat → ByteArray) : Nat → Nat
  | 0 => 0
  | k + 1 => szS f k + (f k).size
theorem szS_le (f : Nat → ByteArray) : ∀ k, (∀ i, i < k → (f i).size ≤ 1048576) → szS f k ≤ 1048576 * k
  | 0, _ => Nat.le_refl _
  | k + 1, h => by
    have h1 := szS_le f k (fun i hi => h i (by omega))
    have h2 := h k (by omega)
    rw [szS]
    omega

theorem add_one_add (a : Addr) (j : Nat) : (a.add 1).add j = a.add (j + 1) := by
  cases a with
  | mk b o q =>
    by_cases h : j = 0
    · subst h; cases q <;> simp [Addr.add]
    · cases q <;> simp [Addr.add, h] <;> omega

set_option maxRecDepth 100000 in
set_option maxHeartbeats 4000000 in
theorem join_any (x : Option Addr) (n c : Nat) (f : Nat → ByteArray) (sep : ByteArray) (w : World) (hS : SIs w x n f) (hc : n ≤ c) (hn : n ≤ 1048576) (hz : ∀ i, i < n → (f i).size ≤ 1048576) (hsep : sep.size = 1) :
    Calls Tryz.prog 94 #[.slice x n c, .string sep] w fun e w' => e = .returned (.string (jnS f sep n)) ∧ Below w.heap.size w w' := by
  have HS : Hid (SIs w x n f) := hS
  have HZ : Hid (∀ i, i < n → (f i).size ≤ 1048576) := hz
  clear hS hz
  by_cases h0 : n = 0
  · subst h0
    clear HZ
    go_enter Tryz.func94, Tryz.ntmps94
    go_wp2
    go_ret
    exact ⟨rfl, Below.refl _ _⟩
  by_cases h1 : n = 1
  · subst h1
    obtain ⟨a, rfl, c0⟩ := HS.out 0 (by omega)
    have ea : a.add 0 = a := by cases a with | mk b o q => cases q <;> simp [Addr.add]
    have c0' := c0
    rw [ea] at c0'
    clear HZ
    go_enter Tryz.func94, Tryz.ntmps94
    go_wp2
    try rw [Exit.noGoto_ret]
    go_ret
    exact ⟨rfl, Below.refl _ _⟩
  have h2 : 2 ≤ n := by omega
  obtain ⟨ad, rfl, ca0⟩ := HS.out 0 (by omega)
  have q1 : ((n : Int) == 0) = false := by rw [beq_eq_false_iff_ne]; omega
  have q2 : ((n : Int) == 1) = false := by rw [beq_eq_false_iff_ne]; omega
  have hq : ¬ (9223372036854775807 : Int) / ((n : Int) - 1) ≤ 1 := by
    have : 2 ≤ (9223372036854775807 : Int) / ((n : Int) - 1) := Int.le_ediv_of_mul_le (by omega) (by omega)
    omega
  have ea : ad.add 0 = ad := by cases ad with | mk b o q => cases q <;> simp [Addr.add]
  have HA0 : Hid (w.cell? ad = some (.string (f 0))) := by rw [ea] at ca0; exact ca0
  clear h0 h1 ca0 ea
  go_enter Tryz.func94, Tryz.ntmps94
  go_wp2
  -- @1
  go_loopw [5, 41] (fun v i wr => ∃ k : Nat, k ≤ n ∧ v = .int .i64 ((n : Int) - 1 + (szS f k : Nat)) ∧ i = .int .i64 k ∧ wr = w) (fun _ i _ => n - (intOf i).toNat)
  case atStart => exact ⟨0, Nat.zero_le _, by show _ = Value.int .i64 ((n : Int) - 1 + 0); go_num, rfl, rfl⟩
  case round =>
    obtain ⟨k, hk, rfl, rfl, rfl⟩ := hrel
    have hle := szS_le f k (fun i hi => HZ.out i (by omega))
    by_cases hlt : k < n
    · obtain ⟨a9, ha9, c9⟩ := HS.out k hlt
      obtain rfl : ad = a9 := by injection ha9
      have hz9 := HZ.out k hlt
      have e9 : Hid (szS f (k + 1) = szS f k + (f k).size) := rfl
      generalize szS f k = S at hle e9 ⊢
      generalize hF : f k = F at c9 hz9 e9
      go_wp2
      go_roundw
      case rel => exact ⟨k + 1, by omega, by rw [e9.out]; go_num, by go_num, trivial⟩
      case measure => simp [intOf]; omega
    · obtain rfl : k = n := by omega
      have N0 : (wr.alloc (.cells #[.pointer none, .slice none 0 0] 54)).heap[wr.heap.size]? = some (.cells #[.pointer none, .slice none 0 0] 54 (0, 0)) := heap_alloc_new wr _
      have B0 : Hid (Below wr.heap.size wr (wr.alloc (.cells #[.pointer none, .slice none 0 0] 54))) := (Below.refl _ _).alloc (Nat.le_refl _) _
      have CG := Tryz.Builder_Grow_fresh wr.heap.size wr.heap.size (k - 1 + szS f k) (wr.alloc (.cells #[.pointer none, .slice none 0 0] 54)) (Nat.le_refl _) N0 (by rw [World.size_alloc]; omega) (by omega)
      have eG : ((k - 1 + szS f k : Nat) : Int) = (k : Int) - 1 + (szS f k : Nat) := by omega
      rw [eG] at CG
      clear N0 eG
      go_wp2_with fail
      -- @2
      refine CG.mono ?_
      clear CG
      rintro e w1 ⟨rfl, D1, b1⟩
      obtain ⟨b, hb⟩ : ∃ b, wr.heap.size = b := ⟨_, rfl⟩
      have HD1 : Bd w1 b ⟨#[]⟩ := by rw [← hb]; exact Or.inr D1
      have HB1 : Hid (Below b wr w1) := by rw [← hb]; exact B0.out.trans b1
      rw [hb]
      have HWB : Hid (wr.heap.size = b) := hb
      clear D1 b1 B0 hb hle
      have hA1 : w1.cell? ad = some (.string (f 0)) := by rw [HB1.out.cell (by rw [← HWB.out]; exact World.block_lt_of_cell? _ _ HA0.out)]; exact HA0.out
      have hz0 := HZ.out 0 (by omega)
      have CW := ws_any b ⟨#[]⟩ (f 0) w1 HD1 (by show 0 + _ ≤ _; omega)
      rw [show (⟨#[]⟩ : ByteArray) ++ f 0 = jnS f sep 1 from by rw [jnS_one]; apply ByteArray.ext; simp] at CW
      have hc1 : 1 ≤ k := by omega
      go_wp2_with fail
      refine CW.mono ?_
      clear CW
      rintro e w2 ⟨rfl, D2, b2⟩
      have HD2 : Hid (Bd w2 b (jnS f sep 1)) := D2
      have HB2 : Hid (Below b wr w2) := HB1.out.trans b2
      clear D2 b2 HD1 HB1 hA1 hz0
      go_wp2
      -- @3
      obtain ⟨wo, hwo⟩ : ∃ wo, wo = wr := ⟨_, rfl⟩
      subst hwo
      go_loopw [65] (fun i wq => ∃ j : Nat, j + 1 ≤ k ∧ i = .int .i64 j ∧ Hid (Bd wq b (jnS f sep (j + 1))) ∧ Hid (Below b wo wq)) (fun i _ => k - (intOf i).toNat)
      case atStart => exact ⟨0, by omega, rfl, HD2, HB2⟩
      case round =>
        obtain ⟨j, hj, rfl, D, B⟩ := hrel
        clear HD2 HB2
        by_cases hlt : j + 1 < k
        · obtain ⟨a9, ha9, c9⟩ := HS.out.below B.out (Nat.le_of_eq HWB.out) (j + 1) hlt
          obtain rfl : ad = a9 := by injection ha9
          have e9 : (⟨ad.block, ad.off + 1 + j, none⟩ : Addr) = ad.add (j + 1) := by unfold Addr.add; rw [if_neg (by omega), Nat.add_assoc, Nat.add_comm 1 j]
          rw [← e9] at c9
          clear e9
          have hz9 := HZ.out (j + 1) hlt
          have hjs := jnS_size f sep hsep (j + 1) (fun i hi => HZ.out i (by omega))
          have hlt' : j < k - 1 := by omega
          have hltI : (j : Int) < (k : Int) - 1 := by omega
          have CW := fun W (d : Bd W b (jnS f sep (j + 1))) => ws_any b (jnS f sep (j + 1)) sep W d (by omega)
          have CV := fun W (d : Bd W b (jnS f sep (j + 1) ++ sep)) => ws_any b (jnS f sep (j + 1) ++ sep) (f (j + 1)) W d (by rw [app_size]; omega)
          simp only [← jnS_more] at CV
          generalize f (j + 1) = F at c9 CV
          go_wp2_with fail
          refine (CW _ D.out).mono ?_
          rintro e w3 ⟨rfl, d3, b3⟩
          have B3 : Hid (Below b wo w3) := B.out.trans b3
          clear CW D B b3
          go_wp2_with fail
          refine (CV _ d3).mono ?_
          rintro e w4 ⟨rfl, d4, b4⟩
          have D4 : Hid (Bd w4 b (jnS f sep (j + 1 + 1))) := d4
          have B4 : Hid (Below b wo w4) := B3.out.trans b4
          clear CV d3 d4 b4 B3
          go_wp2
          go_roundw
          case rel => exact ⟨j + 1, by omega, by go_num, D4, B4⟩
          case measure => simp [intOf]; omega
        · obtain rfl : k = j + 1 := by omega
          have hltI : ¬ (j : Int) < ((j + 1 : Nat) : Int) - 1 := by omega
          have CS := bstr_any b (jnS f sep (j + 1)) wr D.out
          go_wp2_with fail
          refine CS.mono ?_
          rintro e w5 ⟨rfl, b5⟩
          have B5 : Hid (Below b wo w5) := B.out.trans b5
          clear CS b5
          go_wp2
          go_ret
          exact ⟨rfl, by have := B5.out; rw [HWB.out]; exact this⟩
end Go.Proofs.YtdjjleahfciipaaGreatDoor
/- What tree's walk wants of strings.Join. -/
namespace Go.Proofs.YtdjjleahfciipaaGreatDoor
open Go.RowKit

theorem joinB_jnS (xs : List ByteArray) : ∀ k, k ≤ xs.length → joinB (xs.take k) = jnS (fun i => xs[i]?.getD ⟨#[]⟩) ⟨#[47]⟩ k := by
  intro k
  induction k with
  | zero => intro _; rw [List.take_zero]; rfl
  | succ k ih =>
    intro hk
    rw [List.take_succ_eq_append_getElem (by omega)]
    by_cases h0 : k = 0
    · subst h0
      show joinB ([] ++ [xs[0]]) = xs[0]?.getD ⟨#[]⟩
      rw [List.getElem?_eq_getElem (by omega)]
      rfl
    · obtain ⟨m, rfl⟩ : ∃ m, k = m + 1 := ⟨k - 1, by omega⟩
      rw [joinB_snoc _ _ (by intro e; have h9 := congrArg List.length e; rw [List.length_take, List.length_nil] at h9; omega), ih (by omega), jnS_more, List.getElem?_eq_getElem (show m + 1 < xs.length by omega)]
      rfl
theorem joinC : JoinC := fun x c xs w hx hc hl hz => by
  have hS : SIs w x xs.length (fun i => xs[i]?.getD ⟨#[]⟩) := fun i hi => by
    obtain ⟨g, o, rfl, _, h3⟩ := hx i hi
    refine ⟨⟨g, o, none⟩, rfl, ?_⟩
    rw [Addr.add_lit, h3]
    show _ = some (Value.string (xs[i]?.getD ⟨#[]⟩))
    rw [List.getElem?_eq_getElem hi]
    rfl
  have h := join_any x xs.length c _ ⟨#[47]⟩ w hS hc (by omega) (fun i hi => by rw [List.getElem?_eq_getElem hi]; exact hz _ (List.getElem_mem hi)) rfl
  rw [← joinB_jnS xs xs.length (Nat.le_refl _), List.take_length] at h
  exact h

end Go.Proofs.YtdjjleahfciipaaGreatDoor
/- The walk of a tree: node, walked. -/
namespace Go.Proofs.YtdjjleahfciipaaGreatDoor
open Go.RowKit

mutual
def smT : Tr → Prop
  | .mk _ _ t ns ks => t.size ≤ 1048576 ∧ smL ns ks
def smL : List ByteArray → List Tr → Prop
  | s :: ns, T :: ks => s.size ≤ 1048576 ∧ smT T ∧ smL ns ks
  | _, _ => True
end
theorem smL_at (ns : List ByteArray) : ∀ (ks : List Tr) (i : Nat) (s : ByteArray) (T : Tr), smL ns ks → ns[i]? = some s → ks[i]? = some T → s.size ≤ 1048576 ∧ smT T := by
  induction ns with
  | nil => intro ks i s T _ h; simp at h
  | cons a ns ih =>
    intro ks i s T h0 h1 h2
    cases ks with
    | nil => simp at h2
    | cons K ks =>
      rw [smL] at h0
      cases i with
      | zero =>
        simp at h1 h2
        subst h1 h2
        exact ⟨h0.1, h0.2.1⟩
      | succ i => exact ih ks i s T h0.2.2 (by simpa using h1) (by simpa using h2)
theorem drop_at {α : Type} {l : List α} {i : Nat} {a : α} (h : l[i]? = some a) : l.drop i = a :: l.drop (i + 1) := by
  obtain ⟨hi, rfl⟩ := List.getElem?_eq_some_iff.1 h
  exact List.drop_eq_getElem_cons hi
theorem vL_at (ns : List ByteArray) (b : Int) (prev : Option ByteArray) (nms : List ByteArray) (ks : List Tr) (i : Nat) (s : ByteArray) (T : Tr) (hs : nms[i]? = some s) (hT : ks[i]? = some T) :
    vL ns b prev (nms.drop i) (ks.drop i) = if entO prev s b ≠ 0 then ⟨b, some (joinB (ns ++ [s]), entO prev s b)⟩
    else match (vT (ns ++ [s]) (b + ebP s) T).off with
      | none => vL ns (vT (ns ++ [s]) (b + ebP s) T).bytes (some s) (nms.drop (i + 1)) (ks.drop (i + 1))
      | some o => ⟨(vT (ns ++ [s]) (b + ebP s) T).bytes, some o⟩ := by
  rw [drop_at hs, drop_at hT, vL]
  rfl
theorem vL_end (ns : List ByteArray) (b : Int) (prev : Option ByteArray) (ks : List Tr) : vL ns b prev [] ks = ⟨b, none⟩ := by rw [vL]; simp
mutual
theorem vT_bd (ns : List ByteArray) (b : Int) : ∀ T : Tr, (vT ns b T).off = none → 0 ≤ b → b ≤ 1048576 → 0 ≤ (vT ns b T).bytes ∧ (vT ns b T).bytes ≤ 1048576
  | .mk k e t nms ks => fun h h0 h1 => by
    have hn := nbP_bd k e t
    rw [vT] at h ⊢
    split at h
    · cases h
    · rename_i h1
      rw [if_neg h1]
      split at h
      · cases h
      · rename_i h2
        rw [if_neg h2]
        split at h
        · cases h
        · rename_i h3
          rw [if_neg h3]
          exact vL_bd ns (b + nbP k e t) none nms ks h (by omega) (by omega)
theorem vL_bd (ns : List ByteArray) (b : Int) (prev : Option ByteArray) : ∀ (nms : List ByteArray) (ks : List Tr), (vL ns b prev nms ks).off = none → 0 ≤ b → b ≤ 1048576 → 0 ≤ (vL ns b prev nms ks).bytes ∧ (vL ns b prev nms ks).bytes ≤ 1048576
  | s :: nms, T :: ks => fun h h0 h1 => by
    rw [vL] at h ⊢
    split at h
    · cases h
    · rename_i h2
      rw [if_neg h2]
      have he := entO_ok prev s b (by omega)
      have hb := ebP_bd s
      cases hv : (vT (ns ++ [s]) (b + ebP s) T).off with
      | some o => rw [hv] at h; cases h
      | none =>
        rw [hv] at h
        have e1 := vT_bd (ns ++ [s]) (b + ebP s) T hv (by omega) (by omega)
        exact vL_bd ns (vT (ns ++ [s]) (b + ebP s) T).bytes (some s) nms ks h e1.1 e1.2
  | [], _ => fun _ h0 h1 => by rw [vL] <;> simp <;> omega
  | _ :: _, [] => fun _ h0 h1 => by rw [vL] <;> simp <;> omega
end

/-- Block K holds a node. -/
def NB (w : World) (K : Nat) (k : Int) (e : Bool) (t : ByteArray) (x : Option Addr) (n c : Nat) : Prop := w.heap[K]? = some (.cells #[.int .i64 k, .bool e, .string t, .slice x n c] 25 (0, 0))
theorem NB.new (w : World) (k : Int) (e : Bool) (t : ByteArray) (x : Option Addr) (n c : Nat) : NB (w.alloc (.cells #[.int .i64 k, .bool e, .string t, .slice x n c] 25)) w.heap.size k e t x n c := Array.getElem?_push_size
theorem NB.fr {g : Nat} {w w' : World} {K : Nat} {k : Int} {e : Bool} {t : ByteArray} {x : Option Addr} {n c : Nat} (h : NB w K k e t x n c) (F : Fr g w w') (hK : K ≠ g) : NB w' K k e t x n c := (F.mid K _ _ _ h (by decide) hK).trans h
theorem NB.c0 {w : World} {K : Nat} {k : Int} {e : Bool} {t : ByteArray} {x : Option Addr} {n c : Nat} (h : NB w K k e t x n c) : w.cell? ⟨K, 0, none⟩ = some (.int .i64 k) := by rw [Lib.cell_of_heap h]; rfl
theorem NB.c1 {w : World} {K : Nat} {k : Int} {e : Bool} {t : ByteArray} {x : Option Addr} {n c : Nat} (h : NB w K k e t x n c) : w.cell? ⟨K, 1, none⟩ = some (.bool e) := by rw [Lib.cell_of_heap h]; rfl
theorem NB.c2 {w : World} {K : Nat} {k : Int} {e : Bool} {t : ByteArray} {x : Option Addr} {n c : Nat} (h : NB w K k e t x n c) : w.cell? ⟨K, 2, none⟩ = some (.string t) := by rw [Lib.cell_of_heap h]; rfl
theorem NB.c3 {w : World} {K : Nat} {k : Int} {e : Bool} {t : ByteArray} {x : Option Addr} {n c : Nat} (h : NB w K k e t x n c) : w.cell? ⟨K, 3, none⟩ = some (.slice x n c) := by rw [Lib.cell_of_heap h]; rfl

/-- What node leaves. -/
def NdR (r : VR) (g : Nat) (ns : List ByteArray) (w : World) (e : Ending) (w' : World) : Prop := match r.off with
  | none => e = .returned (.tuple #[]) ∧ (∃ v', Wo w' g v' ns r.bytes) ∧ Fr g w w'
  | some o => e = .panicked [{ v := offV o.1 o.2, recovered := false }] ∧ Below g w w'
theorem NdR.bad {r : VR} {g : Nat} {ns : List ByteArray} {w w' : World} {p : ByteArray} {code : Int} (h : r.off = some (p, code)) (hb : Below g w w') : NdR r g ns w (.panicked [{ v := offV p code, recovered := false }]) w' := by unfold NdR; rw [h]; exact ⟨rfl, hb⟩
theorem NdR.fine {r : VR} {g : Nat} {ns : List ByteArray} {w w' : World} {v : Value} (h : r.off = none) (hw : Wo w' g v ns r.bytes) (hf : Fr g w w') : NdR r g ns w (.returned (.tuple #[])) w' := by unfold NdR; rw [h]; exact ⟨rfl, ⟨v, hw⟩, hf⟩
def NdAt (f : Nat) : Prop := ∀ (u : Value) (T : Tr) (g : Nat) (v : Value) (ns : List ByteArray) (b : Int) (w0 w : World), At w0 f u T → smT T → Below w0.heap.size w0 w → w0.heap.size ≤ g → Wo w g v ns b → ns.length ≤ 32 → (∀ s ∈ ns, s.size ≤ 1048576) → 0 ≤ b → b ≤ 1048576 →
  Calls Tryz.prog 43 #[.pointer (some ⟨g, 0, none⟩), u] w fun e w' => NdR (vT ns b T) g ns w e w'

/-- entry, where it gives up. -/
theorem entry_bad (g : Nat) (x : Option Addr) (c : Nat) (ns : List ByteArray) (b : Int) (q o m cy : Nat) (s' s : ByteArray) (w : World) (W : Wk w g x c ns b) (hx : ∀ q o, x = some ⟨q, o, none⟩ → q ≠ g) (hm : 1 ≤ m) (hm2 : m ≤ 1954687338211) (hq : q < w.heap.size) (hb0 : 0 ≤ b) (hb1 : b ≤ 1048576)
    (hs : w.cell? ⟨q, o + (m - 1) * 5, none⟩ = some (.string s)) (hp : 1 < m → w.cell? ⟨q, o + (m - 2) * 5, none⟩ = some (.string s')) (hsz : s.size ≤ 1048576) (hl : ns.length ≤ 64) (hj : ∀ s ∈ ns, s.size ≤ 1048576) (hc : entC m s' s b ≠ 0) :
    Calls Tryz.prog 71 #[.pointer (some ⟨g, 0, none⟩), .slice (some ⟨q, o, none⟩) m cy] w fun e w' => e = .panicked [{ v := offV (joinB ns) (entC m s' s b), recovered := false }] ∧ Below (min g w.heap.size) w w' := by
  unfold entC at hc ⊢
  by_cases h1 : chk s ≠ 0
  · rw [if_pos h1]
    exact (entry_name joinC g x c ns b q o m cy s w W hm hm2 hs hl hj h1).mono fun e w' h => ⟨h.1, h.2.mono (Nat.min_le_right _ _)⟩
  · rw [if_neg h1] at hc ⊢
    have h1' : chk s = 0 := by omega
    by_cases h2 : 1 < m ∧ 0 ≤ cmpB s' s
    · rw [if_pos h2]
      exact (entry_order joinC g x c ns b q o m cy s' s w W hm hm2 hq hs hp hl hj h1' h2).mono fun e w' h => ⟨h.1, h.2.mono (Nat.min_le_right _ _)⟩
    · rw [if_neg h2] at hc ⊢
      by_cases h3 : 1048576 < b + ebP s
      · rw [if_pos h3]
        exact entry_big joinC g x c ns b q o m cy s' s w W hx hm hm2 hq hb0 hb1 hs hp (by omega) hl hj h1' h2 h3
      · rw [if_neg h3] at hc; exact absurd rfl hc
theorem entC_ok {m : Nat} {s' s : ByteArray} {b : Int} (h : entC m s' s b = 0) : chk s = 0 ∧ ¬ (1 < m ∧ 0 ≤ cmpB s' s) ∧ b + ebP s ≤ 1048576 := by
  unfold entC at h
  split at h
  · rename_i h1; exact absurd h h1
  · rename_i h1
    split at h
    · cases h
    · rename_i h2
      split at h
      · cases h
      · rename_i h3
        exact ⟨by omega, h2, by omega⟩

end Go.Proofs.YtdjjleahfciipaaGreatDoor
