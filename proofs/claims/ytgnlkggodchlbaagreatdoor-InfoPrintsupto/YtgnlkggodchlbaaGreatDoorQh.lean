/- Gathered: ShB InG InH. -/
import Derived.Test.YtgnlkggodchlbaaGreatDoorRows
import Derived.Shelf.Strings.Builder1
import Derived.Shelf.Strconv.Itoa3
import Derived.Shelf.LaysM
import Derived.Lib.AppendStr
import Derived.Test.YtgnlkggodchlbaaGreatDoorQg
/- Contracts of the library, laid at this program. -/
namespace Go.Proofs.YtgnlkggodchlbaaGreatDoor
open Go.Shelf Go.RowKit
def Tryz.lays169_ren : Go.Shelf.Ren := ⟨fun | 169 => 17 | n => n, fun | 70 => 42 | 9 => 9 | 0 => 0 | 72 => 45 | 37 => 43 | 127 => 68 | 3 => 3 | 5 => 5 | n => n, fun | n => n⟩
theorem Tryz.lays169 : Go.Proofs.Lays.n169 Tryz.prog Tryz.lays169_ren := {
  mixed := by kernel_rfl
  f169 := Tryz.func17.trans (congrArg some (by kernel_rfl))
  t0 := Tryz.underlying0
  a0 := Tryz.isAgg0
  z0 := Tryz.sizeOf0
  v0 := Tryz.zeroValue0
  t3 := Tryz.underlying3
  a3 := Tryz.isAgg3
  z3 := Tryz.sizeOf3
  v3 := Tryz.zeroValue3
  t9 := Tryz.underlying9
  a9 := Tryz.isAgg9
  z9 := Tryz.sizeOf9
  v9 := Tryz.zeroValue9
  t37 := Tryz.underlying43
  a37 := Tryz.isAgg43
  z37 := Tryz.sizeOf43
  v37 := Tryz.zeroValue43
  t70 := Tryz.underlying42
  a70 := Tryz.isAgg42
  z70 := Tryz.sizeOf42
  v70 := Tryz.zeroValue42
  t72 := Tryz.underlying45
  a72 := Tryz.isAgg45
  z72 := Tryz.sizeOf45
  v72 := Tryz.zeroValue45
  t127 := Tryz.underlying68
  a127 := Tryz.isAgg68
  z127 := Tryz.sizeOf68
  v127 := Tryz.zeroValue68 }
theorem Tryz.Builder_Extra_169 : Builder.Extra Tryz.prog Tryz.lays169_ren := {
  sizeBuilder := by kernel_rfl
  liesBuilder := by kernel_rfl
  t5 := Tryz.underlying5
  a5 := Tryz.isAgg5
  z5 := Tryz.sizeOf5
  v5 := Tryz.zeroValue5
  infoByte := by kernel_rfl
  cellsByte := by kernel_rfl
  sizeByte := by kernel_rfl
  neB5 := by decide }
open Go.RowKit in
theorem Tryz.Builder_String (B b : Nat) (l : List UInt8) (w : World) (h : Lib.IsBuilder 45 5 B b (Lib.byteCells l) w) (h0 : l ≠ []) :
    Calls Tryz.prog 17 #[.pointer (some ⟨b, 0, none⟩)] w fun e w' => e = .returned (.string ⟨l.toArray⟩) ∧ Below B w w' := Any.Builder_String Tryz.lays169 Tryz.Builder_Extra_169 B b l w h h0
open Go.RowKit in
theorem Tryz.Builder_String_empty (B b : Nat) (w : World) (h : Lib.IsBuilder 45 5 B b [] w) (hBw : B ≤ w.heap.size) :
    Calls Tryz.prog 17 #[.pointer (some ⟨b, 0, none⟩)] w fun e w' => e = .returned (.string ⟨#[]⟩) ∧ Below B w w' := Any.Builder_String_empty Tryz.lays169 Tryz.Builder_Extra_169 B b w h hBw
open Go.RowKit in
theorem Tryz.Builder_String_any (B b : Nat) (l : List UInt8) (w : World) (h : Lib.IsBuilder 45 5 B b (Lib.byteCells l) w) (hBw : B ≤ w.heap.size) :
    Calls Tryz.prog 17 #[.pointer (some ⟨b, 0, none⟩)] w fun e w' => e = .returned (.string ⟨l.toArray⟩) ∧ Below B w w' := Any.Builder_String_any Tryz.lays169 Tryz.Builder_Extra_169 B b l w h hBw
def Tryz.laysM171_ren : Go.Shelf.Ren := ⟨fun | 171 => 15 | 243 => 31 | 246 => 50 | 283 => 65 | 284 => 66 | 285 => 67 | 286 => 68 | 129 => 83 | 317 => 82 | 318 => 84 | 319 => 85 | 320 => 86 | 337 => 96 | 338 => 97 | n => n, fun | 3 => 3 | 9 => 9 | 2 => 2 | 4 => 4 | 171 => 104 | 0 => 0 | 53 => 105 | 37 => 43 | 5 => 5 | 173 => 108 | 212 => 118 | 51 => 119 | 20 => 20 | 213 => 120 | 46 => 91 | 232 => 22 | 233 => 132 | n => n, fun | 17 => 1 | 18 => 2 | 19 => 3 | n => n⟩
theorem Tryz.laysM171 : Go.Proofs.LaysM.n171 Tryz.prog Tryz.laysM171_ren := {
  mixed := by kernel_rfl
  f129 := Tryz.func83.trans (congrArg some (by kernel_rfl))
  f171 := Tryz.func15.trans (congrArg some (by kernel_rfl))
  f243 := Tryz.func31.trans (congrArg some (by kernel_rfl))
  f246 := Tryz.func50.trans (congrArg some (by kernel_rfl))
  f283 := Tryz.func65.trans (congrArg some (by kernel_rfl))
  f284 := Tryz.func66.trans (congrArg some (by kernel_rfl))
  f285 := Tryz.func67.trans (congrArg some (by kernel_rfl))
  f286 := Tryz.func68.trans (congrArg some (by kernel_rfl))
  f317 := Tryz.func82.trans (congrArg some (by kernel_rfl))
  f318 := Tryz.func84.trans (congrArg some (by kernel_rfl))
  f319 := Tryz.func85.trans (congrArg some (by kernel_rfl))
  f320 := Tryz.func86.trans (congrArg some (by kernel_rfl))
  f337 := Tryz.func96.trans (congrArg some (by kernel_rfl))
  f338 := Tryz.func97.trans (congrArg some (by kernel_rfl))
  t0 := Tryz.underlying0
  a0 := Tryz.isAgg0
  z0 := Tryz.sizeOf0
  v0 := Tryz.zeroValue0
  t2 := Tryz.underlying2
  a2 := Tryz.isAgg2
  z2 := Tryz.sizeOf2
  v2 := Tryz.zeroValue2
  t3 := Tryz.underlying3
  a3 := Tryz.isAgg3
  z3 := Tryz.sizeOf3
  v3 := Tryz.zeroValue3
  t4 := Tryz.underlying4
  a4 := Tryz.isAgg4
  z4 := Tryz.sizeOf4
  v4 := Tryz.zeroValue4
  t5 := Tryz.underlying5
  a5 := Tryz.isAgg5
  z5 := Tryz.sizeOf5
  v5 := Tryz.zeroValue5
  t9 := Tryz.underlying9
  a9 := Tryz.isAgg9
  z9 := Tryz.sizeOf9
  v9 := Tryz.zeroValue9
  t20 := Tryz.underlying20
  a20 := Tryz.isAgg20
  z20 := Tryz.sizeOf20
  v20 := Tryz.zeroValue20
  t37 := Tryz.underlying43
  a37 := Tryz.isAgg43
  z37 := Tryz.sizeOf43
  v37 := Tryz.zeroValue43
  t46 := Tryz.underlying91
  a46 := Tryz.isAgg91
  z46 := Tryz.sizeOf91
  v46 := Tryz.zeroValue91
  t51 := Tryz.underlying119
  a51 := Tryz.isAgg119
  z51 := Tryz.sizeOf119
  v51 := Tryz.zeroValue119
  t53 := Tryz.underlying105
  a53 := Tryz.isAgg105
  z53 := Tryz.sizeOf105
  v53 := Tryz.zeroValue105
  t171 := Tryz.underlying104
  a171 := Tryz.isAgg104
  z171 := Tryz.sizeOf104
  v171 := Tryz.zeroValue104
  t173 := Tryz.underlying108
  a173 := Tryz.isAgg108
  z173 := Tryz.sizeOf108
  v173 := Tryz.zeroValue108
  t212 := Tryz.underlying118
  a212 := Tryz.isAgg118
  z212 := Tryz.sizeOf118
  v212 := Tryz.zeroValue118
  t213 := Tryz.underlying120
  a213 := Tryz.isAgg120
  z213 := Tryz.sizeOf120
  t232 := Tryz.underlying22
  a232 := Tryz.isAgg22
  z232 := Tryz.sizeOf22
  v232 := Tryz.zeroValue22
  t233 := Tryz.underlying132
  a233 := Tryz.isAgg132
  z233 := Tryz.sizeOf132
  v233 := Tryz.zeroValue132
  g17 := by kernel_rfl
  g18 := by kernel_rfl
  g19 := by kernel_rfl
  i0 := by kernel_rfl
  i2 := by kernel_rfl
  i3 := by kernel_rfl
  i4 := by kernel_rfl
  i5 := by kernel_rfl
  i9 := by kernel_rfl
  i20 := by kernel_rfl
  i37 := by kernel_rfl
  i46 := by kernel_rfl
  i51 := by kernel_rfl
  i53 := by kernel_rfl
  i171 := by kernel_rfl
  i173 := by kernel_rfl
  i212 := by kernel_rfl
  i232 := by kernel_rfl
  i233 := by kernel_rfl
  m17 := by kernel_rfl
  m18 := by kernel_rfl
  m19 := by kernel_rfl }
open Go.RowKit Go.Sort Go.Lib in
theorem Tryz.strconv_Itoa (n : Int) (h0 : -9223372036854775808 ≤ n) (h1 : n ≤ 9223372036854775807) (w : World) (htab : Lib.TabIs Tryz.prog w "internal/strconv.uint64pow10" .u64 Lib.pow10Tab) :
    Calls Tryz.prog 15 #[.int .i64 n] w fun e w' => e = .returned (.string ⟨(Lib.itoa n).toArray⟩) ∧ ∃ k os, w' = grow (w.drewN k) os := Any.strconv_Itoa Tryz.laysM171 n h0 h1 w htab
end Go.Proofs.YtgnlkggodchlbaaGreatDoor
/- strings.Builder: WriteString, String; what a line writes (info.Print's closure); walked. -/
namespace Go.Proofs.YtgnlkggodchlbaaGreatDoor
open Go.RowKit Go.Shelf

theorem szSBL : (Tryz.prog.info? 45).map (·.size) = some 2 := by kernel_rfl
theorem liesSBL : liesAt Tryz.prog Tryz.prog.depth 45 (2 / Tryz.prog.cellsOf 45) 0 45 1 = true := by kernel_rfl
theorem und42 : Tryz.prog.underlying 42 = some (.pointer 45) := by kernel_rfl
theorem und113 : Tryz.prog.underlying 89 = some .unsafePointer := by kernel_rfl

set_option maxHeartbeats 1000000 in
set_option maxRecDepth 100000 in
theorem cpC_used (b : Nat) (w : World) (h0 : w.cell? ⟨b, 0, none⟩ = some (.pointer (some ⟨b, 0, none⟩))) :
    Calls Tryz.prog 28 #[.pointer (some ⟨b, 0, none⟩)] w fun e w' => e = .returned (.tuple #[]) ∧ w' = w := by
  obtain ⟨j, hj, _⟩ := Option.map_eq_some_iff.1 szSBL
  go_enter Tryz.func28, Tryz.ntmps28
  go_wp2
  rw [Lib.run_neq_ptr_same w _ und42 hj]
  go_wp2
  go_end0
  exact ⟨rfl, rfl⟩

set_option maxHeartbeats 1000000 in
set_option maxRecDepth 100000 in
theorem cpC_fresh (b : Nat) (w : World) (h0 : w.cell? ⟨b, 0, none⟩ = some (.pointer none)) (hsh : w.shape? b = some (45, 2)) (hfz : w.frozen? ⟨b, 0, none⟩ = false) :
    Calls Tryz.prog 28 #[.pointer (some ⟨b, 0, none⟩)] w fun e w' => e = .returned (.tuple #[]) ∧ w' = w.setCell ⟨b, 0, none⟩ (.pointer (some ⟨b, 0, none⟩)) := by
  obtain ⟨j, hj, hjs⟩ := Option.map_eq_some_iff.1 szSBL
  go_enter Tryz.func28, Tryz.ntmps28
  go_wp2
  rw [Lib.run_to_unsafe w ⟨b, 0, none⟩ und42 und113 hj (by rw [hjs]; decide) hsh (Nat.zero_lt_succ 1)]
  simp only [Result.andThen]
  rw [Oper.upon_value]
  go_wp2
  rw [run_callFunc_extern Tryz.func49 (by kernel_rfl) (by kernel_rfl) (by kernel_rfl) (e := Extern.AbiNoEscape.same) (by kernel_rfl)]
  rw [Lib.run_noEscape]
  simp only [Result.andThen]
  rw [Oper.upon_value]
  go_wp2
  rw [Lib.run_from_unsafe w ⟨b, 0, none⟩ und113 und42 hj hsh liesSBL]
  simp only [Result.andThen]
  rw [Oper.upon_value]
  go_wp2
  go_end0
  exact ⟨rfl, rfl⟩

/-- Block b is a builder that holds the text t. -/
def Bd (w : World) (b : Nat) (t : ByteArray) : Prop := Lib.IsBuilder 45 5 b b (Lib.strCells t) w
theorem Bd.lt {w : World} {b : Nat} {t : ByteArray} (h : Bd w b t) : b < w.heap.size := by rcases h with h | h; exact h.lt; exact h.lt
theorem Bd.new (w : World) : Bd (w.alloc (.cells #[.pointer none, .slice none 0 0] 45)) w.heap.size ⟨#[]⟩ := Lib.fresh_isBuilder 45 5 w
theorem at_below {w w' : World} {B b C : Nat} {p : Value} {bs : List Value} (h : Lib.BuilderAt 45 5 B b p bs w) (g : Below C w w') (hC : w.heap.size ≤ C) : Lib.BuilderAt 45 5 B b p bs w' := by
  have hl := h.lt
  obtain ⟨hB, v, hb, hown, hne⟩ := h
  refine ⟨hB, v, (g.block b (by omega)).trans hb, ?_, hne⟩
  obtain ⟨q, hh | ⟨gg, cap, cur, hv, hbb, hg, hr⟩⟩ := hown
  · exact ⟨q, .inl hh⟩
  · exact ⟨q, .inr ⟨gg, cap, cur, hv, hbb, (g.block gg (by have := (Array.getElem?_eq_some_iff.1 hg).1; omega)).trans hg, hr⟩⟩
theorem Bd.below {w w' : World} {b C : Nat} {t : ByteArray} (h : Bd w b t) (g : Below C w w') (hC : w.heap.size ≤ C) : Bd w' b t := by
  rcases h with h | h
  · exact Or.inl (at_below h g hC)
  · exact Or.inr (at_below h g hC)

theorem cpC_any (b : Nat) (t : ByteArray) (w : World) (h : Bd w b t) :
    Calls Tryz.prog 28 #[.pointer (some ⟨b, 0, none⟩)] w fun e w' => e = .returned (.tuple #[]) ∧ Lib.BuilderAt 45 5 b b (.pointer (some ⟨b, 0, none⟩)) (Lib.strCells t) w' ∧ Below b w w' := by
  rcases h with h | h
  · refine (cpC_fresh b w h.cell0 h.shape h.frozen0).mono ?_
    rintro e w' ⟨rfl, rfl⟩
    exact ⟨rfl, h.used _, (Below.refl b w).setCell (p := ⟨b, 0, none⟩) h.1 _⟩
  · refine (cpC_used b w h.cell0).mono ?_
    rintro e w' ⟨rfl, rfl⟩
    exact ⟨rfl, h, Below.refl b _⟩

theorem strCells_app (a b : ByteArray) : Lib.strCells a ++ Lib.strCells b = Lib.strCells (a ++ b) := by
  unfold Lib.strCells
  simp

set_option maxHeartbeats 1000000 in
set_option maxRecDepth 100000 in
theorem ws_any (b : Nat) (t s : ByteArray) (w : World) (h : Bd w b t) (hlen : t.size + s.size ≤ 140737488355328) :
    Calls Tryz.prog 13 #[.pointer (some ⟨b, 0, none⟩), .string s] w fun e w' => e = .returned (.tuple #[.int .i64 s.size, .nilIface]) ∧ Bd w' b (t ++ s) ∧ Below b w w' := by
  obtain ⟨i0, hi, hz0, hz1, hz2⟩ := info_parts Tryz.hinfo5
  have hbw := h.lt
  go_enter Tryz.func13, Tryz.ntmps13
  go_wp2_with fail
  refine (cpC_any b t w h).mono ?_
  rintro e w1 ⟨rfl, ⟨hB, v, hbk, hown, hne⟩, hb1⟩
  have c0 : w1.cell? ⟨b, 0, none⟩ = some (.pointer (some ⟨b, 0, none⟩)) := by rw [Lib.cell_of_heap hbk]; rfl
  have c1 : w1.cell? ⟨b, 1, none⟩ = some v := by rw [Lib.cell_of_heap hbk]; rfl
  have hl : (Lib.strCells t).length = t.size := Lib.strCells_length t
  go_wp2_with (at_builtin; refine Lib.wpList_append_own_string _ rfl _ _ 43 9 rfl b 5 i0 Tryz.underlying43 Tryz.underlying9 hi hz0 hz1 hz2 _ _ _ rfl hown s rfl ?c3 ?c4 ?c5 ?_)
  case c3 => unfold maxLen; rw [hl]; omega
  case c4 => rw [hl]; omega
  case c5 => have := hb1.size; omega
  intro v' w2 hown' hgrow _
  have hlt : b < w1.heap.size := by have := hb1.size; omega
  have hb2 : w2.heap[b]? = some (.cells #[.pointer (some ⟨b, 0, none⟩), v] 45 (0, 0)) := by
    rw [hgrow.block b hlt (fun e => hne e.symm)]
    exact hbk
  have d0 : w2.cell? ⟨b, 0, none⟩ = some (.pointer (some ⟨b, 0, none⟩)) := by rw [Lib.cell_of_heap hb2]; rfl
  have d1 : w2.cell? ⟨b, 1, none⟩ = some v := by rw [Lib.cell_of_heap hb2]; rfl
  have f1 : w2.frozen? ⟨b, 1, none⟩ = false := Lib.frozen_of_heap hb2 1
  obtain ⟨ao, n', cap, rfl⟩ : ∃ ao n' cap, v' = .slice ao n' cap := by
    rcases hown'.2 with ⟨hv, _⟩ | ⟨g, cap, cur, hv, _⟩
    · exact ⟨_, _, _, hv⟩
    · exact ⟨_, _, _, hv⟩
  have R1 : Hid (Bd (w2.setCell ⟨b, 1, none⟩ (.slice ao n' cap)) b (t ++ s)) := Or.inr (by
    rw [← strCells_app]
    exact Lib.BuilderAt.put (T := 45) (e := 5) hB hb2 (bs' := Lib.strCells t ++ Lib.strCells s) (by simpa [Lib.strCells_length] using hown') (by decide))
  have B1 : Hid (Below b w (w2.setCell ⟨b, 1, none⟩ (.slice ao n' cap))) := (hb1.grown hgrow (by have := hb1.size; omega) (fun k hk => (hown.lt k hk).1)).setCell (p := ⟨b, 1, none⟩) hB _
  clear hown hown' hgrow hbk hb1 hl hne
  go_wp2
  go_ret2
  exact ⟨rfl, R1.out, B1.out⟩

theorem bstr_any (b : Nat) (t : ByteArray) (w : World) (h : Bd w b t) :
    Calls Tryz.prog 17 #[.pointer (some ⟨b, 0, none⟩)] w fun e w' => e = .returned (.string t) ∧ Below b w w' := by
  have hl := h.lt
  exact Tryz.Builder_String_any b b t.data.toList w h (by omega)

end Go.Proofs.YtgnlkggodchlbaaGreatDoor
/- A line of info.Print; info.bases; walked. -/
namespace Go.Proofs.YtgnlkggodchlbaaGreatDoor
open Go.RowKit Go.Shelf

def nl : ByteArray := ⟨#[10]⟩
theorem app_size (a b : ByteArray) : (a ++ b).size = a.size + b.size := ByteArray.size_append

set_option maxHeartbeats 1000000 in
set_option maxRecDepth 100000 in
theorem line_any (b : Nat) (t h r : ByteArray) (w : World) (hb : Bd w b t) (hlen : t.size + h.size + r.size + 1 ≤ 140737488355328) :
    Calls Tryz.prog 12 #[.string h, .string r, .pointer (some ⟨b, 0, none⟩)] w fun e w' => (∃ v, e = .returned v) ∧ Bd w' b (t ++ h ++ r ++ nl) ∧ Below b w w' := by
  have C1 := ws_any b t h w hb (by omega)
  go_enter Tryz.func12, Tryz.ntmps12
  rw [show (⟨#[10]⟩ : ByteArray) = nl from rfl]
  go_wp2_with fail
  refine C1.mono ?_
  rintro e w1 ⟨rfl, h1, b1⟩
  go_wp2_with fail
  refine (ws_any b (t ++ h) r w1 h1 (by rw [app_size]; omega)).mono ?_
  rintro e w2 ⟨rfl, h2, b2⟩
  go_wp2_with fail
  refine (ws_any b (t ++ h ++ r) nl w2 h2 (by rw [app_size, app_size]; show _ + 1 ≤ _; omega)).mono ?_
  rintro e w3 ⟨rfl, h3, b3⟩
  have B3 : Hid (Below b w w3) := (b1.trans b2).trans b3
  clear b1 b2 b3 h1 h2 C1
  go_wp2
  go_end0
  exact ⟨⟨_, rfl⟩, h3, B3.out⟩

/-- The bases, each with a blank ahead. -/
def bsS (f : Nat → ByteArray) : Nat → ByteArray
  | 0 => ⟨#[]⟩
  | n + 1 => bsS f n ++ ((⟨#[32]⟩ : ByteArray) ++ (f n).extract 13 (f n).size)
theorem prC_max {p : ByteArray} (h : prC p = 0) : p.size ≤ 257 := by
  unfold prC at h
  split at h
  · split at h
    · rcases lab_cases (pLab p) with ⟨g, _⟩ | ⟨_, g⟩
      · have := g.2.1
        unfold pLab at this
        rw [ByteArray.size_extract] at this
        omega
      · rw [g] at h; exact absurd h (by decide)
    · exact absurd h (by decide)
  · exact absurd h (by decide)
theorem bsS_size (f : Nat → ByteArray) (n : Nat) (h : ∀ i, i < n → (f i).size ≤ 257) : (bsS f n).size ≤ 258 * n := by
  induction n with
  | zero => exact Nat.zero_le _
  | succ n ih =>
    have h1 := ih (fun i hi => h i (by omega))
    have h2 := h n (by omega)
    show (bsS f n ++ ((⟨#[32]⟩ : ByteArray) ++ (f n).extract 13 (f n).size)).size ≤ _
    rw [app_size, app_size, ByteArray.size_extract]
    show _ + (1 + _) ≤ _
    omega

set_option maxHeartbeats 1000000 in
set_option maxRecDepth 100000 in
theorem bases_any (x : Option Addr) (n c : Nat) (f : Nat → ByteArray) (w : World) (hS : SIs w x n f) (hn : n ≤ 1024) (hp : ∀ i, i < n → prC (f i) = 0) :
    Calls Tryz.prog 16 #[.slice x n c] w fun e w' => e = .returned (.string (bsS f n)) ∧ Below w.heap.size w w' := by
  have HS : Hid (SIs w x n f) := hS
  have HP : Hid (∀ i, i < n → prC (f i) = 0) := hp
  clear hS hp
  have N0 : Hid (Bd (w.alloc (.cells #[.pointer none, .slice none 0 0] 45)) w.heap.size ⟨#[]⟩) := Bd.new w
  have B0 : Hid (Below w.heap.size w (w.alloc (.cells #[.pointer none, .slice none 0 0] 45))) := (Below.refl _ _).alloc (Nat.le_refl _) _
  go_enter Tryz.func16, Tryz.ntmps16
  go_wp2
  generalize w.alloc (.cells #[.pointer none, .slice none 0 0] 45) = w0 at N0 B0 ⊢
  go_loopw [10] (fun i wr => ∃ k : Nat, k ≤ n ∧ i = .int .i64 k ∧ Hid (Bd wr w.heap.size (bsS f k)) ∧ Hid (Below w.heap.size w wr)) (fun i _ => n - (intOf i).toNat)
  case atStart => exact ⟨0, Nat.zero_le _, rfl, N0, B0⟩
  case round =>
    clear N0 B0
    obtain ⟨k, hk, rfl, D, B⟩ := hrel
    by_cases hlt : k < n
    · obtain ⟨a, rfl, c0⟩ := HS.out.below B.out (Nat.le_refl _) k hlt
      have hpk := HP.out k hlt
      have hsz := prC_max hpk
      have CB := base_any (f k) wr
      rw [hpk, iffy_yes rfl] at CB
      have hbs := bsS_size f k (fun i hi => prC_max (HP.out i (by omega)))
      have hD : Hid (bsS f (k + 1) = bsS f k ++ ((⟨#[32]⟩ : ByteArray) ++ (f k).extract 13 (f k).size)) := rfl
      have hex : ((f k).extract 13 (f k).size).size ≤ 257 := by rw [ByteArray.size_extract]; omega
      clear hpk
      generalize (f k).extract 13 (f k).size = q at CB hD hex
      go_wp2_with fail
      refine CB.mono ?_
      rintro e w1 ⟨rfl, b1⟩
      have D1 := D.out.below b1 (Nat.le_refl _)
      have B1 : Hid (Below w.heap.size w w1) := B.out.trans (b1.mono B.out.size)
      clear b1 D B CB
      have CW := ws_any w.heap.size (bsS f k) ((⟨#[32]⟩ : ByteArray) ++ q) w1 D1 (by rw [app_size]; show _ + (1 + _) ≤ _; omega)
      rw [← hD.out] at CW
      go_wp2_with fail
      refine CW.mono ?_
      rintro e w2 ⟨rfl, d2, b2⟩
      have D2 : Hid (Bd w2 w.heap.size (bsS f (k + 1))) := d2
      have B2 : Hid (Below w.heap.size w w2) := B1.out.trans b2
      clear d2 b2 B1 CW D1
      go_wp2
      go_roundw
      case rel => exact ⟨k + 1, by omega, by go_num, D2, B2⟩
      case measure => simp [intOf]; omega
    · obtain rfl : k = n := by omega
      have CS := bstr_any w.heap.size (bsS f k) wr D.out
      go_wp2_with fail
      refine CS.mono ?_
      rintro e w2 ⟨rfl, b2⟩
      go_wp2
      go_ret
      exact ⟨rfl, B.out.trans b2⟩

end Go.Proofs.YtgnlkggodchlbaaGreatDoor
