/- Gathered: ShB InG InH. -/
import Derived.Test.YtgnlkggodchlbabDoorRows
import Derived.Shelf.Strings.Builder1
import Derived.Shelf.Strconv.Itoa3
import Derived.Shelf.LaysM
import Derived.Lib.AppendStr
import Derived.Test.YtgnlkggodchlbabDoorQf
/- Contracts of the library, laid at this program. -/
namespace Go.Proofs.YtgnlkggodchlbabDoor
open Go.Shelf Go.RowKit
def Tryd.lays169_ren : Go.Shelf.Ren := ⟨fun | 169 => 18 | n => n, fun | 70 => 43 | 9 => 9 | 0 => 0 | 72 => 45 | 37 => 40 | 127 => 64 | 3 => 3 | 5 => 5 | n => n, fun | n => n⟩
theorem Tryd.lays169 : Go.Proofs.Lays.n169 Tryd.prog Tryd.lays169_ren := {
  mixed := by kernel_rfl
  f169 := Tryd.func18.trans (congrArg some (by kernel_rfl))
  t0 := Tryd.underlying0
  a0 := Tryd.isAgg0
  z0 := Tryd.sizeOf0
  v0 := Tryd.zeroValue0
  t3 := Tryd.underlying3
  a3 := Tryd.isAgg3
  z3 := Tryd.sizeOf3
  v3 := Tryd.zeroValue3
  t9 := Tryd.underlying9
  a9 := Tryd.isAgg9
  z9 := Tryd.sizeOf9
  v9 := Tryd.zeroValue9
  t37 := Tryd.underlying40
  a37 := Tryd.isAgg40
  z37 := Tryd.sizeOf40
  v37 := Tryd.zeroValue40
  t70 := Tryd.underlying43
  a70 := Tryd.isAgg43
  z70 := Tryd.sizeOf43
  v70 := Tryd.zeroValue43
  t72 := Tryd.underlying45
  a72 := Tryd.isAgg45
  z72 := Tryd.sizeOf45
  v72 := Tryd.zeroValue45
  t127 := Tryd.underlying64
  a127 := Tryd.isAgg64
  z127 := Tryd.sizeOf64
  v127 := Tryd.zeroValue64 }
theorem Tryd.Builder_Extra_169 : Builder.Extra Tryd.prog Tryd.lays169_ren := {
  sizeBuilder := by kernel_rfl
  liesBuilder := by kernel_rfl
  t5 := Tryd.underlying5
  a5 := Tryd.isAgg5
  z5 := Tryd.sizeOf5
  v5 := Tryd.zeroValue5
  infoByte := by kernel_rfl
  cellsByte := by kernel_rfl
  sizeByte := by kernel_rfl
  neB5 := by decide }
open Go.RowKit in
theorem Tryd.Builder_String (B b : Nat) (l : List UInt8) (w : World) (h : Lib.IsBuilder 45 5 B b (Lib.byteCells l) w) (h0 : l ≠ []) :
    Calls Tryd.prog 18 #[.pointer (some ⟨b, 0, none⟩)] w fun e w' => e = .returned (.string ⟨l.toArray⟩) ∧ Below B w w' := Any.Builder_String Tryd.lays169 Tryd.Builder_Extra_169 B b l w h h0
open Go.RowKit in
theorem Tryd.Builder_String_empty (B b : Nat) (w : World) (h : Lib.IsBuilder 45 5 B b [] w) (hBw : B ≤ w.heap.size) :
    Calls Tryd.prog 18 #[.pointer (some ⟨b, 0, none⟩)] w fun e w' => e = .returned (.string ⟨#[]⟩) ∧ Below B w w' := Any.Builder_String_empty Tryd.lays169 Tryd.Builder_Extra_169 B b w h hBw
open Go.RowKit in
theorem Tryd.Builder_String_any (B b : Nat) (l : List UInt8) (w : World) (h : Lib.IsBuilder 45 5 B b (Lib.byteCells l) w) (hBw : B ≤ w.heap.size) :
    Calls Tryd.prog 18 #[.pointer (some ⟨b, 0, none⟩)] w fun e w' => e = .returned (.string ⟨l.toArray⟩) ∧ Below B w w' := Any.Builder_String_any Tryd.lays169 Tryd.Builder_Extra_169 B b l w h hBw
def Tryd.laysM171_ren : Go.Shelf.Ren := ⟨fun | 171 => 14 | 243 => 28 | 246 => 43 | 283 => 55 | 284 => 56 | 285 => 57 | 286 => 58 | 129 => 69 | 317 => 68 | 318 => 70 | 319 => 71 | 320 => 72 | 337 => 80 | 338 => 81 | n => n, fun | 3 => 3 | 9 => 9 | 2 => 2 | 4 => 4 | 171 => 90 | 0 => 0 | 53 => 91 | 37 => 40 | 5 => 5 | 173 => 94 | 212 => 102 | 51 => 103 | 20 => 20 | 213 => 104 | 46 => 78 | 232 => 22 | 233 => 116 | n => n, fun | 17 => 1 | 18 => 2 | 19 => 3 | n => n⟩
theorem Tryd.laysM171 : Go.Proofs.LaysM.n171 Tryd.prog Tryd.laysM171_ren := {
  mixed := by kernel_rfl
  f129 := Tryd.func69.trans (congrArg some (by kernel_rfl))
  f171 := Tryd.func14.trans (congrArg some (by kernel_rfl))
  f243 := Tryd.func28.trans (congrArg some (by kernel_rfl))
  f246 := Tryd.func43.trans (congrArg some (by kernel_rfl))
  f283 := Tryd.func55.trans (congrArg some (by kernel_rfl))
  f284 := Tryd.func56.trans (congrArg some (by kernel_rfl))
  f285 := Tryd.func57.trans (congrArg some (by kernel_rfl))
  f286 := Tryd.func58.trans (congrArg some (by kernel_rfl))
  f317 := Tryd.func68.trans (congrArg some (by kernel_rfl))
  f318 := Tryd.func70.trans (congrArg some (by kernel_rfl))
  f319 := Tryd.func71.trans (congrArg some (by kernel_rfl))
  f320 := Tryd.func72.trans (congrArg some (by kernel_rfl))
  f337 := Tryd.func80.trans (congrArg some (by kernel_rfl))
  f338 := Tryd.func81.trans (congrArg some (by kernel_rfl))
  t0 := Tryd.underlying0
  a0 := Tryd.isAgg0
  z0 := Tryd.sizeOf0
  v0 := Tryd.zeroValue0
  t2 := Tryd.underlying2
  a2 := Tryd.isAgg2
  z2 := Tryd.sizeOf2
  v2 := Tryd.zeroValue2
  t3 := Tryd.underlying3
  a3 := Tryd.isAgg3
  z3 := Tryd.sizeOf3
  v3 := Tryd.zeroValue3
  t4 := Tryd.underlying4
  a4 := Tryd.isAgg4
  z4 := Tryd.sizeOf4
  v4 := Tryd.zeroValue4
  t5 := Tryd.underlying5
  a5 := Tryd.isAgg5
  z5 := Tryd.sizeOf5
  v5 := Tryd.zeroValue5
  t9 := Tryd.underlying9
  a9 := Tryd.isAgg9
  z9 := Tryd.sizeOf9
  v9 := Tryd.zeroValue9
  t20 := Tryd.underlying20
  a20 := Tryd.isAgg20
  z20 := Tryd.sizeOf20
  v20 := Tryd.zeroValue20
  t37 := Tryd.underlying40
  a37 := Tryd.isAgg40
  z37 := Tryd.sizeOf40
  v37 := Tryd.zeroValue40
  t46 := Tryd.underlying78
  a46 := Tryd.isAgg78
  z46 := Tryd.sizeOf78
  v46 := Tryd.zeroValue78
  t51 := Tryd.underlying103
  a51 := Tryd.isAgg103
  z51 := Tryd.sizeOf103
  v51 := Tryd.zeroValue103
  t53 := Tryd.underlying91
  a53 := Tryd.isAgg91
  z53 := Tryd.sizeOf91
  v53 := Tryd.zeroValue91
  t171 := Tryd.underlying90
  a171 := Tryd.isAgg90
  z171 := Tryd.sizeOf90
  v171 := Tryd.zeroValue90
  t173 := Tryd.underlying94
  a173 := Tryd.isAgg94
  z173 := Tryd.sizeOf94
  v173 := Tryd.zeroValue94
  t212 := Tryd.underlying102
  a212 := Tryd.isAgg102
  z212 := Tryd.sizeOf102
  v212 := Tryd.zeroValue102
  t213 := Tryd.underlying104
  a213 := Tryd.isAgg104
  z213 := Tryd.sizeOf104
  t232 := Tryd.underlying22
  a232 := Tryd.isAgg22
  z232 := Tryd.sizeOf22
  v232 := Tryd.zeroValue22
  t233 := Tryd.underlying116
  a233 := Tryd.isAgg116
  z233 := Tryd.sizeOf116
  v233 := Tryd.zeroValue116
  g17 := by kernel_rfl
  g18 := by kernel_rfl
  g19 := by kernel_rfl
  i0 := by kernel_rfl
  i2 := by kernel_rfl
  i3 := by kernel_rfl
  i4 := by kernel_rfl
  i5 := by kernel_rfl
  i9 := by kernel_rfl
  i20 := by kernel_rfl
  i37 := by kernel_rfl
  i46 := by kernel_rfl
  i51 := by kernel_rfl
  i53 := by kernel_rfl
  i171 := by kernel_rfl
  i173 := by kernel_rfl
  i212 := by kernel_rfl
  i232 := by kernel_rfl
  i233 := by kernel_rfl
  m17 := by kernel_rfl
  m18 := by kernel_rfl
  m19 := by kernel_rfl }
open Go.RowKit Go.Sort Go.Lib in
theorem Tryd.strconv_Itoa (n : Int) (h0 : -9223372036854775808 ≤ n) (h1 : n ≤ 9223372036854775807) (w : World) (htab : Lib.TabIs Tryd.prog w "internal/strconv.uint64pow10" .u64 Lib.pow10Tab) :
    Calls Tryd.prog 14 #[.int .i64 n] w fun e w' => e = .returned (.string ⟨(Lib.itoa n).toArray⟩) ∧ ∃ k os, w' = grow (w.drewN k) os := Any.strconv_Itoa Tryd.laysM171 n h0 h1 w htab
end Go.Proofs.YtgnlkggodchlbabDoor
/- strings.Builder: WriteString, String; what a line writes (info.Print's closure); walked. -/
namespace Go.Proofs.YtgnlkggodchlbabDoor
open Go.RowKit Go.Shelf

theorem szSBL : (Tryd.prog.info? 45).map (·.size) = some 2 := by kernel_rfl
theorem liesSBL : liesAt Tryd.prog Tryd.prog.depth 45 (2 / Tryd.prog.cellsOf 45) 0 45 1 = true := by kernel_rfl
theorem und43 : Tryd.prog.underlying 43 = some (.pointer 45) := by kernel_rfl
theorem und113 : Tryd.prog.underlying 80 = some .unsafePointer := by kernel_rfl

set_option maxHeartbeats 1000000 in
set_option maxRecDepth 100000 in
theorem cpC_used (b : Nat) (w : World) (h0 : w.cell? ⟨b, 0, none⟩ = some (.pointer (some ⟨b, 0, none⟩))) :
    Calls Tryd.prog 29 #[.pointer (some ⟨b, 0, none⟩)] w fun e w' => e = .returned (.tuple #[]) ∧ w' = w := by
  obtain ⟨j, hj, _⟩ := Option.map_eq_some_iff.1 szSBL
  go_enter Tryd.func29, Tryd.ntmps29
  go_wp2
  rw [Lib.run_neq_ptr_same w _ und43 hj]
  go_wp2
  go_end0
  exact ⟨rfl, rfl⟩

set_option maxHeartbeats 1000000 in
set_option maxRecDepth 100000 in
theorem cpC_fresh (b : Nat) (w : World) (h0 : w.cell? ⟨b, 0, none⟩ = some (.pointer none)) (hsh : w.shape? b = some (45, 2)) (hfz : w.frozen? ⟨b, 0, none⟩ = false) :
    Calls Tryd.prog 29 #[.pointer (some ⟨b, 0, none⟩)] w fun e w' => e = .returned (.tuple #[]) ∧ w' = w.setCell ⟨b, 0, none⟩ (.pointer (some ⟨b, 0, none⟩)) := by
  obtain ⟨j, hj, hjs⟩ := Option.map_eq_some_iff.1 szSBL
  go_enter Tryd.func29, Tryd.ntmps29
  go_wp2
  rw [Lib.run_to_unsafe w ⟨b, 0, none⟩ und43 und113 hj (by rw [hjs]; decide) hsh (Nat.zero_lt_succ 1)]
  simp only [Result.andThen]
  rw [Oper.upon_value]
  go_wp2
  rw [run_callFunc_extern Tryd.func44 (by kernel_rfl) (by kernel_rfl) (by kernel_rfl) (e := Extern.AbiNoEscape.same) (by kernel_rfl)]
  rw [Lib.run_noEscape]
  simp only [Result.andThen]
  rw [Oper.upon_value]
  go_wp2
  rw [Lib.run_from_unsafe w ⟨b, 0, none⟩ und113 und43 hj hsh liesSBL]
  simp only [Result.andThen]
  rw [Oper.upon_value]
  go_wp2
  go_end0
  exact ⟨rfl, rfl⟩

/-- Block b is a builder that holds the text t. -/
def Bd (w : World) (b : Nat) (t : ByteArray) : Prop := Lib.IsBuilder 45 5 b b (Lib.strCells t) w
theorem Bd.lt {w : World} {b : Nat} {t : ByteArray} (h : Bd w b t) : b < w.heap.size := by rcases h with h | h; exact h.lt; exact h.lt
theorem Bd.new (w : World) : Bd (w.alloc (.cells #[.pointer none, .slice none 0 0] 45)) w.heap.size ⟨#[]⟩ := Lib.fresh_isBuilder 45 5 w
theorem at_below {w w' : World} {B b C : Nat} {p : Value} {bs : List Value} (h : Lib.BuilderAt 45 5 B b p bs w) (g : Below C w w') (hC : w.heap.size ≤ C) : Lib.BuilderAt 45 5 B b p bs w' := by
  have hl := h.lt
  obtain ⟨hB, v, hb, hown, hne⟩ := h
  refine ⟨hB, v, (g.block b (by omega)).trans hb, ?_, hne⟩
  obtain ⟨q, hh | ⟨gg, cap, cur, hv, hbb, hg, hr⟩⟩ := hown
  · exact ⟨q, .inl hh⟩
  · exact ⟨q, .inr ⟨gg, cap, cur, hv, hbb, (g.block gg (by have := (Array.getElem?_eq_some_iff.1 hg).1; omega)).trans hg, hr⟩⟩
theorem Bd.below {w w' : World} {b C : Nat} {t : ByteArray} (h : Bd w b t) (g : Below C w w') (hC : w.heap.size ≤ C) : Bd w' b t := by
  rcases h with h | h
  · exact Or.inl (at_below h g hC)
  · exact Or.inr (at_below h g hC)

theorem cpC_any (b : Nat) (t : ByteArray) (w : World) (h : Bd w b t) :
    Calls Tryd.prog 29 #[.pointer (some ⟨b, 0, none⟩)] w fun e w' => e = .returned (.tuple #[]) ∧ Lib.BuilderAt 45 5 b b (.pointer (some ⟨b, 0, none⟩)) (Lib.strCells t) w' ∧ Below b w w' := by
  rcases h with h | h
  · refine (cpC_fresh b w h.cell0 h.shape h.frozen0).mono ?_
    rintro e w' ⟨rfl, rfl⟩
    exact ⟨rfl, h.used _, (Below.refl b w).setCell (p := ⟨b, 0, none⟩) h.1 _⟩
  · refine (cpC_used b w h.cell0).mono ?_
    rintro e w' ⟨rfl, rfl⟩
    exact ⟨rfl, h, Below.refl b _⟩

theorem strCells_app (a b : ByteArray) : Lib.strCells a ++ Lib.strCells b = Lib.strCells (a ++ b) := by
  unfold Lib.strCells
  simp

set_option maxHeartbeats 1000000 in
set_option maxRecDepth 100000 in
theorem ws_any (b : Nat) (t s : ByteArray) (w : World) (h : Bd w b t) (hlen : t.size + s.size ≤ 140737488355328) :
    Calls Tryd.prog 16 #[.pointer (some ⟨b, 0, none⟩), .string s] w fun e w' => e = .returned (.tuple #[.int .i64 s.size, .nilIface]) ∧ Bd w' b (t ++ s) ∧ Below b w w' := by
  obtain ⟨i0, hi, hz0, hz1, hz2⟩ := info_parts Tryd.hinfo5
  have hbw := h.lt
  go_enter Tryd.func16, Tryd.ntmps16
  go_wp2_with fail
  refine (cpC_any b t w h).mono ?_
  rintro e w1 ⟨rfl, ⟨hB, v, hbk, hown, hne⟩, hb1⟩
  have c0 : w1.cell? ⟨b, 0, none⟩ = some (.pointer (some ⟨b, 0, none⟩)) := by rw [Lib.cell_of_heap hbk]; rfl
  have c1 : w1.cell? ⟨b, 1, none⟩ = some v := by rw [Lib.cell_of_heap hbk]; rfl
  have hl : (Lib.strCells t).length = t.size := Lib.strCells_length t
  go_wp2_with (at_builtin; refine Lib.wpList_append_own_string _ rfl _ _ 40 9 rfl b 5 i0 Tryd.underlying40 Tryd.underlying9 hi hz0 hz1 hz2 _ _ _ rfl hown s rfl ?c3 ?c4 ?c5 ?_)
  case c3 => unfold maxLen; rw [hl]; omega
  case c4 => rw [hl]; omega
  case c5 => have := hb1.size; omega
  intro v' w2 hown' hgrow _
  have hlt : b < w1.heap.size := by have := hb1.size; omega
  have hb2 : w2.heap[b]? = some (.cells #[.pointer (some ⟨b, 0, none⟩), v] 45 (0, 0)) := by
    rw [hgrow.block b hlt (fun e => hne e.symm)]
    exact hbk
  have d0 : w2.cell? ⟨b, 0, none⟩ = some (.pointer (some ⟨b, 0, none⟩)) := by rw [Lib.cell_of_heap hb2]; rfl
  have d1 : w2.cell? ⟨b, 1, none⟩ = some v := by rw [Lib.cell_of_heap hb2]; rfl
  have f1 : w2.frozen? ⟨b, 1, none⟩ = false := Lib.frozen_of_heap hb2 1
  obtain ⟨ao, n', cap, rfl⟩ : ∃ ao n' cap, v' = .slice ao n' cap := by
    rcases hown'.2 with ⟨hv, _⟩ | ⟨g, cap, cur, hv, _⟩
    · exact ⟨_, _, _, hv⟩
    · exact ⟨_, _, _, hv⟩
  have R1 : Hid (Bd (w2.setCell ⟨b, 1, none⟩ (.slice ao n' cap)) b (t ++ s)) := Or.inr (by
    rw [← strCells_app]
    exact Lib.BuilderAt.put (T := 45) (e := 5) hB hb2 (bs' := Lib.strCells t ++ Lib.strCells s) (by simpa [Lib.strCells_length] using hown') (by decide))
  have B1 : Hid (Below b w (w2.setCell ⟨b, 1, none⟩ (.slice ao n' cap))) := (hb1.grown hgrow (by have := hb1.size; omega) (fun k hk => (hown.lt k hk).1)).setCell (p := ⟨b, 1, none⟩) hB _
  clear hown hown' hgrow hbk hb1 hl hne
  go_wp2
  go_ret2
  exact ⟨rfl, R1.out, B1.out⟩

theorem bstr_any (b : Nat) (t : ByteArray) (w : World) (h : Bd w b t) :
    Calls Tryd.prog 18 #[.pointer (some ⟨b, 0, none⟩)] w fun e w' => e = .returned (.string t) ∧ Below b w w' := by
  have hl := h.lt
  exact Tryd.Builder_String_any b b t.data.toList w h (by omega)

end Go.Proofs.YtgnlkggodchlbabDoor
/- A line of info.Print; info.bases; walked. -/
namespace Go.Proofs.YtgnlkggodchlbabDoor
open Go.RowKit Go.Shelf

def nl : ByteArray := ⟨#[10]⟩
theorem app_size (a b : ByteArray) : (a ++ b).size = a.size + b.size := ByteArray.size_append

set_option maxHeartbeats 1000000 in
set_option maxRecDepth 100000 in
theorem line_any (b : Nat) (t h r : ByteArray) (w : World) (hb : Bd w b t) (hlen : t.size + h.size + r.size + 1 ≤ 140737488355328) :
    Calls Tryd.prog 15 #[.string h, .string r, .pointer (some ⟨b, 0, none⟩)] w fun e w' => (∃ v, e = .returned v) ∧ Bd w' b (t ++ h ++ r ++ nl) ∧ Below b w w' := by
  have C1 := ws_any b t h w hb (by omega)
  go_enter Tryd.func15, Tryd.ntmps15
  rw [show (⟨#[10]⟩ : ByteArray) = nl from rfl]
  go_wp2_with fail
  refine C1.mono ?_
  rintro e w1 ⟨rfl, h1, b1⟩
  go_wp2_with fail
  refine (ws_any b (t ++ h) r w1 h1 (by rw [app_size]; omega)).mono ?_
  rintro e w2 ⟨rfl, h2, b2⟩
  go_wp2_with fail
  refine (ws_any b (t ++ h ++ r) nl w2 h2 (by rw [app_size, app_size]; show _ + 1 ≤ _; omega)).mono ?_
  rintro e w3 ⟨rfl, h3, b3⟩
  have B3 : Hid (Below b w w3) := (b1.trans b2).trans b3
  clear b1 b2 b3 h1 h2 C1
  go_wp2
  go_end0
  exact ⟨⟨_, rfl⟩, h3, B3.out⟩

/-- The bases, each with a blank ahead. -/
def bsS (f : Nat → ByteArray) : Nat → ByteArray
  | 0 => ⟨#[]⟩
  | n + 1 => bsS f n ++ ((⟨#[32]⟩ : ByteArray) ++ (f n).extract 13 (f n).size)
theorem prC_max {p : ByteArray} (h : prC p = 0) : p.size ≤ 257 := by
  unfold prC at h
  split at h
  · split at h
    · rcases lab_cases (pLab p) with ⟨g, _⟩ | ⟨_, g⟩
      · have := g.2.1
        unfold pLab at this
        rw [ByteArray.size_extract] at this
        omega
      · rw [g] at h; exact absurd h (by decide)
    · exact absurd h (by decide)
  · exact absurd h (by decide)
theorem bsS_size (f : Nat → ByteArray) (n : Nat) (h : ∀ i, i < n → (f i).size ≤ 257) : (bsS f n).size ≤ 258 * n := by
  induction n with
  | zero => exact Nat.zero_le _
  | succ n ih =>
    have h1 := ih (fun i hi => h i (by omega))
    have h2 := h n (by omega)
    show (bsS f n ++ ((⟨#[32]⟩ : ByteArray) ++ (f n).extract 13 (f n).size)).size ≤ _
    rw [app_size, app_size, ByteArray.size_extract]
    show _ + (1 + _) ≤ _
    omega

set_option maxHeartbeats 1000000 in
set_option maxRecDepth 100000 in
theorem bases_any (x : Option Addr) (n c : Nat) (f : Nat → ByteArray) (w : World) (hS : SIs w x n f) (hn : n ≤ 1024) (hp : ∀ i, i < n → prC (f i) = 0) :
    Calls Tryd.prog 17 #[.slice x n c] w fun e w' => e = .returned (.string (bsS f n)) ∧ Below w.heap.size w w' := by
  have HS : Hid (SIs w x n f) := hS
  have HP : Hid (∀ i, i < n → prC (f i) = 0) := hp
  clear hS hp
  have N0 : Hid (Bd (w.alloc (.cells #[.pointer none, .slice none 0 0] 45)) w.heap.size ⟨#[]⟩) := Bd.new w
  have B0 : Hid (Below w.heap.size w (w.alloc (.cells #[.pointer none, .slice none 0 0] 45))) := (Below.refl _ _).alloc (Nat.le_refl _) _
  go_enter Tryd.func17, Tryd.ntmps17
  go_wp2
  generalize w.alloc (.cells #[.pointer none, .slice none 0 0] 45) = w0 at N0 B0 ⊢
  go_loopw [10] (fun i wr => ∃ k : Nat, k ≤ n ∧ i = .int .i64 k ∧ Hid (Bd wr w.heap.size (bsS f k)) ∧ Hid (Below w.heap.size w wr)) (fun i _ => n - (intOf i).toNat)
  case atStart => exact ⟨0, Nat.zero_le _, rfl, N0, B0⟩
  case round =>
    clear N0 B0
    obtain ⟨k, hk, rfl, D, B⟩ := hrel
    by_cases hlt : k < n
    · obtain ⟨a, rfl, c0⟩ := HS.out.below B.out (Nat.le_refl _) k hlt
      have hpk := HP.out k hlt
      have hsz := prC_max hpk
      have CB := base_any (f k) wr
      rw [hpk, iffy_yes rfl] at CB
      have hbs := bsS_size f k (fun i hi => prC_max (HP.out i (by omega)))
      have hD : Hid (bsS f (k + 1) = bsS f k ++ ((⟨#[32]⟩ : ByteArray) ++ (f k).extract 13 (f k).size)) := rfl
      have hex : ((f k).extract 13 (f k).size).size ≤ 257 := by rw [ByteArray.size_extract]; omega
      clear hpk
      generalize (f k).extract 13 (f k).size = q at CB hD hex
      go_wp2_with fail
      refine CB.mono ?_
      rintro e w1 ⟨rfl, b1⟩
      have D1 := D.out.below b1 (Nat.le_refl _)
      have B1 : Hid (Below w.heap.size w w1) := B.out.trans (b1.mono B.out.size)
      clear b1 D B CB
      have CW := ws_any w.heap.size (bsS f k) ((⟨#[32]⟩ : ByteArray) ++ q) w1 D1 (by rw [app_size]; show _ + (1 + _) ≤ _; omega)
      rw [← hD.out] at CW
      go_wp2_with fail
      refine CW.mono ?_
      rintro e w2 ⟨rfl, d2, b2⟩
      have D2 : Hid (Bd w2 w.heap.size (bsS f (k + 1))) := d2
      have B2 : Hid (Below w.heap.size w w2) := B1.out.trans b2
      clear d2 b2 B1 CW D1
      go_wp2
      go_roundw
      case rel => exact ⟨k + 1, by omega, by go_num, D2, B2⟩
      case measure => simp [intOf]; omega
    · obtain rfl : k = n := by omega
      have CS := bstr_any w.heap.size (bsS f k) wr D.out
      go_wp2_with fail
      refine CS.mono ?_
      rintro e w2 ⟨rfl, b2⟩
      go_wp2
      go_ret
      exact ⟨rfl, B.out.trans b2⟩

end Go.Proofs.YtgnlkggodchlbabDoor
