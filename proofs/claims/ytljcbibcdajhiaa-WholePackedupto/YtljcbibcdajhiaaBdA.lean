/- strings.Builder: WriteString, String; what a line writes (info.Print's closure); walked. -/
import Derived.Test.YtljcbibcdajhiaaMem
import Derived.Lib.Strings
import Derived.Lib.Builder
import Derived.WalkMore
import Derived.Below
import Derived.Test.YtljcbibcdajhiaaShB
import Derived.Lib.AppendStr
namespace Go.Proofs.Ytljcbibcdajhiaa
open Go.RowKit Go.Shelf

theorem Try.hinfo5 : (Try.prog.info? 5).map (fun i => (i.zero, i.size, i.bytes)) = some (some (.int .u8 0), 1, 1) := by kernel_rfl

theorem szSBL : (Try.prog.info? 51).map (·.size) = some 2 := by kernel_rfl
theorem liesSBL : liesAt Try.prog Try.prog.depth 51 (2 / Try.prog.cellsOf 51) 0 51 1 = true := by kernel_rfl
theorem und49 : Try.prog.underlying 49 = some (.pointer 51) := by kernel_rfl
theorem und113 : Try.prog.underlying 113 = some .unsafePointer := by kernel_rfl

set_option maxHeartbeats 1000000 in
set_option maxRecDepth 100000 in
theorem cpC_used (b : Nat) (w : World) (h0 : w.cell? ⟨b, 0, none⟩ = some (.pointer (some ⟨b, 0, none⟩))) :
    Calls Try.prog 36 #[.pointer (some ⟨b, 0, none⟩)] w fun e w' => e = .returned (.tuple #[]) ∧ w' = w := by
  obtain ⟨j, hj, _⟩ := Option.map_eq_some_iff.1 szSBL
  go_enter Try.func36, Try.ntmps36
  go_wp2
  rw [Lib.run_neq_ptr_same w _ und49 hj]
  go_wp2
  go_end0
  exact ⟨rfl, rfl⟩

set_option maxHeartbeats 1000000 in
set_option maxRecDepth 100000 in
theorem cpC_fresh (b : Nat) (w : World) (h0 : w.cell? ⟨b, 0, none⟩ = some (.pointer none)) (hsh : w.shape? b = some (51, 2)) (hfz : w.frozen? ⟨b, 0, none⟩ = false) :
    Calls Try.prog 36 #[.pointer (some ⟨b, 0, none⟩)] w fun e w' => e = .returned (.tuple #[]) ∧ w' = w.setCell ⟨b, 0, none⟩ (.pointer (some ⟨b, 0, none⟩)) := by
  obtain ⟨j, hj, hjs⟩ := Option.map_eq_some_iff.1 szSBL
  go_enter Try.func36, Try.ntmps36
  go_wp2
  rw [Lib.run_to_unsafe w ⟨b, 0, none⟩ und49 und113 hj (by rw [hjs]; decide) hsh (Nat.zero_lt_succ 1)]
  simp only [Result.andThen]
  rw [Oper.upon_value]
  go_wp2
  rw [run_callFunc_extern Try.func53 (by kernel_rfl) (by kernel_rfl) (by kernel_rfl) (e := Extern.AbiNoEscape.same) (by kernel_rfl)]
  rw [Lib.run_noEscape]
  simp only [Result.andThen]
  rw [Oper.upon_value]
  go_wp2
  rw [Lib.run_from_unsafe w ⟨b, 0, none⟩ und113 und49 hj hsh liesSBL]
  simp only [Result.andThen]
  rw [Oper.upon_value]
  go_wp2
  go_end0
  exact ⟨rfl, rfl⟩

/-- Block b is a builder that holds the text t. -/
def Bd (w : World) (b : Nat) (t : ByteArray) : Prop := Lib.IsBuilder 51 5 b b (Lib.strCells t) w
theorem Bd.lt {w : World} {b : Nat} {t : ByteArray} (h : Bd w b t) : b < w.heap.size := by rcases h with h | h; exact h.lt; exact h.lt
theorem Bd.new (w : World) : Bd (w.alloc (.cells #[.pointer none, .slice none 0 0] 51)) w.heap.size ⟨#[]⟩ := Lib.fresh_isBuilder 51 5 w
theorem at_below {w w' : World} {B b C : Nat} {p : Value} {bs : List Value} (h : Lib.BuilderAt 51 5 B b p bs w) (g : Below C w w') (hC : w.heap.size ≤ C) : Lib.BuilderAt 51 5 B b p bs w' := by
  have hl := h.lt
  obtain ⟨hB, v, hb, hown, hne⟩ := h
  refine ⟨hB, v, (g.block b (by omega)).trans hb, ?_, hne⟩
  obtain ⟨q, hh | ⟨gg, cap, cur, hv, hbb, hg, hr⟩⟩ := hown
  · exact ⟨q, .inl hh⟩
  · exact ⟨q, .inr ⟨gg, cap, cur, hv, hbb, (g.block gg (by have := (Array.getElem?_eq_some_iff.1 hg).1; omega)).trans hg, hr⟩⟩
theorem Bd.below {w w' : World} {b C : Nat} {t : ByteArray} (h : Bd w b t) (g : Below C w w') (hC : w.heap.size ≤ C) : Bd w' b t := by
  rcases h with h | h
  · exact Or.inl (at_below h g hC)
  · exact Or.inr (at_below h g hC)

theorem cpC_any (b : Nat) (t : ByteArray) (w : World) (h : Bd w b t) :
    Calls Try.prog 36 #[.pointer (some ⟨b, 0, none⟩)] w fun e w' => e = .returned (.tuple #[]) ∧ Lib.BuilderAt 51 5 b b (.pointer (some ⟨b, 0, none⟩)) (Lib.strCells t) w' ∧ Below b w w' := by
  rcases h with h | h
  · refine (cpC_fresh b w h.cell0 h.shape h.frozen0).mono ?_
    rintro e w' ⟨rfl, rfl⟩
    exact ⟨rfl, h.used _, (Below.refl b w).setCell (p := ⟨b, 0, none⟩) h.1 _⟩
  · refine (cpC_used b w h.cell0).mono ?_
    rintro e w' ⟨rfl, rfl⟩
    exact ⟨rfl, h, Below.refl b _⟩

theorem strCells_app (a b : ByteArray) : Lib.strCells a ++ Lib.strCells b = Lib.strCells (a ++ b) := by
  unfold Lib.strCells
  simp

set_option maxHeartbeats 1000000 in
set_option maxRecDepth 100000 in
theorem ws_any (b : Nat) (t s : ByteArray) (w : World) (h : Bd w b t) (hlen : t.size + s.size ≤ 140737488355328) :
    Calls Try.prog 18 #[.pointer (some ⟨b, 0, none⟩), .string s] w fun e w' => e = .returned (.tuple #[.int .i64 s.size, .nilIface]) ∧ Bd w' b (t ++ s) ∧ Below b w w' := by
  obtain ⟨i0, hi, hz0, hz1, hz2⟩ := info_parts Try.hinfo5
  have hbw := h.lt
  go_enter Try.func18, Try.ntmps18
  go_wp2_with fail
  refine (cpC_any b t w h).mono ?_
  rintro e w1 ⟨rfl, ⟨hB, v, hbk, hown, hne⟩, hb1⟩
  have c0 : w1.cell? ⟨b, 0, none⟩ = some (.pointer (some ⟨b, 0, none⟩)) := by rw [Lib.cell_of_heap hbk]; rfl
  have c1 : w1.cell? ⟨b, 1, none⟩ = some v := by rw [Lib.cell_of_heap hbk]; rfl
  have hl : (Lib.strCells t).length = t.size := Lib.strCells_length t
  go_wp2_with (at_builtin; refine Lib.wpList_append_own_string _ rfl _ _ 37 9 rfl b 5 i0 Try.underlying37 Try.underlying9 hi hz0 hz1 hz2 _ _ _ rfl hown s rfl ?c3 ?c4 ?c5 ?_)
  case c3 => unfold maxLen; rw [hl]; omega
  case c4 => rw [hl]; omega
  case c5 => have := hb1.size; omega
  intro v' w2 hown' hgrow _
  have hlt : b < w1.heap.size := by have := hb1.size; omega
  have hb2 : w2.heap[b]? = some (.cells #[.pointer (some ⟨b, 0, none⟩), v] 51 (0, 0)) := by
    rw [hgrow.block b hlt (fun e => hne e.symm)]
    exact hbk
  have d0 : w2.cell? ⟨b, 0, none⟩ = some (.pointer (some ⟨b, 0, none⟩)) := by rw [Lib.cell_of_heap hb2]; rfl
  have d1 : w2.cell? ⟨b, 1, none⟩ = some v := by rw [Lib.cell_of_heap hb2]; rfl
  have f1 : w2.frozen? ⟨b, 1, none⟩ = false := Lib.frozen_of_heap hb2 1
  obtain ⟨ao, n', cap, rfl⟩ : ∃ ao n' cap, v' = .slice ao n' cap := by
    rcases hown'.2 with ⟨hv, _⟩ | ⟨g, cap, cur, hv, _⟩
    · exact ⟨_, _, _, hv⟩
    · exact ⟨_, _, _, hv⟩
  have R1 : Hid (Bd (w2.setCell ⟨b, 1, none⟩ (.slice ao n' cap)) b (t ++ s)) := Or.inr (by
    rw [← strCells_app]
    exact Lib.BuilderAt.put (T := 51) (e := 5) hB hb2 (bs' := Lib.strCells t ++ Lib.strCells s) (by simpa [Lib.strCells_length] using hown') (by decide))
  have B1 : Hid (Below b w (w2.setCell ⟨b, 1, none⟩ (.slice ao n' cap))) := (hb1.grown hgrow (by have := hb1.size; omega) (fun k hk => (hown.lt k hk).1)).setCell (p := ⟨b, 1, none⟩) hB _
  clear hown hown' hgrow hbk hb1 hl hne
  go_wp2
  go_ret2
  exact ⟨rfl, R1.out, B1.out⟩

theorem bstr_any (b : Nat) (t : ByteArray) (w : World) (h : Bd w b t) :
    Calls Try.prog 17 #[.pointer (some ⟨b, 0, none⟩)] w fun e w' => e = .returned (.string t) ∧ Below b w w' := by
  have hl := h.lt
  exact Try.Builder_String_any b b t.data.toList w h (by omega)

end Go.Proofs.Ytljcbibcdajhiaa
