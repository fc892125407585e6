/- NbB NbK, joined (own text of the verifier). -/
import Derived.Test.YtljcbibcdajhiaaMem
import Derived.Test.YtljcbibcdajhiaaRows
import Derived.Lib.AppendStr
import Derived.Lib.Builder
import Derived.Lib.UnsafeStr
import Derived.Lib.Bytealg
import Derived.Lib.Strings
import Derived.Maps.AppendAt
import Derived.OwnWalk
import Derived.BigQuiet
import Derived.BigRegion
import Derived.Below
import Derived.WalkMore
import Derived.Deep.LoopGhost
import Derived.Deep.RegionWith
import Derived.Laws.OwnMore
namespace Go.Proofs.Ytljcbibcdajhiaa.NB
open Go.RowKit Go.Proofs.Ytljcbibcdajhiaa

/-- The bytes of a list. -/
def ba (l : List UInt8) : ByteArray := ⟨l.toArray⟩
theorem ba_size (l : List UInt8) : (ba l).size = l.length := by
  show l.toArray.size = _
  simp
theorem bt_ba (l : List UInt8) (k : Nat) (h : k < l.length) : bt (ba l) k = ((l[k]'h).toNat : Int) := by
  unfold bt
  rw [dif_pos (by rw [ba_size]; exact h)]
  rfl
theorem ba_list (s : ByteArray) : ba s.data.toList = s := by
  apply ByteArray.ext
  simp [ba]
theorem bt_get (s : List UInt8) (i : Nat) (h : i < s.length) : bt (ba s) i = ((s.getD i 0).toNat : Int) := by
  rw [bt_ba _ _ h, List.getD_eq_getElem?_getD, List.getElem?_eq_getElem h]
  rfl
theorem bytes_app (a b : List UInt8) : Lib.byteCells a ++ Lib.byteCells b = Lib.byteCells (a ++ b) := by simp [Lib.byteCells]
theorem ba_inj {a b : List UInt8} (h : ba a = ba b) : a = b := by
  have := congrArg (fun x : ByteArray => x.data.toList) h
  simpa [ba] using this
theorem ba_toList (l : List UInt8) : (ba l).toList = l := by rw [ByteArray.toList_eq]; simp [ba]
theorem slice_of_row {w : World} {B : Nat} {e : TypeId} {k : Nat} {v : Value} {n : Nat} {xs : List Value} (h : w.ownsRow B e k v n xs) : ∃ p c, v = .slice p n c := by
  rcases h.2 with ⟨rfl, e⟩ | ⟨k, c, _, rfl, _⟩
  · exact ⟨none, 0, by rw [e]⟩
  · exact ⟨_, _, rfl⟩
theorem row_same {w w' : World} {B : Nat} {e : TypeId} {q : Nat} {v : Value} {n : Nat} {xs : List Value} (h : w.ownsRow B e q v n xs) (he : ∀ k, v.ownBlock = some k → w'.heap[k]? = w.heap[k]?) : w'.ownsRow B e q v n xs := by
  obtain ⟨h1, h2 | ⟨g, cap, cur, hv, hb, hg, r⟩⟩ := h
  · exact ⟨h1, .inl h2⟩
  · exact ⟨h1, .inr ⟨g, cap, cur, hv, hb, (he g (by rw [hv]; rfl)).trans hg, r⟩⟩
theorem row_up {w : World} {B B' : Nat} {e : TypeId} {q : Nat} {v : Value} {n : Nat} {xs : List Value} (h : w.ownsRow B e q v n xs) (hB : B' ≤ B) : w.ownsRow B' e q v n xs := by
  obtain ⟨h1, h2 | ⟨g, cap, cur, hv, hb, r⟩⟩ := h
  · exact ⟨h1, .inl h2⟩
  · exact ⟨h1, .inr ⟨g, cap, cur, hv, by omega, r⟩⟩
theorem bel_trans {w w1 w2 : World} (h : Below w.heap.size w w1) (g : Below w1.heap.size w1 w2) : Below w.heap.size w w2 :=
  h.trans ⟨g.os, g.tape, g.output, g.size, fun k hk => g.block k (Nat.lt_of_lt_of_le hk h.size)⟩

theorem szSBL' : (Try.prog.info? 51).map (·.size) = some 2 := by kernel_rfl
theorem undPS : Try.prog.underlying 49 = some (.pointer 51) := by kernel_rfl
theorem undUP : Try.prog.underlying 113 = some .unsafePointer := by kernel_rfl
theorem infoU8 : (Try.prog.info? 5).map (fun i => (i.zero, i.size, i.bytes)) = some (some (.int .u8 0), 1, 1) := by kernel_rfl
theorem undTB : Try.prog.underlying 37 = some (.slice 5) := by kernel_rfl
theorem undPU8 : Try.prog.underlying 91 = some (.pointer 5) := by kernel_rfl
theorem cellsB : Try.prog.cellsOf 5 = 1 := by kernel_rfl

/-- A type whose values are a builder's. -/
def BT (T : TypeId) : Prop := T = 51 ∨ T = 53
theorem BT.lies {T : TypeId} (h : BT T) : liesAt Try.prog Try.prog.depth T (2 / Try.prog.cellsOf T) 0 51 1 = true := by
  rcases h with rfl | rfl <;> kernel_rfl

set_option maxHeartbeats 1000000 in
set_option maxRecDepth 100000 in
theorem cpC_used (b : Nat) (w : World) (h0 : w.cell? ⟨b, 0, none⟩ = some (.pointer (some ⟨b, 0, none⟩))) :
    Calls Try.prog 36 #[.pointer (some ⟨b, 0, none⟩)] w fun e w' => e = .returned (.tuple #[]) ∧ w' = w := by
  obtain ⟨j, hj, _⟩ := Option.map_eq_some_iff.1 szSBL'
  go_enter Try.func36, Try.ntmps36
  go_wp2
  rw [Lib.run_neq_ptr_same w _ undPS hj]
  go_wp2
  go_end0
  exact ⟨rfl, rfl⟩

set_option maxHeartbeats 1000000 in
set_option maxRecDepth 100000 in
theorem cpC_fresh (T : TypeId) (hT : BT T) (b : Nat) (w : World) (h0 : w.cell? ⟨b, 0, none⟩ = some (.pointer none)) (hsh : w.shape? b = some (T, 2)) (hfz : w.frozen? ⟨b, 0, none⟩ = false) :
    Calls Try.prog 36 #[.pointer (some ⟨b, 0, none⟩)] w fun e w' => e = .returned (.tuple #[]) ∧ w' = w.setCell ⟨b, 0, none⟩ (.pointer (some ⟨b, 0, none⟩)) := by
  obtain ⟨j, hj, hjs⟩ := Option.map_eq_some_iff.1 szSBL'
  go_enter Try.func36, Try.ntmps36
  go_wp2
  rw [Lib.run_to_unsafe w ⟨b, 0, none⟩ undPS undUP hj (by rw [hjs]; decide) hsh (Nat.zero_lt_succ 1)]
  simp only [Result.andThen]
  rw [Oper.upon_value]
  go_wp2
  rw [run_callFunc_extern Try.func53 (by kernel_rfl) (by kernel_rfl) (by kernel_rfl) (e := Extern.AbiNoEscape.same) (by kernel_rfl)]
  rw [Lib.run_noEscape]
  simp only [Result.andThen]
  rw [Oper.upon_value]
  go_wp2
  rw [Lib.run_from_unsafe w ⟨b, 0, none⟩ undUP undPS hj hsh hT.lies]
  simp only [Result.andThen]
  rw [Oper.upon_value]
  go_wp2
  go_end0
  exact ⟨rfl, rfl⟩

theorem wpList_app_is {w : World} {ops : Array Oper} {rest : List Oper} {o : Oper} {a : Act} {Q : Exit → Act → World → Prop} (hgd : o.guard = none) (t u : TypeId) (s x : Operand)
    (ho : o.op = .call { callee := .builtin .append, args := #[s, x], argTypes := #[t, u] }) (v y v' : Value) (w' : World) (hs : a.eval s = v) (hx : a.eval x = y)
    (hr : (Builtin.append_ #[t, u] o.type #[v, y]).run Try.prog w = .ok v' w') (h : wpList Try.prog ops Q rest (a.put o.dst v') w') : wpList Try.prog ops Q (o :: rest) a w := by
  refine wpList_plain hgd fun K hK' => ?_
  unfold Oper.wp
  simp [execOp, ho, resolve, invoke, builtin, hs, hx, hr, Result.andThen]
  exact hK' _ _ h

/-- Block g is a builder (of type T) that holds the bytes l. -/
def Bd (T : TypeId) (w : World) (g : Nat) (l : List UInt8) : Prop :=
  ∃ ad v, w.heap[g]? = some (.cells #[ad, v] T (0, 0)) ∧ ((ad = .pointer none ∧ v = .slice none 0 0 ∧ l = []) ∨ ad = .pointer (some ⟨g, 0, none⟩)) ∧ w.ownsRow (g + 1) 5 1 v l.length (Lib.byteCells l)
theorem Bd.lt {T : TypeId} {w : World} {g : Nat} {l : List UInt8} (h : Bd T w g l) : g < w.heap.size := by
  obtain ⟨ad, v, hb, -⟩ := h
  exact (Array.getElem?_eq_some_iff.1 hb).1
theorem Bd.new (T : TypeId) (w : World) : Bd T (w.alloc (.cells #[.pointer none, .slice none 0 0] T)) w.heap.size [] :=
  ⟨_, _, Array.getElem?_push_size, .inl ⟨rfl, rfl, rfl⟩, World.ownsRow_nil _ _ _ _⟩
theorem Bd.below {T : TypeId} {w w' : World} {g : Nat} {l : List UInt8} (h : Bd T w g l) (b : Below w.heap.size w w') : Bd T w' g l := by
  have hl := h.lt
  obtain ⟨ad, v, hb, h1, h2⟩ := h
  exact ⟨ad, v, (b.block g hl).trans hb, h1, row_same h2 (fun k hk => b.block k (h2.lt k hk).2)⟩
theorem Bd.same {T : TypeId} {w w' : World} {g : Nat} {l : List UInt8} (h : Bd T w g l) (b : ∀ k, g ≤ k → k < w.heap.size → w'.heap[k]? = w.heap[k]?) : Bd T w' g l := by
  have hl := h.lt
  obtain ⟨ad, v, hb, h1, h2⟩ := h
  exact ⟨ad, v, (b g (Nat.le_refl _) hl).trans hb, h1, row_same h2 (fun k hk => b k (by have := (h2.lt k hk).1; omega) (h2.lt k hk).2)⟩

/-- The check ahead of a write. -/
theorem cpC_any (T : TypeId) (hT : BT T) (g : Nat) (l : List UInt8) (w : World) (h : Bd T w g l) :
    Calls Try.prog 36 #[.pointer (some ⟨g, 0, none⟩)] w fun e w' => e = .returned (.tuple #[]) ∧ (∃ v, w'.heap[g]? = some (.cells #[.pointer (some ⟨g, 0, none⟩), v] T (0, 0)) ∧ w'.ownsRow (g + 1) 5 1 v l.length (Lib.byteCells l)) ∧ Below g w w' := by
  obtain ⟨ad, v, hb, h1, h2⟩ := h
  rcases h1 with ⟨rfl, rfl, rfl⟩ | rfl
  · refine (cpC_fresh T hT g w (by rw [Lib.cell_of_heap hb]; rfl) (by simp [World.shape?, hb]) (Lib.frozen_of_heap hb 0)).mono ?_
    rintro e w' ⟨rfl, rfl⟩
    refine ⟨rfl, ⟨.slice none 0 0, ?_, World.ownsRow_nil _ _ _ _⟩, (Below.refl g w).setCell (p := ⟨g, 0, none⟩) (Nat.le_refl _) _⟩
    simp [World.setCell, Array.getElem?_modify, hb]
  · refine (cpC_used g w (by rw [Lib.cell_of_heap hb]; rfl)).mono ?_
    rintro e w' ⟨rfl, rfl⟩
    exact ⟨rfl, ⟨v, hb, h2⟩, Below.refl g _⟩
/-- A builder whose slice has grown. -/
theorem Bd.regrow {T : TypeId} {w w1 w2 : World} {g : Nat} {l : List UInt8} {v v' : Value} (b0 : Below g w w1) (hl : g < w1.heap.size) (hb : w1.heap[g]? = some (.cells #[.pointer (some ⟨g, 0, none⟩), v] T (0, 0))) (G : w1.grownBy w2 v.ownBlock) (ho : ∀ k, v.ownBlock = some k → g + 1 ≤ k) (hown : w2.ownsRow (g + 1) 5 1 v' l.length (Lib.byteCells l)) :
    Bd T (w2.setCell ⟨g, 1, none⟩ v') g l ∧ Below g w (w2.setCell ⟨g, 1, none⟩ v') ∧ w2.heap[g]? = some (.cells #[.pointer (some ⟨g, 0, none⟩), v] T (0, 0)) := by
  have eg : w2.heap[g]? = some (.cells #[.pointer (some ⟨g, 0, none⟩), v] T (0, 0)) := (G.block g hl (fun e => by have := ho g e.symm; omega)).trans hb
  refine ⟨⟨.pointer (some ⟨g, 0, none⟩), v', ?_, .inr rfl, row_same hown (fun k hk => Below.heap_setCell w2 _ _ k (by have := (hown.lt k hk).1; show k ≠ g; omega))⟩, ?_, eg⟩
  · simp [World.setCell, Array.getElem?_modify, eg]
  · exact (b0.grown G (by omega) (fun k hk => by have := ho k hk; omega)).setCell (p := ⟨g, 1, none⟩) (Nat.le_refl _) _

set_option maxHeartbeats 1000000 in
set_option maxRecDepth 100000 in
theorem wbyte_any (T : TypeId) (hT : BT T) (g : Nat) (l : List UInt8) (b : UInt8) (w : World) (h : Bd T w g l) (hlen : l.length ≤ 1073741824) :
    Calls Try.prog 38 #[.pointer (some ⟨g, 0, none⟩), .int .u8 (b.toNat : Int)] w fun e w' => e = .returned .nilIface ∧ Bd T w' g (l ++ [b]) ∧ Below g w w' := by
  obtain ⟨i0, hi, hz0, hz1, hz2⟩ := info_parts infoU8
  have hbw := h.lt
  go_enter Try.func38, Try.ntmps38
  go_wp2_with fail
  refine (cpC_any T hT g l w h).mono ?_
  rintro e w1 ⟨rfl, ⟨v, hb, hown⟩, b1⟩
  have hl1 : g < w1.heap.size := (Array.getElem?_eq_some_iff.1 hb).1
  have c1 : w1.cell? ⟨g, 1, none⟩ = some v := by rw [Lib.cell_of_heap hb]; rfl
  obtain ⟨v', w2, hr, hown', hgrow, -, -⟩ := run_append_own_at (P := Try.prog) (w1.alloc (.cells #[.int .u8 (b.toNat : Int)] 5)) (g + 1) 37 37 5 i0 (.int .u8 0) 1 1 undTB hi hz0 hz1 hz2 rfl (by decide) v l.length (Lib.byteCells l) (hown.alloc _) ⟨w1.heap.size, 0, none⟩ 1 1 [.int .u8 (b.toNat : Int)] rfl (fun j u hj => by
      match j, hj with
      | 0, hj => simp at hj; subst hj; exact (World.cell?_alloc_new w1 _ _ 0).trans rfl) (by intro u hu; simp at hu; subst hu; rfl) (by unfold maxLen; omega) (by omega) (by rw [World.size_alloc]; omega)
  have G2 : w1.grownBy w2 v.ownBlock := (World.grownBy_alloc w1 _ _).trans hgrow
  obtain ⟨hX, hB, hb2⟩ := Bd.regrow (l := l ++ [b]) b1 hl1 hb G2 (fun k hk => (hown.lt k hk).1) (by rw [← bytes_app, List.length_append]; exact hown')
  have f1 : w2.frozen? ⟨g, 1, none⟩ = false := Lib.frozen_of_heap hb2 1
  have d1 : w2.cell? ⟨g, 1, none⟩ = some v := by rw [Lib.cell_of_heap hb2]; rfl
  obtain ⟨ao, cap, rfl⟩ := slice_of_row hown'
  have HX : Hid (Bd T (w2.setCell ⟨g, 1, none⟩ (.slice ao (l.length + 1) cap)) g (l ++ [b])) := hX
  have HB : Hid (Below g w (w2.setCell ⟨g, 1, none⟩ (.slice ao (l.length + 1) cap))) := hB
  obtain ⟨p0, cc0, rfl⟩ := slice_of_row hown
  clear hX G2 hgrow hown' hown hb hb2 hB b1 h
  go_wp2_with (first | (refine wpList_app_is (by rfl) 37 37 (.tmp 11) (.tmp 13) (by rfl) _ _ _ _ (by rfl) (by rfl) hr ?_))
  go_ret
  exact ⟨rfl, HX.out, HB.out⟩

set_option maxHeartbeats 1000000 in
set_option maxRecDepth 100000 in
theorem wstr_any (T : TypeId) (hT : BT T) (g : Nat) (l t : List UInt8) (w : World) (h : Bd T w g l) (hlen : l.length + t.length ≤ 1073741824) :
    Calls Try.prog 18 #[.pointer (some ⟨g, 0, none⟩), .string (ba t)] w fun e w' => e = .returned (.tuple #[.int .i64 (t.length : Int), .nilIface]) ∧ Bd T w' g (l ++ t) ∧ Below g w w' := by
  obtain ⟨i0, hi, hz0, hz1, hz2⟩ := info_parts infoU8
  have hbw := h.lt
  have hts := ba_size t
  go_enter Try.func18, Try.ntmps18
  go_wp2_with fail
  refine (cpC_any T hT g l w h).mono ?_
  rintro e w1 ⟨rfl, ⟨v, hb, hown⟩, b1⟩
  have hl1 : g < w1.heap.size := (Array.getElem?_eq_some_iff.1 hb).1
  have c1 : w1.cell? ⟨g, 1, none⟩ = some v := by rw [Lib.cell_of_heap hb]; rfl
  obtain ⟨v', w2, hr, hown', hgrow, -⟩ := Lib.run_append_own_string (P := Try.prog) w1 (g + 1) 37 9 37 5 i0 undTB Try.underlying9 hi hz0 hz1 hz2 v l.length (Lib.byteCells l) hown (ba t) (by unfold maxLen; omega) (by omega) (by omega)
  have eC : Lib.byteCells l ++ Lib.strCells (ba t) = Lib.byteCells (l ++ t) := by rw [Lib.strCells_eq, ← bytes_app]; rfl
  obtain ⟨hX, hB, hb2⟩ := Bd.regrow (l := l ++ t) b1 hl1 hb hgrow (fun k hk => (hown.lt k hk).1) (by rw [← eC, List.length_append, ← hts]; exact hown')
  have f1 : w2.frozen? ⟨g, 1, none⟩ = false := Lib.frozen_of_heap hb2 1
  have d1 : w2.cell? ⟨g, 1, none⟩ = some v := by rw [Lib.cell_of_heap hb2]; rfl
  obtain ⟨ao, cap, rfl⟩ := slice_of_row hown'
  have HX : Hid (Bd T (w2.setCell ⟨g, 1, none⟩ (.slice ao (l.length + (ba t).size) cap)) g (l ++ t)) := hX
  have HB : Hid (Below g w (w2.setCell ⟨g, 1, none⟩ (.slice ao (l.length + (ba t).size) cap))) := hB
  obtain ⟨p0, cc0, rfl⟩ := slice_of_row hown
  clear hX hgrow hown' hown hb hb2 hB b1 h eC
  go_wp2_with (first | (refine wpList_app_is (by rfl) 37 9 (.tmp 12) (.tmp 13) (by rfl) _ _ _ _ (by rfl) (by rfl) hr ?_))
  go_ret2
  exact ⟨rfl, HX.out, HB.out⟩

set_option maxHeartbeats 2000000 in
set_option maxRecDepth 100000 in
theorem bstr_any (T : TypeId) (g : Nat) (l : List UInt8) (w : World) (h : Bd T w g l) :
    Calls Try.prog 17 #[.pointer (some ⟨g, 0, none⟩)] w fun e w' => e = .returned (.string (ba l)) ∧ Below g w w' := by
  obtain ⟨ad, v, hb, h1, h2⟩ := h
  have c1 : w.cell? ⟨g, 1, none⟩ = some v := by rw [Lib.cell_of_heap hb]; rfl
  by_cases h0 : l = []
  · subst h0
    rcases h2.2 with ⟨rfl, _⟩ | ⟨k, cap, cur, rfl, hbg, hg, hnc, hcm, hcs, htake⟩
    · have hSD : (Builtin.unsafeSliceData_ #[37] 91 #[.slice none 0 0]).run Try.prog w.drew = .ok (.pointer none) w.drew := Lib.run_unsafeSliceData_nil _ _ _ _ _
      have hUS : (Builtin.unsafeString_ #[91, 3] 9 #[.pointer none, .int .i64 0]).run Try.prog w.drew = .ok (.string .empty) w.drew := Lib.run_unsafeString_none _ _ _ _ _
      clear h1 h2 hb
      go_enter Try.func17, Try.ntmps17
      go_wp2_with fail
      go_region
      all_goals (
        go_wp2
        go_ret
        exact ⟨rfl, Below.drew (Below.refl g w)⟩)
    · by_cases hc : cap = 0
      · subst hc
        have hSD : (Builtin.unsafeSliceData_ #[37] 91 #[.slice (some ⟨k, 0, none⟩) 0 0]).run Try.prog w.drew = .ok (.pointer (some ⟨w.heap.size, 0, none⟩)) (w.drew.alloc (.view ⟨k, 0, none⟩ 5)) := Lib.run_unsafeSliceData_zero w.drew _ _ 5 undPU8 ⟨k, 0, none⟩ 0 (5, cur.size) (by have hg' : w.drew.heap[k]? = some (.cells cur 5 (0, 0)) := hg; simp [World.shape?, hg'])
        have hUS : ∀ W p, (Builtin.unsafeString_ #[91, 3] 9 #[.pointer p, .int .i64 0]).run Try.prog W = .ok (.string .empty) W := fun W p => Lib.run_unsafeString_none W _ _ _ _
        have hgz : g < w.heap.size := (Array.getElem?_eq_some_iff.1 hb).1
        have c2 : (w.drew.alloc (.view ⟨k, 0, none⟩ 5)).cell? ⟨g, 1, none⟩ = some (.slice (some ⟨k, 0, none⟩) 0 0) := (World.cell?_of_block (w := w) (a := ⟨g, 1, none⟩) (Below.heap_alloc w.drew _ g hgz)).trans c1
        clear h1 h2 hb htake hg hcs
        go_enter Try.func17, Try.ntmps17
        go_wp2_with fail
        go_region
        all_goals (
          go_wp2
          go_ret
          exact ⟨rfl, (Below.drew (Below.refl g w)).alloc (by show g ≤ w.heap.size; omega) _⟩)
      · have hSD : (Builtin.unsafeSliceData_ #[37] 91 #[.slice (some ⟨k, 0, none⟩) 0 cap]).run Try.prog w.drew = .ok (.pointer (some ⟨k, 0, none⟩)) w.drew := Lib.run_unsafeSliceData_row _ _ _ _ _ _ hc
        have hUS : (Builtin.unsafeString_ #[91, 3] 9 #[.pointer (some ⟨k, 0, none⟩), .int .i64 0]).run Try.prog w.drew = .ok (.string .empty) w.drew := Lib.run_unsafeString_none _ _ _ _ _
        clear h1 h2 hb htake hg hcs
        go_enter Try.func17, Try.ntmps17
        go_wp2_with fail
        go_region
        all_goals (
          go_wp2
          go_ret
          exact ⟨rfl, Below.drew (Below.refl g w)⟩)
  · have hl0 : l.length ≠ 0 := by simpa using h0
    obtain ⟨k, cap, cur, rfl, hbg, hg, hnc, hcm, hcs, htake⟩ : ∃ k cap cur, v = .slice (some ⟨k, 0, none⟩) l.length cap ∧ g + 1 ≤ k ∧ w.heap[k]? = some (.cells cur 5 (0, 0)) ∧ l.length ≤ cap ∧ cap ≤ maxLen ∧ cur.size = cap * 1 ∧ cur.toList.take (l.length * 1) = Lib.byteCells l := by
      rcases h2.2 with ⟨_, hz⟩ | ⟨k, cap, cur, hv, r⟩
      · exact absurd hz hl0
      · exact ⟨k, cap, cur, hv, r⟩
    have hSD : (Builtin.unsafeSliceData_ #[37] 91 #[.slice (some ⟨k, 0, none⟩) l.length cap]).run Try.prog w.drew = .ok (.pointer (some ⟨k, 0, none⟩)) w.drew :=
      Lib.run_unsafeSliceData_row _ _ _ _ _ _ (by omega)
    have hUS : (Builtin.unsafeString_ #[91, 3] 9 #[.pointer (some ⟨k, 0, none⟩), .int .i64 l.length]).run Try.prog w.drew = .ok (.string ⟨l.toArray⟩) (w.drew.freeze ⟨k, 0, none⟩ l.length) := by
      refine Lib.run_unsafeString_row w.drew 91 3 9 5 undPU8 cellsB k cur.size (by have hg' : w.drew.heap[k]? = some (.cells cur 5 (0, 0)) := hg; simp [World.shape?, hg']) l h0 (by omega) (by unfold maxLen at hcm; omega) ?_
      intro j x hx
      have := h2.cells (g := k) rfl j (.int .u8 x.toNat) (by simp [Lib.byteCells, hx])
      exact this
    clear h1 h2 hb htake hcs hg
    go_enter Try.func17, Try.ntmps17
    go_wp2_with fail
    go_region
    all_goals (
      go_wp2
      go_ret
      exact ⟨rfl, Lib.below_freeze (Below.drew (Below.refl g w)) (p := ⟨k, 0, none⟩) (by show g ≤ k; omega) _⟩)

end Go.Proofs.Ytljcbibcdajhiaa.NB

namespace Go.Proofs.Ytljcbibcdajhiaa.NB
open Go.RowKit Go.Proofs.Ytljcbibcdajhiaa

/-- What is no row of bytes, and isn't block g, is left alone. -/
structure Bk (g : Nat) (w w' : World) : Prop where
  size : w.heap.size ≤ w'.heap.size
  keep : ∀ j, j < w.heap.size → j ≠ g → (∀ cur fz, w.heap[j]? ≠ some (.cells cur 5 fz)) → w'.heap[j]? = w.heap[j]?
theorem Bk.refl (g : Nat) (w : World) : Bk g w w := ⟨Nat.le_refl _, fun _ _ _ _ => rfl⟩
theorem Bk.trans {g : Nat} {w w1 w2 : World} (h : Bk g w w1) (k : Bk g w1 w2) : Bk g w w2 :=
  ⟨Nat.le_trans h.size k.size, fun j h1 h2 h3 => by
    have e := h.keep j h1 h2 h3
    exact (k.keep j (Nat.lt_of_lt_of_le h1 h.size) h2 (fun cur fz hc => h3 cur fz (by rw [← e]; exact hc))).trans e⟩
theorem Bk.setCell (g : Nat) (w : World) (j : Nat) (v : Value) : Bk g w (w.setCell ⟨g, j, none⟩ v) := ⟨by rw [World.size_setCell]; exact Nat.le_refl _, fun k _ hne _ => Below.heap_setCell w ⟨g, j, none⟩ v k hne⟩
theorem Bk.grown {g : Nat} {w w' : World} {r : Option Nat} (G : w.grownBy w' r) (hr : ∀ k, r = some k → ∃ cur fz, w.heap[k]? = some (.cells cur 5 fz)) : Bk g w w' :=
  ⟨G.size, fun j h1 _ h3 => G.block j h1 (fun e => by obtain ⟨cur, fz, hc⟩ := hr j e.symm; exact h3 cur fz hc)⟩
theorem Bk.drew (g : Nat) (w : World) : Bk g w w.drew := ⟨Nat.le_refl _, fun _ _ _ _ => rfl⟩
theorem Bk.below {g : Nat} {w w' : World} (b : Below w.heap.size w w') : Bk g w w' := ⟨b.size, fun j h1 _ _ => b.block j h1⟩
theorem row_u8 {w : World} {B : Nat} {v : Value} {n : Nat} {xs : List Value} (h : w.ownsRow B 5 1 v n xs) : ∀ k, v.ownBlock = some k → ∃ cur fz, w.heap[k]? = some (.cells cur 5 fz) := by
  intro k hk
  rcases h.2 with ⟨rfl, _⟩ | ⟨g, cap, cur, rfl, _, hg, _⟩
  · cases hk
  · cases hk; exact ⟨cur, _, hg⟩

/-- The check ahead of a write. -/
theorem cpK_any (T : TypeId) (hT : BT T) (g : Nat) (l : List UInt8) (w : World) (h : Bd T w g l) :
    Calls Try.prog 36 #[.pointer (some ⟨g, 0, none⟩)] w fun e w' => e = .returned (.tuple #[]) ∧ (∃ v, w'.heap[g]? = some (.cells #[.pointer (some ⟨g, 0, none⟩), v] T (0, 0)) ∧ w'.ownsRow (g + 1) 5 1 v l.length (Lib.byteCells l)) ∧ Below g w w' ∧ Bk g w w' := by
  obtain ⟨ad, v, hb, h1, h2⟩ := h
  rcases h1 with ⟨rfl, rfl, rfl⟩ | rfl
  · refine (cpC_fresh T hT g w (by rw [Lib.cell_of_heap hb]; rfl) (by simp [World.shape?, hb]) (Lib.frozen_of_heap hb 0)).mono ?_
    rintro e w' ⟨rfl, rfl⟩
    refine ⟨rfl, ⟨.slice none 0 0, ?_, World.ownsRow_nil _ _ _ _⟩, (Below.refl g w).setCell (p := ⟨g, 0, none⟩) (Nat.le_refl _) _, Bk.setCell g w 0 _⟩
    simp [World.setCell, Array.getElem?_modify, hb]
  · refine (cpC_used g w (by rw [Lib.cell_of_heap hb]; rfl)).mono ?_
    rintro e w' ⟨rfl, rfl⟩
    exact ⟨rfl, ⟨v, hb, h2⟩, Below.refl g _, Bk.refl g _⟩
/-- A builder whose slice has grown. -/
theorem Bd.regrowK {T : TypeId} {w w1 w2 : World} {g : Nat} {l : List UInt8} {v v' : Value} (b0 : Below g w w1) (k0 : Bk g w w1) (hl : g < w1.heap.size) (hb : w1.heap[g]? = some (.cells #[.pointer (some ⟨g, 0, none⟩), v] T (0, 0))) (G : w1.grownBy w2 v.ownBlock) (ho : ∀ k, v.ownBlock = some k → g + 1 ≤ k ∧ ∃ cur fz, w1.heap[k]? = some (.cells cur 5 fz)) (hown : w2.ownsRow (g + 1) 5 1 v' l.length (Lib.byteCells l)) :
    Bd T (w2.setCell ⟨g, 1, none⟩ v') g l ∧ Below g w (w2.setCell ⟨g, 1, none⟩ v') ∧ w2.heap[g]? = some (.cells #[.pointer (some ⟨g, 0, none⟩), v] T (0, 0)) ∧ Bk g w (w2.setCell ⟨g, 1, none⟩ v') := by
  have eg : w2.heap[g]? = some (.cells #[.pointer (some ⟨g, 0, none⟩), v] T (0, 0)) := (G.block g hl (fun e => by have := (ho g e.symm).1; omega)).trans hb
  refine ⟨⟨.pointer (some ⟨g, 0, none⟩), v', ?_, .inr rfl, row_same hown (fun k hk => Below.heap_setCell w2 _ _ k (by have := (hown.lt k hk).1; show k ≠ g; omega))⟩, ?_, eg, ?_⟩
  · simp [World.setCell, Array.getElem?_modify, eg]
  · exact (b0.grown G (by omega) (fun k hk => by have := (ho k hk).1; omega)).setCell (p := ⟨g, 1, none⟩) (Nat.le_refl _) _
  · exact (k0.trans (Bk.grown G (fun k hk => (ho k hk).2))).trans (Bk.setCell g w2 1 _)

set_option maxHeartbeats 1000000 in
set_option maxRecDepth 100000 in
theorem wstrK_any (T : TypeId) (hT : BT T) (g : Nat) (l t : List UInt8) (w : World) (h : Bd T w g l) (hlen : l.length + t.length ≤ 1073741824) :
    Calls Try.prog 18 #[.pointer (some ⟨g, 0, none⟩), .string (ba t)] w fun e w' => e = .returned (.tuple #[.int .i64 (t.length : Int), .nilIface]) ∧ Bd T w' g (l ++ t) ∧ Below g w w' ∧ Bk g w w' := by
  obtain ⟨i0, hi, hz0, hz1, hz2⟩ := info_parts infoU8
  have hbw := h.lt
  have hts := ba_size t
  go_enter Try.func18, Try.ntmps18
  go_wp2_with fail
  refine (cpK_any T hT g l w h).mono ?_
  rintro e w1 ⟨rfl, ⟨v, hb, hown⟩, b1, k1⟩
  have hl1 : g < w1.heap.size := (Array.getElem?_eq_some_iff.1 hb).1
  have c1 : w1.cell? ⟨g, 1, none⟩ = some v := by rw [Lib.cell_of_heap hb]; rfl
  obtain ⟨v', w2, hr, hown', hgrow, -⟩ := Lib.run_append_own_string (P := Try.prog) w1 (g + 1) 37 9 37 5 i0 undTB Try.underlying9 hi hz0 hz1 hz2 v l.length (Lib.byteCells l) hown (ba t) (by unfold maxLen; omega) (by omega) (by omega)
  have eC : Lib.byteCells l ++ Lib.strCells (ba t) = Lib.byteCells (l ++ t) := by rw [Lib.strCells_eq, ← bytes_app]; rfl
  obtain ⟨hX, hB, hb2, hK⟩ := Bd.regrowK (l := l ++ t) b1 k1 hl1 hb hgrow (fun k hk => ⟨(hown.lt k hk).1, row_u8 hown k hk⟩) (by rw [← eC, List.length_append, ← hts]; exact hown')
  have f1 : w2.frozen? ⟨g, 1, none⟩ = false := Lib.frozen_of_heap hb2 1
  have d1 : w2.cell? ⟨g, 1, none⟩ = some v := by rw [Lib.cell_of_heap hb2]; rfl
  obtain ⟨ao, cap, rfl⟩ := slice_of_row hown'
  have HX : Hid (Bd T (w2.setCell ⟨g, 1, none⟩ (.slice ao (l.length + (ba t).size) cap)) g (l ++ t)) := hX
  have HB : Hid (Below g w (w2.setCell ⟨g, 1, none⟩ (.slice ao (l.length + (ba t).size) cap)) ∧ Bk g w (w2.setCell ⟨g, 1, none⟩ (.slice ao (l.length + (ba t).size) cap))) := ⟨hB, hK⟩
  obtain ⟨p0, cc0, rfl⟩ := slice_of_row hown
  clear hX hgrow hown' hown hb hb2 hB b1 h eC hK k1
  go_wp2_with (first | (refine wpList_app_is (by rfl) 37 9 (.tmp 12) (.tmp 13) (by rfl) _ _ _ _ (by rfl) (by rfl) hr ?_))
  go_ret2
  exact ⟨rfl, HX.out, HB.out⟩

end Go.Proofs.Ytljcbibcdajhiaa.NB
