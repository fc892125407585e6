/- strings.Builder's Write, walked (own text of the verifier). -/
import Derived.Test.YtojefckhefanhabScK
namespace Go.Proofs.Ytojefckhefanhab
open Go.RowKit

theorem bv_cells (p : List UInt8) : Sc.bv p = Lib.byteCells p := rfl

set_option maxHeartbeats 1000000 in
set_option maxRecDepth 100000 in
theorem wbytesK_any (T : TypeId) (hT : BT T) (g : Nat) (l p : List UInt8) (y : Value) (w : World) (h : Bd T w g l) (hp : Sc.Txt w y p) (hpg : ∀ x n c, y = .slice (some x) n c → x.block < g) (hlen : l.length + p.length ≤ 1073741824) :
    Calls Try.prog 22 #[.pointer (some ⟨g, 0, none⟩), y] w fun e w' => e = .returned (.tuple #[.int .i64 (p.length : Int), .nilIface]) ∧ Bd T w' g (l ++ p) ∧ Below g w w' ∧ Bk g w w' := by
  obtain ⟨i0, hi, hz0, hz1, hz2⟩ := info_parts infoU8
  have hbw := h.lt
  obtain ⟨x, c, rfl, hcell, _⟩ := hp
  generalize hpl : p.length = pl at *
  go_enter Try.func22, Try.ntmps22
  go_wp2_with fail
  refine (cpK_any T hT g l w h).mono ?_
  rintro e w1 ⟨rfl, ⟨v, hb, hown⟩, b1, k1⟩
  have hl1 : g < w1.heap.size := (Array.getElem?_eq_some_iff.1 hb).1
  have c1 : w1.cell? ⟨g, 1, none⟩ = some v := by rw [Lib.cell_of_heap hb]; rfl
  obtain ⟨v', w2, hr, hown', hgrow⟩ : ∃ v' w2, (Builtin.append_ #[31, 31] 31 #[v, .slice x pl c]).run Try.prog w1 = .ok v' w2 ∧ w2.ownsRow (g + 1) 5 1 v' (l.length + pl) (Lib.byteCells l ++ Lib.byteCells p) ∧ w1.grownBy w2 v.ownBlock := by
    by_cases hz : pl = 0
    · subst hz
      obtain rfl : p = [] := List.eq_nil_of_length_eq_zero hpl
      obtain ⟨p0, c0, hv⟩ := slice_of_row hown
      subst hv
      have hle : l.length ≤ c0 := by
        rcases hown.2 with ⟨h1, h2⟩ | ⟨k, cap, cur, h1, _, _, h2, _⟩
        · injection h1 with _ a b; omega
        · injection h1 with _ a b; omega
      refine ⟨_, w1, run_append_nothing (P := Try.prog) w1 31 31 31 5 i0 undTB hi _ _ _ hle _ ?_, by simpa [Lib.byteCells] using hown, ⟨rfl, rfl, rfl, Nat.le_refl _, fun _ _ _ => rfl⟩⟩
      cases x with
      | none => exact Src.ofNil w1 undTB c
      | some a => exact Src.ofSlice w1 undTB a 0 c [] (by simp) (fun j u hj => by cases hj) (fun u hu => by cases hu)
    · obtain ⟨a, o, rfl, _⟩ := hcell 0 _ (List.getElem?_eq_getElem (by omega))
      have hag : a < g := hpg _ _ _ rfl
      obtain ⟨v', w2, h1, h2, h3, _⟩ := run_append_own_at (P := Try.prog) w1 (g + 1) 31 31 5 i0 (.int .u8 0) 1 1 undTB hi hz0 hz1 hz2 rfl (by omega) v l.length (Lib.byteCells l) hown ⟨a, o, none⟩ pl c (Sc.bv p) (by rw [Sc.bv_len, hpl, Nat.mul_one]) (fun j u hj => by
        obtain ⟨b, hb', rfl⟩ := Sc.bv_at hj
        obtain ⟨a', o', e1, h2⟩ := hcell j b hb'
        injection e1 with e1
        injection e1 with e1 e2
        subst e1; subst e2
        rw [Addr.add_lit]
        exact (b1.cell (p := ⟨a, o + j, none⟩) hag).trans h2) (Sc.bv_one p) (by unfold maxLen; omega) (by omega) (by omega)
      exact ⟨v', w2, h1, h2, h3⟩
  have hts : pl = p.length := hpl.symm
  have eC : Lib.byteCells l ++ Lib.byteCells p = Lib.byteCells (l ++ p) := bytes_app l p
  obtain ⟨hX, hB, hb2, hK⟩ := Bd.regrowK (l := l ++ p) b1 k1 hl1 hb hgrow (fun k hk => ⟨(hown.lt k hk).1, row_u8 hown k hk⟩) (by rw [← eC, List.length_append, ← hts]; exact hown')
  have f1 : w2.frozen? ⟨g, 1, none⟩ = false := Lib.frozen_of_heap hb2 1
  have d1 : w2.cell? ⟨g, 1, none⟩ = some v := by rw [Lib.cell_of_heap hb2]; rfl
  obtain ⟨ao, cap, rfl⟩ := slice_of_row hown'
  have HX : Hid (Bd T (w2.setCell ⟨g, 1, none⟩ (.slice ao (l.length + pl) cap)) g (l ++ p)) := hX
  have HB : Hid (Below g w (w2.setCell ⟨g, 1, none⟩ (.slice ao (l.length + pl) cap)) ∧ Bk g w (w2.setCell ⟨g, 1, none⟩ (.slice ao (l.length + pl) cap))) := ⟨hB, hK⟩
  obtain ⟨p0, cc0, rfl⟩ := slice_of_row hown
  clear hX hK k1 hgrow hown' hown hb hb2 hB b1 h eC hcell hpg hts hpl
  go_wp2_with (first | (refine wpList_app_is (by rfl) 31 31 (.tmp 12) (.tmp 13) (by rfl) _ _ _ _ (by rfl) (by rfl) hr ?_))
  go_ret2
  exact ⟨rfl, HX.out, HB.out⟩
end Go.Proofs.Ytojefckhefanhab
