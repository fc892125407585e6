/- The document's plain (for PackWrites). -/
import Derived.Test.YthjpmiidbgaiaaaPwB
namespace Go.Proofs.Ythjpmiidbgaiaaa
open Go.RowKit Go.Maps

theorem plT_big (l : List UInt8) (f : Nat) (hf : l.length ≤ f) (h : 128 < l.length) : plT f l = 127 :: (l.take 128 ++ plT f (l.drop 128)) := by
  obtain ⟨g, rfl⟩ : ∃ g, f = g + 1 := ⟨f - 1, by omega⟩
  rw [plT, if_neg (by omega), show min 128 l.length - 1 = 127 by omega, plT_fuel g (g + 1) (l.drop 128) (by rw [List.length_drop]; omega) (by rw [List.length_drop]; omega)]
  rfl
theorem plT_small (l : List UInt8) (f : Nat) (hf : l.length ≤ f) (h : l.length ≤ 128) (h0 : 0 < l.length) : plT f l = UInt8.ofNat (l.length - 1) :: l := by
  obtain ⟨g, rfl⟩ : ∃ g, f = g + 1 := ⟨f - 1, by omega⟩
  rw [plT, if_neg (by omega), show min 128 l.length = l.length by omega, List.take_of_length_le (by omega), List.drop_of_length_le (by omega)]
  cases g with
  | zero => simp [plT]
  | succ g => simp [plT]

/-- One byte put to an owned row. -/
theorem row_byte {w : World} {B : Nat} {v : Value} {out : List UInt8} (h : w.ownsRow B 5 1 v out.length (Lib.byteCells out)) (hB : B ≤ w.heap.size) (b : UInt8) (hl : out.length ≤ 1073741824) :
    ∃ p c w', (Builtin.append_ #[45, 45] 45 #[v, .slice (some ⟨w.heap.size, 0, none⟩) 1 1]).run Try.prog (w.alloc (.cells #[.int .u8 (b.toNat : Int)] 5)) = .ok (.slice p (out ++ [b]).length c) w' ∧ w'.ownsRow B 5 1 (.slice p (out ++ [b]).length c) (out ++ [b]).length (Lib.byteCells (out ++ [b])) ∧ w.grownBy w' v.ownBlock := by
  obtain ⟨i0, hi, hz0, hz1, hz2⟩ := info_parts infoU8
  obtain ⟨v', w2, hr, hown', hgrow, -, -⟩ := run_append_own_at (P := Try.prog) (w.alloc (.cells #[.int .u8 (b.toNat : Int)] 5)) B 45 45 5 i0 (.int .u8 0) 1 1 undTB hi hz0 hz1 hz2 rfl (by decide) v out.length (Lib.byteCells out) (h.alloc _) ⟨w.heap.size, 0, none⟩ 1 1 [.int .u8 (b.toNat : Int)] rfl (fun j u hj => by
      match j, hj with
      | 0, hj => simp at hj; subst hj; exact (World.cell?_alloc_new w _ _ 0).trans rfl) (by intro u hu; simp at hu; subst hu; rfl) (by unfold maxLen; omega) (by omega) (by rw [World.size_alloc]; omega)
  have HO : w2.ownsRow B 5 1 v' (out ++ [b]).length (Lib.byteCells (out ++ [b])) := by rw [← bytes_app, List.length_append]; exact hown'
  obtain ⟨p, c, rfl⟩ : ∃ p c, v' = .slice p (out ++ [b]).length c := by
    rcases HO.2 with ⟨rfl, e⟩ | ⟨k, c, _, rfl, _⟩
    · exact ⟨none, 0, by rw [e]⟩
    · exact ⟨_, _, rfl⟩
  exact ⟨p, c, w2, hr, HO, (World.grownBy_alloc w _ _).trans hgrow⟩
/-- A text put to an owned row. -/
theorem row_text_app {w : World} {B : Nat} {v : Value} {out : List UInt8} (h : w.ownsRow B 5 1 v out.length (Lib.byteCells out)) (hB : B ≤ w.heap.size) (t : List UInt8) (hl : out.length + t.length ≤ 1073741824) :
    ∃ p c w', (Builtin.append_ #[45, 9] 45 #[v, .string (ba t)]).run Try.prog w = .ok (.slice p (out ++ t).length c) w' ∧ w'.ownsRow B 5 1 (.slice p (out ++ t).length c) (out ++ t).length (Lib.byteCells (out ++ t)) ∧ w.grownBy w' v.ownBlock := by
  obtain ⟨i0, hi, hz0, hz1, hz2⟩ := info_parts infoU8
  have hts := ba_size t
  obtain ⟨v', w2, hr, hown', hgrow, -⟩ := Lib.run_append_own_string (P := Try.prog) w B 45 9 45 5 i0 undTB Try.underlying9 hi hz0 hz1 hz2 v out.length (Lib.byteCells out) h (ba t) (by unfold maxLen; omega) (by omega) hB
  have HO : w2.ownsRow B 5 1 v' (out ++ t).length (Lib.byteCells (out ++ t)) := by
    rw [← bytes_app, List.length_append, ← hts]
    exact hown'
  obtain ⟨p, c, rfl⟩ : ∃ p c, v' = .slice p (out ++ t).length c := by
    rcases HO.2 with ⟨rfl, e⟩ | ⟨k, c, _, rfl, _⟩
    · exact ⟨none, 0, by rw [e]⟩
    · exact ⟨_, _, rfl⟩
  exact ⟨p, c, w2, hr, HO, hgrow⟩

end Go.Proofs.Ythjpmiidbgaiaaa
