/- depotref14's Rewrite, walked (own text of the verifier). -/
import Derived.Test.YtojefckhefanhabSaD
namespace Go.Proofs.Ytojefckhefanhab
open Go.RowKit
namespace Sc

theorem app_int (W : World) (B : Nat) (v : Value) (Ps : List Nat) (m : Nat) (hr : W.ownsRow B 3 1 v Ps.length (pv_ Ps)) (hB : B ≤ W.heap.size) (hl : Ps.length ≤ 1099511627776) :
    ∃ v' W2, (Builtin.append_ #[35, 35] 35 #[v, .slice (some ⟨W.heap.size, 0, none⟩) 1 1]).run Try.prog (W.alloc (.cells #[.int .i64 (m : Int)] 3)) = .ok v' W2 ∧ W2.ownsRow B 3 1 v' (Ps ++ [m]).length (pv_ (Ps ++ [m])) ∧ W.grownBy W2 v.ownBlock := by
  obtain ⟨i0, hi, hz0, hz1, hz2⟩ := info_parts info3
  obtain ⟨v', w2, h1, h2, h3, _, _⟩ := run_append_own_at (P := Try.prog) (W.alloc (.cells #[.int .i64 (m : Int)] 3)) B 35 35 3 i0 (.int .i64 0) 1 8 und41 hi hz0 hz1 hz2 rfl (by decide) v Ps.length (pv_ Ps) (hr.alloc _) ⟨W.heap.size, 0, none⟩ 1 1 [.int .i64 (m : Int)] rfl (fun j u hj =>
      match j, hj with
      | 0, hj => by simp at hj; subst hj; exact (World.cell?_alloc_new W _ _ 0).trans rfl) (by intro u hu; simp at hu; subst hu; rfl) (by unfold maxLen; omega) (by omega) (by rw [World.size_alloc]; omega)
  refine ⟨v', w2, h1, ?_, (World.grownBy_alloc W _ _).trans h3⟩
  rw [List.length_append, show pv_ (Ps ++ [m]) = pv_ Ps ++ [.int .i64 (m : Int)] by unfold pv_; simp]
  exact h2
theorem app_byte (W : World) (B : Nat) (v : Value) (l : List UInt8) (b : UInt8) (hr : W.ownsRow B 5 1 v l.length (bv l)) (hB : B ≤ W.heap.size) (hl : l.length ≤ 1099511627776) :
    ∃ v' W2, (Builtin.append_ #[31, 31] 31 #[v, .slice (some ⟨W.heap.size, 0, none⟩) 1 1]).run Try.prog (W.alloc (.cells #[.int .u8 (b.toNat : Int)] 5)) = .ok v' W2 ∧ W2.ownsRow B 5 1 v' (l ++ [b]).length (bv (l ++ [b])) ∧ W.grownBy W2 v.ownBlock := by
  obtain ⟨i0, hi, hz0, hz1, hz2⟩ := info_parts info5
  obtain ⟨v', w2, h1, h2, h3, _, _⟩ := run_append_own_at (P := Try.prog) (W.alloc (.cells #[.int .u8 (b.toNat : Int)] 5)) B 31 31 5 i0 (.int .u8 0) 1 1 und30 hi hz0 hz1 hz2 rfl (by decide) v l.length (bv l) (hr.alloc _) ⟨W.heap.size, 0, none⟩ 1 1 [.int .u8 (b.toNat : Int)] rfl (fun j u hj =>
      match j, hj with
      | 0, hj => by simp at hj; subst hj; exact (World.cell?_alloc_new W _ _ 0).trans rfl) (by intro u hu; simp at hu; subst hu; rfl) (by unfold maxLen; omega) (by omega) (by rw [World.size_alloc]; omega)
  refine ⟨v', w2, h1, ?_, (World.grownBy_alloc W _ _).trans h3⟩
  rw [List.length_append, show bv (l ++ [b]) = bv l ++ [.int .u8 (b.toNat : Int)] by unfold bv; simp]
  exact h2
theorem bv_cells (l : List UInt8) : Lib.byteCells l = bv l := by simp [Lib.byteCells, bv]
theorem app_str (W : World) (B : Nat) (v : Value) (l : List UInt8) (t : ByteArray) (hr : W.ownsRow B 5 1 v l.length (bv l)) (hB : B ≤ W.heap.size) (hl : l.length + t.size ≤ 1099511627776) :
    ∃ v' W2, (Builtin.append_ #[31, 9] 31 #[v, .string t]).run Try.prog W = .ok v' W2 ∧ W2.ownsRow B 5 1 v' (l ++ t.data.toList).length (bv (l ++ t.data.toList)) ∧ W.grownBy W2 v.ownBlock := by
  obtain ⟨i0, hi, hz0, hz1, hz2⟩ := info_parts info5
  obtain ⟨v', w2, h1, h2, h3, -⟩ := Lib.run_append_own_string (P := Try.prog) W B 31 9 31 5 i0 und30 Try.underlying9 hi hz0 hz1 hz2 v l.length (bv l) hr t (by unfold maxLen; omega) (by omega) hB
  refine ⟨v', w2, h1, ?_, h3⟩
  have e : bv l ++ Lib.strCells t = bv (l ++ t.data.toList) := by
    rw [Lib.strCells_eq, ← bv_cells, ← bv_cells, ← bytes_app]
  rw [← e, List.length_append, size_list]
  exact h2
theorem conv_row (W : World) (B : Nat) (v : Value) (l : List UInt8) (hr : W.ownsRow B 5 1 v l.length (bv l)) : (convert 31 9 v).run Try.prog W = .ok (.string (ba l)) W := by
  have h0 := hr
  rcases hr.2 with ⟨rfl, e0⟩ | ⟨b, cap, cur, rfl, hBb, hb, h1, _, h3, h4⟩
  · have e : l = [] := List.eq_nil_of_length_eq_zero e0
    rw [e]
    exact run_convert_bytes_nil W 31 5 Try.underlying31 Try.underlying5 0 0 9 Try.underlying9
  · exact run_convert_bytes_back (P := Try.prog) W 31 9 5 ⟨b, 0, none⟩ cap l und30 Try.underlying5 Try.underlying9 (fun j hj => World.ownsRow.cells (g := b) h0 rfl j _ (by unfold bv; rw [List.getElem?_map, List.getElem?_eq_getElem hj]; rfl))
theorem row_apart {W : World} {B C : Nat} {v u : Value} {n m : Nat} {xs ys : List Value} (h : W.ownsRow B 5 1 v n xs) (k : W.ownsRow C 3 1 u m ys) : ∀ b, v.ownBlock = some b → u.ownBlock ≠ some b := fun b hb hu => by
  obtain ⟨_, h1⟩ := row_cells h b hb
  obtain ⟨_, _, h2⟩ := row_i64 k b hu
  rw [h1] at h2
  injection h2 with h2
  injection h2 with _ h2
  exact absurd h2 (by decide)
theorem row_gb {W W' : World} {B : Nat} {e : TypeId} {q : Nat} {v : Value} {n : Nat} {xs : List Value} {r : Option Nat} (h : W.ownsRow B e q v n xs) (G : W.grownBy W' r) (hr : ∀ b, r = some b → v.ownBlock ≠ some b) : W'.ownsRow B e q v n xs :=
  row_same h fun k hk => G.block k (World.ownsRow.lt h k hk).2 (fun e => hr k e.symm hk)

end Sc
end Go.Proofs.Ytojefckhefanhab
