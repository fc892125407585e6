/- Gathered: SaA SaC SaD SaE. -/
import Derived.Lib.UnsafeStr
import Derived.Test.YtdjjleahfciipaaGreatDoorQR
/- scan's awake, walked (own text of the verifier). -/
namespace Go.Proofs.YtdjjleahfciipaaGreatDoor
open Go.RowKit Go.Sort
namespace Sc

theorem Tx.rt {w : World} {B : Nat} {v : Value} {L : List (List UInt8)} (h : Tx w B v L) : RT w w.heap.size v L := by
  obtain ⟨x, c, e, h⟩ := h
  refine ⟨x, c, e, fun i t ht => ?_⟩
  obtain ⟨b, e1, e2, e3⟩ := h i t ht
  exact ⟨b, 0, e1, World.block_lt_of_cell? _ _ e3, by rw [Nat.zero_add]; exact e3⟩
theorem conv_mark (W : World) (b n c k : Nat) (t : TypeId) (h : W.shape? b = some (t, k)) : (convert 45 45 (.slice (some ⟨b, 0, none⟩) n c)).run Tryz.prog W = .ok (.slice (some ⟨b, 0, none⟩) n c) (W.freeze ⟨b, k, none⟩ 1) := by
  simp [convert, run_underlying und30, run_underlying Tryz.underlying5, Result.andThen, markStringish, h]
theorem cell_freeze (W : World) (p a : Addr) (n : Nat) : (W.freeze p n).cell? a = W.cell? a := by
  unfold World.freeze
  split
  · rfl
  · unfold World.cell?
    simp only [Array.getElem?_modify]
    by_cases e : p.block = a.block
    · rw [if_pos e]
      cases h : W.heap[a.block]? with
      | none => rfl
      | some o => cases o <;> rfl
    · rw [if_neg e]
theorem GF.start {H S : List (List UInt8)} (hS : ∀ h, h ∈ S ↔ h ∈ H) : GF H [] [] S [] :=
  ⟨Nat.le_refl _, rfl, Base.nil _, ⟨List.nodup_nil, fun h => by simp [occB], fun h => by rw [hS]; simp [occB]⟩, Nat.le_refl _⟩
def one_ : ByteArray := ⟨#[48, 49, 50, 51, 52, 53, 54, 55, 56, 57, 97, 98, 99, 100, 102, 103, 104, 105, 106, 107, 108, 109, 110, 112, 113, 114, 115, 118, 119, 120, 121, 122]⟩
def two_ : ByteArray := ⟨#[49, 49, 49, 49, 49, 49, 49, 49, 49, 49, 49, 49, 49, 49, 49, 49, 49, 49, 49, 49, 49, 49, 49, 49, 49, 49, 49, 49, 49, 49, 49, 49]⟩
def xoy : ByteArray := ⟨#[120, 48, 49, 50, 51, 52, 53, 54, 55, 56, 57, 97, 98, 99, 100, 102, 103, 104, 105, 106, 107, 108, 109, 110, 112, 113, 114, 115, 118, 119, 120, 121, 122, 121]⟩
def xty : ByteArray := ⟨#[120, 49, 49, 49, 49, 49, 49, 49, 49, 49, 49, 49, 49, 49, 49, 49, 49, 49, 49, 49, 49, 49, 49, 49, 49, 49, 49, 49, 49, 49, 49, 49, 49, 121]⟩
theorem h_one : hsh one_ = 0 := by decide +kernel
theorem h_two : hsh two_ = 0 := by decide +kernel
theorem rw_xoy : ba (rw' one_.data.toList two_.data.toList xoy.data.toList) = xty := by decide +kernel
theorem pl_xoy : pl one_.data.toList 0 xoy.data.toList = [1] := by decide +kernel
theorem win_xoy : ∀ p, p < 3 → win xoy.data.toList p ≠ two_.data.toList := by decide +kernel
theorem win_xoy1 : win xoy.data.toList 1 = one_.data.toList := by decide +kernel
theorem ne_ot : one_.data.toList ≠ two_.data.toList := by decide +kernel
/-- What stands in the text of awake. -/
theorem fs_xoy {H F : List (List UInt8)} (hH : ∀ h, h ∈ H ↔ h = two_.data.toList ∨ h = one_.data.toList) (nd : F.Nodup) (mem : ∀ h, h ∈ F ↔ h ∈ H ∧ occ h xoy.data.toList) : F = [one_.data.toList] := by
  have h1 : ∀ h, h ∈ F ↔ h = one_.data.toList := fun h => by
    rw [mem, hH]
    constructor
    · rintro ⟨rfl | rfl, p, hp⟩
      · have hl := win_full (l := xoy.data.toList) (p := p) (by rw [hp]; rfl)
        have : xoy.data.toList.length = 34 := by rfl
        exact absurd hp (win_xoy p (by omega))
      · rfl
    · rintro rfl
      exact ⟨.inr rfl, 1, win_xoy1⟩
  match F, nd, h1 with
  | [], _, h1 => exact absurd ((h1 _).2 rfl) (by simp)
  | [a], _, h1 => rw [(h1 a).1 (by simp)]
  | a :: b :: l, nd, h1 =>
    have ha := (h1 a).1 (by simp)
    have hb := (h1 b).1 (by simp)
    rw [ha, hb] at nd
    simp at nd

end Sc
end Go.Proofs.YtdjjleahfciipaaGreatDoor
/- depotref14's At and Within, walked (own text of the verifier). -/
namespace Go.Proofs.YtdjjleahfciipaaGreatDoor
open Go.RowKit
namespace Sc

theorem ext_win (x : ByteArray) (k : Nat) : (x.extract k (k + 32)).toList = win x.data.toList k := by
  rw [ByteArray.toList_eq, ByteArray.data_extract, Array.toList_extract]
  unfold win
  simp [List.extract]
theorem size_list (x : ByteArray) : x.data.toList.length = x.size := by rw [Array.length_toList]; rfl

end Sc
end Go.Proofs.YtdjjleahfciipaaGreatDoor
/- depotref14's Wanted, walked (own text of the verifier). -/
namespace Go.Proofs.YtdjjleahfciipaaGreatDoor
open Go.RowKit
namespace Sc

end Sc
end Go.Proofs.YtdjjleahfciipaaGreatDoor
/- depotref14's Rewrite, walked (own text of the verifier). -/
namespace Go.Proofs.YtdjjleahfciipaaGreatDoor
open Go.RowKit
namespace Sc

theorem app_int (W : World) (B : Nat) (v : Value) (Ps : List Nat) (m : Nat) (hr : W.ownsRow B 3 1 v Ps.length (pv_ Ps)) (hB : B ≤ W.heap.size) (hl : Ps.length ≤ 1099511627776) :
    ∃ v' W2, (Builtin.append_ #[32, 32] 32 #[v, .slice (some ⟨W.heap.size, 0, none⟩) 1 1]).run Tryz.prog (W.alloc (.cells #[.int .i64 (m : Int)] 3)) = .ok v' W2 ∧ W2.ownsRow B 3 1 v' (Ps ++ [m]).length (pv_ (Ps ++ [m])) ∧ W.grownBy W2 v.ownBlock := by
  obtain ⟨i0, hi, hz0, hz1, hz2⟩ := info_parts info3
  obtain ⟨v', w2, h1, h2, h3, _, _⟩ := run_append_own_at (P := Tryz.prog) (W.alloc (.cells #[.int .i64 (m : Int)] 3)) B 32 32 3 i0 (.int .i64 0) 1 8 und41 hi hz0 hz1 hz2 rfl (by decide) v Ps.length (pv_ Ps) (hr.alloc _) ⟨W.heap.size, 0, none⟩ 1 1 [.int .i64 (m : Int)] rfl (fun j u hj =>
      match j, hj with
      | 0, hj => by simp at hj; subst hj; exact (World.cell?_alloc_new W _ _ 0).trans rfl) (by intro u hu; simp at hu; subst hu; rfl) (by unfold maxLen; omega) (by omega) (by rw [World.size_alloc]; omega)
  refine ⟨v', w2, h1, ?_, (World.grownBy_alloc W _ _).trans h3⟩
  rw [List.length_append, show pv_ (Ps ++ [m]) = pv_ Ps ++ [.int .i64 (m : Int)] by unfold pv_; simp]
  exact h2
theorem app_byte (W : World) (B : Nat) (v : Value) (l : List UInt8) (b : UInt8) (hr : W.ownsRow B 5 1 v l.length (bv l)) (hB : B ≤ W.heap.size) (hl : l.length ≤ 1099511627776) :
    ∃ v' W2, (Builtin.append_ #[45, 45] 45 #[v, .slice (some ⟨W.heap.size, 0, none⟩) 1 1]).run Tryz.prog (W.alloc (.cells #[.int .u8 (b.toNat : Int)] 5)) = .ok v' W2 ∧ W2.ownsRow B 5 1 v' (l ++ [b]).length (bv (l ++ [b])) ∧ W.grownBy W2 v.ownBlock := by
  obtain ⟨i0, hi, hz0, hz1, hz2⟩ := info_parts info5
  obtain ⟨v', w2, h1, h2, h3, _, _⟩ := run_append_own_at (P := Tryz.prog) (W.alloc (.cells #[.int .u8 (b.toNat : Int)] 5)) B 45 45 5 i0 (.int .u8 0) 1 1 und30 hi hz0 hz1 hz2 rfl (by decide) v l.length (bv l) (hr.alloc _) ⟨W.heap.size, 0, none⟩ 1 1 [.int .u8 (b.toNat : Int)] rfl (fun j u hj =>
      match j, hj with
      | 0, hj => by simp at hj; subst hj; exact (World.cell?_alloc_new W _ _ 0).trans rfl) (by intro u hu; simp at hu; subst hu; rfl) (by unfold maxLen; omega) (by omega) (by rw [World.size_alloc]; omega)
  refine ⟨v', w2, h1, ?_, (World.grownBy_alloc W _ _).trans h3⟩
  rw [List.length_append, show bv (l ++ [b]) = bv l ++ [.int .u8 (b.toNat : Int)] by unfold bv; simp]
  exact h2
theorem bv_cells (l : List UInt8) : Lib.byteCells l = bv l := by simp [Lib.byteCells, bv]
theorem app_str (W : World) (B : Nat) (v : Value) (l : List UInt8) (t : ByteArray) (hr : W.ownsRow B 5 1 v l.length (bv l)) (hB : B ≤ W.heap.size) (hl : l.length + t.size ≤ 1099511627776) :
    ∃ v' W2, (Builtin.append_ #[45, 9] 45 #[v, .string t]).run Tryz.prog W = .ok v' W2 ∧ W2.ownsRow B 5 1 v' (l ++ t.data.toList).length (bv (l ++ t.data.toList)) ∧ W.grownBy W2 v.ownBlock := by
  obtain ⟨i0, hi, hz0, hz1, hz2⟩ := info_parts info5
  obtain ⟨v', w2, h1, h2, h3, -⟩ := Lib.run_append_own_string (P := Tryz.prog) W B 45 9 45 5 i0 und30 Tryz.underlying9 hi hz0 hz1 hz2 v l.length (bv l) hr t (by unfold maxLen; omega) (by omega) hB
  refine ⟨v', w2, h1, ?_, h3⟩
  have e : bv l ++ Lib.strCells t = bv (l ++ t.data.toList) := by
    rw [Lib.strCells_eq, ← bv_cells, ← bv_cells, ← bytes_app]
  rw [← e, List.length_append, size_list]
  exact h2
theorem conv_row (W : World) (B : Nat) (v : Value) (l : List UInt8) (hr : W.ownsRow B 5 1 v l.length (bv l)) : (convert 45 9 v).run Tryz.prog W = .ok (.string (ba l)) W := by
  have h0 := hr
  rcases hr.2 with ⟨rfl, e0⟩ | ⟨b, cap, cur, rfl, hBb, hb, h1, _, h3, h4⟩
  · have e : l = [] := List.eq_nil_of_length_eq_zero e0
    rw [e]
    exact run_convert_bytes_nil W 45 5 Tryz.underlying45 Tryz.underlying5 0 0 9 Tryz.underlying9
  · exact run_convert_bytes_back (P := Tryz.prog) W 45 9 5 ⟨b, 0, none⟩ cap l und30 Tryz.underlying5 Tryz.underlying9 (fun j hj => World.ownsRow.cells (g := b) h0 rfl j _ (by unfold bv; rw [List.getElem?_map, List.getElem?_eq_getElem hj]; rfl))
theorem row_apart {W : World} {B C : Nat} {v u : Value} {n m : Nat} {xs ys : List Value} (h : W.ownsRow B 5 1 v n xs) (k : W.ownsRow C 3 1 u m ys) : ∀ b, v.ownBlock = some b → u.ownBlock ≠ some b := fun b hb hu => by
  obtain ⟨_, h1⟩ := row_cells h b hb
  obtain ⟨_, _, h2⟩ := row_i64 k b hu
  rw [h1] at h2
  injection h2 with h2
  injection h2 with _ h2
  exact absurd h2 (by decide)
theorem row_gb {W W' : World} {B : Nat} {e : TypeId} {q : Nat} {v : Value} {n : Nat} {xs : List Value} {r : Option Nat} (h : W.ownsRow B e q v n xs) (G : W.grownBy W' r) (hr : ∀ b, r = some b → v.ownBlock ≠ some b) : W'.ownsRow B e q v n xs :=
  row_same h fun k hk => G.block k (World.ownsRow.lt h k hk).2 (fun e => hr k e.symm hk)

end Sc
end Go.Proofs.YtdjjleahfciipaaGreatDoor
