/- Rows of pairs (the document's table) that a call owns. -/
import Derived.Test.YtbdnniaajiiimaaRfS
import Derived.Laws.OwnMore
namespace Go.Proofs.Ytbdnniaajiiimaa
namespace TS
open Go.RowKit

/-- A pair's two cells. -/
def pcs (p : ByteArray × Int) : List Value := [.string p.1, .int .i64 p.2]
/-- v is a slice of these pairs, in memory from B on. -/
def OwnP (w : World) (B : Nat) (v : Value) (L : List (ByteArray × Int)) : Prop := w.ownsRow B 38 2 v L.length (L.flatMap pcs)
theorem OwnP.nil (w : World) (B : Nat) : OwnP w B (.slice none 0 0) [] := World.ownsRow_nil _ _ _ _
theorem OwnP.alloc {w : World} {B : Nat} {v : Value} {L : List (ByteArray × Int)} (h : OwnP w B v L) (o : Obj) : OwnP (w.alloc o) B v L := World.ownsRow.alloc h o
theorem OwnP.lt {w : World} {B : Nat} {v : Value} {L : List (ByteArray × Int)} (h : OwnP w B v L) : ∀ k, v.ownBlock = some k → B ≤ k ∧ k < w.heap.size := World.ownsRow.lt h
theorem OwnP.same {w w' : World} {B : Nat} {v : Value} {L : List (ByteArray × Int)} (h : OwnP w B v L) (e : ∀ k, v.ownBlock = some k → w'.heap[k]? = w.heap[k]?) : OwnP w' B v L := by
  obtain ⟨hl, h | ⟨g, cap, cur, hv, hb, hg, hr⟩⟩ := h
  · exact ⟨hl, .inl h⟩
  · exact ⟨hl, .inr ⟨g, cap, cur, hv, hb, (e g (by rw [hv]; rfl)).trans hg, hr⟩⟩
theorem OwnP.mono {w : World} {B B' : Nat} {v : Value} {L : List (ByteArray × Int)} (h : OwnP w B v L) (hB : B' ≤ B) : OwnP w B' v L := by
  obtain ⟨hl, h | ⟨g, cap, cur, hv, hb, hr⟩⟩ := h
  · exact ⟨hl, .inl h⟩
  · exact ⟨hl, .inr ⟨g, cap, cur, hv, by omega, hr⟩⟩
/-- Opened: a slice of that length, and its pairs as Find and Rank want them. -/
theorem OwnP.open {w : World} {B : Nat} {v : Value} {L : List (ByteArray × Int)} (h : OwnP w B v L) :
    ∃ x cap, v = .slice x L.length cap ∧ PIs w x L.length (fun k => (L.getD k (ByteArray.empty, 0)).1) (fun k => (L.getD k (ByteArray.empty, 0)).2) := by
  obtain ⟨hl, h | ⟨g, cap, cur, hv, hb, hg, hnc, _, hcs, htake⟩⟩ := h
  · exact ⟨none, 0, by rw [h.1, h.2], fun k hk => absurd hk (by rw [h.2]; omega)⟩
  · refine ⟨_, cap, hv, fun j hj => ⟨g, 0, rfl, ?_⟩⟩
    have key : ∀ (L : List (ByteArray × Int)) (j i : Nat) (hj : j < L.length), i < 2 → (L.flatMap pcs)[2 * j + i]? = (pcs (L[j]))[i]? := by
      intro L
      induction L with
      | nil => intro j i hj; simp at hj
      | cons a L ih =>
        intro j i hj hi
        rw [List.flatMap_cons]
        cases j with
        | zero =>
          rw [List.getElem?_append_left (by show _ < 2; omega)]
          simp
        | succ j =>
          rw [List.getElem?_append_right (by show 2 ≤ _; omega), show 2 * (j + 1) + i - (pcs a).length = 2 * j + i by show 2 * (j + 1) + i - 2 = _; omega]
          exact ih j i (by simpa using hj) hi
    have cell : ∀ i, i < 2 → w.cell? ⟨g, 2 * j + i, none⟩ = (pcs (L[j]))[i]? := fun i hi => by
      rw [cell_of_row w g (2 * j + i) cur 38 (0, 0) hg, ← key L j i hj hi, ← htake, List.getElem?_take, if_pos (by omega)]
      simp
    have e : L.getD j (ByteArray.empty, 0) = L[j] := by rw [List.getD_eq_getElem?_getD, List.getElem?_eq_getElem hj]; rfl
    show w.cell? ⟨g, 0 + j * 2, none⟩ = some (.string (L.getD j (ByteArray.empty, 0)).1) ∧ w.cell? ⟨g, 0 + j * 2 + 1, none⟩ = some (.int .i64 (L.getD j (ByteArray.empty, 0)).2)
    rw [e, Nat.zero_add, Nat.mul_comm j 2]
    exact ⟨cell 0 (by omega), cell 1 (by omega)⟩
theorem info_pair : (Try.prog.info? 38).map (fun i => (i.zero, i.size, i.bytes)) = some (some (.agg #[.string ByteArray.empty, .int .i64 0]), 2, 24) := by kernel_rfl
end TS
end Go.Proofs.Ytbdnniaajiiimaa
