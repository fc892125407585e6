/- A slice of texts that the call gathers by append. -/
import Derived.Test.YtdmkkkfdigeinabDoorSpB
import Derived.Deep.OwnRows
namespace Go.Proofs.YtdmkkkfdigeinabDoor
open Go.RowKit

/-- v is a slice of these texts, which the call itself made (blocks from B on). -/
def OwnS (w : World) (B : Nat) (v : Value) (L : List ByteArray) : Prop := w.ownsRow B 9 1 v L.length (L.map Value.string)

theorem OwnS.nil (w : World) (B : Nat) : OwnS w B (.slice none 0 0) [] := World.ownsRow_nil _ _ _ _
theorem OwnS.alloc {w : World} {B : Nat} {v : Value} {L : List ByteArray} (h : OwnS w B v L) (o : Obj) : OwnS (w.alloc o) B v L := World.ownsRow.alloc h o

theorem OwnS.list {w : World} {B : Nat} {v : Value} {L : List ByteArray} (h : OwnS w B v L) : SL w v L ∨ L = [] := by
  obtain ⟨_, h | ⟨g, cap, cur, hv, hb, hg, hnc, _, _, htake⟩⟩ := h
  · right
    exact List.eq_nil_of_length_eq_zero (by first | exact h.2 | exact h.2.1 | omega)
  · left; right
    refine ⟨g, cap, hv, hnc, ⟨fun j hj => ?_, fun j hj => ?_⟩⟩
    · rw [cell_of_row w g j cur 9 (0, 0) hg]
      have h2 : (cur.toList.take (L.length * 1))[j]? = some (Value.string (nth L j)) := by
        rw [htake]; simp [hj, nth]
      rw [List.getElem?_take] at h2
      split at h2
      · simpa using h2
      · cases h2
    · simp [World.frozen?, hg]

/-- append(s, y), s the call's own. -/
theorem wpList_append_s (w : World) {ops : Array Oper} {rest : List Oper} {o : Oper} {a : Act} {Q : Exit → Act → World → Prop} (hgd : o.guard = none) (s x : Operand)
    (ho : o.op = .call { callee := .builtin .append, args := #[s, x], argTypes := #[23, 23] })
    (B : Nat) (v : Value) (L : List ByteArray) (hs : a.eval s = v) (hown : OwnS w B v L)
    (g c : Nat) (y : ByteArray) (hx : a.eval x = .slice (some ⟨g, 0, none⟩) 1 c) (hc : w.cell? ⟨g, 0, none⟩ = some (.string y)) (hn : L.length ≤ 1000000) (hbase : B ≤ w.heap.size)
    (h : ∀ v' w', OwnS w' B v' (L ++ [y]) → Below B w w' → wpList Tryd.prog ops Q rest (a.put o.dst v') w') : wpList Tryd.prog ops Q (o :: rest) a w := by
  obtain ⟨i0, hi, hz0, hz1, hz2⟩ := info_parts info_str
  refine wpList_append_own w hgd s x 23 ho B 9 i0 (.string ByteArray.empty) 1 16 Tryd.underlying23 hi hz0 hz1 hz2 rfl (by decide) v L.length _ hs hown ⟨g, 0, none⟩ 1 c [.string y] hx rfl ?_ ?_ (by unfold maxLen; omega) ?_ hbase ?_
  · intro j u hj
    match j, hj with
    | 0, hj => simp at hj; subst hj; simpa [Addr.add] using hc
  · intro u hu; simp at hu; subst hu; rfl
  · omega
  · intro v' w' h1 h2 _
    refine h v' w' ?_ ((Below.refl B w).grown h2 hbase (fun k hk => (World.ownsRow.lt hown k hk).1))
    unfold OwnS
    rw [List.length_append, List.map_append]
    exact h1

end Go.Proofs.YtdmkkkfdigeinabDoor
