/- The document's Sorted and Join, walked. -/
import Derived.Test.YtdmkkkfdigeinabDoorSoA
import Derived.Test.YtdmkkkfdigeinabDoorCkB
import Derived.Test.YtdmkkkfdigeinabDoorJnB
namespace Go.Proofs.YtdmkkkfdigeinabDoor
open Go.RowKit

theorem Brk.one {f : Nat → ByteArray} {n : Nat} {r r' : Int} (h : Brk f n r) (h' : Brk f n r') : r = r' := by
  rcases h with ⟨h1, h2⟩ | ⟨i, h1, h2, h3, h4⟩
  · rw [h1, h'.none h2]
  · rw [h1, h'.of h2 h3 h4]

theorem joinB_one (x : ByteArray) : joinB [x] = x := by
  unfold joinB
  rw [List.map_cons, List.map_nil, Lib.join_one, Lib.mk_data]
theorem joinB_snoc (L : List ByteArray) (x : ByteArray) (h : L ≠ []) : joinB (L ++ [x]) = joinB L ++ ⟨#[47]⟩ ++ x := by
  cases L with
  | nil => exact absurd rfl h
  | cons y r =>
    unfold joinB
    rw [List.map_append, List.map_cons, List.cons_append, Lib.join_cons, Lib.join_cons]
    have e : Lib.joinTail [47] (r.map (·.data.toList) ++ [x].map (·.data.toList)) = Lib.joinTail [47] (r.map (·.data.toList)) ++ [47] ++ x.data.toList := by
      simp [Lib.joinTail]
    rw [e]
    apply ByteArray.ext
    simp [ByteArray.data_append]
theorem take_nth (L : List ByteArray) (k : Nat) (h : k < L.length) : L.take (k + 1) = L.take k ++ [nth L k] := by
  rw [List.take_succ_eq_append_getElem h]; simp [nth, h]

end Go.Proofs.YtdmkkkfdigeinabDoor
