/- tree.Equal, walked. -/
import Derived.Test.YtljcbibcdajhiaaTqP
import Derived.Lib.Strings
namespace Go.Proofs.Ytljcbibcdajhiaa
open Go.RowKit

/-- A slice of entries. -/
def Ents (w : World) (m : Nat) (x : Option Addr) (n : Nat) (ns : List ByteArray) (ks : List Tr) : Prop := ∀ j s T, j < n → ns[j]? = some s → ks[j]? = some T → ∃ (g o : Nat) (a : Int) (b : Bool) (d : ByteArray) (f : Option Addr) (p q : Nat), x = some ⟨g, o, none⟩ ∧ g < w.heap.size ∧ w.cell? ⟨g, o + j * 5, none⟩ = some (.string s) ∧ w.cell? ⟨g, o + j * 5 + 1, none⟩ = some (.int .i64 a) ∧ w.cell? ⟨g, o + j * 5 + 2, none⟩ = some (.bool b) ∧ w.cell? ⟨g, o + j * 5 + 3, none⟩ = some (.string d) ∧ w.cell? ⟨g, o + j * 5 + 4, none⟩ = some (.slice f p q) ∧ At w m (.agg #[.int .i64 a, .bool b, .string d, .slice f p q]) T
theorem Ents.below {w w' : World} {m : Nat} {x : Option Addr} {n : Nat} {ns : List ByteArray} {ks : List Tr} (h : Ents w m x n ns ks) (b : Below w.heap.size w w') : Ents w' m x n ns ks := fun j s T hj hs hT => by
  obtain ⟨g, o, a, b', d, f, p, q, h7, h8, c0, c1, c2, c3, c4, hA⟩ := h j s T hj hs hT
  refine ⟨g, o, a, b', d, f, p, q, h7, Nat.lt_of_lt_of_le h8 b.size, ?_, ?_, ?_, ?_, ?_, hA.below b⟩
  · rw [b.cell (p := ⟨g, o + j * 5, none⟩) h8]; exact c0
  · rw [b.cell (p := ⟨g, o + j * 5 + 1, none⟩) h8]; exact c1
  · rw [b.cell (p := ⟨g, o + j * 5 + 2, none⟩) h8]; exact c2
  · rw [b.cell (p := ⟨g, o + j * 5 + 3, none⟩) h8]; exact c3
  · rw [b.cell (p := ⟨g, o + j * 5 + 4, none⟩) h8]; exact c4

theorem At.ents {w : World} {m n : Nat} {x : Option Addr} {ns : List ByteArray} {ks : List Tr} (h : n = 0 ∨ ∃ g o, x = some ⟨g, o, none⟩ ∧ g < w.heap.size ∧ ∀ j s T, ns[j]? = some s → ks[j]? = some T → ∃ (a : Int) (b : Bool) (d : ByteArray) (f : Option Addr) (p q : Nat), w.cell? ⟨g, o + j * 5, none⟩ = some (.string s) ∧ w.cell? ⟨g, o + j * 5 + 1, none⟩ = some (.int .i64 a) ∧ w.cell? ⟨g, o + j * 5 + 2, none⟩ = some (.bool b) ∧ w.cell? ⟨g, o + j * 5 + 3, none⟩ = some (.string d) ∧ w.cell? ⟨g, o + j * 5 + 4, none⟩ = some (.slice f p q) ∧ At w m (.agg #[.int .i64 a, .bool b, .string d, .slice f p q]) T) : Ents w m x n ns ks := fun j s T hj hs hT => by
  rcases h with h | ⟨g, o, h7, h8, h9⟩
  · omega
  · obtain ⟨a, b, d, f, p, q, h⟩ := h9 j s T hs hT
    exact ⟨g, o, a, b, d, f, p, q, h7, h8, h⟩

end Go.Proofs.Ytljcbibcdajhiaa
