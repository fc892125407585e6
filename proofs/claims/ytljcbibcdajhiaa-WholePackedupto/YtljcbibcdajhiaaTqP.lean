/- Trees in memory. -/
import Derived.Test.YtljcbibcdajhiaaRows
import Derived.WalkKit
import Derived.WalkSpells
import Derived.WalkLawsBesides
import Derived.Below
namespace Go.Proofs.Ytljcbibcdajhiaa
open Go.RowKit

/-- A tree: kind, mark, text, the kids' names and the kids. -/
inductive Tr where
  | mk (k : Int) (e : Bool) (t : ByteArray) (ns : List ByteArray) (ks : List Tr) : Tr

/-- v is, in w, the node T, read no deeper than m. -/
def At (w : World) : Nat → Value → Tr → Prop
  | 0, _, _ => False
  | m + 1, v, .mk k e t ns ks => ∃ x n c, v = .agg #[.int .i64 k, .bool e, .string t, .slice x n c] ∧ ns.length = n ∧ ks.length = n ∧ n ≤ c ∧ n ≤ 1954687338211 ∧
      (n = 0 ∨ ∃ g o, x = some ⟨g, o, none⟩ ∧ g < w.heap.size ∧ ∀ j s T, ns[j]? = some s → ks[j]? = some T → ∃ (a : Int) (b : Bool) (d : ByteArray) (f : Option Addr) (p q : Nat), w.cell? ⟨g, o + j * 5, none⟩ = some (.string s) ∧ w.cell? ⟨g, o + j * 5 + 1, none⟩ = some (.int .i64 a) ∧ w.cell? ⟨g, o + j * 5 + 2, none⟩ = some (.bool b) ∧ w.cell? ⟨g, o + j * 5 + 3, none⟩ = some (.string d) ∧ w.cell? ⟨g, o + j * 5 + 4, none⟩ = some (.slice f p q) ∧ At w m (.agg #[.int .i64 a, .bool b, .string d, .slice f p q]) T)

theorem At.below {w w' : World} {m : Nat} {v : Value} {T : Tr} (h : At w m v T) (b : Below w.heap.size w w') : At w' m v T := by
  induction m generalizing v T with
  | zero => exact h.elim
  | succ m ih =>
    obtain ⟨k, e, t, ns, ks⟩ := T
    obtain ⟨x, n, c, h1, h2, h3, h4, h5, h6⟩ := h
    refine ⟨x, n, c, h1, h2, h3, h4, h5, ?_⟩
    rcases h6 with h6 | ⟨g, o, h7, h8, h9⟩
    · exact Or.inl h6
    · refine Or.inr ⟨g, o, h7, Nat.lt_of_lt_of_le h8 b.size, fun j s T hs hT => ?_⟩
      obtain ⟨a, b', d, f, p, q, c0, c1, c2, c3, c4, hA⟩ := h9 j s T hs hT
      refine ⟨a, b', d, f, p, q, ?_, ?_, ?_, ?_, ?_, ih hA⟩
      · rw [b.cell (p := ⟨g, o + j * 5, none⟩) h8]; exact c0
      · rw [b.cell (p := ⟨g, o + j * 5 + 1, none⟩) h8]; exact c1
      · rw [b.cell (p := ⟨g, o + j * 5 + 2, none⟩) h8]; exact c2
      · rw [b.cell (p := ⟨g, o + j * 5 + 3, none⟩) h8]; exact c3
      · rw [b.cell (p := ⟨g, o + j * 5 + 4, none⟩) h8]; exact c4
theorem At.more {w : World} {m : Nat} {v : Value} {T : Tr} (h : At w m v T) : At w (m + 1) v T := by
  induction m generalizing v T with
  | zero => exact h.elim
  | succ m ih =>
    obtain ⟨k, e, t, ns, ks⟩ := T
    obtain ⟨x, n, c, h1, h2, h3, h4, h5, h6⟩ := h
    refine ⟨x, n, c, h1, h2, h3, h4, h5, ?_⟩
    rcases h6 with h6 | ⟨g, o, h7, h8, h9⟩
    · exact Or.inl h6
    · refine Or.inr ⟨g, o, h7, h8, fun j s T hs hT => ?_⟩
      obtain ⟨a, b', d, f, p, q, c0, c1, c2, c3, c4, hA⟩ := h9 j s T hs hT
      exact ⟨a, b', d, f, p, q, c0, c1, c2, c3, c4, ih hA⟩
theorem At.upto {w : World} {m m' : Nat} {v : Value} {T : Tr} (h : At w m v T) (hm : m ≤ m') : At w m' v T := by
  induction hm with
  | refl => exact h
  | step _ ih => exact ih.more

/-- The contract of Equal, at depth m. -/
def EqAt (f : FuncId) (m : Nat) : Prop := ∀ (u v : Value) (S T : Tr) (w : World), At w m u S → At w m v T → Calls Try.prog f #[u, v] w fun e w' => (∃ r, e = .returned (.bool r) ∧ (r = true ↔ S = T)) ∧ Below w.heap.size w w'

end Go.Proofs.Ytljcbibcdajhiaa
