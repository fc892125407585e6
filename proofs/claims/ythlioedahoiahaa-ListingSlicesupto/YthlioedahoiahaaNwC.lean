/- The law NarOne, walked (own text of the verifier). -/
import Derived.Test.YthlioedahoiahaaNwA
namespace Go.Proofs.Ythlioedahoiahaa
open Go.RowKit

/-- Two blocks with a node and a fault. -/
theorem two_blk (w : World) (T : Tr) (v : Value) (F1 F2 : Int) : St ((w.alloc (.cells #[.int .i64 T.k, .bool T.e, .string T.t, v] 37)).alloc (.cells #[.int .i64 F1, .int .i64 F2] 26)) w.heap.size [.int .i64 T.k, .bool T.e, .string T.t, v] ∧ St ((w.alloc (.cells #[.int .i64 T.k, .bool T.e, .string T.t, v] 37)).alloc (.cells #[.int .i64 F1, .int .i64 F2] 26)) (w.heap.size + 1) [.int .i64 F1, .int .i64 F2] ∧ Below w.heap.size w ((w.alloc (.cells #[.int .i64 T.k, .bool T.e, .string T.t, v] 37)).alloc (.cells #[.int .i64 F1, .int .i64 F2] 26)) := by
  refine ⟨(St.new w _ _).same (by simp only [World.size_alloc]; omega) (Below.heap_alloc _ _ _ (by rw [World.size_alloc]; omega)), ?_, ((Below.refl _ _).alloc (Nat.le_refl _) _).alloc (by rw [World.size_alloc]; omega) _⟩
  have := St.new (w.alloc (.cells #[.int .i64 T.k, .bool T.e, .string T.t, v] 37)) #[.int .i64 F1, .int .i64 F2] 26
  rw [World.size_alloc] at this
  exact this
theorem at_zero (w : World) : At w 1 (.agg #[.int .i64 0, .bool false, .string ⟨#[]⟩, .slice none 0 0]) (.mk 0 false ⟨#[]⟩ [] []) := ⟨none, 0, 0, rfl, rfl, rfl, Nat.le_refl _, by decide, Or.inl rfl⟩
theorem ln_zero : lnT (.mk 0 false ⟨#[]⟩ [] []) := by rw [lnT]; exact ⟨by decide, by rw [lnL]; trivial⟩

end Go.Proofs.Ythlioedahoiahaa
