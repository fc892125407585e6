/- scan.NewRewriter, walked (own text of the verifier). -/
import Derived.Test.YtojefckhefanhabScI
namespace Go.Proofs.Ytojefckhefanhab
open Go.RowKit
namespace Sc

/-- A new rewriter. -/
theorem RM.new {W : World} {g : Nat} {f t : ByteArray} {T : TypeId} (h : W.heap[g]? = some (.cells #[.int .i64 0, .int .i64 0, .int .u8 0, .int .u8 0, .int .u8 0, .int .u8 0, .int .u8 0, .int .u8 0, .int .u8 0, .int .u8 0, .int .u8 0, .int .u8 0, .int .u8 0, .int .u8 0, .int .u8 0, .int .u8 0, .int .u8 0, .int .u8 0, .int .u8 0, .int .u8 0, .int .u8 0, .int .u8 0, .int .u8 0, .int .u8 0, .int .u8 0, .int .u8 0, .int .u8 0, .int .u8 0, .int .u8 0, .int .u8 0, .int .u8 0, .int .u8 0, .int .u8 0, .string f, .string t, .slice none 0 0, .bool false] T (0, 0))) : RM W g 0 [] f.data.toList t.data.toList [] false (.slice none 0 0) := by
  have fz : ∀ i, W.frozen? ⟨g, i, none⟩ = false := fun i => Lib.frozen_of_heap h i
  refine ⟨⟨by rw [Lib.cell_of_heap h]; rfl, fz _, by rw [Lib.cell_of_heap h]; rfl, fz _, fun i b hb => by simp at hb, fun i hi => ?_, fun i _ => fz _, by simp⟩, by rw [Lib.cell_of_heap h]; rfl, by rw [Lib.cell_of_heap h]; rfl, by rw [Lib.cell_of_heap h]; rfl, fz _, by rw [Lib.cell_of_heap h]; rfl, fz _, ⟨rfl, .inl ⟨rfl, rfl⟩⟩, by simp [Value.ownBlock]⟩
  rw [Lib.cell_of_heap h]
  simp
  omega

set_option maxRecDepth 100000 in
set_option maxHeartbeats 8000000 in
theorem newrw_any (f t : ByteArray) (w : World) :
    Calls Try.prog 6 #[.string f, .string t] w fun e w' => Below w.heap.size w w' ∧ ((hsh f ≠ 0 ∧ e = .returned (.tuple #[.pointer none, .int .i64 (hsh f)])) ∨ (hsh f = 0 ∧ hsh t ≠ 0 ∧ e = .returned (.tuple #[.pointer none, .int .i64 (hsh t)])) ∨ (hsh f = 0 ∧ hsh t = 0 ∧ ∃ g, w.heap.size ≤ g ∧ e = .returned (.tuple #[.pointer (some ⟨g, 0, none⟩), .int .i64 0]) ∧ RM w' g 0 [] f.data.toList t.data.toList [] false (.slice none 0 0))) := by
  go_enter Try.func6, Try.ntmps6
  go_wp2_with fail
  have B1 : Hid (Below w.heap.size w (w.alloc (.cells #[.string f, .string t] 9))) := (Below.refl _ _).alloc (Nat.le_refl _) _
  obtain ⟨S, hS⟩ : ∃ S, w.heap.size = S := ⟨_, rfl⟩
  have hb : (w.alloc (.cells #[.string f, .string t] 9)).heap[w.heap.size]? = some (.cells #[.string f, .string t] 9) := heap_alloc_new _ _
  have d0 : (w.alloc (.cells #[.string f, .string t] 9)).cell? ⟨w.heap.size, 0, none⟩ = some (.string f) := by rw [Lib.cell_of_heap hb]; rfl
  have d1 : (w.alloc (.cells #[.string f, .string t] 9)).cell? ⟨w.heap.size, 1, none⟩ = some (.string t) := by rw [Lib.cell_of_heap hb]; rfl
  clear hb
  have HS : Hid (w.heap.size = S) := hS
  rw [hS] at d0 d1 ⊢
  clear hS
  generalize w.alloc (.cells #[.string f, .string t] 9) = w1 at *
  go_loop [13] (fun v => v = .int .i64 0 ∨ (v = .int .i64 1 ∧ hsh f = 0) ∨ (v = .int .i64 2 ∧ hsh f = 0 ∧ hsh t = 0)) (fun v => 2 - (intOf v).toNat)
  case atStart => exact .inl rfl
  case round =>
    rcases hrel with rfl | ⟨rfl, hf⟩ | ⟨rfl, hf, ht⟩
    · go_wp2_with fail
      refine (ckH_any f w1).mono ?_
      rintro e w2 ⟨rfl, rfl⟩
      by_cases hf : hsh f = 0
      · rw [hf]
        go_wp2
        go_round
        case rel => exact .inr (.inl ⟨rfl, hf⟩)
        case measure => simp [intOf]
      · go_wp2
        go_ret2
        exact ⟨B1.out, .inl ⟨hf, rfl⟩⟩
    · go_wp2_with fail
      refine (ckH_any t w1).mono ?_
      rintro e w2 ⟨rfl, rfl⟩
      by_cases ht : hsh t = 0
      · rw [ht]
        go_wp2
        go_round
        case rel => exact .inr (.inr ⟨rfl, hf, ht⟩)
        case measure => simp [intOf]
      · go_wp2
        go_ret2
        exact ⟨B1.out, .inr (.inl ⟨hf, ht, rfl⟩)⟩
    · go_wp2
      go_ret2
      exact ⟨B1.out.alloc (by have := B1.out.size; exact this) _, w1.heap.size, B1.out.size, rfl, RM.new (heap_alloc_new _ _)⟩

end Sc
end Go.Proofs.Ytojefckhefanhab
