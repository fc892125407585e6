/- What the document's own FromBase32 answers: as the program's. -/
import Derived.Test.YtholbaefmncphabLetE
namespace Go.Proofs.Ytholbaefmncphab
open Go.RowKit

set_option maxHeartbeats 1000000 in
theorem rfb32_zero (s : ByteArray) (w : World) (hs : s.size = 0) :
    Calls Try.prog 11 #[.string s] w fun e w' => e = .returned (.tuple #[.string ⟨#[]⟩, .int .i64 0]) ∧ Below w.heap.size w w' := by
  obtain ⟨i0, hi, hz0, hz1, hz2⟩ := info_parts Try.hinfo5
  go_enter Try.func11, Try.ntmps11
  go_wp2
  go_loopw [4] (fun i wr => i = .int .i64 0 ∧ w = wr) (fun _ _ => 0)
  case atStart => exact ⟨rfl, rfl⟩
  case round =>
    obtain ⟨rfl, rfl⟩ := hrel
    go_wp2
    go_loopw [5, 6] (fun v i wq => v = .slice none 0 0 ∧ i = .int .i64 (-1) ∧ w = wq) (fun _ _ _ => 0)
    case atStart => exact ⟨rfl, rfl, rfl⟩
    case round =>
      obtain ⟨rfl, rfl, rfl⟩ := hrel
      go_wp2_with fail
      rw [run_make (P := Try.prog) _ 31 5 i0 (.int .u8 0) Try.underlying31 hi hz0 .i64 .i64 _ _ (by omega) (by omega) (by rw [hz2]; omega) (by omega)]
      have R0 : Row .u8 (w.alloc (.cells (madeCells (Value.int .u8 0).cells ((0 : Int).toNat * i0.size)) 5)) w.heap.size 0 (fun _ => 0) := Row.made (by rw [hz1]; omega)
      have B0 : Below w.heap.size w (w.alloc (.cells (madeCells (Value.int .u8 0).cells ((0 : Int).toNat * i0.size)) 5)) := (Below.refl _ _).alloc (Nat.le_refl _) _
      generalize w.alloc (.cells (madeCells (Value.int .u8 0).cells ((0 : Int).toNat * i0.size)) 5) = W1 at R0 B0 ⊢
      clear hi hz0 hz1 hz2
      have c1 := run_string_row (P := Try.prog) (src := 31) (dst := 9) (c := 0) Try.underlying31 Try.underlying5 Try.underlying9 R0
      go_wp2
      go_loopw [10] (fun i wr => i = .int .i64 0 ∧ wr = W1) (fun _ _ => 0)
      case atStart => exact ⟨rfl, rfl⟩
      case round =>
        obtain ⟨rfl, rfl⟩ := hrel
        go_wp2
        go_ret2
        exact ⟨rfl, B0⟩

#print axioms rfb32_zero
end Go.Proofs.Ytholbaefmncphab
