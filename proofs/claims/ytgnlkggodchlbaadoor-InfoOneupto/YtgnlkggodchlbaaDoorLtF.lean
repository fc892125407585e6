/- What the document's own FromBase32 answers: as the program's. -/
import Derived.Test.YtgnlkggodchlbaaDoorLtE
namespace Go.Proofs.YtgnlkggodchlbaaDoor
open Go.RowKit

set_option maxHeartbeats 1000000 in
set_option maxRecDepth 100000 in
theorem rfb32_zero (s : ByteArray) (w : World) (hs : s.size = 0) :
    Calls Tryd.prog 42 #[.string s] w fun e w' => e = .returned (.tuple #[.string ⟨#[]⟩, .int .i64 0]) ∧ Below w.heap.size w w' := by
  obtain ⟨i0, hi, hz0, hz1, hz2⟩ := info_parts Tryd.hinfo5
  go_enter Tryd.func42, Tryd.ntmps42
  go_wp2
  go_loopw [4] (fun i wr => i = .int .i64 0 ∧ w = wr) (fun _ _ => 0)
  case atStart => exact ⟨rfl, rfl⟩
  case round =>
    obtain ⟨rfl, rfl⟩ := hrel
    go_wp2
    go_loopw [5, 6] (fun v i wq => v = .slice none 0 0 ∧ i = .int .i64 (-1) ∧ w = wq) (fun _ _ _ => 0)
    case atStart => exact ⟨rfl, rfl, rfl⟩
    case round =>
      obtain ⟨rfl, rfl, rfl⟩ := hrel
      go_wp2_with fail
      rw [run_make (P := Tryd.prog) _ 69 5 i0 (.int .u8 0) Tryd.underlying69 hi hz0 .i64 .i64 _ _ (by omega) (by omega) (by rw [hz2]; omega) (by omega)]
      have R0 : Row .u8 (w.alloc (.cells (madeCells (Value.int .u8 0).cells ((0 : Int).toNat * i0.size)) 5)) w.heap.size 0 (fun _ => 0) := Row.made (by rw [hz1]; omega)
      have B0 : Below w.heap.size w (w.alloc (.cells (madeCells (Value.int .u8 0).cells ((0 : Int).toNat * i0.size)) 5)) := (Below.refl _ _).alloc (Nat.le_refl _) _
      generalize w.alloc (.cells (madeCells (Value.int .u8 0).cells ((0 : Int).toNat * i0.size)) 5) = W1 at R0 B0 ⊢
      clear hi hz0 hz1 hz2
      have c1 := run_string_row (P := Tryd.prog) (src := 69) (dst := 9) (c := 0) Tryd.underlying69 Tryd.underlying5 Tryd.underlying9 R0
      go_wp2
      go_loopw [10] (fun i wr => i = .int .i64 0 ∧ wr = W1) (fun _ _ => 0)
      case atStart => exact ⟨rfl, rfl⟩
      case round =>
        obtain ⟨rfl, rfl⟩ := hrel
        go_wp2
        go_ret2
        exact ⟨rfl, B0⟩

#print axioms rfb32_zero
end Go.Proofs.YtgnlkggodchlbaaDoor
