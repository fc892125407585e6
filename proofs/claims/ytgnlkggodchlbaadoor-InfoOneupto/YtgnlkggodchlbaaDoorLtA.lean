/- The bits of a text. -/
import Derived.Test.YtgnlkggodchlbaaDoorB32N
import Derived.Test.YtgnlkggodchlbaaDoorAp
namespace Go.Proofs.YtgnlkggodchlbaaDoor
open Go.RowKit
theorem Tryd.hinfo3 : (Tryd.prog.info? 3).map (fun i => (i.zero, i.size, i.bytes)) = some (some (.int .i64 0), 1, 8) := by kernel_rfl

/-- Bit j of a text, the lowest of the first byte first. -/
def bitF (s : ByteArray) (j : Nat) : Int := bt s (j / 8) / 2 ^ (j % 8) % 2

theorem bitF_at (s : ByteArray) (i k : Nat) (hk : k < 8) (y : Int) (hy : y = bt s i / 2 ^ k) : y % 2 = bitF s (8 * i + k) := by
  unfold bitF
  rw [show (8 * i + k) / 8 = i from by omega, show (8 * i + k) % 8 = k from by omega, hy]

theorem half_at (a : Int) (k : Nat) (y : Int) (hy : y = a / 2 ^ k) : y / 2 = a / 2 ^ (k + 1) := by
  rw [hy, Int.pow_succ, Int.ediv_ediv_of_nonneg (Int.pow_nonneg (by omega))]

end Go.Proofs.YtgnlkggodchlbaaDoor
