/- Words and their bits; what is no number. -/
import Derived.Test.YtomlejbooehmiaaRows
import Derived.Test.YtomlejbooehmiaaFlS
import Derived.WalkKit
import Derived.WalkSpells
import Derived.WalkLawsBesides
import Derived.Laws.Externs
namespace Go.Proofs.Ytomlejbooehmiaa
open Go.RowKit

theorem bits_run (a : Nat) (w : World) : (callFunc 5 #[.float .f64 a]).run Try.prog w = .ok (.value (.int .u64 a)) w := by
  rw [run_callFunc_extern Try.func5 (by kernel_rfl) (by kernel_rfl) (by kernel_rfl) (e := Extern.MathFloatBits.float64bits) (by kernel_rfl)]
  rfl

/-- no number? -/
def nn (a : Nat) : Bool := fnan Ieee.double a

theorem self_eq (a : Nat) : (FloatKind.f64.format.order a a == some .eq) = !nn a := by
  rw [show FloatKind.f64.format = Ieee.double from rfl, Bool.eq_iff_iff, feq_iff]
  unfold nn
  cases fnan Ieee.double a <;> simp

theorem self_ne (a : Nat) : (FloatKind.f64.format.order a a != some .eq) = nn a := by
  have := self_eq a
  rw [bne, this]; simp

end Go.Proofs.Ytomlejbooehmiaa
