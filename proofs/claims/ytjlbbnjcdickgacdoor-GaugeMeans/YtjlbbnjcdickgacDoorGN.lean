/- Words and their bits; what is no number. -/
import Derived.Test.YtjlbbnjcdickgacDoorRows
import Derived.Test.YtjlbbnjcdickgacDoorFlS
import Derived.WalkKit
import Derived.WalkSpells
import Derived.WalkLawsBesides
import Derived.Laws.Externs
namespace Go.Proofs.YtjlbbnjcdickgacDoor
open Go.RowKit

theorem from_run (a : Int) (w : World) : (callFunc 8 #[.int .u64 a]).run Tryd.prog w = .ok (.value (.float .f64 a.toNat)) w := by
  rw [run_callFunc_extern Tryd.func8 (by kernel_rfl) (by kernel_rfl) (by kernel_rfl) (e := Extern.MathFloatBits.float64frombits) (by kernel_rfl)]
  rfl

theorem bits_run (a : Nat) (w : World) : (callFunc 12 #[.float .f64 a]).run Tryd.prog w = .ok (.value (.int .u64 a)) w := by
  rw [run_callFunc_extern Tryd.func12 (by kernel_rfl) (by kernel_rfl) (by kernel_rfl) (e := Extern.MathFloatBits.float64bits) (by kernel_rfl)]
  rfl

/-- no number? -/
def nn (a : Nat) : Bool := fnan Ieee.double a

theorem self_eq (a : Nat) : (FloatKind.f64.format.order a a == some .eq) = !nn a := by
  rw [show FloatKind.f64.format = Ieee.double from rfl, Bool.eq_iff_iff, feq_iff]
  unfold nn
  cases fnan Ieee.double a <;> simp

theorem self_ne (a : Nat) : (FloatKind.f64.format.order a a != some .eq) = nn a := by
  have := self_eq a
  rw [bne, this]; simp

set_option maxHeartbeats 400000 in
theorem isnan_any (a : Nat) (w : World) :
    Calls Tryd.prog 20 #[.float .f64 a] w fun e w' => e = .returned (.bool (nn a)) ∧ w' = w := by
  have h := self_ne a
  go_enter Tryd.func20, Tryd.ntmps20
  go_wp2
  go_ret
  exact ⟨rfl, rfl⟩

end Go.Proofs.YtjlbbnjcdickgacDoor
