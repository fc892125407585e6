/- math/bits.Len64, by the library's contract. -/
import Derived.Test.YtjlbbnjcdickgabDoorMMb
import Derived.Shelf.Strconv.Itoa0
set_option maxRecDepth 4000
namespace Go.Proofs.YtjlbbnjcdickgabDoor
open Go.RowKit Go.Shelf

theorem bitLenAux_bl (f x : Nat) (h : x < 2 ^ f) : Lib.bitLenAux f x = bl x := by
  induction f generalizing x with
  | zero => obtain rfl : x = 0 := by omega
            rfl
  | succ f ih =>
    unfold Lib.bitLenAux
    by_cases hx : x = 0
    · subst hx; rfl
    · rw [if_neg hx, ih (x / 2) (by rw [Nat.pow_succ] at h; omega)]
      by_cases h1 : x / 2 = 0
      · obtain rfl : x = 1 := by omega
        rfl
      · rw [bl_shift x 1 (by omega), Nat.pow_one]
theorem bitLen_bl (x : Nat) (h : x < 2 ^ 64) : Lib.bitLen x = bl x := bitLenAux_bl 64 x h

def ren129 : Ren := ⟨fun | 129 => 22 | n => n, fun | 46 => 49 | 53 => 22 | n => n, fun n => n⟩

theorem lays129 : Lays.n129 Tryd.prog ren129 :=
  { mixed := by kernel_rfl
    f129 := Tryd.func22.trans (congrArg some (by kernel_rfl))
    t3 := Tryd.underlying3, a3 := Tryd.isAgg3, z3 := Tryd.sizeOf3, v3 := Tryd.zeroValue3
    t4 := Tryd.underlying4, a4 := Tryd.isAgg4, z4 := Tryd.sizeOf4, v4 := Tryd.zeroValue4
    t5 := Tryd.underlying5, a5 := Tryd.isAgg5, z5 := Tryd.sizeOf5, v5 := Tryd.zeroValue5
    t9 := Tryd.underlying9, a9 := Tryd.isAgg9, z9 := Tryd.sizeOf9, v9 := Tryd.zeroValue9
    t46 := Tryd.underlying49, a46 := Tryd.isAgg49, z46 := Tryd.sizeOf49, v46 := Tryd.zeroValue49
    t53 := Tryd.underlying22, a53 := Tryd.isAgg22, z53 := Tryd.sizeOf22, v53 := Tryd.zeroValue22 }

theorem len_any (x : Int) (w : World) (h0 : 0 ≤ x) (h1 : x ≤ 18446744073709551615) :
    Calls Tryd.prog 22 #[.int .u64 x] w fun e w' => e = .returned (.int .i64 (bl x.toNat)) ∧ w' = w := by
  rw [← bitLen_bl x.toNat (by omega)]
  exact Any.bits_Len64 lays129 x w h0 h1

end Go.Proofs.YtjlbbnjcdickgabDoor
