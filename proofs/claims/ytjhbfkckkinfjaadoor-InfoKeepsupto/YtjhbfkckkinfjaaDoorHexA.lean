/- What radix.Hex answers: two digits a byte. -/
import Derived.Test.YtjhbfkckkinfjaaDoorProg
import Derived.Test.YtjhbfkckkinfjaaDoorMem
namespace Go.Proofs.YtjhbfkckkinfjaaDoor
open Go.RowKit
theorem Tryd.hinfo5 : (Tryd.prog.info? 5).map (fun i => (i.zero, i.size, i.bytes)) = some (some (.int .u8 0), 1, 1) := by kernel_rfl
/-- The sixteen digits. -/
def dgx : ByteArray := ⟨#[48, 49, 50, 51, 52, 53, 54, 55, 56, 57, 97, 98, 99, 100, 101, 102]⟩
def dig (v : Int) : Int := if v < 10 then 48 + v else 87 + v
theorem bt_dgx : ∀ n, n < 16 → bt dgx n = dig n := by decide +kernel
theorem dgx_get (n : Nat) (h : n < dgx.size) : ((dgx[n]'h).toNat : Int) = dig n := by
  rw [get_bt dgx n h]; exact bt_dgx n h
/-- Letter j of the hexadecimal text of s. -/
def hexFn (s : ByteArray) (j : Nat) : Int := dig (if j % 2 = 0 then bt s (j / 2) / 16 else bt s (j / 2) % 16)
def hexStr (s : ByteArray) : ByteArray := strFn (2 * s.size) (hexFn s)
theorem dig_bd (v : Int) (h0 : 0 ≤ v) (h1 : v < 16) : 0 ≤ dig v ∧ dig v < 256 := by unfold dig; split <;> omega
theorem hexFn_bd (s : ByteArray) (j : Nat) : 0 ≤ hexFn s j ∧ hexFn s j < 256 := by
  unfold hexFn
  have := bt_bd s (j / 2)
  split
  · exact dig_bd _ (by omega) (by omega)
  · exact dig_bd _ (by omega) (by omega)

end Go.Proofs.YtjhbfkckkinfjaaDoor
