/- name.Compare and the document's Compare, walked. -/
import Derived.Test.YtljcbibcdajhiaaRows
import Derived.Test.YtljcbibcdajhiaaMem
import Derived.Below
import Derived.Lib.Strings
import Derived.Lib.Bytealg
import Derived.Deep.QuietTactic
import Derived.BigQuiet
namespace Go.Proofs.Ytljcbibcdajhiaa
open Go.RowKit

/-- The order of two texts. -/
def cmpB (a b : ByteArray) : Int := Lib.compareBytes a.data.toList b.data.toList

theorem compareBytes_bd (a b : List UInt8) : -1 ≤ Lib.compareBytes a b ∧ Lib.compareBytes a b ≤ 1 := by
  induction a generalizing b with
  | nil => cases b <;> simp [Lib.compareBytes]
  | cons x a ih =>
    cases b with
    | nil => simp [Lib.compareBytes]
    | cons y b =>
      unfold Lib.compareBytes
      split
      · omega
      · split
        · omega
        · exact ih b
theorem cmpB_bd (a b : ByteArray) : -1 ≤ cmpB a b ∧ cmpB a b ≤ 1 := compareBytes_bd _ _

set_option maxHeartbeats 400000 in
theorem compare_any (a b : ByteArray) (w : World) :
    Calls Try.prog 58 #[.string a, .string b] w fun e w' => e = .returned (.int .i64 (cmpB a b)) ∧ w' = w := by
  have h : ∀ w, (callFunc 74 #[.string a, .string b]).run Try.prog w = .ok (.value (.int .i64 (cmpB a b))) w := fun w => by
    rw [run_callFunc_extern Try.func74 (by kernel_rfl) (by kernel_rfl) (by kernel_rfl) (e := Extern.BytealgCompare.compare) (by kernel_rfl), Lib.run_compareString]
    rfl
  go_enter Try.func58, Try.ntmps58
  go_wp2
  go_ret
  exact ⟨rfl, rfl⟩

theorem drop_bt (a : ByteArray) (k : Nat) (h : k < a.size) : ∃ x : UInt8, (x.toNat : Int) = bt a k ∧ a.data.toList.drop k = x :: a.data.toList.drop (k + 1) := by
  have h' : k < a.data.toList.length := by rw [← Lib.size_eq]; exact h
  refine ⟨a.data.toList[k], ?_, List.drop_eq_getElem_cons h'⟩
  rw [← get_bt a k h]; rfl
theorem drop_end (a : ByteArray) (k : Nat) (h : a.size ≤ k) : a.data.toList.drop k = [] := List.drop_of_length_le (by rw [← Lib.size_eq]; exact h)

end Go.Proofs.Ytljcbibcdajhiaa
