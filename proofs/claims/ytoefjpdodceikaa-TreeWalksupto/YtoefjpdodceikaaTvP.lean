/- The laws TreeChecks and TreeWalks, over the document's own walk. -/
import Derived.Test.YtoefjpdodceikaaTvH
import Derived.Test.YtoefjpdodceikaaTvM
import Derived.Test.YtoefjpdodceikaaTvN
namespace Go.Proofs.Ytoefjpdodceikaa
open Go.RowKit

theorem sm_text {w : World} {fuel : Nat} {k : Int} {e : Bool} {t : ByteArray} {x : Option Addr} {n c : Nat} {T : Tr} (hA : At w fuel (.agg #[.int .i64 k, .bool e, .string t, .slice x n c]) T) (hsm : smT T) : t.size ≤ 1048576 := by
  cases fuel with
  | zero => exact hA.elim
  | succ f =>
    obtain ⟨k', e', t', ns, ks⟩ := T
    obtain ⟨x', n', c', h, _⟩ := hA
    simp at h
    rw [smT] at hsm
    rw [h.2.2.1]
    exact hsm.1
theorem tchecks_final (fuel : Nat) (k : Int) (e : Bool) (t : ByteArray) (x : Option Addr) (n c : Nat) (T : Tr) (w : World) (hA : At w fuel (.agg #[.int .i64 k, .bool e, .string t, .slice x n c]) T) (hsm : smT T) :
    Calls Try.prog 3 #[.agg #[.int .i64 k, .bool e, .string t, .slice x n c]] w fun e w' => e = .returned (.bool true) ∧ Below w.heap.size w w' := tchecks_walk visit_any fuel k e t x n c T w hA hsm (sm_text hA hsm)
theorem twalks_final (fuel : Nat) (k : Int) (e : Bool) (t : ByteArray) (x : Option Addr) (n c : Nat) (T : Tr) (w : World) (hA : At w fuel (.agg #[.int .i64 k, .bool e, .string t, .slice x n c]) T) (hsm : smT T) :
    Calls Try.prog 4 #[.agg #[.int .i64 k, .bool e, .string t, .slice x n c]] w fun e w' => e = .returned (.bool true) ∧ Below w.heap.size w w' := twalks_walk visit_any fuel k e t x n c T w hA hsm

end Go.Proofs.Ytoefjpdodceikaa
