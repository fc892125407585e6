/- A table's At (string keys), where there is a key; walked. -/
import Derived.Test.YtbdnniaajiiimaaTlS
import Derived.Test.YtbdnniaajiiimaaTbL
namespace Go.Proofs.Ytbdnniaajiiimaa
namespace TS
open Go.RowKit

set_option maxHeartbeats 1000000 in
theorem tAt_any (T : Nat) (t : BT ByteArray) (i : Nat) (w : World) (h : Tab w T t) (hi : i < t.cnt) (hc : t.cnt ≤ 1152921504606846976) :
    Calls Try.prog 22 #[.pointer (some ⟨T, 0, none⟩), .int .i64 (i : Int)] w fun e w' => (∃ k v, e = .returned (.tuple #[Value.string k, .int .i64 v, .bool true]) ∧ t.toL[i]? = some (k, v)) ∧ Below w.heap.size w w' := by
  have LE := len_any T t w h
  obtain ⟨p, c, f, tr, ok⟩ := h
  have CA := at_any t p i w tr ok hi hc
  have hg := BT.atT_get t ok i hi
  obtain ⟨xk, xv, xs, xl, xr, hx⟩ := at_ne t ok i hi
  rw [hx] at CA hg
  have HG : Hid (t.toL[i]? = some (xk, xv)) := hg
  have h1 : (i : Int) < (t.cnt : Int) := by omega
  clear tr ok hx hg
  go_enter Try.func22, Try.ntmps22
  go_wp2_with fail
  refine LE.mono ?_
  rintro e w1 ⟨rfl, rfl⟩
  go_wp2_with fail
  refine CA.mono ?_
  rintro e w1 ⟨⟨q, rfl, tq⟩, rfl⟩
  obtain ⟨g, q1, q2, rfl, d0, d1, d2, d3, d4, _, _⟩ := tq
  go_wp2
  go_region
  all_goals go_wp2
  all_goals go_ret3
  all_goals exact ⟨⟨_, _, rfl, HG.out⟩, (Below.refl _ _).drew⟩

end TS
end Go.Proofs.Ytbdnniaajiiimaa
