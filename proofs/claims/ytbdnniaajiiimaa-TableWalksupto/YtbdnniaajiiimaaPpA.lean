/- A table's At where there is no key (own text of the verifier). -/
import Derived.Test.YtbdnniaajiiimaaTuS
namespace Go.Proofs.Ytbdnniaajiiimaa
namespace TS
open Go.RowKit

set_option maxHeartbeats 4000000 in
theorem tAt_none (T : Nat) (t : BT ByteArray) (i : Int) (w : World) (h : Tab w T t) (hi : i < 0 ∨ (t.cnt : Int) ≤ i) :
    Calls Try.prog 22 #[.pointer (some ⟨T, 0, none⟩), .int .i64 i] w fun e w' => e = .returned (.tuple #[Value.string ByteArray.empty, .int .i64 0, .bool false]) ∧ Below w.heap.size w w' := by
  have LE := len_any T t w h
  have b0 : Below w.heap.size w w := Below.refl _ _
  clear h
  generalize t.cnt = n at *
  by_cases h1 : i < 0
  · clear hi
    go_enter Try.func22, Try.ntmps22
    go_wp2
    go_region
    all_goals go_wp2
    all_goals go_ret3
    all_goals exact ⟨rfl, by first | exact b0.drew | exact (b0.drew).alloc (by simp) _ | exact ((b0.drew).alloc (by simp) _).alloc (by simp) _⟩
  · have h2 : (n : Int) ≤ i := by omega
    clear hi
    go_enter Try.func22, Try.ntmps22
    go_wp2_with fail
    refine LE.mono ?_
    rintro e w1 ⟨rfl, rfl⟩
    go_wp2
    go_region
    all_goals go_wp2
    all_goals go_ret3
    all_goals exact ⟨rfl, by first | exact b0.drew | exact (b0.drew).alloc (by simp) _ | exact ((b0.drew).alloc (by simp) _).alloc (by simp) _⟩
end TS
end Go.Proofs.Ytbdnniaajiiimaa
