/- A table's Fork (string keys); walked. -/
import Derived.Test.YtbdnniaajiiimaaTlS
namespace Go.Proofs.Ytbdnniaajiiimaa
namespace TS
open Go.RowKit

set_option maxHeartbeats 1000000 in
theorem fork_any (T : Nat) (t : BT ByteArray) (w : World) (h : Tab w T t) :
    Calls Try.prog 12 #[.pointer (some ⟨T, 0, none⟩)] w fun e w' => ∃ U, e = .returned (.pointer (some ⟨U, 0, none⟩)) ∧ w.heap.size ≤ U ∧ U < w'.heap.size ∧ Tab w' U t ∧ Below w.heap.size w w' := by
  obtain ⟨p, c, f, tr, ok⟩ := h
  have B1 : Hid (Below w.heap.size w (w.alloc (.cells #[.pointer p] 50))) := (Below.refl _ _).alloc (Nat.le_refl _) _
  have T1 : Hid (Tab (w.alloc (.cells #[.pointer p] 50)) w.heap.size t) := ⟨p, by rw [World.cell?_alloc_new]; rfl, World.frozen?_alloc_new w _ _ _, tr.below B1.out (Nat.le_refl _), ok⟩
  clear tr ok
  go_enter Try.func12, Try.ntmps12
  go_wp2
  go_ret
  exact ⟨_, rfl, Nat.le_refl _, by rw [World.size_alloc]; omega, T1.out, B1.out⟩

end TS
end Go.Proofs.Ytbdnniaajiiimaa
