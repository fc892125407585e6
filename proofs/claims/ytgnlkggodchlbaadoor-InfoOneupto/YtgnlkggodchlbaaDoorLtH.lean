/- The document's own FromBase32, at every text. -/
import Derived.Test.YtgnlkggodchlbaaDoorLtG
namespace Go.Proofs.YtgnlkggodchlbaaDoor
open Go.RowKit
theorem rfb32_any (s : ByteArray) (w : World) (hs : s.size ≤ 1048576) :
    Calls Tryd.prog 42 #[.string s] w fun e w' => e = .returned (.tuple #[.string (fbStr s), .int .i64 (fbErr s)]) ∧ Below w.heap.size w w' := by
  by_cases h : s.size = 0
  · have e : fbErr s = 0 := by unfold fbErr; rw [h, if_pos (by decide), if_pos (show fbOk s 0 = true from rfl), if_pos (by show 0 / _ % 256 = 0; rw [Nat.zero_div])]
    have e2 : fbStr s = ⟨#[]⟩ := by unfold fbStr; rw [e, if_pos rfl, h]; rfl
    rw [e, e2]
    exact rfb32_zero s w h
  · exact rfb32_go s w hs (by omega)

end Go.Proofs.YtgnlkggodchlbaaDoor
