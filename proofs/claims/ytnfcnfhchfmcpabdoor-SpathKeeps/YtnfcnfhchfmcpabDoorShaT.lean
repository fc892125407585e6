/- What the reference's constants, step and Block answer. -/
import Derived.Test.YtnfcnfhchfmcpabDoorShaR
namespace Go.Proofs.YtnfcnfhchfmcpabDoor
open Go.RowKit

theorem startT (w : World) (v : Nat → Int) (e1 e2 : TypeId) (A : Array Value) (hA : A = Array.replicate 8 (.int .u32 0)) :
    Row .u32 ((w.alloc (.cells (cs .u32 8 v) e1)).alloc (.cells A e2)) w.heap.size 8 v ∧ Row .u32 ((w.alloc (.cells (cs .u32 8 v) e1)).alloc (.cells A e2)) (w.heap.size + 1) 8 (fun _ => 0) ∧
    Below w.heap.size w ((w.alloc (.cells (cs .u32 8 v) e1)).alloc (.cells A e2)) := by
  have z1 : (w.alloc (.cells (cs .u32 8 v) e1)).heap.size = w.heap.size + 1 := World.size_alloc _ _
  have r1 : Row .u32 (w.alloc (.cells (cs .u32 8 v) e1)) w.heap.size 8 v := Row.box
  have b1 : Below w.heap.size w (w.alloc (.cells (cs .u32 8 v) e1)) := (Below.refl _ _).alloc (Nat.le_refl _) _
  generalize w.alloc (.cells (cs .u32 8 v) e1) = w1 at z1 r1 b1 ⊢
  have r3 : Row .u32 (w1.alloc (.cells A e2)) w1.heap.size 8 (fun _ => 0) := Row.rep hA
  rw [z1] at r3
  exact ⟨r1.alloc (by omega) _, r3, b1.alloc (by omega) _⟩

theorem step_vec (v : Nat → Int) (x : Int) (hv : ∀ j, W32 (v j)) (j : Nat) (hj : j < 8) :
    vec8 ((v 7 + xo (xo (rot (v 4) 6) (rot (v 4) 11)) (rot (v 4) 25) + bits .or .u32 (an (v 4) (v 5)) (an (no (v 4)) (v 6)) + x + (xo (xo (rot (v 0) 2) (rot (v 0) 13)) (rot (v 0) 22) + bits .or .u32 (bits .or .u32 (an (v 0) (v 1)) (an (v 0) (v 2))) (an (v 1) (v 2)))) % 4294967296)
      (v 0) (v 1) (v 2) ((v 3 + (v 7 + xo (xo (rot (v 4) 6) (rot (v 4) 11)) (rot (v 4) 25) + bits .or .u32 (an (v 4) (v 5)) (an (no (v 4)) (v 6)) + x)) % 4294967296) (v 4) (v 5) (v 6) j = stp v x j := by
  rw [or_choose _ _ _ (hv 4) (hv 5) (hv 6), or_most _ _ _ (hv 0) (hv 1) (hv 2), ← vec8_of (stp v x) j hj]
  have e0 : (v 7 + xo (xo (rot (v 4) 6) (rot (v 4) 11)) (rot (v 4) 25) + cho (v 4) (v 5) (v 6) + x + (xo (xo (rot (v 0) 2) (rot (v 0) 13)) (rot (v 0) 22) + maj (v 0) (v 1) (v 2))) % 4294967296 = stp v x 0 := by
    show _ = (t1 v x + t2 v) % 4294967296
    unfold t1 t2 hmx lmx
    omega
  have e4 : (v 3 + (v 7 + xo (xo (rot (v 4) 6) (rot (v 4) 11)) (rot (v 4) 25) + cho (v 4) (v 5) (v 6) + x)) % 4294967296 = stp v x 4 := by
    show _ = (v 3 + t1 v x) % 4294967296
    unfold t1 hmx
    omega
  rw [e0, e4]
  rfl

end Go.Proofs.YtnfcnfhchfmcpabDoor
