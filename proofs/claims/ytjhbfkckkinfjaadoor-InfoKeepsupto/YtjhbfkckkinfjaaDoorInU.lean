/- The laws' plain; walked. -/
import Derived.Test.YtjhbfkckkinfjaaDoorInN
import Derived.Laws.Tables
namespace Go.Proofs.YtjhbfkckkinfjaaDoor
open Go.RowKit Go.Shelf

theorem Inf.digRange {w : World} {g : Nat} {P : ByteArray} {D : Nat → Int} {z : Int} {vr : Value} {F : ByteArray} {vs : Value} (h : Inf w g P D z vr F vs) : w.rangeAt g 1 (cs .u8 32 D).toList := fun j v hv => by
  have hj : j < 32 := by
    have := (List.getElem?_eq_some_iff.1 hv).1
    rw [Array.length_toList, cs_size] at this; exact this
  rw [h.dig j hj, ← hv]
  simp [cs, hj]

end Go.Proofs.YtjhbfkckkinfjaaDoor
