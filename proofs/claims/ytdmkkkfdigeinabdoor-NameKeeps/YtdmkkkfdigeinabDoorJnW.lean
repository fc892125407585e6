/- The law NameJoins, walked. -/
import Derived.Test.YtdmkkkfdigeinabDoorSpW
import Derived.Test.YtdmkkkfdigeinabDoorJnR
namespace Go.Proofs.YtdmkkkfdigeinabDoor
open Go.RowKit

theorem SIs.below {w w' : World} {x : Option Addr} {n B : Nat} {f : Nat → ByteArray} (h : SIs w x n f) (b : Below B w w') (hB : w.heap.size ≤ B) : SIs w' x n f := fun i hi => by
  obtain ⟨a, ha, hc⟩ := h i hi
  refine ⟨a, ha, ?_⟩
  have hl := World.block_lt_of_cell? _ _ hc
  rw [b.cell (p := a.add i) (by omega)]
  exact hc
theorem spot_none {w : World} {a : Addr} {v : Value} (h : w.cell? a = some v) : a.spot = none := by
  unfold World.cell? at h
  split at h
  · split at h
    · cases h
    · rename_i hs; simpa using hs
  · cases h
theorem SIs.slx {w : World} {x : Option Addr} {n c : Nat} {L : List ByteArray} (h : SIs w x n (nth L)) (hL : L.length = n) (hc : n ≤ c) : SLx w x n c L := by
  refine ⟨hL, hc, ?_⟩
  by_cases e : n = 0
  · exact Or.inl e
  · right
    obtain ⟨a, rfl, c0⟩ := h 0 (by omega)
    have hs : a.spot = none := spot_none (a := a) c0
    obtain ⟨g, o, s⟩ := a
    simp only at hs
    subst hs
    refine ⟨g, o, rfl, World.block_lt_of_cell? _ _ c0, fun j hj => ?_⟩
    obtain ⟨a', ha', cj⟩ := h j hj
    obtain rfl := Option.some.inj ha'
    have ej : (⟨g, o, none⟩ : Addr).add j = ⟨g, o + j, none⟩ := by unfold Addr.add; split <;> simp_all
    rw [ej] at cj
    exact cj
theorem cmp_ba : cmpB ⟨#[98]⟩ ⟨#[97]⟩ = 1 := by decide +kernel

end Go.Proofs.YtdmkkkfdigeinabDoor
