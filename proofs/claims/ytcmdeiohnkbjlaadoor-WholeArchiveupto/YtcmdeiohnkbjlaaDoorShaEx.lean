/- Comparing two arrays of numbers. -/
import Derived.Test.YtcmdeiohnkbjlaaDoorXA
import Derived.ChangeKeysEq
namespace Go.Proofs.YtcmdeiohnkbjlaaDoor
open Go.RowKit
theorem run_part_cs {P : Program} (w : World) (e : TypeId) (k k' : IntKind) (n : Nat) (f : Nat → Int) (he : P.underlying e = some (.int k')) (j : Nat) (hj : j < n) : (part e (cs k n f) j).run P w = .ok (.int k (f j)) w := by
  simp [part, isAgg, run_underlying he, cs_get k n f j hj]

theorem eqItems_cs {P : Program} (w : World) (d : Nat) (e : TypeId) (k k' : IntKind) (n : Nat) (f g : Nat → Int) (he : P.underlying e = some (.int k')) :
    ∀ (L : List Nat), (∀ i ∈ L, i < n) → (Op.eqItems (d + 1) e 1 (cs k n f) (cs k n g) L).run P w = .ok (L.all fun i => f i == g i) w
  | [], _ => by simp [Op.eqItems]
  | i :: L, h => by
    have hi := h i (by simp)
    have ih := eqItems_cs w d e k k' n f g he L (fun j hj => h j (by simp [hj]))
    rw [Op.eqItems]
    simp only [Nat.mul_one, Sem.run_bind, run_part_cs w e k k' n f he i hi, run_part_cs w e k k' n g he i hi, Result.andThen_ok, run_equalIn_int w d e k k' (f i) (g i) he]
    by_cases hfg : f i = g i
    · simp [hfg, ih]
    · simp [hfg]

theorem run_equalIn_cs {P : Program} (w : World) (d : Nat) (t e : TypeId) (k k' : IntKind) (n : Nat) (f g : Nat → Int) {i : TypeInfo} (hu : P.underlying t = some (.array n e)) (hi : P.info? e = some i) (hc : P.cellsOf e = 1) (he : P.underlying e = some (.int k')) :
    (Op.equalIn (d + 1 + 1) t (.agg (cs k n f)) (.agg (cs k n g))).run P w = .ok ((List.range n).all fun i => f i == g i) w := by
  rw [run_equalIn_array w (d + 1) _ _ hu hi, hc]
  exact eqItems_cs w d e k k' n f g he _ (fun i hi => List.mem_range.1 hi)

theorem run_equalIn_same {P : Program} (w : World) (d : Nat) (t e : TypeId) (k k' : IntKind) (n : Nat) (f : Nat → Int) (hu : P.underlying t = some (.array n e)) (hi : (P.info? e).isSome = true) (hc : P.cellsOf e = 1) (he : P.underlying e = some (.int k')) :
    (Op.equalIn (d + 1 + 1) t (.agg (cs k n f)) (.agg (cs k n f))).run P w = .ok true w := by
  obtain ⟨i, hi'⟩ := Option.isSome_iff_exists.1 hi
  rw [run_equalIn_cs w d t e k k' n f f hu hi' hc he]
  simp
#print axioms run_equalIn_same
end Go.Proofs.YtcmdeiohnkbjlaaDoor
