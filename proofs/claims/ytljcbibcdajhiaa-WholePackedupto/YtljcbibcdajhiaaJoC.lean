/- What tree's walk wants of strings.Join. -/
import Derived.Test.YtljcbibcdajhiaaJoB
import Derived.Test.YtljcbibcdajhiaaTcE
namespace Go.Proofs.Ytljcbibcdajhiaa
open Go.RowKit

theorem joinB_jnS (xs : List ByteArray) : ∀ k, k ≤ xs.length → joinB (xs.take k) = jnS (fun i => xs[i]?.getD ⟨#[]⟩) ⟨#[47]⟩ k := by
  intro k
  induction k with
  | zero => intro _; rw [List.take_zero]; rfl
  | succ k ih =>
    intro hk
    rw [List.take_succ_eq_append_getElem (by omega)]
    by_cases h0 : k = 0
    · subst h0
      show joinB ([] ++ [xs[0]]) = xs[0]?.getD ⟨#[]⟩
      rw [List.getElem?_eq_getElem (by omega)]
      rfl
    · obtain ⟨m, rfl⟩ : ∃ m, k = m + 1 := ⟨k - 1, by omega⟩
      rw [joinB_snoc _ _ (by intro e; have h9 := congrArg List.length e; rw [List.length_take, List.length_nil] at h9; omega), ih (by omega), jnS_more, List.getElem?_eq_getElem (show m + 1 < xs.length by omega)]
      rfl
theorem joinC : JoinC := fun x c xs w hx hc hl hz => by
  have hS : SIs w x xs.length (fun i => xs[i]?.getD ⟨#[]⟩) := fun i hi => by
    obtain ⟨g, o, rfl, _, h3⟩ := hx i hi
    refine ⟨⟨g, o, none⟩, rfl, ?_⟩
    rw [Addr.add_lit, h3]
    show _ = some (Value.string (xs[i]?.getD ⟨#[]⟩))
    rw [List.getElem?_eq_getElem hi]
    rfl
  have h := join_any x xs.length c _ ⟨#[47]⟩ w hS hc (by omega) (fun i hi => by rw [List.getElem?_eq_getElem hi]; exact hz _ (List.getElem_mem hi)) rfl
  rw [← joinB_jnS xs xs.length (Nat.le_refl _), List.take_length] at h
  exact h

end Go.Proofs.Ytljcbibcdajhiaa
