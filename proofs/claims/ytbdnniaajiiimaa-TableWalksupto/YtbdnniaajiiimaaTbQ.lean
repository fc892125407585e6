/- A table's trees, pure: the kept sizes stay right. -/
import Derived.Test.YtbdnniaajiiimaaTbP
namespace Go.Proofs.Ytbdnniaajiiimaa
namespace BT
variable {K : Type} (lt : K → K → Bool)
theorem wth_ok (k : K) (v : Int) (t : BT K) (h : t.Ok) : (wth lt k v t).Ok ∧ t.cnt ≤ (wth lt k v t).cnt ∧ (wth lt k v t).cnt ≤ t.cnt + 1 := by
  induction t with
  | E => exact ⟨⟨rfl, trivial, trivial⟩, Nat.zero_le _, Nat.le_refl _⟩
  | N nk nv s l r il ir =>
    obtain ⟨h1, h2, h3⟩ := h
    obtain ⟨a1, a2, a3⟩ := il h2
    obtain ⟨b1, b2, b3⟩ := ir h3
    unfold wth
    by_cases g1 : lt k nk = true
    · rw [if_pos g1]
      refine ⟨bal_ok _ _ _ _ a1 h3, ?_, ?_⟩
      · rw [bal_cnt _ _ _ _ a1 h3]; show s ≤ _; omega
      · rw [bal_cnt _ _ _ _ a1 h3]; show _ ≤ s + 1; omega
    · rw [if_neg g1]
      by_cases g2 : lt nk k = true
      · rw [if_pos g2]
        refine ⟨bal_ok _ _ _ _ h2 b1, ?_, ?_⟩
        · rw [bal_cnt _ _ _ _ h2 b1]; show s ≤ _; omega
        · rw [bal_cnt _ _ _ _ h2 b1]; show _ ≤ s + 1; omega
      · rw [if_neg g2]
        exact ⟨⟨h1, h2, h3⟩, Nat.le_refl _, Nat.le_succ _⟩
theorem wtout_ok (t : BT K) (h : t.Ok) : ∀ k : K, (wtout lt t k).Ok ∧ (wtout lt t k).cnt ≤ t.cnt := by
  induction t with
  | E => exact fun _ => ⟨trivial, Nat.le_refl _⟩
  | N nk nv s l r il ir =>
    intro k
    obtain ⟨h1, h2, h3⟩ := h
    obtain ⟨a1, a2⟩ := il h2 k
    obtain ⟨b1, b2⟩ := ir h3 k
    unfold wtout
    by_cases g1 : lt k nk = true
    · rw [if_pos g1]
      refine ⟨bal_ok _ _ _ _ a1 h3, ?_⟩
      rw [bal_cnt _ _ _ _ a1 h3]; show _ ≤ s; omega
    · rw [if_neg g1]
      by_cases g2 : lt nk k = true
      · rw [if_pos g2]
        refine ⟨bal_ok _ _ _ _ h2 b1, ?_⟩
        rw [bal_cnt _ _ _ _ h2 b1]; show _ ≤ s; omega
      · rw [if_neg g2]
        unfold joinC
        cases r with
        | E => exact ⟨h2, by show l.cnt ≤ s; omega⟩
        | N a b c d e =>
          show (match atT 0 (N a b c d e) with | E => E | N xk xv _ _ _ => bal xk xv l (wtout lt (N a b c d e) xk)).Ok ∧ (match atT 0 (N a b c d e) with | E => E | N xk xv _ _ _ => bal xk xv l (wtout lt (N a b c d e) xk)).cnt ≤ s
          cases hx : atT 0 (N a b c d e) with
          | E => exact ⟨trivial, Nat.zero_le _⟩
          | N xk xv xs xl xr =>
            obtain ⟨c1, c2⟩ := ir h3 xk
            refine ⟨bal_ok _ _ _ _ h2 c1, ?_⟩
            show (bal xk xv l (wtout lt (N a b c d e) xk)).cnt ≤ s
            have c2' : (wtout lt (N a b c d e) xk).cnt ≤ c := c2
            have h1' : s = l.cnt + 1 + c := h1
            rw [bal_cnt _ _ _ _ h2 c1]; omega
end BT
end Go.Proofs.Ytbdnniaajiiimaa
