/- A slice of numbers that the call gathers by append (own text of the verifier). -/
import Derived.Test.YtgnlkggodchlbaaDoorMem
namespace Go.Proofs.YtgnlkggodchlbaaDoor
open Go.RowKit

/-- v is a slice of n numbers f 0, .. f (n-1) of kind k, which the call itself made (blocks from B on). -/
def Own (k : IntKind) (e : TypeId) (w : World) (B : Nat) (v : Value) (n : Nat) (f : Nat → Int) : Prop :=
  w.ownsRow B e 1 v n ((List.range n).map (fun i => Value.int k (f i)))

theorem Own.nil (k : IntKind) (e : TypeId) (w : World) (B : Nat) (f : Nat → Int) : Own k e w B (.slice none 0 0) 0 f := World.ownsRow_nil _ _ _ _

theorem Own.alloc {k : IntKind} {e : TypeId} {w : World} {B : Nat} {v : Value} {n : Nat} {f : Nat → Int} (h : Own k e w B v n f) (o : Obj) : Own k e (w.alloc o) B v n f := World.ownsRow.alloc h o

theorem Own.open {k : IntKind} {e : TypeId} {w : World} {B : Nat} {v : Value} {n : Nat} {f : Nat → Int} (h : Own k e w B v n f) (hn : 0 < n) :
    ∃ g cap, v = .slice (some ⟨g, 0, none⟩) n cap ∧ B ≤ g ∧ g < w.heap.size ∧ n ≤ cap ∧ Row k w g n f := by
  obtain ⟨_, h | ⟨g, cap, cur, hv, hb, hg, hnc, _, _, htake⟩⟩ := h
  · omega
  · refine ⟨g, cap, hv, hb, (Array.getElem?_eq_some_iff.1 hg).1, hnc, ⟨fun j hj => ?_, fun j hj => ?_⟩⟩
    · rw [cell_of_row w g j cur e (0, 0) hg]
      have h2 : (cur.toList.take (n * 1))[j]? = some (Value.int k (f j)) := by rw [htake]; simp [hj]
      rw [List.getElem?_take] at h2
      split at h2
      · simpa using h2
      · cases h2
    · simp [World.frozen?, hg]

/-- append(s, y), s the call's own. -/
theorem wpList_append_one {P : Program} (w : World) {ops : Array Oper} {rest : List Oper} {o : Oper} {a : Act} {Q : Exit → Act → World → Prop} (hgd : o.guard = none) (s x : Operand) (t : TypeId)
    (ho : o.op = .call { callee := .builtin .append, args := #[s, x], argTypes := #[t, t] })
    (B : Nat) (e : TypeId) (i : TypeInfo) (k : IntKind) (bytes : Nat) (ht : P.underlying t = some (.slice e)) (hi : P.info? e = some i) (hz : i.zero = some (.int k 0))
    (hsize : i.size = 1) (hby : i.bytes = bytes) (hb8 : bytes ≤ 8)
    (v : Value) (n : Nat) (f : Nat → Int) (hs : a.eval s = v) (hown : Own k e w B v n f)
    (g c : Nat) (y : Int) (hx : a.eval x = .slice (some ⟨g, 0, none⟩) 1 c) (hc : w.cell? ⟨g, 0, none⟩ = some (.int k y)) (hy : y = f n) (hn : n ≤ 17592186044415) (hbase : B ≤ w.heap.size)
    (h : ∀ v' w', Own k e w' B v' (n + 1) f → Below B w w' → w.grownBy w' v.ownBlock → wpList P ops Q rest (a.put o.dst v') w') : wpList P ops Q (o :: rest) a w := by
  refine wpList_append_own w hgd s x t ho B e i (.int k 0) 1 bytes ht hi hz hsize hby rfl (by decide) v n _ hs hown ⟨g, 0, none⟩ 1 c [.int k y] hx rfl ?_ ?_ (by unfold maxLen; omega) ?_ hbase ?_
  · intro j u hj
    match j, hj with
    | 0, hj => simp at hj; subst hj; simpa [Addr.add] using hc
  · intro u hu; simp at hu; subst hu; rfl
  · have : (n + 1) * bytes ≤ 17592186044416 * 8 := Nat.mul_le_mul (by omega) hb8
    omega
  · intro v' w' h1 h2 _
    refine h v' w' ?_ ((Below.refl B w).grown h2 hbase (fun k hk => (World.ownsRow.lt hown k hk).1)) h2
    unfold Own
    rw [List.range_succ, List.map_append, List.map_cons, List.map_nil, ← hy]
    exact h1

#print axioms wpList_append_one
end Go.Proofs.YtgnlkggodchlbaaDoor
