/- The bytes of a node and of all below it. -/
import Derived.Test.YtljcbibcdajhiaaTcC
import Derived.Test.YtljcbibcdajhiaaTqA
import Derived.Deep.RegionWith
namespace Go.Proofs.Ytljcbibcdajhiaa
open Go.RowKit

mutual
def tbT : Tr → Int
  | .mk k e t ns ks => nbP k e t + tbL ns ks
def tbL : List ByteArray → List Tr → Int
  | s :: ns, T :: ks => ebP s + tbT T + tbL ns ks
  | _, _ => 0
end
mutual
def szT : Tr → Prop
  | .mk _ _ t ns ks => t.size ≤ 140737488351232 ∧ szL ns ks
def szL : List ByteArray → List Tr → Prop
  | s :: ns, T :: ks => s.size ≤ 140737488351232 ∧ szT T ∧ szL ns ks
  | _, _ => True
end
theorem nbP_bd (k : Int) (e : Bool) (t : ByteArray) : 0 ≤ nbP k e t ∧ nbP k e t ≤ 1099511628000 := by
  have := fr_bd t.size
  unfold nbP
  split
  · cases e <;> simp <;> omega
  · split
    · omega
    · split <;> omega
theorem ebP_bd (s : ByteArray) : 0 ≤ ebP s ∧ ebP s ≤ 1099511628000 := by
  have := fr_bd s.size
  unfold ebP
  omega
theorem tbL_take (ns : List ByteArray) : ∀ (ks : List Tr) (i : Nat) (s : ByteArray) (T : Tr), ns[i]? = some s → ks[i]? = some T → tbL (ns.take (i + 1)) (ks.take (i + 1)) = tbL (ns.take i) (ks.take i) + (ebP s + tbT T) := by
  induction ns with
  | nil => intro ks i s T h; simp at h
  | cons a ns ih =>
    intro ks i s T h1 h2
    cases ks with
    | nil => simp at h2
    | cons K ks =>
      cases i with
      | zero =>
        simp at h1 h2
        subst h1 h2
        simp [tbL]
      | succ i =>
        have := ih ks i s T (by simpa using h1) (by simpa using h2)
        rw [List.take_succ_cons, List.take_succ_cons, List.take_succ_cons, List.take_succ_cons, tbL, tbL, this]
        omega
theorem szL_at (ns : List ByteArray) : ∀ (ks : List Tr) (i : Nat) (s : ByteArray) (T : Tr), szL ns ks → ns[i]? = some s → ks[i]? = some T → s.size ≤ 140737488351232 ∧ szT T := by
  induction ns with
  | nil => intro ks i s T _ h; simp at h
  | cons a ns ih =>
    intro ks i s T h0 h1 h2
    cases ks with
    | nil => simp at h2
    | cons K ks =>
      rw [szL] at h0
      cases i with
      | zero =>
        simp at h1 h2
        subst h1 h2
        exact ⟨h0.1, h0.2.1⟩
      | succ i => exact ih ks i s T h0.2.2 (by simpa using h1) (by simpa using h2)
theorem tb_nonneg (f : Nat) : ∀ (w : World) (v : Value) (T : Tr), At w f v T → 0 ≤ tbT T := by
  induction f with
  | zero => intro w v T h; exact h.elim
  | succ f ih =>
    rintro w v ⟨k, e, t, ns, ks⟩ ⟨x, n, c, rfl, l1, l2, l3, l4, hx⟩
    have EX : Ents w f x n ns ks := At.ents hx
    have key : ∀ i, i ≤ n → 0 ≤ tbL (ns.take i) (ks.take i) := by
      intro i
      induction i with
      | zero => intro _; simp [tbL]
      | succ i ih2 =>
        intro hi
        obtain ⟨s, hs⟩ : ∃ s, ns[i]? = some s := ⟨_, List.getElem?_eq_getElem (by omega)⟩
        obtain ⟨S, hS⟩ : ∃ s, ks[i]? = some s := ⟨_, List.getElem?_eq_getElem (by omega)⟩
        rw [tbL_take ns ks i s S hs hS]
        obtain ⟨g, o, a, b, d, f', p, q, _, _, _, _, _, _, _, hA⟩ := EX i s S (by omega) hs hS
        have := ih w _ S hA
        have := ebP_bd s
        have := ih2 (by omega)
        omega
    have := key n (Nat.le_refl _)
    rw [List.take_of_length_le (by omega), List.take_of_length_le (by omega)] at this
    have := nbP_bd k e t
    rw [tbT]
    omega

theorem tbL_mono (ns : List ByteArray) (ks : List Tr) (n : Nat) (l1 : ns.length = n) (l2 : ks.length = n) (HP : ∀ (j : Nat) (T : Tr), j < n → ks[j]? = some T → 0 ≤ tbT T) : ∀ d i, i + d = n → tbL (ns.take i) (ks.take i) ≤ tbL ns ks := by
  intro d
  induction d with
  | zero =>
    intro i hi
    rw [List.take_of_length_le (by omega), List.take_of_length_le (by omega)]
    exact Int.le_refl _
  | succ d ih =>
    intro i hi
    obtain ⟨s, hs⟩ : ∃ s, ns[i]? = some s := ⟨_, List.getElem?_eq_getElem (by omega)⟩
    obtain ⟨S, hS⟩ : ∃ s, ks[i]? = some s := ⟨_, List.getElem?_eq_getElem (by omega)⟩
    have h1 := tbL_take ns ks i s S hs hS
    have h2 := ih (i + 1) (by omega)
    have := HP i S (by omega) hS
    have := ebP_bd s
    omega
theorem tbL_nonneg (ns : List ByteArray) (ks : List Tr) (n : Nat) (l1 : ns.length = n) (l2 : ks.length = n) (HP : ∀ (j : Nat) (T : Tr), j < n → ks[j]? = some T → 0 ≤ tbT T) : ∀ i, i ≤ n → 0 ≤ tbL (ns.take i) (ks.take i) := by
  intro i
  induction i with
  | zero => intro _; simp [tbL]
  | succ i ih =>
    intro hi
    obtain ⟨s, hs⟩ : ∃ s, ns[i]? = some s := ⟨_, List.getElem?_eq_getElem (by omega)⟩
    obtain ⟨S, hS⟩ : ∃ s, ks[i]? = some s := ⟨_, List.getElem?_eq_getElem (by omega)⟩
    rw [tbL_take ns ks i s S hs hS]
    have := HP i S (by omega) hS
    have := ebP_bd s
    have := ih (by omega)
    omega
/-- A kid's block, behind what made memory above it. -/
theorem afterK {w w5 : World} {C : Array Value} {T1 : TypeId} (b : Below (w.alloc (.cells C T1)).heap.size (w.alloc (.cells C T1)) w5) : ∀ j, w5.cell? ⟨w.heap.size, j, none⟩ = C[j]? := fun j =>
  (b.cell (p := ⟨w.heap.size, j, none⟩) (by rw [World.size_alloc]; show w.heap.size < _; omega)).trans (World.cell?_alloc_new w _ _ j)

end Go.Proofs.Ytljcbibcdajhiaa
