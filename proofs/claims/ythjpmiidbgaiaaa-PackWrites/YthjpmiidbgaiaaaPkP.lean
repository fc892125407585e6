/- Packing, as a function on lists of bytes. -/
import Derived.Test.YthjpmiidbgaiaaaUpQ
namespace Go.Proofs.Ythjpmiidbgaiaaa
open Go.RowKit

/-- The four bytes at a place. -/
def fourAt (s : List UInt8) (i : Nat) : List UInt8 := [s.getD i 0, s.getD (i + 1) 0, s.getD (i + 2) 0, s.getD (i + 3) 0]
/-- The last place ahead of i at which four bytes stand. -/
def lastOf (s : List UInt8) (k : List UInt8) : Nat → Option Nat
  | 0 => none
  | i + 1 => if i + 4 ≤ s.length ∧ fourAt s i = k then some i else lastOf s k i
/-- How many bytes are the same, from two places on; at most n. -/
def mch (s : List UInt8) (a b : Nat) : Nat → Nat → Nat
  | 0, i => i
  | n + 1, i => if s.getD (a + i) 0 = s.getD (b + i) 0 then mch s a b n (i + 1) else i
/-- Bytes written as they are. -/
def plT : Nat → List UInt8 → List UInt8
  | 0, _ => []
  | f + 1, l => if l.length = 0 then [] else UInt8.ofNat (min 128 l.length - 1) :: (l.take 128 ++ plT f (l.drop 128))
/-- A token that points back. -/
def bkT (far n : Nat) : List UInt8 := [UInt8.ofNat (124 + n), UInt8.ofNat ((far - 1) % 256), UInt8.ofNat ((far - 1) / 256)]
/-- Where a place's bytes stood last, near enough. -/
def findB (s : List UInt8) (i : Nat) : Option Nat :=
  if i + 4 ≤ s.length then (match lastOf s (fourAt s i) i with | some p => if i - p ≤ 65536 then some p else none | none => none) else none
/-- The bytes from p on up to i. -/
def cutL (s : List UInt8) (p i : Nat) : List UInt8 := (s.drop p).take (i - p)
/-- The tokens from a place on; p: where the bytes begin that are still to be written. -/
def pkGo (s : List UInt8) : Nat → Nat → Nat → List UInt8
  | 0, _, p => plT (s.length + 1) (cutL s p s.length)
  | f + 1, i, p =>
    if i < s.length then
      match findB s i with
      | some q => plT (s.length + 1) (cutL s p i) ++ bkT (i - q) (mch s q i (min 131 (s.length - i)) 0) ++ pkGo s f (i + mch s q i (min 131 (s.length - i)) 0) (i + mch s q i (min 131 (s.length - i)) 0)
      | none => pkGo s f (i + 1) p
    else plT (s.length + 1) (cutL s p s.length)
/-- A number as k bytes, least first. -/
def lek : Nat → Nat → List UInt8
  | 0, _ => []
  | k + 1, n => UInt8.ofNat (n % 256) :: lek k (n / 256)
def pk (s : List UInt8) : List UInt8 := lek 8 s.length ++ pkGo s s.length 0 0

theorem lastOf_some {s k : List UInt8} {n p : Nat} (h : lastOf s k n = some p) : p < n ∧ p + 4 ≤ s.length ∧ fourAt s p = k := by
  induction n with
  | zero => cases h
  | succ n ih =>
    unfold lastOf at h
    by_cases hc : n + 4 ≤ s.length ∧ fourAt s n = k
    · rw [if_pos hc] at h
      cases h
      exact ⟨Nat.lt_succ_self _, hc⟩
    · rw [if_neg hc] at h
      have := ih h
      exact ⟨by omega, this.2⟩

theorem mch_le (s : List UInt8) (a b : Nat) : ∀ (n i : Nat), i ≤ mch s a b n i ∧ mch s a b n i ≤ i + n := by
  intro n
  induction n with
  | zero => intro i; exact ⟨Nat.le_refl _, Nat.le_refl _⟩
  | succ n ih =>
    intro i
    unfold mch
    by_cases h : s.getD (a + i) 0 = s.getD (b + i) 0
    · rw [if_pos h]; have := ih (i + 1); omega
    · rw [if_neg h]; omega
theorem mch_eq (s : List UInt8) (a b : Nat) : ∀ (n i j : Nat), i ≤ j → j < mch s a b n i → s.getD (a + j) 0 = s.getD (b + j) 0 := by
  intro n
  induction n with
  | zero => intro i j h1 h2; unfold mch at h2; omega
  | succ n ih =>
    intro i j h1 h2
    unfold mch at h2
    by_cases h : s.getD (a + i) 0 = s.getD (b + i) 0
    · rw [if_pos h] at h2
      by_cases e : i = j
      · rw [← e]; exact h
      · exact ih (i + 1) j (by omega) h2
    · rw [if_neg h] at h2; omega
/-- As many as are known to be the same. -/
theorem mch_ge (s : List UInt8) (a b : Nat) : ∀ (n i k : Nat), k ≤ i + n → (∀ j, i ≤ j → j < k → s.getD (a + j) 0 = s.getD (b + j) 0) → k ≤ mch s a b n i := by
  intro n
  induction n with
  | zero => intro i k h _; unfold mch; omega
  | succ n ih =>
    intro i k h he
    unfold mch
    by_cases hk : k ≤ i
    · have := (mch_le s a b (n + 1) i).1
      unfold mch at this
      omega
    · rw [if_pos (he i (Nat.le_refl _) (by omega))]
      exact ih (i + 1) k (by omega) (fun j h1 h2 => he j (by omega) h2)

theorem findB_some {s : List UInt8} {i q : Nat} (h : findB s i = some q) : q < i ∧ i + 4 ≤ s.length ∧ i - q ≤ 65536 ∧ 4 ≤ mch s q i (min 131 (s.length - i)) 0 := by
  unfold findB at h
  by_cases h4 : i + 4 ≤ s.length
  · rw [if_pos h4] at h
    cases hl : lastOf s (fourAt s i) i with
    | none => rw [hl] at h; cases h
    | some p =>
      rw [hl] at h
      dsimp only at h
      by_cases hf : i - p ≤ 65536
      · rw [if_pos hf] at h
        cases h
        obtain ⟨h1, h2, h3⟩ := lastOf_some hl
        refine ⟨h1, h4, hf, mch_ge _ _ _ _ _ _ (by omega) (fun j _ hj => ?_)⟩
        unfold fourAt at h3
        injection h3 with e0 h3
        injection h3 with e1 h3
        injection h3 with e2 h3
        injection h3 with e3 h3
        match j, hj with
        | 0, _ => exact e0
        | 1, _ => exact e1
        | 2, _ => exact e2
        | 3, _ => exact e3
      · rw [if_neg hf] at h; cases h
  · rw [if_neg h4] at h; cases h

end Go.Proofs.Ythjpmiidbgaiaaa
