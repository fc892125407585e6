/- The document's way back from place to place, against lastOf: pure (for PackWrites). -/
import Derived.Test.YthjpmiidbgaiaaaPkR
namespace Go.Proofs.Ythjpmiidbgaiaaa
open Go.RowKit

/-- The two bytes at a place. -/
def twoAt (s : List UInt8) (i : Nat) : List UInt8 := [s.getD i 0, s.getD (i + 1) 0]
/-- The last place ahead of n at which two bytes stand. -/
def lastTwo (s k : List UInt8) : Nat → Option Nat
  | 0 => none
  | n + 1 => if n + 1 < s.length ∧ twoAt s n = k then some n else lastTwo s k n
/-- What the document's chains hold at a place. -/
def prv (s : List UInt8) (i : Nat) : Option Nat := lastTwo s (twoAt s i) i

theorem lastTwo_some {s k : List UInt8} {n p : Nat} (h : lastTwo s k n = some p) : p < n ∧ p + 1 < s.length ∧ twoAt s p = k := by
  induction n with
  | zero => cases h
  | succ n ih =>
    unfold lastTwo at h
    by_cases hc : n + 1 < s.length ∧ twoAt s n = k
    · rw [if_pos hc] at h
      cases h
      exact ⟨Nat.lt_succ_self _, hc⟩
    · rw [if_neg hc] at h
      have := ih h
      exact ⟨by omega, this.2⟩
theorem four_two (s : List UInt8) (a b : Nat) (h : fourAt s a = fourAt s b) : twoAt s a = twoAt s b := by
  unfold fourAt at h
  injection h with e0 h
  injection h with e1 h
  unfold twoAt
  rw [e0, e1]

/-- One step of the way. -/
theorem last_chain (s : List UInt8) (i : Nat) : ∀ n, n + 1 < s.length → lastOf s (fourAt s i) n = match lastTwo s (twoAt s i) n with
    | none => none
    | some c => if c + 4 ≤ s.length ∧ fourAt s c = fourAt s i then some c else lastOf s (fourAt s i) c := by
  intro n
  induction n with
  | zero => intro _; rfl
  | succ n ih =>
    intro hn
    unfold lastTwo
    by_cases ht : twoAt s n = twoAt s i
    · rw [if_pos ⟨by omega, ht⟩]
      rfl
    · rw [if_neg (fun c => ht c.2)]
      have hf : ¬ (n + 4 ≤ s.length ∧ fourAt s n = fourAt s i) := fun c => ht (four_two s n i c.2)
      have e : lastOf s (fourAt s i) (n + 1) = lastOf s (fourAt s i) n := by
        show (if n + 4 ≤ s.length ∧ fourAt s n = fourAt s i then some n else lastOf s (fourAt s i) n) = _
        rw [if_neg hf]
      rw [e, ih (by omega)]

/-- The document's search: from a place of the chain on. -/
def srch (s : List UInt8) (i : Nat) : Nat → Option Nat → Option Nat
  | _, none => none
  | 0, some _ => none
  | f + 1, some c => if 65536 < i - c then none else if fourAt s c = fourAt s i then some c else srch s i f (prv s c)

theorem srch_is (s : List UInt8) (i : Nat) (hi : i + 4 ≤ s.length) : ∀ (f n : Nat), n ≤ f → n ≤ i → srch s i f (lastTwo s (twoAt s i) n) = (match lastOf s (fourAt s i) n with | some p => if i - p ≤ 65536 then some p else none | none => none) := by
  intro f
  induction f with
  | zero =>
    intro n h1 _
    obtain rfl : n = 0 := by omega
    rfl
  | succ f ih =>
    intro n h1 h2
    have hc := last_chain s i n (by omega)
    cases hl : lastTwo s (twoAt s i) n with
    | none => rw [hl] at hc; dsimp only at hc; rw [hc]; rfl
    | some c =>
      rw [hl] at hc
      dsimp only at hc
      obtain ⟨c1, c2, c3⟩ := lastTwo_some hl
      show (if 65536 < i - c then none else if fourAt s c = fourAt s i then some c else srch s i f (prv s c)) = _
      by_cases hfar : 65536 < i - c
      · rw [if_pos hfar]
        cases ho : lastOf s (fourAt s i) n with
        | none => rfl
        | some p =>
          have hp : p ≤ c := by
            rw [ho] at hc
            by_cases hh : c + 4 ≤ s.length ∧ fourAt s c = fourAt s i
            · rw [if_pos hh] at hc; injection hc with hc; omega
            · rw [if_neg hh] at hc; have := (lastOf_some hc.symm).1; omega
          dsimp only
          rw [if_neg (by omega)]
      · rw [if_neg hfar]
        by_cases h4 : fourAt s c = fourAt s i
        · rw [if_pos h4, hc, if_pos ⟨by omega, h4⟩]
          dsimp only
          rw [if_pos (by omega)]
        · rw [if_neg h4, hc, if_neg (fun x => h4 x.2)]
          unfold prv
          rw [c3]
          exact ih c (by omega) (by omega)

theorem srch_find (s : List UInt8) (i : Nat) (hi : i + 4 ≤ s.length) : srch s i i (prv s i) = findB s i := by
  unfold prv findB
  rw [srch_is s i hi i i (Nat.le_refl _) (Nat.le_refl _), if_pos hi]
  rfl

end Go.Proofs.Ythjpmiidbgaiaaa
