/- The roots of primes, reckoned on lists of digits as the reference reckons them: twins of times, above, Root and next. -/
import Derived.Test.YtholbaefmncphaaDoorShaA
namespace Go.Proofs.YtholbaefmncphaaDoor
open Go.RowKit
/-- One digit of a product: what stands there, the carry and the product of two digits. -/
def xT (B C : List Nat) (ai i j c : Nat) : Nat := if j < B.length then ((C.getD (i + j) 0 + c) % 18446744073709551616 + ai * B.getD j 0 % 18446744073709551616) % 18446744073709551616 else (C.getD (i + j) 0 + c) % 18446744073709551616
def stepT (B : List Nat) (ai i : Nat) : Nat → Nat → Nat → List Nat → Option (List Nat)
  | 0, _, _, _ => none
  | f + 1, j, c, C => if j < B.length ∨ 0 < c then (if i + j < C.length then stepT B ai i f (j + 1) (xT B C ai i j c / 65536) (C.set (i + j) (xT B C ai i j c % 65536)) else none) else some C
def outT (A B : List Nat) : Nat → Nat → List Nat → Option (List Nat)
  | 0, _, C => some C
  | n + 1, i, C => (stepT B (A.getD i 0) i 40 0 0 C).bind fun C' => outT A B n (i + 1) C'
def timesT (A B : List Nat) : Option (List Nat) := outT A B A.length 0 (List.replicate (A.length + B.length) 0)
def aboveT (A B : List Nat) : Nat → Bool
  | 0 => false
  | n + 1 => if A.getD n 0 = B.getD n 0 then aboveT A B n else decide (B.getD n 0 < A.getD n 0)
def powT (D : List Nat) : Nat → List Nat → Option (List Nat)
  | 0, P => some P
  | n + 1, P => (timesT P D).bind fun P' => powT D n P'
def digT (y : Nat) : List Nat := [y % 65536, y / 65536 % 65536, y / 4294967296 % 65536]
def takeT (P b : List Nat) (x y : Nat) : Nat := if aboveT P b (P.length + b.length + 1) = true then x else y
def bitsT (b : List Nat) (k : Nat) : Nat → Nat → Option Nat
  | 0, x => some x
  | n + 1, x => (powT (digT (x ||| 2 ^ n)) (k - 1) (digT (x ||| 2 ^ n))).bind fun P => bitsT b k n (takeT P b x (x ||| 2 ^ n))
def rootT (p k : Nat) : Option Nat := (powT [0, 0, 1] k [p]).bind fun b => bitsT b k 38 0
/-- Is q prime, d and the numbers behind it to be tried? -/
def prT (q : Nat) : Nat → Nat → Bool → Option Bool
  | 0, _, _ => none
  | f + 1, d, b => if d * d ≤ q then prT q f (d + 1) (if q % d = 0 then false else b) else some b
def nxT : Nat → Nat → Option Nat
  | 0, _ => none
  | f + 1, q => (prT q 400 2 true).bind fun b => if b = true then some q else nxT f (q + 1)
def prs : List Nat := [1, 2, 3, 5, 7, 11, 13, 17, 19]
theorem next8 : ∀ i, i < 8 → nxT 100 (prs.getD i 0 + 1) = some (prs.getD (i + 1) 0) := by decide +kernel
end Go.Proofs.YtholbaefmncphaaDoor
