/- The round constants as cube roots of the first 64 primes, reckoned. -/
import Derived.Test.YtholbaefmncphaaDoorRtE
namespace Go.Proofs.YtholbaefmncphaaDoor
open Go.RowKit
def prs64 : List Nat := [1, 2, 3, 5, 7, 11, 13, 17, 19, 23, 29, 31, 37, 41, 43, 47, 53, 59, 61, 67, 71, 73, 79, 83, 89, 97, 101, 103, 107, 109, 113, 127, 131, 137, 139, 149, 151, 157, 163, 167, 173, 179, 181, 191, 193, 197, 199, 211, 223, 227, 229, 233, 239, 241, 251, 257, 263, 269, 271, 277, 281, 283, 293, 307, 311]
theorem next64 : ∀ i, i < 64 → nxT 100 (prs64.getD i 0 + 1) = some (prs64.getD (i + 1) 0) := by decide +kernel
theorem prs64_bd : ∀ i, i < 65 → 1 ≤ prs64.getD i 0 ∧ prs64.getD i 0 ≤ 400 := by decide +kernel
/-- Is constant i the root of the prime behind place i? -/
def okR (i : Nat) : Bool := match rootT (prs64.getD (i + 1) 0) 3 with | some r => decide (((r % 4294967296 : Nat) : Int) = kk i) | none => false
def allR (a n : Nat) : Bool := (List.range n).all fun i => okR (a + i)
theorem all0 : allR 0 16 = true := by kernel_rfl
theorem all1 : allR 16 16 = true := by kernel_rfl
theorem all2 : allR 32 16 = true := by kernel_rfl
theorem all3 : allR 48 16 = true := by kernel_rfl
theorem allR_get {a n : Nat} (h : allR a n = true) (i : Nat) (hi : i < n) : okR (a + i) = true := List.all_eq_true.1 h i (List.mem_range.2 hi)
theorem root64 (i : Nat) (hi : i < 64) : ∃ r, rootT (prs64.getD (i + 1) 0) 3 = some r ∧ ((r % 4294967296 : Nat) : Int) = kk i := by
  have h : okR i = true := by
    by_cases h1 : i < 16
    · have := allR_get all0 i h1; rwa [Nat.zero_add] at this
    · by_cases h2 : i < 32
      · have := allR_get all1 (i - 16) (by omega); rwa [show 16 + (i - 16) = i by omega] at this
      · by_cases h3 : i < 48
        · have := allR_get all2 (i - 32) (by omega); rwa [show 32 + (i - 32) = i by omega] at this
        · have := allR_get all3 (i - 48) (by omega); rwa [show 48 + (i - 48) = i by omega] at this
  unfold okR at h
  split at h
  · rename_i r hr
    exact ⟨r, hr, of_decide_eq_true h⟩
  · cases h
#print axioms root64
end Go.Proofs.YtholbaefmncphaaDoor
