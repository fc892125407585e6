/- The walk of a tree as a pure function: the bytes, or the first offence with its path. -/
import Derived.Test.YtljcbibcdajhiaaTcF
namespace Go.Proofs.Ytljcbibcdajhiaa
open Go.RowKit

/-- The bytes so far; what the walk gave up with. -/
structure VR where
  bytes : Int
  off : Option (ByteArray × Int)
/-- Of an entry: the name ahead of it, if there is one. -/
def entO (prev : Option ByteArray) (s : ByteArray) (b : Int) : Int := match prev with
  | none => entC 1 s s b
  | some s' => entC 2 s' s b
mutual
def vT (ns : List ByteArray) (b : Int) : Tr → VR
  | .mk k e t nms ks =>
    if 32 < 1 + ns.length then ⟨b, some (joinB ns, 61)⟩
    else if cfP k e t nms.length ≠ 0 then ⟨b, some (joinB ns, cfP k e t nms.length)⟩
    else if 1048576 < b + nbP k e t then ⟨b + nbP k e t, some (joinB ns, 2)⟩
    else vL ns (b + nbP k e t) none nms ks
def vL (ns : List ByteArray) (b : Int) (prev : Option ByteArray) : List ByteArray → List Tr → VR
  | s :: nms, T :: ks =>
    if entO prev s b ≠ 0 then ⟨b, some (joinB (ns ++ [s]), entO prev s b)⟩
    else match (vT (ns ++ [s]) (b + ebP s) T).off with
      | none => vL ns (vT (ns ++ [s]) (b + ebP s) T).bytes (some s) nms ks
      | some o => ⟨(vT (ns ++ [s]) (b + ebP s) T).bytes, some o⟩
  | _, _ => ⟨b, none⟩
end
theorem entO_ok (prev : Option ByteArray) (s : ByteArray) (b : Int) (h : entO prev s b = 0) : chk s = 0 ∧ b + ebP s ≤ 1048576 := by
  have key : ∀ m s', entC m s' s b = 0 → chk s = 0 ∧ b + ebP s ≤ 1048576 := fun m s' h => by
    unfold entC at h
    split at h
    · rename_i h1; exact absurd h h1
    · rename_i h1
      split at h
      · exact absurd h (by decide)
      · split at h
        · exact absurd h (by decide)
        · rename_i h3
          exact ⟨by omega, by omega⟩
  cases prev with
  | none => exact key 1 s h
  | some s' => exact key 2 s' h

mutual
/-- A walk that gives nothing up has counted the tree's bytes. -/
theorem vT_bytes (ns : List ByteArray) (b : Int) : ∀ T : Tr, (vT ns b T).off = none → (vT ns b T).bytes = b + tbT T
  | .mk k e t nms ks => fun h => by
    rw [vT] at h ⊢
    split at h
    · cases h
    · rename_i h1
      rw [if_neg h1]
      split at h
      · cases h
      · rename_i h2
        rw [if_neg h2]
        split at h
        · cases h
        · rename_i h3
          rw [if_neg h3]
          have := vL_bytes ns (b + nbP k e t) none nms ks h
          rw [this, tbT]
          omega
theorem vL_bytes (ns : List ByteArray) (b : Int) (prev : Option ByteArray) : ∀ (nms : List ByteArray) (ks : List Tr), (vL ns b prev nms ks).off = none → (vL ns b prev nms ks).bytes = b + tbL nms ks
  | s :: nms, T :: ks => fun h => by
    rw [vL] at h ⊢
    split at h
    · cases h
    · rename_i h1
      rw [if_neg h1]
      cases hv : (vT (ns ++ [s]) (b + ebP s) T).off with
      | some o => rw [hv] at h; cases h
      | none =>
        rw [hv] at h
        have e1 := vT_bytes (ns ++ [s]) (b + ebP s) T hv
        have e2 := vL_bytes ns (vT (ns ++ [s]) (b + ebP s) T).bytes (some s) nms ks h
        show (vL ns (vT (ns ++ [s]) (b + ebP s) T).bytes (some s) nms ks).bytes = _
        rw [e2, e1, tbL]
        omega
  | [], _ => fun _ => by rw [vL, tbL] <;> simp
  | _ :: _, [] => fun _ => by rw [vL, tbL] <;> simp
end

end Go.Proofs.Ytljcbibcdajhiaa
