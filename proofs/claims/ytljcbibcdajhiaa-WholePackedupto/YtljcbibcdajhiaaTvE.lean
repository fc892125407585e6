/- Size, walked. -/
import Derived.Test.YtljcbibcdajhiaaTvD
import Derived.Deep.RegionHeld3
namespace Go.Proofs.Ytljcbibcdajhiaa
open Go.RowKit

mutual
theorem smT_sz : ∀ T : Tr, smT T → szT T
  | .mk k e t ns ks => fun h => by
    rw [smT] at h
    rw [szT]
    exact ⟨by omega, smL_sz ns ks h.2⟩
theorem smL_sz : ∀ (ns : List ByteArray) (ks : List Tr), smL ns ks → szL ns ks
  | s :: ns, T :: ks => fun h => by
    rw [smL] at h
    rw [szL]
    exact ⟨by omega, smT_sz T h.2.1, smL_sz ns ks h.2.2⟩
  | [], _ => fun _ => by rw [szL] <;> simp
  | _ :: _, [] => fun _ => by rw [szL] <;> simp
end
/-- What Size answers. -/
def szA (T : Tr) : Int × Int := if (ckT T).2 ≠ 0 then (0, (ckT T).2) else (24 + tbT T, 0)
mutual
theorem vT_code (ns : List ByteArray) (b : Int) : ∀ (T : Tr) (o : ByteArray × Int), (vT ns b T).off = some o → o.2 ≠ 0
  | .mk k e t nms ks => fun o h => by
    rw [vT] at h
    split at h
    · injection h with h; rw [← h]; show (61 : Int) ≠ 0; decide
    · split at h
      · rename_i h2; injection h with h; rw [← h]; exact h2
      · split at h
        · injection h with h; rw [← h]; show (2 : Int) ≠ 0; decide
        · exact vL_code ns (b + nbP k e t) none nms ks o h
theorem vL_code (ns : List ByteArray) (b : Int) (prev : Option ByteArray) : ∀ (nms : List ByteArray) (ks : List Tr) (o : ByteArray × Int), (vL ns b prev nms ks).off = some o → o.2 ≠ 0
  | s :: nms, T :: ks => fun o h => by
    rw [vL] at h
    split at h
    · rename_i h2; injection h with h; rw [← h]; exact h2
    · cases hv : (vT (ns ++ [s]) (b + ebP s) T).off with
      | some o' =>
        rw [hv] at h
        injection h with h
        rw [← h]
        exact vT_code _ _ T o' hv
      | none => rw [hv] at h; exact vL_code ns _ (some s) nms ks o h
  | [], ks => fun o h => by rw [vL_end] at h; cases h
  | s :: nms, [] => fun o h => by
    have h9 : vL ns b prev (s :: nms) [] = ⟨b, none⟩ := by rw [vL]; simp
    rw [h9] at h; cases h
end
theorem ckT_zero {T : Tr} (h : (ckT T).2 = 0) : (vT [] 24 T).off = none := by
  unfold ckT at h
  cases hv : (vT [] 24 T).off with
  | none => rfl
  | some o => rw [hv] at h; exact absurd h (vT_code _ _ T o hv)
theorem tb_le {T : Tr} (h : (vT [] 24 T).off = none) : tbT T ≤ 1048576 := by
  have h1 := vT_bytes [] 24 T h
  have h2 := vT_bd [] 24 T h (by decide) (by decide)
  omega

end Go.Proofs.Ytljcbibcdajhiaa
