/- The document's walk of a tree: its two blocks and what it leaves. -/
import Derived.Test.YtljcbibcdajhiaaTvF
namespace Go.Proofs.Ytljcbibcdajhiaa
open Go.RowKit

theorem joinB_size (ns : List ByteArray) (h : ∀ s ∈ ns, s.size ≤ 1048576) : (joinB ns).size ≤ 1048577 * ns.length := by
  induction ns with
  | nil => exact Nat.le_refl _
  | cons a ns ih =>
    have ha := h a (by simp)
    cases ns with
    | nil => show a.size ≤ _; simp; omega
    | cons s ns =>
      have := ih (fun z hz => h z (by simp [hz]))
      show (a ++ ⟨#[47]⟩ ++ joinB (s :: ns)).size ≤ _
      rw [ByteArray.size_append, ByteArray.size_append]
      have e : (⟨#[47]⟩ : ByteArray).size = 1 := rfl
      simp at this ⊢
      omega

mutual
/-- Each row is paid for by a byte. -/
theorem rw_le (ns : List ByteArray) (b : Int) : ∀ T : Tr, (vT ns b T).off = none → ((rwT ns T).length : Int) + b ≤ (vT ns b T).bytes
  | .mk k e t nms ks => fun h => by
    have hn := nbP_pos k e t
    rw [vT] at h ⊢
    rw [rwT]
    split at h
    · cases h
    · rename_i h1
      rw [if_neg h1]
      split at h
      · cases h
      · rename_i h2
        rw [if_neg h2]
        split at h
        · cases h
        · rename_i h3
          rw [if_neg h3]
          have := rwL_le ns (b + nbP k e t) none nms ks h
          rw [List.length_cons]
          omega
theorem rwL_le (ns : List ByteArray) (b : Int) (prev : Option ByteArray) : ∀ (nms : List ByteArray) (ks : List Tr), (vL ns b prev nms ks).off = none → ((rwL ns nms ks).length : Int) + b ≤ (vL ns b prev nms ks).bytes
  | s :: nms, T :: ks => fun h => by
    rw [vL] at h ⊢
    rw [rwL]
    split at h
    · cases h
    · rename_i h2
      rw [if_neg h2]
      have hb := ebP_bd s
      cases hv : (vT (ns ++ [s]) (b + ebP s) T).off with
      | some o => rw [hv] at h; cases h
      | none =>
        rw [hv] at h
        have e1 := rw_le (ns ++ [s]) (b + ebP s) T hv
        have e2 := rwL_le ns (vT (ns ++ [s]) (b + ebP s) T).bytes (some s) nms ks h
        rw [List.length_append]
        show _ ≤ (vL ns (vT (ns ++ [s]) (b + ebP s) T).bytes (some s) nms ks).bytes
        omega
  | [], ks => fun _ => by rw [vL_end, rwL] <;> simp
  | s :: nms, [] => fun _ => by
    have h9 : vL ns b prev (s :: nms) [] = ⟨b, none⟩ := by rw [vL]; simp
    rw [h9, rwL] <;> simp
end

end Go.Proofs.Ytljcbibcdajhiaa
