/- ScanPlanted, walked (own text of the verifier). -/
import Derived.Test.YtojefckhefanhabSaF
namespace Go.Proofs.Ytojefckhefanhab
open Go.RowKit
namespace Sc

theorem take_cut (l : List UInt8) (a b : Nat) (h : a ≤ b) : l.take a ++ (l.take b).drop a = l.take b := by
  have := List.take_append_drop a (l.take b)
  rw [List.take_take, Nat.min_eq_left h] at this
  exact this
theorem occ_mid (a h b : List UInt8) (hh : h.length = 32) : occ h (a ++ h ++ b) := ⟨a.length, by
  unfold win
  rw [List.append_assoc, List.drop_left, List.take_append_of_le_length (by omega), List.take_of_length_le (by omega)]⟩
theorem ot_rising : [one_.data.toList, two_.data.toList].Pairwise (fun a b => a < b) := by decide +kernel
theorem two_found {T : List UInt8} {F : List (List UInt8)} (nd : F.Nodup) (mem : ∀ h, h ∈ F ↔ h ∈ [one_.data.toList, two_.data.toList] ∧ occ h T) (h1 : occ one_.data.toList T) :
    srt F = [one_.data.toList] ∨ srt F = [one_.data.toList, two_.data.toList] := by
  by_cases h2 : occ two_.data.toList T
  · refine .inr (srt_is nd ot_rising (fun h => (mem h).trans ⟨fun q => q.1, fun q => ⟨q, ?_⟩⟩))
    rcases List.mem_cons.1 q with rfl | q
    · exact h1
    · rw [List.mem_singleton] at q; subst q; exact h2
  · refine .inl (srt_is nd (List.pairwise_singleton _ _) (fun h => (mem h).trans ⟨fun q => ?_, fun q => ?_⟩))
    · rcases List.mem_cons.1 q.1 with rfl | q1
      · simp
      · rw [List.mem_singleton] at q1; subst q1; exact absurd q.2 h2
    · rw [List.mem_singleton] at q
      subst q
      exact ⟨by simp, h1⟩
def o31 : ByteArray := one_.extract 0 31
def eo31 : ByteArray := ⟨#[101]⟩ ++ one_.extract 0 31
theorem not_there : ∀ p, p < 32 → win (o31.data.toList ++ eo31.data.toList) p ≠ one_.data.toList := by decide +kernel
theorem none_found {F : List (List UInt8)} (mem : ∀ h, h ∈ F ↔ h ∈ [one_.data.toList] ∧ occ h (o31.data.toList ++ eo31.data.toList)) : F = [] := by
  match F, mem with
  | [], _ => rfl
  | a :: l, mem =>
    obtain ⟨h1, p, hp⟩ := (mem a).1 (by simp)
    rw [List.mem_singleton] at h1
    subst h1
    have h2 := win_full (l := o31.data.toList ++ eo31.data.toList) (p := p) (by rw [hp]; rfl)
    have h3 : (o31.data.toList ++ eo31.data.toList).length = 63 := by decide +kernel
    exact absurd hp (not_there p (by omega))

end Sc
end Go.Proofs.Ytojefckhefanhab
