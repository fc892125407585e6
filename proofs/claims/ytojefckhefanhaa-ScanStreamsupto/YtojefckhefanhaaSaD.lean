/- depotref14's Wanted, walked (own text of the verifier). -/
import Derived.Test.YtojefckhefanhaaSaC
namespace Go.Proofs.Ytojefckhefanhaa
open Go.RowKit
namespace Sc

set_option maxHeartbeats 400000 in
theorem wanted_any (hs : List ByteArray) (x : Option Addr) (c : Nat) (w : World) (hn : hs.length ≤ 1099511627776) (hc : ∀ (j : Nat) (s : ByteArray), hs[j]? = some s → ∃ a : Addr, x = some a ∧ a.block < w.heap.size ∧ w.cell? (a.add j) = some (.string s)) :
    Calls Try.prog 10 #[.slice x hs.length c] w fun e w' => w' = w ∧ (((∀ s ∈ hs, hsh s = 0) ∧ e = .returned (.int .i64 0)) ∨ ((∃ s ∈ hs, hsh s ≠ 0) ∧ e = .returned (.int .i64 131))) := by
  have HC : Hid (∀ (j : Nat) (s : ByteArray), hs[j]? = some s → ∃ a : Addr, x = some a ∧ a.block < w.heap.size ∧ w.cell? (a.add j) = some (.string s)) := hc
  clear hc
  go_enter Try.func10, Try.ntmps10
  go_wp2_with fail
  go_loop [3] (fun i => ∃ k : Nat, k ≤ hs.length ∧ i = .int .i64 k ∧ Hid (∀ j s, j < k → hs[j]? = some s → hsh s = 0)) (fun i => hs.length - (intOf i).toNat)
  case atStart => exact ⟨0, Nat.zero_le _, rfl, fun j s hj => absurd hj (by omega)⟩
  case round =>
    obtain ⟨k, hk, rfl, hok⟩ := hrel
    by_cases hlt : k < hs.length
    · obtain ⟨s, hs'⟩ : ∃ s, hs[k]? = some s := ⟨_, List.getElem?_eq_getElem hlt⟩
      obtain ⟨a, rfl, -, hcell⟩ := HC.out k s hs'
      have HS : Hid (hs[k]? = some s) := hs'
      clear hs'
      rcases hsh_cases s with ⟨-, h0⟩ | ⟨-, h1⟩
      · have H0 : Hid (hsh s = 0) := h0
        have CK := rckH_any s w
        rw [h0] at CK
        clear h0
        go_wp2_with fail
        refine (CK).mono ?_
        rintro e w1 ⟨rfl, rfl⟩
        clear CK
        go_wp2
        go_round
        case rel => exact ⟨k + 1, by omega, by go_num, fun j t hj ht => by
            by_cases e : j = k
            · subst e; rw [HS.out] at ht; injection ht with ht; rw [← ht]; exact H0.out
            · exact hok.out j t (by omega) ht⟩
        case measure => simp [intOf]; omega
      · have H0 : Hid (hsh s = 131) := h1
        have CK := rckH_any s w
        rw [h1] at CK
        clear h1
        go_wp2_with fail
        refine (CK).mono ?_
        rintro e w1 ⟨rfl, rfl⟩
        clear CK
        go_wp2
        go_ret
        exact ⟨rfl, .inr ⟨⟨s, List.mem_of_getElem? HS.out, by rw [H0.out]; decide⟩, rfl⟩⟩
    · have hall : Hid (∀ s ∈ hs, hsh s = 0) := fun s hs' => by
        obtain ⟨j, hj, e⟩ := List.getElem_of_mem hs'
        exact hok.out j s (by omega) (by rw [List.getElem?_eq_getElem hj, e])
      go_wp2
      go_ret
      exact ⟨rfl, .inl ⟨hall.out, rfl⟩⟩
end Sc
end Go.Proofs.Ytojefckhefanhaa
