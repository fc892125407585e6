/- ScanRewrites, walked (own text of the verifier). -/
import Derived.Test.YtojefckhefanhaaSaE
import Derived.Test.YtojefckhefanhaaSaA
namespace Go.Proofs.Ytojefckhefanhaa
open Go.RowKit
namespace Sc

theorem ri_nil (w : World) (B : Nat) : RI w B (.slice none 0 0) [] := ⟨none, 0, rfl, fun i t h => by cases h⟩
theorem RI.drewN {w : World} {B : Nat} {v : Value} {L : List Nat} (h : RI w B v L) (q : Nat) : RI (w.drewN q) B v L := h
/-- What both answer. -/
theorem both_any (x f t : ByteArray) (w : World) (hx : x.size ≤ 268435456) :
    Calls Try.prog 16 #[.string x, .string f, .string t] w fun e w' => Below w.heap.size w w' ∧ ∃ s v n L, L.length ≤ x.size ∧ RI w' w'.heap.size v L ∧ e = .returned (.tuple #[.string s, v, .int .i64 n]) ∧
      ∀ W, Calls Try.prog 17 #[.string x, .string f, .string t] W fun e w' => Below W.heap.size W w' ∧ ∃ u, RI w' w'.heap.size u L ∧ e = .returned (.tuple #[.string s, u, .int .i64 n]) := by
  refine (rewrite_any x f t w hx).mono ?_
  have bad : ¬ (hsh f = 0 ∧ hsh t = 0) → ∀ W, Calls Try.prog 17 #[.string x, .string f, .string t] W fun e w' => Below W.heap.size W w' ∧ ∃ u, RI w' w'.heap.size u [] ∧ e = .returned (.tuple #[.string ⟨#[]⟩, u, .int .i64 131]) := fun hn W => by
    refine (rscrw_any x f t W hx).mono ?_
    rintro e w' ⟨b, ⟨-, rfl⟩ | ⟨h1, h2, -⟩⟩
    · exact ⟨b, _, ri_nil _ _, rfl⟩
    · exact absurd ⟨h1, h2⟩ hn
  have n131 : ∀ s, hsh s ≠ 0 → hsh s = 131 := fun s h => by
    rcases hsh_cases s with ⟨-, e⟩ | ⟨-, e⟩
    · exact absurd e h
    · exact e
  rintro e w' ⟨b, ⟨h1, rfl⟩ | ⟨h1, h2, rfl⟩ | ⟨h1, h2, v, own, rfl⟩⟩
  · exact ⟨b, _, _, _, [], Nat.zero_le _, ri_nil _ _, rfl, by rw [n131 f h1]; exact bad (fun h => h1 h.1)⟩
  · exact ⟨b, _, _, _, [], Nat.zero_le _, ri_nil _ _, rfl, by rw [n131 t h2]; exact bad (fun h => h2 h.2)⟩
  · refine ⟨b, _, _, _, _, ?_, ri_own own, rfl, fun W => ?_⟩
    · rw [← size_list]; exact pl_len _ _ _
    · refine (rscrw_any x f t W hx).mono ?_
      rintro e w' ⟨b, ⟨hn, -⟩ | ⟨-, -, u, own', rfl⟩⟩
      · exact absurd ⟨h1, h2⟩ hn
      · exact ⟨b, u, ri_own own', rfl⟩

set_option maxRecDepth 100000 in
set_option maxHeartbeats 4000000 in
theorem rewrites_walk (x f t : ByteArray) (w : World) (hx : x.size ≤ 1048576) (_hf : f.size ≤ 1048576) (_ht : t.size ≤ 1048576) :
    Calls Try.prog 4 #[.string x, .string f, .string t] w fun e w' => e = .returned (.bool true) ∧ Below w.heap.size w w' := by
  go_enter Try.func4, Try.ntmps4
  go_wp2_with fail
  with_reducible refine (awake_any _).mono ?_
  rintro e w1 ⟨rfl, b1⟩
  have HB1 : Hid _ := b1
  clear b1
  go_wp2_with fail
  with_reducible refine (both_any x f t w1 (by omega)).mono ?_
  rintro e w2 ⟨b2, s, v, n, L, hL, ri, rfl, CR⟩
  have HB2 : Hid (Below w.heap.size w w2) := HB1.out.trans (b2.mono HB1.out.size)
  have HR2 : Hid (RI w2 w2.heap.size v L) := ri
  have CR2 := CR w2
  clear b2 ri CR HB1
  go_wp2_with fail
  with_reducible refine CR2.mono ?_
  rintro e w3 ⟨b3, u, ri3, rfl⟩
  have HB3 : Hid (Below w.heap.size w w3) := HB2.out.trans (b3.mono HB2.out.size)
  have CI := ints_any _ _ v u L L w3 (HR2.out.below b3 (Nat.le_refl _)) ri3 (by omega) (by omega)
  rw [decide_eq_true rfl] at CI
  clear CR2 b3 HB2 HR2 ri3
  have es : (s.toList == s.toList) = true := by simp
  go_wp2_with fail
  with_reducible refine CI.mono ?_
  rintro e w4 ⟨rfl, q, rfl⟩
  clear CI
  go_wp2
  go_ret
  exact ⟨rfl, bel_drewN HB3.out q⟩
end Sc
end Go.Proofs.Ytojefckhefanhaa
