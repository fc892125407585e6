/- Rooted8 of the reference, walked: the words with which a digest begins. -/
import Derived.Test.YtholbaefmncphaaDoorRtD
import Derived.Test.YtholbaefmncphaaDoorOfA
namespace Go.Proofs.YtholbaefmncphaaDoor
open Go.RowKit
set_option maxRecDepth 100000 in
theorem root8 : ∀ i, i < 8 → (rootT (prs.getD (i + 1) 0) 2).map (fun r => ((r % 4294967296 : Nat) : Int)) = some (stw i) := by decide +kernel
theorem prs_bd : ∀ i, i < 9 → 1 ≤ prs.getD i 0 ∧ prs.getD i 0 ≤ 400 := by decide +kernel

set_option maxRecDepth 100000 in
set_option maxHeartbeats 4000000 in
theorem rooted8_any (w : World) : Calls Tryd.prog 12 #[] w fun e w' => e = .returned (.agg (cs .u32 8 stw)) ∧ Below w.heap.size w w' := by
  go_enter Tryd.func12, Tryd.ntmps12
  go_wp2
  go_loopw [2, 3] (fun xp xi wr => ∃ k : Nat, k ≤ 8 ∧ xp = .int .i64 ((prs.getD k 0 : Nat) : Int) ∧ xi = .int .i64 (k : Int) ∧ Hid (Row .u32 wr (w.heap.size + 1) 8 (upF stw k)) ∧ Hid (Row .u32 wr w.heap.size 8 (fun _ => 0)) ∧ Hid (Below w.heap.size w wr) ∧ w.heap.size + 1 < wr.heap.size) (fun _ i _ => 8 - (intOf i).toNat)
  case atStart =>
    refine ⟨0, Nat.zero_le _, rfl, rfl, ?_, ?_, ?_, ?_⟩
    · have := (Row.rep (n := 8) (z := 0) (k := .u32) (w := w.alloc (.cells (Array.replicate 8 (.int .u32 0)) 28)) (e := 28) rfl)
      rw [World.size_alloc] at this
      exact this.congr (fun x _ => (upF_zero _ x).symm)
    · exact (Row.rep (n := 8) (z := 0) rfl).alloc (by rw [World.size_alloc]; omega) _
    · exact ((Below.refl _ _).alloc (Nat.le_refl _) _).alloc (by rw [World.size_alloc]; omega) _
    · rw [World.size_alloc, World.size_alloc]; omega
  case round =>
    obtain ⟨k, hk, rfl, rfl, RH, R, B, z⟩ := hrel
    by_cases hlt : k < 8
    · have HN : Hid (nxT 100 (prs.getD k 0 + 1) = some (prs.getD (k + 1) 0)) := next8 k hlt
      have HP1 : Hid (1 ≤ prs.getD k 0 ∧ prs.getD k 0 ≤ 400) := prs_bd k (by omega)
      have HP2 : Hid (1 ≤ prs.getD (k + 1) 0 ∧ prs.getD (k + 1) 0 ≤ 400) := prs_bd (k + 1) (by omega)
      obtain ⟨r, hr, hr2⟩ := Option.map_eq_some_iff.1 (root8 k hlt)
      have HR : Hid (rootT (prs.getD (k + 1) 0) 2 = some r) := hr
      have HR2 : Hid (((r % 4294967296 : Nat) : Int) = stw k) := hr2
      clear hr hr2
      obtain ⟨p, hp⟩ : ∃ p, prs.getD k 0 = p := ⟨_, rfl⟩
      obtain ⟨q, hq⟩ : ∃ q, prs.getD (k + 1) 0 = q := ⟨_, rfl⟩
      have HQ : Hid (prs.getD (k + 1) 0 = q) := hq
      rw [hp, hq] at HN
      rw [hp] at HP1 ⊢
      rw [hq] at HP2 HR
      clear hp hq
      go_wp2_with fail
      refine (next_any p q _ HP1.out.1 HP1.out.2 HN.out).mono ?_
      rintro e w2 ⟨rfl, rfl⟩
      go_wp2_with fail
      refine (root_any q 2 r _ HP2.out.2 (by omega) (by omega) HR.out).mono ?_
      rintro e w3 ⟨rfl, b3⟩
      rw [HR2.out]
      have RH3 : Hid (Row .u32 w3 (w.heap.size + 1) 8 (upF stw k)) := RH.out.below b3 z
      have R3 : Hid (Row .u32 w3 w.heap.size 8 (fun _ => 0)) := R.out.below b3 (by omega)
      have B3 : Hid (Below w.heap.size w w3) := B.out.trans (b3.mono B.out.size)
      have z3 : w.heap.size + 1 < w3.heap.size := Nat.lt_of_lt_of_le z b3.size
      have c1 := RH3.out.cell k hlt
      have f1 := RH3.out.free k hlt
      clear RH R B b3 z
      go_wp2
      go_roundw
      case rel => exact ⟨k + 1, by omega, by rw [HQ.out], by go_num, (RH3.out.set k _ hlt).congr (fun x _ => upF_set stw k x), R3.out.other _ _ (by simp), B3.out.setCell (by simp) _, by rw [World.size_setCell]; exact z3⟩
      case measure => simp [intOf]; omega
    · obtain rfl : k = 8 := by omega
      have RH' : Row .u32 wr (w.heap.size + 1) 8 stw := RH.out.congr (fun x hx => upF_all _ 8 x hx)
      have R' := R.out
      have B' := B.out
      clear RH R B
      go_wp2_with (first | refine wpList_load_arr (by rfl) 28 (.tmp 1) (by rfl) (w.heap.size + 1) (by rfl) RH' Tryd.underlying28 Tryd.sz28 ?_ | (refine wpList_store_any (by rfl) 28 (.tmp 0) (.tmp 14) (by rfl) w.heap.size (by rfl) (by rfl) R' Tryd.sz28 (by rfl) ?_; intro W7 R7 U7))
      exact bodyPost_ret (results_arr Tryd.results12 _ _ rfl R7 Tryd.underlying28 Tryd.sz28) rfl ⟨rfl, U7.below B' (Nat.le_refl _) (by omega)⟩
#print axioms rooted8_any
end Go.Proofs.YtholbaefmncphaaDoor
