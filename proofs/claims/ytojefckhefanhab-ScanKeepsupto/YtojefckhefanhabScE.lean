/- strings.Builder's String, and what it leaves alone (own text of the verifier). -/
import Derived.Test.YtojefckhefanhabScD
namespace Go.Proofs.Ytojefckhefanhab
open Go.RowKit

theorem Bk.freeze {g k : Nat} {w : World} {cur : Array Value} {fz : Nat × Nat} (h : w.heap[k]? = some (.cells cur 5 fz)) (n : Nat) : Bk g w (w.freeze ⟨k, 0, none⟩ n) :=
  by
  unfold World.freeze
  split
  · exact Bk.refl g w
  · exact ⟨by simp, fun j h1 h2 h3 => by
      have hne : ¬ k = j := fun e => h3 cur fz (by rw [← e]; exact h)
      simp only [Array.getElem?_modify]
      rw [if_neg hne]⟩

set_option maxHeartbeats 2000000 in
set_option maxRecDepth 100000 in
theorem bstrK_any (T : TypeId) (g : Nat) (l : List UInt8) (w : World) (h : Bd T w g l) :
    Calls Try.prog 24 #[.pointer (some ⟨g, 0, none⟩)] w fun e w' => e = .returned (.string (ba l)) ∧ Below g w w' ∧ Bk g w w' := by
  obtain ⟨ad, v, hb, h1, h2⟩ := h
  have c1 : w.cell? ⟨g, 1, none⟩ = some v := by rw [Lib.cell_of_heap hb]; rfl
  by_cases h0 : l = []
  · subst h0
    rcases h2.2 with ⟨rfl, _⟩ | ⟨k, cap, cur, rfl, hbg, hg, hnc, hcm, hcs, htake⟩
    · have hSD : (Builtin.unsafeSliceData_ #[31] 71 #[.slice none 0 0]).run Try.prog w.drew = .ok (.pointer none) w.drew := Lib.run_unsafeSliceData_nil _ _ _ _ _
      have hUS : (Builtin.unsafeString_ #[71, 3] 9 #[.pointer none, .int .i64 0]).run Try.prog w.drew = .ok (.string .empty) w.drew := Lib.run_unsafeString_none _ _ _ _ _
      clear h1 h2 hb
      go_enter Try.func24, Try.ntmps24
      go_wp2_with fail
      go_region
      all_goals (
        go_wp2
        go_ret
        exact ⟨rfl, Below.drew (Below.refl g w), Bk.drew g w⟩)
    · by_cases hc : cap = 0
      · subst hc
        have hSD : (Builtin.unsafeSliceData_ #[31] 71 #[.slice (some ⟨k, 0, none⟩) 0 0]).run Try.prog w.drew = .ok (.pointer (some ⟨w.heap.size, 0, none⟩)) (w.drew.alloc (.view ⟨k, 0, none⟩ 5)) := Lib.run_unsafeSliceData_zero w.drew _ _ 5 undPU8 ⟨k, 0, none⟩ 0 (5, cur.size) (by have hg' : w.drew.heap[k]? = some (.cells cur 5 (0, 0)) := hg; simp [World.shape?, hg'])
        have hUS : ∀ W p, (Builtin.unsafeString_ #[71, 3] 9 #[.pointer p, .int .i64 0]).run Try.prog W = .ok (.string .empty) W := fun W p => Lib.run_unsafeString_none W _ _ _ _
        have hgz : g < w.heap.size := (Array.getElem?_eq_some_iff.1 hb).1
        have c2 : (w.drew.alloc (.view ⟨k, 0, none⟩ 5)).cell? ⟨g, 1, none⟩ = some (.slice (some ⟨k, 0, none⟩) 0 0) := (World.cell?_of_block (w := w) (a := ⟨g, 1, none⟩) (Below.heap_alloc w.drew _ g hgz)).trans c1
        clear h1 h2 hb htake hg hcs
        go_enter Try.func24, Try.ntmps24
        go_wp2_with fail
        go_region
        all_goals (
          go_wp2
          go_ret
          exact ⟨rfl, (Below.drew (Below.refl g w)).alloc (by show g ≤ w.heap.size; omega) _, (Bk.drew g w).trans (Bk.below ((Below.refl _ _).alloc (Nat.le_refl _) _))⟩)
      · have hSD : (Builtin.unsafeSliceData_ #[31] 71 #[.slice (some ⟨k, 0, none⟩) 0 cap]).run Try.prog w.drew = .ok (.pointer (some ⟨k, 0, none⟩)) w.drew := Lib.run_unsafeSliceData_row _ _ _ _ _ _ hc
        have hUS : (Builtin.unsafeString_ #[71, 3] 9 #[.pointer (some ⟨k, 0, none⟩), .int .i64 0]).run Try.prog w.drew = .ok (.string .empty) w.drew := Lib.run_unsafeString_none _ _ _ _ _
        clear h1 h2 hb htake hg hcs
        go_enter Try.func24, Try.ntmps24
        go_wp2_with fail
        go_region
        all_goals (
          go_wp2
          go_ret
          exact ⟨rfl, Below.drew (Below.refl g w), Bk.drew g w⟩)
  · have hl0 : l.length ≠ 0 := by simpa using h0
    obtain ⟨k, cap, cur, rfl, hbg, hg, hnc, hcm, hcs, htake⟩ : ∃ k cap cur, v = .slice (some ⟨k, 0, none⟩) l.length cap ∧ g + 1 ≤ k ∧ w.heap[k]? = some (.cells cur 5 (0, 0)) ∧ l.length ≤ cap ∧ cap ≤ maxLen ∧ cur.size = cap * 1 ∧ cur.toList.take (l.length * 1) = Lib.byteCells l := by
      rcases h2.2 with ⟨_, hz⟩ | ⟨k, cap, cur, hv, r⟩
      · exact absurd hz hl0
      · exact ⟨k, cap, cur, hv, r⟩
    have hSD : (Builtin.unsafeSliceData_ #[31] 71 #[.slice (some ⟨k, 0, none⟩) l.length cap]).run Try.prog w.drew = .ok (.pointer (some ⟨k, 0, none⟩)) w.drew :=
      Lib.run_unsafeSliceData_row _ _ _ _ _ _ (by omega)
    have hUS : (Builtin.unsafeString_ #[71, 3] 9 #[.pointer (some ⟨k, 0, none⟩), .int .i64 l.length]).run Try.prog w.drew = .ok (.string ⟨l.toArray⟩) (w.drew.freeze ⟨k, 0, none⟩ l.length) := by
      refine Lib.run_unsafeString_row w.drew 71 3 9 5 undPU8 cellsB k cur.size (by have hg' : w.drew.heap[k]? = some (.cells cur 5 (0, 0)) := hg; simp [World.shape?, hg']) l h0 (by omega) (by unfold maxLen at hcm; omega) ?_
      intro j x hx
      have := h2.cells (g := k) rfl j (.int .u8 x.toNat) (by simp [Lib.byteCells, hx])
      exact this
    have hgK : w.drew.heap[k]? = some (.cells cur 5 (0, 0)) := hg
    clear h1 h2 hb htake hcs hg
    go_enter Try.func24, Try.ntmps24
    go_wp2_with fail
    go_region
    all_goals (
      go_wp2
      go_ret
      exact ⟨rfl, Lib.below_freeze (Below.drew (Below.refl g w)) (p := ⟨k, 0, none⟩) (by show g ≤ k; omega) _, (Bk.drew g w).trans (Bk.freeze hgK _)⟩)

end Go.Proofs.Ytojefckhefanhab
