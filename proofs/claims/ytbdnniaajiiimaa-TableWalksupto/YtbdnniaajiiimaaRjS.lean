/- The document's Sorted, the law's texts; walked. -/
import Derived.Test.YtbdnniaajiiimaaRiS
import Derived.Test.YtbdnniaajiiimaaVr
import Derived.Deep.RegionHeld3
namespace Go.Proofs.Ytbdnniaajiiimaa
namespace TS
open Go.RowKit

/-- What cell q of the sorted pairs holds when the places that h tells are filled. -/
def sF (M : List (ByteArray × Int)) (h : Nat → Bool) (q : Nat) : Value :=
  if h (q / 2) then (if q % 2 = 0 then .string (M.getD (q / 2) (ByteArray.empty, 0)).1 else .int .i64 (M.getD (q / 2) (ByteArray.empty, 0)).2)
  else (if q % 2 = 0 then .string ByteArray.empty else .int .i64 0)
/-- The places filled behind j pairs. -/
def flB (rk : Nat → Nat) (j r : Nat) : Bool := (List.range j).any (fun i => rk i == r)
theorem flB_zero (rk : Nat → Nat) (r : Nat) : flB rk 0 r = false := rfl
theorem flB_succ (rk : Nat → Nat) (j r : Nat) : flB rk (j + 1) r = (flB rk j r || rk j == r) := by
  unfold flB; rw [List.range_succ, List.any_append]; simp
theorem flB_all (rk : Nat → Nat) (n r : Nat) (h : ∃ i, i < n ∧ rk i = r) : flB rk n r = true := by
  obtain ⟨i, hi, e⟩ := h
  unfold flB
  rw [List.any_eq_true]
  exact ⟨i, List.mem_range.2 hi, by simp [e]⟩
theorem VRow.made2 {w : World} {e : TypeId} {n m : Nat} (hm : m = n * 2) : VRow (w.alloc (.cells (madeCells #[.string ByteArray.empty, .int .i64 0] m) e)) w.heap.size (n * 2) (sF [] (fun _ => false)) :=
  ⟨fun j hj => by
    rw [World.cell?_alloc_new]
    unfold madeCells sF
    have : j < m := by omega
    rcases (show j % 2 = 0 ∨ j % 2 = 1 from by omega) with h | h
    · simp [this, h]
    · simp [this, h], fun j hj => World.frozen?_alloc_new w _ _ _⟩

set_option maxHeartbeats 2000000 in
set_option maxRecDepth 4000 in
theorem refSorted_any (x : Option Addr) (n c : Nat) (f : Nat → ByteArray) (g : Nat → Int) (M : List (ByteArray × Int)) (w : World) (hS : PIs w x n f g) (hn : n ≤ 1073741824)
    (hp : ∀ i, i < n → rnkF f (f i) n < n ∧ M.getD (rnkF f (f i) n) (ByteArray.empty, 0) = (f i, g i)) (hc : ∀ r, r < n → ∃ i, i < n ∧ rnkF f (f i) n = r) :
    Calls Try.prog 15 #[.slice x n c] w fun e w' => ∃ b, e = .returned (.slice (some ⟨b, 0, none⟩) n n) ∧ PIs w' (some ⟨b, 0, none⟩) n (fun k => (M.getD k (ByteArray.empty, 0)).1) (fun k => (M.getD k (ByteArray.empty, 0)).2) ∧ Below w.heap.size w w' := by
  have HS : Hid (PIs w x n f g) := hS
  have HP : Hid (∀ i, i < n → rnkF f (f i) n < n ∧ M.getD (rnkF f (f i) n) (ByteArray.empty, 0) = (f i, g i)) := hp
  have HC : Hid (∀ r, r < n → ∃ i, i < n ∧ rnkF f (f i) n = r) := hc
  clear hS hp hc
  obtain ⟨i0, hi, hz0, hz1, hz2⟩ := info_parts info_pair
  have HMK : Hid ((Instr.makeSlice 26 (.int .i64 (n : Int)) (.int .i64 (n : Int))).run Try.prog w = .ok (.slice (some ⟨w.heap.size, 0, none⟩) n n) (w.alloc (.cells (madeCells #[.string ByteArray.empty, .int .i64 0] (n * 2)) 38))) := by
    unfold Hid
    rw [run_make (P := Try.prog) w 26 38 i0 (.agg #[.string ByteArray.empty, .int .i64 0]) Try.underlying26 hi hz0 .i64 .i64 _ _ (by omega) (by omega) (by rw [hz2]; omega) (by omega), Int.toNat_natCast, hz1]
    rfl
  clear hi hz0 hz1 hz2
  go_enter Try.func15, Try.ntmps15
  go_wp2_with fail
  rw [HMK.out]
  clear HMK
  have V0 : Hid (VRow (w.alloc (.cells (madeCells #[.string ByteArray.empty, .int .i64 0] (n * 2)) 38)) w.heap.size (n * 2) (sF M (flB (fun i => rnkF f (f i) n) 0))) := (VRow.made2 rfl).congr (fun j _ => by unfold sF; rw [flB_zero]; rfl)
  have B0 : Hid (Below w.heap.size w (w.alloc (.cells (madeCells #[.string ByteArray.empty, .int .i64 0] (n * 2)) 38))) := (Below.refl _ _).alloc (Nat.le_refl _) _
  generalize w.alloc (.cells (madeCells #[.string ByteArray.empty, .int .i64 0] (n * 2)) 38) = w0 at V0 B0 ⊢
  obtain ⟨G, hG⟩ : ∃ G, w.heap.size = G := ⟨_, rfl⟩
  have HG : Hid (w.heap.size = G) := hG
  rw [hG] at V0 ⊢
  clear hG
  go_wp2
  go_loopw [4] (fun xi wr => ∃ j : Nat, j ≤ n ∧ xi = .int .i64 (j : Int) ∧ Hid (VRow wr G (n * 2) (sF M (flB (fun i => rnkF f (f i) n) j))) ∧ Hid (Below w.heap.size w wr)) (fun x _ => n - (intOf x).toNat)
  case atStart => exact ⟨0, Nat.zero_le _, rfl, V0, B0⟩
  case round =>
    obtain ⟨j, hj, rfl, V, B⟩ := hrel
    by_cases hlt : j < n
    · have P1 := HS.out.below B.out (Nat.le_refl _)
      obtain ⟨hr1, hr2⟩ := HP.out j hlt
      have CR := refRank_any x n c f g (f j) wr.drew (P1.below ((Below.refl _ _).drew) (Nat.le_refl _)) (by omega)
      obtain ⟨b, o, rfl, c0, c1⟩ := P1 j hlt
      have hbG : b ≠ G := by
        obtain ⟨b', o', he, d0, _⟩ := HS.out j hlt
        have h1 := World.block_lt_of_cell? _ _ d0
        injection he with he
        injection he with he1 _ _
        have := HG.out
        simp only at h1
        omega
      have hGb : G ≠ b := fun e => hbG e.symm
      clear P1
      generalize hR : rnkF f (f j) n = R at CR hr1 hr2
      have HR : Hid (rnkF f (f j) n = R) := hR
      have HR2 : Hid (M.getD R (ByteArray.empty, 0) = (f j, g j)) := hr2
      clear hR hr2
      have v0 := V.out.cell (R * 2) (by omega)
      have v1 := V.out.cell (R * 2 + 1) (by omega)
      have f0 := V.out.free (R * 2) (by omega)
      have f1 := V.out.free (R * 2 + 1) (by omega)
      go_wp2
      go_region_held3 (fun W => W.cell? ⟨b, o + j * 2, none⟩ = some (.string (f j)) ∧ W.cell? ⟨b, o + j * 2 + 1, none⟩ = some (.int .i64 (g j)))
        (first | go_keep | exact ⟨c0, c1⟩)
        (first | (go_at_call 16; refine CR.mono ?_; rintro e5 w5 ⟨rfl, rfl⟩))
      have V2 : Hid (VRow ((wr.setCell ⟨G, R * 2, none⟩ (.string (f j))).setCell ⟨G, R * 2 + 1, none⟩ (.int .i64 (g j))).drew G (n * 2) (sF M (flB (fun i => rnkF f (f i) n) (j + 1)))) := by
        unfold Hid
        refine (((V.out.set (R * 2) (.string (f j)) (by omega)).set (R * 2 + 1) (.int .i64 (g j)) (by omega)).drew).congr (fun q hq => ?_)
        unfold sF
        rw [flB_succ]
        have hR2 := HR2.out
        have hR := HR.out
        by_cases a1 : q = R * 2 + 1
        · subst a1
          rw [if_pos rfl, show (R * 2 + 1) / 2 = R from by omega, hR, hR2, if_pos (by simp), if_neg (by omega)]
        · rw [if_neg a1]
          by_cases a2 : q = R * 2
          · subst a2
            rw [if_pos rfl, show (R * 2) / 2 = R from by omega, hR, hR2, if_pos (by simp), if_pos (by omega)]
          · rw [if_neg a2, hR]
            have : (R == q / 2) = false := by rw [beq_eq_false_iff_ne]; omega
            rw [this, Bool.or_false]
      have B2 : Hid (Below w.heap.size w ((wr.setCell ⟨G, R * 2, none⟩ (.string (f j))).setCell ⟨G, R * 2 + 1, none⟩ (.int .i64 (g j))).drew) := ((B.out.setCell (by rw [HG.out]; exact Nat.le_refl _) _).setCell (by rw [HG.out]; exact Nat.le_refl _) _).drew
      clear V B v0 v1 f0 f1 CR
      generalize ((wr.setCell ⟨G, R * 2, none⟩ (.string (f j))).setCell ⟨G, R * 2 + 1, none⟩ (.int .i64 (g j))).drew = w9 at V2 B2 ⊢
      go_wp2
      go_roundw
      case rel => exact ⟨j + 1, by omega, by go_num, V2, B2⟩
      case measure => simp [intOf]; omega
    · obtain rfl : j = n := by omega
      go_wp2
      go_ret
      refine ⟨G, rfl, fun k hk => ⟨G, 0, rfl, ?_, ?_⟩, B.out⟩
      · rw [Nat.zero_add, V.out.cell (k * 2) (by omega)]
        unfold sF
        rw [show k * 2 / 2 = k from by omega, flB_all _ _ _ (HC.out k hk), if_pos rfl, if_pos (by omega)]
      · rw [Nat.zero_add, V.out.cell (k * 2 + 1) (by omega)]
        unfold sF
        rw [show (k * 2 + 1) / 2 = k from by omega, flB_all _ _ _ (HC.out k hk), if_pos rfl, if_neg (by omega)]
end TS
end Go.Proofs.Ytbdnniaajiiimaa
