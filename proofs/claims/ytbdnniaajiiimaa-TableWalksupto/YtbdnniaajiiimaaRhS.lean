/- The document's Cut; walked. -/
import Derived.Test.YtbdnniaajiiimaaRgS
namespace Go.Proofs.Ytbdnniaajiiimaa
namespace TS
open Go.RowKit

def cutF (f : Nat → ByteArray) (g : Nat → Int) (k : ByteArray) : Nat → List (ByteArray × Int)
  | 0 => []
  | n + 1 => if f n = k then cutF f g k n else cutF f g k n ++ [(f n, g n)]
theorem cutF_len (f : Nat → ByteArray) (g : Nat → Int) (k : ByteArray) : ∀ n, (cutF f g k n).length ≤ n
  | 0 => Nat.le_refl _
  | n + 1 => by
    have := cutF_len f g k n
    unfold cutF
    split
    · omega
    · rw [List.length_append]; simp; omega
theorem PIs.below {w w' : World} {x : Option Addr} {n B : Nat} {f : Nat → ByteArray} {g : Nat → Int} (h : PIs w x n f g) (b : Below B w w') (hB : w.heap.size ≤ B) : PIs w' x n f g := fun i hi => by
  obtain ⟨bb, o, ha, h0, h1⟩ := h i hi
  have hl := World.block_lt_of_cell? _ _ h0
  exact ⟨bb, o, ha, (b.cell (p := ⟨bb, o + i * 2, none⟩) (Nat.lt_of_lt_of_le hl hB)).trans h0, (b.cell (p := ⟨bb, o + i * 2 + 1, none⟩) (Nat.lt_of_lt_of_le hl hB)).trans h1⟩
theorem gb_bel {a b : World} {r : Option Nat} {B : Nat} (h : a.grownBy b r) (hr : ∀ k, r = some k → B ≤ k) (hs : B ≤ a.heap.size) : Below B a b := ⟨h.os, h.tape, h.output, h.size, fun i hi => h.block i (by omega) (fun e => by have := hr i (by first | exact e | exact e.symm); omega)⟩

set_option maxHeartbeats 2000000 in
set_option maxRecDepth 4000 in
theorem refCut_any (x : Option Addr) (n c : Nat) (f : Nat → ByteArray) (g : Nat → Int) (k : ByteArray) (w : World) (hS : PIs w x n f g) (hn : n ≤ 1073741824) :
    Calls Try.prog 11 #[.slice x n c, .string k] w fun e w' => ∃ v, e = .returned v ∧ OwnP w' w.heap.size v (cutF f g k n) ∧ Below w.heap.size w w' := by
  have HS : Hid (PIs w x n f g) := hS
  clear hS
  go_enter Try.func11, Try.ntmps11
  go_wp2
  have O0 : Hid (OwnP (w.alloc (.cells #[] 38)) w.heap.size (.slice (some ⟨w.heap.size, 0, none⟩) 0 0) []) := World.ownsRow_lit w #[] 0 (Nat.le_refl _) (by decide) rfl
  have B0 : Hid (Below w.heap.size w (w.alloc (.cells #[] 38))) := (Below.refl _ _).alloc (Nat.le_refl _) _
  generalize w.alloc (.cells #[] 38) = w0 at O0 B0 ⊢
  go_loopw [5, 6] (fun vx xi wr => ∃ j : Nat, j ≤ n ∧ xi = .int .i64 (j : Int) ∧ Hid (OwnP wr w.heap.size vx (cutF f g k j)) ∧ Hid (Below w.heap.size w wr)) (fun _ x _ => n - (intOf x).toNat)
  case atStart => exact ⟨0, Nat.zero_le _, rfl, O0, B0⟩
  case round =>
    obtain ⟨j, hj, rfl, hO, hB⟩ := hrel
    by_cases hlt : j < n
    · obtain ⟨b, o, rfl, c0, c1⟩ := (HS.out.below hB.out (Nat.le_refl _)) j hlt
      by_cases he : f j = k
      · have hc : Hid (OwnP wr w.heap.size u5 (cutF f g k (j + 1))) := by unfold Hid cutF; rw [if_pos he]; exact hO.out
        have e1 : ((f j).toList != k.toList) = false := by rw [he]; simp
        have e2 : ((f j).toList == k.toList) = true := by rw [he]; exact beq_self_eq_true _
        have e3 : (f j).toList = k.toList := by rw [he]
        clear he
        go_wp2
        go_roundw
        case rel => exact ⟨j + 1, by omega, by go_num, hc, hB⟩
        case measure => simp [intOf]; omega
      · have hc : Hid (cutF f g k (j + 1) = cutF f g k j ++ [(f j, g j)]) := by unfold Hid; rw [cutF, if_neg he]
        have e1 : ((f j).toList != k.toList) = true := by rw [bne_iff_ne]; exact fun h => he (of_toList _ _ h)
        have e2 : ((f j).toList == k.toList) = false := by rw [beq_eq_false_iff_ne]; exact fun h => he (of_toList _ _ h)
        have e3 : ¬ (f j).toList = k.toList := fun h => he (of_toList _ _ h)
        have hlen : (cutF f g k j).length ≤ 1073741824 := Nat.le_trans (cutF_len f g k j) (by omega)
        have hsz := hB.out.size
        clear he
        obtain ⟨i0, hi, hz0, hz1, hz2⟩ := info_parts info_pair
        go_wp2_with (at_builtin; refine wpList_append_own _ rfl _ _ 26 rfl w.heap.size 38 i0 (.agg #[.string ByteArray.empty, .int .i64 0]) 2 24 Try.underlying26 hi hz0 hz1 hz2 rfl (by decide) u5 (cutF f g k j).length ((cutF f g k j).flatMap pcs) rfl (hO.out.alloc _) _ 1 1 (pcs (f j, g j)) rfl rfl ?c1 ?c2 (by unfold maxLen; omega) (by omega) (by rw [World.size_alloc]; omega) ?_)
        case c1 =>
          intro q v hq
          match q, hq with
          | 0, hq => simp [pcs] at hq; subst hq; exact (World.cell?_alloc_new _ _ _ 0).trans rfl
          | 1, hq => simp [pcs] at hq; subst hq; rw [Addr.add_lit]; exact (World.cell?_alloc_new _ _ _ 1).trans rfl
        case c2 => intro q hq; simp [pcs] at hq; rcases hq with rfl | rfl <;> rfl
        intro v6 w6 O6 G6 _
        have O7 : Hid (OwnP w6 w.heap.size v6 (cutF f g k (j + 1))) := by
          unfold Hid OwnP
          rw [hc.out, List.length_append, List.flatMap_append]
          simpa using O6
        have B7 : Hid (Below w.heap.size w w6) := (hB.out.alloc hsz _).trans (gb_bel G6 (fun q hq => (hO.out.lt q hq).1) (by rw [World.size_alloc]; omega))
        clear O6 G6 hO hB
        go_wp2
        go_roundw
        case rel => exact ⟨j + 1, by omega, by go_num, O7, B7⟩
        case measure => simp [intOf]; omega
    · have : j = n := by omega
      subst this
      go_wp2
      go_ret
      exact ⟨_, rfl, hO.out, hB.out⟩
end TS
end Go.Proofs.Ytbdnniaajiiimaa
