/- slices.Equal, the laws' texts; info.Same; walked. -/
import Derived.Test.YtjhbfkckkinfjaaDoorIoD
import Derived.Deep.QuietTactic
import Derived.BigQuiet
namespace Go.Proofs.YtjhbfkckkinfjaaDoor
open Go.RowKit Go.Shelf

/-- The same texts. -/
def eqT (f : Nat → ByteArray) (n : Nat) (h : Nat → ByteArray) (m : Nat) : Bool := decide (n = m ∧ ∀ i, i < n → f i = h i)
theorem eqT_ne {f h : Nat → ByteArray} {n m : Nat} (e : n ≠ m) : eqT f n h m = false := decide_eq_false (fun c => e c.1)
theorem eqT_at {f h : Nat → ByteArray} {n m k : Nat} (hk : k < n) (e : f k ≠ h k) : eqT f n h m = false := decide_eq_false (fun c => e (c.2 k hk))
theorem eqT_all {f h : Nat → ByteArray} {n : Nat} (e : ∀ i, i < n → f i = h i) : eqT f n h n = true := decide_eq_true ⟨rfl, e⟩

set_option maxHeartbeats 1000000 in
theorem slEq_any (x y : Option Addr) (n c m d : Nat) (f h : Nat → ByteArray) (w : World) (hx : SIs w x n f) (hy : SIs w y m h) (hn : n ≤ 1152921504606846976) (hm : m ≤ 1152921504606846976) :
    Calls Tryd.prog 20 #[.slice x n c, .slice y m d] w fun e w' => e = .returned (.bool (eqT f n h m)) ∧ Below w.heap.size w w' := by
  by_cases hnm : n = m
  · subst hnm
    have HX : Hid (SIs w x n f) := hx
    have HY : Hid (SIs w y n h) := hy
    clear hx hy
    have hee : (((n : Nat) : Int) != ((n : Nat) : Int)) = false := by simp
    generalize hE : eqT f n h n = E
    go_enter Tryd.func20, Tryd.ntmps20
    go_wp2
    go_loopw [13] (fun xi wr => ∃ k : Nat, k ≤ n ∧ xi = .int .i64 k ∧ Hid (∀ i, i < k → f i = h i) ∧ Hid (∃ q, wr = w.drewN q)) (fun i _ => n - (intOf i).toNat)
    case atStart => exact ⟨0, Nat.zero_le _, rfl, fun i hi => absurd hi (by omega), 0, rfl⟩
    case round =>
      obtain ⟨k, hk, rfl, hA, hq⟩ := hrel
      by_cases hlt : k < n
      · obtain ⟨a1, rfl, c1⟩ := HX.out k hlt
        obtain ⟨a2, rfl, c2⟩ := HY.out k hlt
        obtain ⟨q, hwr⟩ := hq.out
        have d1 : wr.cell? (a1.add k) = some (.string (f k)) := by rw [hwr]; exact c1
        have d2 : wr.cell? (a2.add k) = some (.string (h k)) := by rw [hwr]; exact c2
        clear c1 c2 hwr
        by_cases hfe : f k = h k
        · have hA2 : Hid (∀ i, i < k + 1 → f i = h i) := fun i hi => by
            by_cases e : i = k
            · rw [e]; exact hfe
            · exact hA.out i (by omega)
          rw [hfe] at d1
          have he : ((h k).toList == (h k).toList) = true := by simp
          clear hfe
          go_wp2
          go_quiet (fail)
          go_wp2
          go_roundw
          case rel => exact ⟨k + 1, by omega, by go_num, hA2, by obtain ⟨q, hw⟩ := hq.out; exact ⟨_, by rw [hw, World.drewN_drewN]⟩⟩
          case measure => simp [intOf]; omega
        · obtain rfl : E = false := hE.symm.trans (eqT_at hlt hfe)
          have he : ((f k).toList == (h k).toList) = false := by
            rw [beq_eq_false_iff_ne]; intro e; exact hfe (bytes_toList_inj e)
          go_wp2
          go_quiet (fail)
          go_wp2
          try rw [Exit.noGoto_ret]
          go_ret
          obtain ⟨q, rfl⟩ := hq.out
          exact ⟨rfl, bel_drewN (bel_drewN (Below.refl _ _) _) _⟩
      · obtain ⟨q, rfl⟩ := hq.out
        obtain rfl : E = true := hE.symm.trans (eqT_all (fun i hi => hA.out i (by omega)))
        go_wp2
        go_ret
        exact ⟨rfl, bel_drewN (Below.refl _ _) _⟩
  · rw [eqT_ne hnm]
    have hee : (((n : Nat) : Int) != ((m : Nat) : Int)) = true := by rw [bne_iff_ne]; omega
    clear hx hy
    go_enter Tryd.func20, Tryd.ntmps20
    go_wp2
    try rw [Exit.noGoto_ret]
    go_ret
    exact ⟨rfl, Below.refl _ _⟩

end Go.Proofs.YtjhbfkckkinfjaaDoor
