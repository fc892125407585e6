/- info.checkNext, checkSigns; walked. -/
import Derived.Test.YtjhbfkckkinfjaaDoorInD
namespace Go.Proofs.YtjhbfkckkinfjaaDoor
open Go.RowKit

theorem snC_is (s : ByteArray) : snC s = 0 ∨ snC s = 151 := by rcases snC_cases s with h | h; exact Or.inl h.2; exact Or.inr h.2

set_option maxRecDepth 100000 in
set_option maxHeartbeats 1000000 in
theorem ckN_any (x : Option Addr) (n c : Nat) (f : Nat → ByteArray) (s : ByteArray) (w : World) (hS : SIs w x n f) (hn : n ≤ 1152921504606846976) (hs : s.size ≤ 140737488351232) :
    Calls Tryd.prog 32 #[.slice x n c, .string s] w fun e w' => e = .returned (.int .i64 (nxC f n s)) ∧ Below w.heap.size w w' := by
  have C0 := ckSn_any s w hs
  rcases snC_is s with h0 | h0
  · rw [h0] at C0
    by_cases hz : n = 0
    · subst hz
      have hh : Hid (nxC f 0 s = 0) := nxC_yes h0 (fun h => absurd h (by omega))
      clear h0
      go_enter Tryd.func32, Tryd.ntmps32
      go_wp2_with fail
      refine C0.mono ?_
      rintro e w1 ⟨rfl, b1⟩
      go_wp2
      go_ret
      exact ⟨by rw [hh.out]; rfl, b1⟩
    · obtain ⟨m, rfl⟩ : ∃ m, n = m + 1 := ⟨n - 1, by omega⟩
      obtain ⟨a, rfl, c0⟩ := hS m (by omega)
      have hj0 : (0 : Int) < (m : Int) + 1 := by omega
      have hj1 : ((m : Int) + 1 - 1) = (m : Int) := by omega
      have hj3 : m < m + 1 := by omega
      have hj6 : IntKind.i64.wrap ((m : Nat) : Int) = (m : Int) := by rw [IntKind.wrap_i64]; omega
      cases h2 : Op.bytesLess (f m).toList s.toList
      · have hh : Hid (nxC f (m + 1) s = 151) := nxC_no2 (by omega) h2
        have LE : (Op.bytesLess s.toList (f m).toList || s.toList == (f m).toList) = true := by rw [le_not, h2]; rfl
        clear h0 h2 hz hS
        go_enter Tryd.func32, Tryd.ntmps32
        go_wp2_with fail
        refine C0.mono ?_
        rintro e w1 ⟨rfl, b1⟩
        have c1 : w1.cell? (a.add m) = some (.string (f m)) := by rw [b1.cell (World.block_lt_of_cell? _ _ c0)]; exact c0
        have B1 : Hid (Below w.heap.size w w1) := b1
        clear b1 c0 C0
        go_wp2
        go_ret
        exact ⟨by rw [hh.out]; rfl, B1.out⟩
      · have hh : Hid (nxC f (m + 1) s = 0) := nxC_yes h0 (fun _ => by rw [Nat.add_sub_cancel]; exact h2)
        have LE : (Op.bytesLess s.toList (f m).toList || s.toList == (f m).toList) = false := by rw [le_not, h2]; rfl
        clear h0 h2 hz hS
        go_enter Tryd.func32, Tryd.ntmps32
        go_wp2_with fail
        refine C0.mono ?_
        rintro e w1 ⟨rfl, b1⟩
        have c1 : w1.cell? (a.add m) = some (.string (f m)) := by rw [b1.cell (World.block_lt_of_cell? _ _ c0)]; exact c0
        have B1 : Hid (Below w.heap.size w w1) := b1
        clear b1 c0 C0
        go_wp2
        go_ret
        exact ⟨by rw [hh.out]; rfl, B1.out⟩
  · rw [h0] at C0
    have hh : Hid (nxC f n s = 151) := nxC_no1 (by rw [h0]; decide)
    clear h0
    go_enter Tryd.func32, Tryd.ntmps32
    go_wp2_with fail
    refine C0.mono ?_
    rintro e w1 ⟨rfl, b1⟩
    go_wp2
    go_ret
    exact ⟨by rw [hh.out]; rfl, b1⟩

theorem SIs.take {w : World} {x : Option Addr} {n k : Nat} {f : Nat → ByteArray} (h : SIs w x n f) (hk : k ≤ n) : SIs w x k f := fun i hi => h i (by omega)
theorem nxC_ok {f : Nat → ByteArray} {k : Nat} (h : nxC f k (f k) = 0) : snC (f k) = 0 ∧ (0 < k → Op.bytesLess (f (k - 1)).toList (f k).toList = true) := by
  rcases nxC_cases f k (f k) with ⟨_, a⟩ | ⟨a, _⟩
  · exact a
  · rw [a] at h; exact absurd h (by decide)
theorem nxC_is (f : Nat → ByteArray) (k : Nat) (s : ByteArray) : nxC f k s = 0 ∨ nxC f k s = 151 := by
  rcases nxC_cases f k s with h | h
  · exact Or.inl h.1
  · exact Or.inr h.1
theorem nxC_bad {f : Nat → ByteArray} {k n : Nat} (hk : k < n) (h : nxC f k (f k) = 151) : ¬ ssOk f n := fun g => by
  rcases nxC_cases f k (f k) with ⟨a, _⟩ | ⟨_, a⟩
  · rw [a] at h; exact absurd h (by decide)
  · exact a (g k hk)

set_option maxRecDepth 100000 in
set_option maxHeartbeats 1000000 in
theorem ckSs_any (x : Option Addr) (n c : Nat) (f : Nat → ByteArray) (w : World) (hS : SIs w x n f) (hnc : n ≤ c) (hn : n ≤ 1152921504606846976) (hs : ∀ i, i < n → (f i).size ≤ 140737488351232) :
    Calls Tryd.prog 19 #[.slice x n c] w fun e w' => e = .returned (.int .i64 (ssC f n)) ∧ Below w.heap.size w w' := by
  have HS : Hid (SIs w x n f) := hS
  have HZ : Hid (∀ i, i < n → (f i).size ≤ 140737488351232) := hs
  clear hS hs
  go_enter Tryd.func19, Tryd.ntmps19
  go_wp2
  go_loopw [8] (fun i wr => ∃ k : Nat, k ≤ n ∧ i = .int .i64 k ∧ Hid (ssOk f k) ∧ Hid (Below w.heap.size w wr)) (fun i _ => n - (intOf i).toNat)
  case atStart => exact ⟨0, Nat.zero_le _, rfl, fun i hi => absurd hi (by omega), Below.refl _ _⟩
  case round =>
    obtain ⟨k, hk, rfl, hok, B⟩ := hrel
    by_cases hlt : k < n
    · have S1 := HS.out.below B.out (Nat.le_refl _)
      have CN := ckN_any x k c f (f k) wr (S1.take hk) (by omega) (HZ.out k hlt)
      obtain ⟨a, rfl, c0⟩ := S1 k hlt
      have hkc : k ≤ c := by omega
      have hkc2 : (k : Int) ≤ (c : Int) := by omega
      rcases nxC_is f k (f k) with h1 | h1
      · have hok2 : Hid (ssOk f (k + 1)) := ssOk_succ hok.out (nxC_ok h1).1 (nxC_ok h1).2
        rw [h1] at CN
        clear h1 S1
        go_wp2_with fail
        refine CN.mono ?_
        rintro e w1 ⟨rfl, b1⟩
        have B1 : Hid (Below w.heap.size w w1) := B.out.trans (b1.mono B.out.size)
        clear b1 B
        go_wp2
        go_roundw
        case rel => exact ⟨k + 1, by omega, by go_num, hok2, B1⟩
        case measure => simp [intOf]; omega
      · have hh : Hid (ssC f n = 151) := ssC_no (nxC_bad hlt h1)
        rw [h1] at CN
        clear h1 S1
        go_wp2_with fail
        refine CN.mono ?_
        rintro e w1 ⟨rfl, b1⟩
        have B1 : Hid (Below w.heap.size w w1) := B.out.trans (b1.mono B.out.size)
        clear b1 B
        go_wp2
        go_ret
        exact ⟨by rw [hh.out]; rfl, B1.out⟩
    · obtain rfl : k = n := by omega
      have hh : Hid (ssC f k = 0) := ssC_yes hok.out
      go_wp2
      go_ret
      exact ⟨by rw [hh.out]; rfl, B.out⟩

end Go.Proofs.YtjhbfkckkinfjaaDoor
