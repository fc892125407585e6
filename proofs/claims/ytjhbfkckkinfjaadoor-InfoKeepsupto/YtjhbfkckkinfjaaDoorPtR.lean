/- spath.CheckRefs and the document's, walked. -/
import Derived.Test.YtjhbfkckkinfjaaDoorPtPW
namespace Go.Proofs.YtjhbfkckkinfjaaDoor
open Go.RowKit

theorem le_not (a b : List UInt8) : (Op.bytesLess b a || b == a) = !(Op.bytesLess a b) := by
  induction a generalizing b with
  | nil => cases b with
    | nil => rfl
    | cons y b => rfl
  | cons x a ih => cases b with
    | nil => rfl
    | cons y b =>
      have := ih b
      unfold Op.bytesLess
      by_cases h1 : x < y
      · have h2 : ¬ y < x := by rw [UInt8.lt_iff_toNat_lt] at h1 ⊢; omega
        have h3 : ¬ y = x := fun e => by subst e; exact absurd h1 (by simp)
        simp [h1, h2, h3]
      · by_cases h2 : y < x
        · have h3 : ¬ x = y := fun e => by subst e; exact absurd h2 (by simp)
          simp [h1, h2, h3]
        · have hxy : x = y := by
            apply UInt8.toNat_inj.1
            rw [UInt8.lt_iff_toNat_lt] at h1 h2; omega
          subst hxy
          simpa [h1] using this

/-- The cells of a row of texts. -/
def SIs (w : World) (x : Option Addr) (n : Nat) (f : Nat → ByteArray) : Prop := ∀ i, i < n → ∃ a, x = some a ∧ w.cell? (a.add i) = some (.string (f i))
theorem add_succ (a : Addr) (k : Nat) : a.add (k + 1) = ⟨a.block, a.off + (k + 1), none⟩ := by unfold Addr.add; rw [if_neg (by omega)]
theorem add_zero' (a : Addr) : a.add 0 = a := by unfold Addr.add; rw [if_pos rfl]
theorem SIs.below {w w' : World} {x : Option Addr} {n B : Nat} {f : Nat → ByteArray} (h : SIs w x n f) (b : Below B w w') (hB : w.heap.size ≤ B) : SIs w' x n f := fun i hi => by
  obtain ⟨a, ha, hc⟩ := h i hi
  refine ⟨a, ha, ?_⟩
  have hl := World.block_lt_of_cell? _ _ hc
  rw [b.cell (p := a.add i) (by omega)]
  exact hc

/-- The first k references are paths that rise. -/
def refsOk (f : Nat → ByteArray) (k : Nat) : Prop := ∀ i, i < k → prC (f i) = 0 ∧ (0 < i → Op.bytesLess (f (i - 1)).toList (f i).toList = true)
instance (f : Nat → ByteArray) (k : Nat) : Decidable (refsOk f k) := inferInstanceAs (Decidable (∀ i, i < k → _))
def crf (f : Nat → ByteArray) (n : Nat) : Int := if 1024 < n then 171 else if refsOk f n then 0 else 133
theorem crf_many {f : Nat → ByteArray} {n : Nat} (h : 1024 < n) : crf f n = 171 := if_pos h
theorem crf_no {f : Nat → ByteArray} {n : Nat} (h : ¬ 1024 < n) (g : ¬ refsOk f n) : crf f n = 133 := by unfold crf; rw [if_neg h, if_neg g]
theorem crf_yes {f : Nat → ByteArray} {n : Nat} (h : ¬ 1024 < n) (g : refsOk f n) : crf f n = 0 := by unfold crf; rw [if_neg h, if_pos g]
theorem refsOk_succ {f : Nat → ByteArray} {k : Nat} (h : refsOk f k) (h1 : prC (f k) = 0) (h2 : 0 < k → Op.bytesLess (f (k - 1)).toList (f k).toList = true) : refsOk f (k + 1) := fun i hi => by
  by_cases e : i = k
  · rw [e]; exact ⟨h1, h2⟩
  · exact h i (by omega)
theorem refsOk_bad1 {f : Nat → ByteArray} {k n : Nat} (hk : k < n) (h1 : prC (f k) ≠ 0) : ¬ refsOk f n := fun h => h1 (h k hk).1
theorem refsOk_bad2 {f : Nat → ByteArray} {k n : Nat} (hk : k + 1 < n) (h1 : Op.bytesLess (f k).toList (f (k + 1)).toList = false) : ¬ refsOk f n := fun h => by
  have := (h (k + 1) hk).2 (by omega)
  rw [Nat.add_sub_cancel, h1] at this
  exact Bool.noConfusion this
theorem crf_vals (f : Nat → ByteArray) (n : Nat) : 0 ≤ crf f n ∧ crf f n ≤ 171 := by
  unfold crf
  repeat' split
  all_goals omega

set_option maxHeartbeats 2000000 in
theorem ckR_any (x : Option Addr) (n c : Nat) (f : Nat → ByteArray) (w : World) (hS : SIs w x n f) :
    Calls Tryd.prog 18 #[.slice x n c] w fun e w' => e = .returned (.int .i64 (crf f n)) ∧ Below w.heap.size w w' := by
  by_cases hm : 1024 < n
  · have hh : Hid (crf f n = 171) := crf_many hm
    go_enter Tryd.func18, Tryd.ntmps18
    go_wp2
    go_ret
    exact ⟨by rw [hh.out]; rfl, Below.refl _ _⟩
  · have HM : Hid (¬ 1024 < n) := hm
    have HS : Hid (SIs w x n f) := hS
    clear hS
    go_enter Tryd.func18, Tryd.ntmps18
    go_wp2
    have hn : n ≤ 1024 := by omega
    clear hm
    go_loopw [13] (fun i wr => ∃ k : Nat, k ≤ n ∧ i = .int .i64 k ∧ Hid (refsOk f k) ∧ Hid (Below w.heap.size w wr)) (fun i _ => n - (intOf i).toNat)
    case atStart => exact ⟨0, Nat.zero_le _, rfl, fun i hi => absurd hi (by omega), Below.refl _ _⟩
    case round =>
      obtain ⟨k, hk, rfl, hok, B⟩ := hrel
      by_cases hlt : k < n
      · have S1 := HS.out.below B.out (Nat.le_refl _)
        obtain ⟨a, rfl, c0⟩ := S1 k hlt
        by_cases h1 : prC (f k) = 0
        · have H1 : Hid (prC (f k) = 0) := h1
          clear h1
          rcases (show k = 0 ∨ ∃ j, k = j + 1 from by cases k with | zero => exact Or.inl rfl | succ j => exact Or.inr ⟨j, rfl⟩) with hk0 | ⟨j, hj⟩
          · subst hk0
            clear S1
            have c0' : wr.cell? a = some (.string (f 0)) := by rw [add_zero'] at c0; exact c0
            clear c0
            go_wp2_with fail
            refine (parse_any _ _).mono ?_
            rintro e w1 ⟨rfl, b1⟩
            rw [H1.out]
            have B1 : Hid (Below w.heap.size w w1) := B.out.trans (b1.mono B.out.size)
            clear b1 B
            go_wp2
            go_roundw
            case rel => exact ⟨1, by omega, by go_num, refsOk_succ hok.out H1.out (fun h => absurd h (by omega)), B1⟩
            case measure => simp [intOf]; omega
          · subst hj
            obtain ⟨a', ha', c1⟩ := S1 j (by omega)
            obtain rfl := Option.some.inj ha'
            clear S1 ha'
            rw [add_succ] at c0
            have hj0 : (0 : Int) < (j : Int) + 1 := by omega
            have hj1 : (j : Int) + 1 < (n : Int) := by omega
            have hj2 : j + 1 < n := hlt
            have hj3 : j < n := by omega
            have hj4 : ((j : Int) + 1).toNat = j + 1 := by omega
            have hj5 : ¬ ((j : Int) + 1 < 0) := by omega
            have hj6 : IntKind.i64.wrap ((j : Nat) : Int) = (j : Int) := by rw [IntKind.wrap_i64]; omega
            cases h2 : Op.bytesLess (f j).toList (f (j + 1)).toList
            · have hh : Hid (crf f n = 133) := crf_no HM.out (refsOk_bad2 hlt h2)
              have LE : (Op.bytesLess (f (j + 1)).toList (f j).toList || (f (j + 1)).toList == (f j).toList) = true := by rw [le_not, h2]; rfl
              clear h2
              go_wp2_with fail
              refine (parse_any _ _).mono ?_
              rintro e w1 ⟨rfl, b1⟩
              rw [H1.out]
              have B1 : Hid (Below w.heap.size w w1) := B.out.trans (b1.mono B.out.size)
              have c2 : w1.cell? (a.add j) = some (.string (f j)) := by rw [b1.cell (World.block_lt_of_cell? _ _ c1)]; exact c1
              clear b1 B c0 c1
              go_wp2
              go_ret
              exact ⟨by rw [hh.out]; rfl, B1.out⟩
            · have LE : (Op.bytesLess (f (j + 1)).toList (f j).toList || (f (j + 1)).toList == (f j).toList) = false := by rw [le_not, h2]; rfl
              have H2 : Hid (Op.bytesLess (f j).toList (f (j + 1)).toList = true) := h2
              clear h2
              go_wp2_with fail
              refine (parse_any _ _).mono ?_
              rintro e w1 ⟨rfl, b1⟩
              rw [H1.out]
              have B1 : Hid (Below w.heap.size w w1) := B.out.trans (b1.mono B.out.size)
              have c2 : w1.cell? (a.add j) = some (.string (f j)) := by rw [b1.cell (World.block_lt_of_cell? _ _ c1)]; exact c1
              clear b1 B c0 c1
              go_wp2
              go_roundw
              case rel => exact ⟨j + 1 + 1, by omega, by go_num, refsOk_succ hok.out H1.out (fun _ => H2.out), B1⟩
              case measure => simp [intOf]; omega
        · have hh : Hid (crf f n = 133) := crf_no HM.out (refsOk_bad1 hlt h1)
          have H1 : (prC (f k) == 0) = false := by rw [beq_eq_false_iff_ne]; exact h1
          have H2 : (prC (f k) != 0) = true := by simp only [bne, H1]; rfl
          clear h1
          go_wp2_with fail
          refine (parse_any _ _).mono ?_
          rintro e w1 ⟨rfl, b1⟩
          have B1 : Hid (Below w.heap.size w w1) := B.out.trans (b1.mono B.out.size)
          clear b1 B
          go_wp2
          go_ret
          exact ⟨by rw [hh.out]; rfl, B1.out⟩
      · have hh : Hid (crf f n = 0) := by
          obtain rfl : k = n := by omega
          exact crf_yes HM.out hok.out
        go_wp2
        go_ret
        exact ⟨by rw [hh.out]; rfl, B.out⟩

end Go.Proofs.YtjhbfkckkinfjaaDoor
