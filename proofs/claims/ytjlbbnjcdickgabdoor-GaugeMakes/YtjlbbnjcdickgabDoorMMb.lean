/- gauge.dropped, walked. -/
import Derived.Test.YtjlbbnjcdickgabDoorMKc
set_option maxRecDepth 4000
namespace Go.Proofs.YtjlbbnjcdickgabDoor
open Go.RowKit

theorem bl_shift (N k : Nat) (h : 2 ^ k ≤ N) : bl N = k + bl (N / 2 ^ k) := by
  have hp := Nat.two_pow_pos k
  have hq : 0 < N / 2 ^ k := Nat.div_pos h hp
  apply Nat.le_antisymm
  · apply bl_le
    have := bl_lt (N / 2 ^ k)
    rw [Nat.pow_add, Nat.mul_comm]
    exact (Nat.div_lt_iff_lt_mul hp).mp this
  · have h1 : 2 ^ (bl (N / 2 ^ k) - 1) ≤ N / 2 ^ k := by unfold bl; rw [if_neg (by omega)]; exact Nat.log2_self_le (by omega)
    have h2 := bl_lt N
    have h3 := (Nat.le_div_iff_mul_le hp).mp h1
    rw [← Nat.pow_add] at h3
    have h4 : bl (N / 2 ^ k) - 1 + k < bl N := by
      apply Nat.lt_of_not_le
      intro h5
      have := Nat.pow_le_pow_right (show 0 < 2 by decide) h5
      omega
    omega

set_option maxHeartbeats 1000000 in
theorem dropped_any (N c : Nat) (w : World) (hN : N < 2 ^ 64) (hc0 : 0 < c) (hc : c ≤ 100) :
    Calls Tryd.prog 23 #[.int .u64 N, .int .i64 c] w fun e w' => e = .returned (.int .u64 (rnd N (2 ^ c))) ∧ w' = w := by
  by_cases h64 : 64 < c
  · have hz : Hid (rnd N (2 ^ c) = 0) := by
      unfold Hid
      have h1 : rnd N (2 ^ c) ≤ 0 := by
        rw [rnd_le _ _ _ (Nat.two_pow_pos c)]
        left
        have := Nat.pow_le_pow_right (show 0 < 2 by decide) (show 65 ≤ c by omega)
        omega
      omega
    have hcc : (64 : Int) < (c : Int) := by omega
    go_enter Tryd.func23, Tryd.ntmps23
    go_wp2
    go_ret
    exact ⟨by rw [hz.out]; rfl, rfl⟩
  · have hcc : ¬ (64 : Int) < (c : Int) := by omega
    obtain ⟨d, rfl⟩ : ∃ d, c = d + 1 := ⟨c - 1, by omega⟩
    have hg : 2 ^ (d + 1) = 2 * 2 ^ d := by rw [Nat.pow_succ]; omega
    have hd63 : 2 ^ d ≤ 2 ^ 63 := Nat.pow_le_pow_right (by decide) (by omega)
    have hdp := Nat.two_pow_pos d
    have hdm := Nat.div_add_mod N (2 ^ (d + 1))
    have hr := Nat.mod_lt N (Nat.two_pow_pos (d + 1))
    have hqle := Nat.div_le_self N (2 ^ (d + 1))
    have hrle := Nat.mod_le N (2 ^ (d + 1))
    have hq2 : N / 2 ^ (d + 1) ≤ N / 2 := Nat.div_le_div_left (by omega) (by decide)
    have hR : Hid (rnd N (2 ^ (d + 1)) = N / 2 ^ (d + 1) + (decide (2 ^ d < N % 2 ^ (d + 1)) || (2 ^ d == N % 2 ^ (d + 1) && N / 2 ^ (d + 1) % 2 == 1)).toNat) := by
      unfold Hid rnd
      have e1 : decide (2 ^ (d + 1) < 2 * (N % 2 ^ (d + 1))) = decide (2 ^ d < N % 2 ^ (d + 1)) := by rw [Bool.eq_iff_iff]; simp; omega
      have e2 : (2 ^ (d + 1) == 2 * (N % 2 ^ (d + 1))) = (2 ^ d == N % 2 ^ (d + 1)) := by rw [Bool.eq_iff_iff]; simp; omega
      rw [e1, e2]
    have g1 : (N : Int) / 2 ^ (d + 1) = ((N / 2 ^ (d + 1) : Nat) : Int) := by rw [Int.natCast_ediv, Int.natCast_pow]; rfl
    have g2 : IntKind.u64.wrap (((N / 2 ^ (d + 1) : Nat) : Int) * 2 ^ (d + 1)) = ((N : Int) - ((N % 2 ^ (d + 1) : Nat) : Int)) := by
      have : ((N / 2 ^ (d + 1) : Nat) : Int) * 2 ^ (d + 1) = (N : Int) - ((N % 2 ^ (d + 1) : Nat) : Int) := by
        have h3 : ((2 ^ (d + 1) * (N / 2 ^ (d + 1)) + N % 2 ^ (d + 1) : Nat) : Int) = (N : Int) := by rw [hdm]
        rw [Int.natCast_add, Int.natCast_mul, Int.natCast_pow, show ((2 : Nat) : Int) = 2 from rfl] at h3
        rw [Int.mul_comm]; omega
      rw [this, IntKind.wrap_u64]; omega
    have g3 : IntKind.u64.wrap ((N : Int) - ((N : Int) - ((N % 2 ^ (d + 1) : Nat) : Int))) = ((N % 2 ^ (d + 1) : Nat) : Int) := by rw [IntKind.wrap_u64]; omega
    have g4 : IntKind.u64.wrap (2 ^ d) = ((2 ^ d : Nat) : Int) := by
      rw [show (2 : Int) ^ d = ((2 ^ d : Nat) : Int) by rw [Int.natCast_pow]; rfl, IntKind.wrap_u64]; omega
    generalize rnd N (2 ^ (d + 1)) = RES at *
    generalize N / 2 ^ (d + 1) = q at *
    generalize N % 2 ^ (d + 1) = r at *
    generalize hH : 2 ^ d = H at *
    clear hg hdm hr hdp hd63
    obtain ⟨Q, hQ⟩ : ∃ Q : Int, (q : Int) = Q := ⟨_, rfl⟩
    obtain ⟨R, hRr⟩ : ∃ R : Int, (r : Int) = R := ⟨_, rfl⟩
    obtain ⟨HH, hHH⟩ : ∃ HH : Int, (H : Int) = HH := ⟨_, rfl⟩
    obtain ⟨NN, hNN⟩ : ∃ NN : Int, (N : Int) = NN := ⟨_, rfl⟩
    have bQ : 0 ≤ Q ∧ Q ≤ 9223372036854775808 := by omega
    have bN : 0 ≤ NN ∧ NN ≤ 18446744073709551615 := by omega
    rw [hQ, hRr, hNN] at g2
    rw [hRr, hNN] at g3
    rw [hNN, hQ] at g1
    rw [hHH] at g4
    rw [hNN]
    have KQ : Hid ((q : Int) = Q) := hQ
    have KR : Hid ((r : Int) = R) := hRr
    have KH : Hid ((H : Int) = HH) := hHH
    clear hQ hRr hHH hNN hqle hrle hN hH hq2
    have cs : (HH < R ∧ RES = q + 1) ∨ (¬ HH < R ∧ (R == HH) = false ∧ RES = q) ∨ (¬ HH < R ∧ (R == HH) = true ∧ (Q % 2 == 1) = true ∧ RES = q + 1) ∨ (¬ HH < R ∧ (R == HH) = true ∧ (Q % 2 == 1) = false ∧ RES = q) := by
      have e0 := hR.out
      have k1 := KQ.out
      have k2 := KR.out
      have k3 := KH.out
      by_cases u : H < r
      · left; rw [decide_eq_true u] at e0; simp at e0; exact ⟨by omega, e0⟩
      · right
        rw [decide_eq_false u] at e0
        by_cases v : H = r
        · right
          have v2 : (H == r) = true := by simp [v]
          have v3 : (R == HH) = true := by simp; omega
          rw [v2] at e0
          by_cases p : q % 2 = 1
          · left; have p2 : (q % 2 == 1) = true := by simp [p]
            rw [p2] at e0; simp at e0
            exact ⟨by omega, v3, by simp; omega, e0⟩
          · right; have p2 : (q % 2 == 1) = false := by simp [p]
            rw [p2] at e0; simp at e0
            exact ⟨by omega, v3, by simp; omega, e0⟩
        · left
          have v2 : (H == r) = false := by simp [v]
          rw [v2] at e0; simp at e0
          exact ⟨by omega, by simp; omega, e0⟩
    clear hR
    rcases cs with ⟨a1, a2⟩ | ⟨a1, a3, a2⟩ | ⟨a1, a3, a4, a2⟩ | ⟨a1, a3, a4, a2⟩
    all_goals
      have A2 : Hid (RES = _) := a2
      clear a2
      go_enter Tryd.func23, Tryd.ntmps23
      go_wp2
      go_ret
      refine ⟨?_, rfl⟩
      rw [A2.out]
      first
        | exact congrArg (fun z => Ending.returned (Value.int .u64 z)) KQ.out.symm
        | exact congrArg (fun z => Ending.returned (Value.int .u64 z)) (show Q + 1 = ((q + 1 : Nat) : Int) by have := KQ.out; omega)

end Go.Proofs.YtjlbbnjcdickgabDoor
