/- Numbers by their bits, for the document's own FromBase32. -/
import Derived.Test.YtgnlkggodchlbaaDoorLtD
import Derived.Test.YtgnlkggodchlbaaDoorB32C
namespace Go.Proofs.YtgnlkggodchlbaaDoor
open Go.RowKit

/-- Bit j of the number that the letters are, the last letter the lowest. -/
def vbF (s : ByteArray) (j : Nat) : Int := vl (bt s (s.size - 1 - j / 5)) / 2 ^ (j % 5) % 2
/-- The number that the first i bits are. -/
def xN (s : ByteArray) (i : Nat) : Nat := num 2 (fun j => (vbF s j).toNat) i

theorem vbF_bd (s : ByteArray) (j : Nat) : 0 ≤ vbF s j ∧ vbF s j < 2 := by unfold vbF; omega

theorem vbF_at (s : ByteArray) (k d c : Nat) (hd : k + d + 1 = s.size) (hc : c < 5) (y : Int) (hy : y = vl (bt s d) / 2 ^ c) : y % 2 = vbF s (5 * k + c) := by
  unfold vbF
  rw [show (5 * k + c) / 5 = k from by omega, show (5 * k + c) % 5 = c from by omega, show s.size - 1 - k = d from by omega, hy]

theorem xN_lt (s : ByteArray) (i : Nat) : xN s i < 2 ^ i := num_lt 2 _ i (by omega) (fun j _ => by have := vbF_bd s j; omega)

theorem xN_zero (s : ByteArray) (i : Nat) (h : vbF s i = 0) : xN s (i + 1) = xN s i := by
  unfold xN; rw [num, h]; simp

theorem xN_one (s : ByteArray) (i : Nat) (h : vbF s i = 1) : xN s (i + 1) = xN s i + 2 ^ i := by
  unfold xN; rw [num, h]; simp

theorem num2_ge (f : Nat → Nat) (i n : Nat) (hi : i < n) (h : 1 ≤ f i) : 2 ^ i ≤ num 2 f n := by
  induction n with
  | zero => omega
  | succ n ih =>
    rw [num]
    by_cases e : i = n
    · subst e
      have : 1 * 2 ^ i ≤ f i * 2 ^ i := Nat.mul_le_mul_right _ h
      omega
    · have := ih (by omega)
      omega

theorem five_bits (x : Nat) (h : x < 32) (p : Nat) : ((x : Int) / 2 ^ 0 % 2).toNat * (p * 2 ^ 0) + ((x : Int) / 2 ^ 1 % 2).toNat * (p * 2 ^ 1) + ((x : Int) / 2 ^ 2 % 2).toNat * (p * 2 ^ 2) + ((x : Int) / 2 ^ 3 % 2).toNat * (p * 2 ^ 3) + ((x : Int) / 2 ^ 4 % 2).toNat * (p * 2 ^ 4) = x * p := by
  have e : x = ((x : Int) / 2 ^ 0 % 2).toNat * 1 + ((x : Int) / 2 ^ 1 % 2).toNat * 2 + ((x : Int) / 2 ^ 2 % 2).toNat * 4 + ((x : Int) / 2 ^ 3 % 2).toNat * 8 + ((x : Int) / 2 ^ 4 % 2).toNat * 16 := by omega
  conv => rhs; rw [e]
  simp only [Nat.add_mul, Nat.mul_assoc, Nat.mul_comm p]

theorem xN_vnum (s : ByteArray) (k : Nat) (hk : k ≤ s.size) (hok : ∀ j, j < s.size → 0 ≤ vl (bt s j)) : xN s (5 * k) = vnum s k := by
  induction k with
  | zero => rfl
  | succ k ih =>
    have h0 := hok (s.size - 1 - k) (by omega)
    have h1 := vl_spec _ (bt_bd s (s.size - 1 - k))
    obtain ⟨v, hv⟩ : ∃ v : Nat, vl (bt s (s.size - 1 - k)) = v := ⟨(vl (bt s (s.size - 1 - k))).toNat, by omega⟩
    have hv32 : v < 32 := by omega
    rw [vnum_succ s k v hv, ← ih (by omega)]
    have hb : ∀ c, c < 5 → vbF s (5 * k + c) = (v : Int) / 2 ^ c % 2 := fun c hc => by
      rw [← vbF_at s k (s.size - 1 - k) c (by omega) hc ((v : Int) / 2 ^ c) (by rw [hv])]
    have hp : 32 ^ k = 2 ^ (5 * k) := by rw [show (32 : Nat) = 2 ^ 5 from rfl, ← Nat.pow_mul]
    rw [hp, ← five_bits v hv32 (2 ^ (5 * k))]
    unfold xN
    rw [show 5 * (k + 1) = 5 * k + 4 + 1 from by omega, num, num, num, num, num]
    simp only [Nat.add_assoc]
    rw [hb 1 (by omega), hb 2 (by omega), hb 3 (by omega), hb 4 (by omega), show vbF s (5 * k) = (v : Int) / 2 ^ 0 % 2 from hb 0 (by omega)]
    simp only [Nat.pow_add, Nat.pow_zero, Nat.mul_one]

theorem pow2_split (i : Nat) : 2 ^ i = 256 ^ (i / 8) * 2 ^ (i % 8) := by
  rw [show (256 : Nat) = 2 ^ 8 from rfl, ← Nat.pow_mul, ← Nat.pow_add]
  congr 1
  omega

theorem step2_bd (N i : Nat) (hN : N < 2 ^ i) : 0 ≤ fbFn N (i / 8) ∧ fbFn N (i / 8) + 2 ^ (i % 8) < 256 ∧ (1 : Int) ≤ 2 ^ (i % 8) ∧ (2 : Int) ^ (i % 8) ≤ 128 := by
  rw [pow2_split] at hN
  have hr : i % 8 < 8 := Nat.mod_lt _ (by omega)
  have hp := pow2_lt (i % 8) hr
  have hx : N / 256 ^ (i / 8) < 2 ^ (i % 8) := (Nat.div_lt_iff_lt_mul (Nat.pow_pos (by omega))).2 (by rw [Nat.mul_comm]; exact hN)
  unfold fbFn
  have e : (2 : Int) ^ (i % 8) = ((2 ^ (i % 8) : Nat) : Int) := by rw [Int.natCast_pow]; rfl
  rw [e]
  generalize 2 ^ (i % 8) = p at *
  generalize N / 256 ^ (i / 8) = x at *
  omega

theorem step2 (N i : Nat) (hN : N < 2 ^ i) (t : Nat) : (if t = i / 8 then fbFn N (i / 8) + 2 ^ (i % 8) else fbFn N t) = fbFn (N + 2 ^ i) t := by
  rw [pow2_split] at hN ⊢
  have hr : i % 8 < 8 := Nat.mod_lt _ (by omega)
  generalize i / 8 = q at hN ⊢
  generalize i % 8 = r at hN hr ⊢
  have hp := pow2_lt r hr
  have hx : N / 256 ^ q < 2 ^ r := (Nat.div_lt_iff_lt_mul (Nat.pow_pos (by omega))).2 (by rw [Nat.mul_comm]; exact hN)
  have hq : (N + 256 ^ q * 2 ^ r) / 256 ^ q = N / 256 ^ q + 2 ^ r := Nat.add_mul_div_left _ _ (Nat.pow_pos (by omega))
  unfold fbFn
  by_cases e1 : t = q
  · rw [if_pos e1, e1, hq]
    rw [show (2 : Int) ^ r = ((2 ^ r : Nat) : Int) from by rw [Int.natCast_pow]; rfl]
    clear hq hN
    generalize 2 ^ r = p at *
    generalize N / 256 ^ q = x at *
    omega
  · rw [if_neg e1]
    congr 1
    by_cases e3 : t < q
    · obtain ⟨d, rfl⟩ : ∃ d, q = t + 1 + d := ⟨q - t - 1, by omega⟩
      have : 256 ^ (t + 1 + d) * 2 ^ r = 256 ^ t * (256 * (256 ^ d * 2 ^ r)) := by
        rw [Nat.pow_add, Nat.pow_succ]
        simp only [Nat.mul_assoc]
      rw [this, Nat.add_mul_div_left _ _ (Nat.pow_pos (by omega)), Nat.add_mul_mod_self_left]
    · obtain ⟨d, rfl⟩ : ∃ d, t = q + 1 + d := ⟨t - q - 1, by omega⟩
      have h2 : (N + 256 ^ q * 2 ^ r) / 256 ^ (q + 1) = 0 := by
        rw [Nat.pow_succ, ← Nat.div_div_eq_div_mul, hq]
        clear hq hN
        generalize 2 ^ r = p at *
        generalize N / 256 ^ q = x at *
        omega
      have hz : N / 256 ^ (q + 1) = 0 := by
        rw [Nat.pow_succ, ← Nat.div_div_eq_div_mul]
        clear hq hN h2
        generalize 2 ^ r = p at *
        generalize N / 256 ^ q = x at *
        omega
      rw [Nat.pow_add, ← Nat.div_div_eq_div_mul, ← Nat.div_div_eq_div_mul, h2, hz]

theorem spare_bad (s : ByteArray) (n i : Nat) (hi : i < 5 * s.size) (h : vbF s i = 1) (hn : 8 * n ≤ i) (hl : 5 * s.size ≤ 8 * n + 4) : fbFn (xN s (5 * s.size)) n ≠ 0 := by
  have h1 : 2 ^ i ≤ xN s (5 * s.size) := num2_ge _ i _ hi (by show 1 ≤ (vbF s i).toNat; rw [h]; decide)
  have h2 := xN_lt s (5 * s.size)
  have h3 : 2 ^ (5 * s.size) ≤ 256 ^ n * 16 := by
    rw [show 256 ^ n * 16 = 2 ^ (8 * n + 4) from by rw [show (256 : Nat) = 2 ^ 8 from rfl, ← Nat.pow_mul, Nat.pow_add]]
    exact Nat.pow_le_pow_right (by omega) hl
  have h4 : 256 ^ n ≤ 2 ^ i := by
    rw [show (256 : Nat) = 2 ^ 8 from rfl, ← Nat.pow_mul]
    exact Nat.pow_le_pow_right (by omega) hn
  generalize xN s (5 * s.size) = X at *
  have h5 : X / 256 ^ n < 16 := (Nat.div_lt_iff_lt_mul (Nat.pow_pos (by omega))).2 (by rw [Nat.mul_comm]; omega)
  have h6 : 1 ≤ X / 256 ^ n := (Nat.le_div_iff_mul_le (Nat.pow_pos (by omega))).2 (by omega)
  unfold fbFn
  omega

theorem spare_good (X n : Nat) (h : X < 256 ^ n) : fbFn X n = 0 := by
  unfold fbFn; rw [Nat.div_eq_of_lt h]; rfl

theorem pow_room (i n : Nat) (h : i < 8 * n) (X : Nat) (hX : X < 2 ^ (i + 1)) : X < 256 ^ n := by
  refine Nat.lt_of_lt_of_le hX ?_
  rw [show (256 : Nat) = 2 ^ 8 from rfl, ← Nat.pow_mul]
  exact Nat.pow_le_pow_right (by omega) (by omega)
#print axioms spare_bad
#print axioms step2
#print axioms xN_vnum
end Go.Proofs.YtgnlkggodchlbaaDoor
