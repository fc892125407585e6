/- Gathered: Fl FlS. -/
import Ieee.Arith
/- Words of binary floating point: their order, and what rounding to the nearest gives, told by the midpoints. -/
set_option maxRecDepth 4000
namespace Go.Proofs.Ytljcbibcdajhiaa
open Ieee


theorem signed_eq (s : Bool) (m u : Nat) : signed s m u = (if s then -1 else 1) * ((m : Int) * 2 ^ u) := by
  unfold signed
  rw [Nat.shiftLeft_eq]
  cases s <;> simp

theorem signed_up (s : Bool) (m u v : Nat) : signed s m (u + v) = signed s m u * 2 ^ v := by
  rw [signed_eq, signed_eq, Int.pow_add]
  simp only [Int.mul_assoc]

/-- The side and the size of a datum: what the order goes by. -/
def dside : Datum → Int
  | .number .. => 0
  | .infinity s => if s then -1 else 1
  | .nan .. => 2

def dsize (L : Int) : Datum → Int
  | .number s m i => signed s m (i - L).toNat
  | _ => 0

def dabove (L : Int) : Datum → Prop
  | .number _ _ i => L ≤ i
  | _ => True

theorem cmp_lt {a b : Int} (h : a < b) : compare a b = .lt := by
  show compareOfLessAndEq a b = _
  simp [compareOfLessAndEq, h]
theorem cmp_eq {a b : Int} (h : a = b) : compare a b = .eq := by
  show compareOfLessAndEq a b = _
  subst h; simp [compareOfLessAndEq]
theorem cmp_gt {a b : Int} (h : b < a) : compare a b = .gt := by
  show compareOfLessAndEq a b = _
  have h1 : ¬ a < b := by omega
  have h2 : ¬ a = b := by omega
  simp [compareOfLessAndEq, h1, h2]

theorem compare_scale (a b : Int) (v : Nat) : compare (a * 2 ^ v) (b * 2 ^ v) = compare a b := by
  have hp : (0 : Int) < 2 ^ v := Int.pow_pos (by decide)
  rcases Int.lt_trichotomy a b with h | h | h
  · have h2 : a * 2 ^ v < b * 2 ^ v := Int.mul_lt_mul_of_pos_right h hp
    rw [cmp_lt h, cmp_lt h2]
  · subst h; rw [cmp_eq rfl, cmp_eq rfl]
  · have h2 : b * 2 ^ v < a * 2 ^ v := Int.mul_lt_mul_of_pos_right h hp
    rw [cmp_gt h, cmp_gt h2]

theorem order_number (L : Int) (s t : Bool) (m n : Nat) (i j : Int) (hi : L ≤ i) (hj : L ≤ j) :
    Datum.order (.number s m i) (.number t n j) = some (compare (signed s m (i - L).toNat) (signed t n (j - L).toNat)) := by
  show some (compare (signed s m (i - min i j).toNat) (signed t n (j - min i j).toNat)) = _
  have h1 : (i - L).toNat = (i - min i j).toNat + (min i j - L).toNat := by omega
  have h2 : (j - L).toNat = (j - min i j).toNat + (min i j - L).toNat := by omega
  rw [h1, h2, signed_up, signed_up, compare_scale]

theorem order_key (L : Int) (d e : Datum) (hd : dabove L d) (he : dabove L e) (nd : d.isNaN = false) (ne : e.isNaN = false) :
    d.order e = some ((compare (dside d) (dside e)).then (compare (dsize L d) (dsize L e))) := by
  cases d with
  | nan => simp [Datum.isNaN] at nd
  | infinity s =>
    cases e with
    | nan => simp [Datum.isNaN] at ne
    | infinity t => cases s <;> cases t <;> rfl
    | number t n j => cases s <;> rfl
  | number s m i =>
    cases e with
    | nan => simp [Datum.isNaN] at ne
    | infinity t => cases t <;> rfl
    | number t n j =>
      rw [order_number L s t m n i j hd he]
      rfl

theorem order_nan_left (d e : Datum) (nd : d.isNaN = true) : d.order e = none := by
  cases d <;> simp [Datum.isNaN] at nd
  cases e <;> rfl

theorem order_nan_right (d e : Datum) (nd : e.isNaN = true) : d.order e = none := by
  cases e <;> simp [Datum.isNaN] at nd
  cases d <;> rfl

theorem read_above (f : Format) (x : Nat) : dabove f.leastPlace (f.read x) := by
  unfold Format.read
  dsimp only
  split
  · exact Int.le_refl _
  · split
    · show f.leastPlace ≤ f.leastPlace + _
      omega
    · split <;> exact trivial

def fside (f : Format) (x : Nat) : Int := dside (f.read x)
def fsize (f : Format) (x : Nat) : Int := dsize f.leastPlace (f.read x)
def fnan (f : Format) (x : Nat) : Bool := (f.read x).isNaN

theorem then_lt (a b c d : Int) : ((compare a b).then (compare c d) = .lt) ↔ (a < b ∨ a = b ∧ c < d) := by
  rcases Int.lt_trichotomy a b with h | h | h
  · rw [cmp_lt h]; simp [Ordering.then, h]
  · subst h; rw [cmp_eq rfl]; 
    rcases Int.lt_trichotomy c d with k | k | k
    · rw [cmp_lt k]; simp [Ordering.then, k]
    · rw [cmp_eq k]; simp [Ordering.then]; omega
    · rw [cmp_gt k]; simp [Ordering.then]; omega
  · rw [cmp_gt h]; simp [Ordering.then]; omega

theorem then_gt (a b c d : Int) : ((compare a b).then (compare c d) = .gt) ↔ (b < a ∨ a = b ∧ d < c) := by
  rcases Int.lt_trichotomy a b with h | h | h
  · rw [cmp_lt h]; simp [Ordering.then]; omega
  · subst h; rw [cmp_eq rfl]; 
    rcases Int.lt_trichotomy c d with k | k | k
    · rw [cmp_lt k]; simp [Ordering.then]; omega
    · rw [cmp_eq k]; simp [Ordering.then]; omega
    · rw [cmp_gt k]; simp [Ordering.then, k]
  · rw [cmp_gt h]; simp [Ordering.then, h]

theorem then_eq (a b c d : Int) : ((compare a b).then (compare c d) = .eq) ↔ (a = b ∧ c = d) := by
  rcases Int.lt_trichotomy a b with h | h | h
  · rw [cmp_lt h]; simp [Ordering.then]; omega
  · subst h; rw [cmp_eq rfl]
    rcases Int.lt_trichotomy c d with k | k | k
    · rw [cmp_lt k]; simp [Ordering.then]; omega
    · rw [cmp_eq k]; simp [Ordering.then, k]
    · rw [cmp_gt k]; simp [Ordering.then]; omega
  · rw [cmp_gt h]; simp [Ordering.then]; omega

theorem forder_none (f : Format) (x y : Nat) (h : (fnan f x || fnan f y) = true) : f.order x y = none := by
  rw [Bool.or_eq_true] at h
  rcases h with h | h
  · exact order_nan_left _ _ h
  · exact order_nan_right _ _ h

theorem forder_some (f : Format) (x y : Nat) (hx : fnan f x = false) (hy : fnan f y = false) :
    f.order x y = some ((compare (fside f x) (fside f y)).then (compare (fsize f x) (fsize f y))) :=
  order_key _ _ _ (read_above f x) (read_above f y) hx hy

theorem flt_iff (f : Format) (x y : Nat) : (f.order x y == some .lt) = true ↔ fnan f x = false ∧ fnan f y = false ∧ (fside f x < fside f y ∨ fside f x = fside f y ∧ fsize f x < fsize f y) := by
  by_cases hx : fnan f x = true
  · rw [forder_none f x y (by simp [hx])]; simp [hx]
  by_cases hy : fnan f y = true
  · rw [forder_none f x y (by simp [hy])]; simp [hy]
  have hx' := Bool.eq_false_iff.mpr hx
  have hy' := Bool.eq_false_iff.mpr hy
  rw [forder_some f x y hx' hy']
  simp only [hx', hy', true_and]
  rw [← then_lt]
  simp

theorem fgt_iff (f : Format) (x y : Nat) : (f.order x y == some .gt) = true ↔ fnan f x = false ∧ fnan f y = false ∧ (fside f y < fside f x ∨ fside f x = fside f y ∧ fsize f y < fsize f x) := by
  by_cases hx : fnan f x = true
  · rw [forder_none f x y (by simp [hx])]; simp [hx]
  by_cases hy : fnan f y = true
  · rw [forder_none f x y (by simp [hy])]; simp [hy]
  have hx' := Bool.eq_false_iff.mpr hx
  have hy' := Bool.eq_false_iff.mpr hy
  rw [forder_some f x y hx' hy']
  simp only [hx', hy', true_and]
  rw [← then_gt]
  simp

theorem feq_iff (f : Format) (x y : Nat) : (f.order x y == some .eq) = true ↔ fnan f x = false ∧ fnan f y = false ∧ (fside f x = fside f y ∧ fsize f x = fsize f y) := by
  by_cases hx : fnan f x = true
  · rw [forder_none f x y (by simp [hx])]; simp [hx]
  by_cases hy : fnan f y = true
  · rw [forder_none f x y (by simp [hy])]; simp [hy]
  have hx' := Bool.eq_false_iff.mpr hx
  have hy' := Bool.eq_false_iff.mpr hy
  rw [forder_some f x y hx' hy']
  simp only [hx', hy', true_and]
  rw [← then_eq]
  simp


/-- n / g to the nearest, between two the even one. -/
def rnd (n g : Nat) : Nat := n / g + (decide (g < 2 * (n % g)) || (g == 2 * (n % g) && n / g % 2 == 1)).toNat

theorem rnd_le (n g k : Nat) (hg : 0 < g) : rnd n g ≤ k ↔ 2 * n < (2 * k + 1) * g ∨ 2 * n = (2 * k + 1) * g ∧ k % 2 = 0 := by
  have hn : n = g * (n / g) + n % g := (Nat.div_add_mod n g).symm
  have hr : n % g < g := Nat.mod_lt _ hg
  unfold rnd
  generalize n / g = low at *
  generalize n % g = rest at *
  subst hn
  rcases Nat.lt_trichotomy low k with h | h | h
  · obtain ⟨d, rfl⟩ : ∃ d, k = low + 1 + d := ⟨k - low - 1, by omega⟩
    have h1 : (decide (g < 2 * rest) || (g == 2 * rest && low % 2 == 1)).toNat ≤ 1 := Bool.toNat_le _
    have h2 : 2 * (g * low + rest) < (2 * (low + 1 + d) + 1) * g := by grind
    constructor
    · intro _; exact Or.inl h2
    · intro _; omega
  · subst h
    have e1 : (2 * low + 1) * g = 2 * (g * low) + g := by grind
    rw [e1]
    by_cases c1 : g < 2 * rest
    · simp [c1]; omega
    · by_cases c2 : g = 2 * rest
      · rcases Nat.mod_two_eq_zero_or_one low with c3 | c3 <;> simp [c2, c3] <;> omega
      · have c4 : (g == 2 * rest) = false := by simp [c2]
        simp [c1, c4]; omega
  · obtain ⟨d, rfl⟩ : ∃ d, low = k + 1 + d := ⟨low - k - 1, by omega⟩
    have h2 : (2 * k + 1) * g < 2 * (g * (k + 1 + d) + rest) := by grind
    constructor
    · intro h3; omega
    · intro h3; omega

theorem cut_even (neg : Bool) (n drop : Nat) : Toward.even.cut neg n drop = rnd n (2 ^ drop) := by
  unfold Toward.cut rnd
  simp only [Nat.shiftLeft_eq, Nat.one_mul]
  by_cases h : drop ≤ n.log2 + 2
  · rw [Nat.min_eq_left h]
  · have h1 : n.log2 + 2 ≤ drop := by omega
    rw [Nat.min_eq_right h1]
    have h2 : n < 2 ^ (n.log2 + 1) := Nat.lt_log2_self
    have h3 : 2 ^ (n.log2 + 2) = 2 * 2 ^ (n.log2 + 1) := by rw [Nat.pow_succ, Nat.mul_comm]
    have h4 : 2 ^ (n.log2 + 2) ≤ 2 ^ drop := Nat.pow_le_pow_right (by decide) h1
    have a1 : n / 2 ^ (n.log2 + 2) = 0 := Nat.div_eq_of_lt (by omega)
    have a2 : n % 2 ^ (n.log2 + 2) = n := Nat.mod_eq_of_lt (by omega)
    have b1 : n / 2 ^ drop = 0 := Nat.div_eq_of_lt (by omega)
    have b2 : n % 2 ^ drop = n := Nat.mod_eq_of_lt (by omega)
    rw [a1, a2, b1, b2]
    have c1 : ¬ 2 ^ (n.log2 + 2) < 2 * n := by omega
    have c2 : ¬ 2 ^ drop < 2 * n := by omega
    simp [c1, c2]

/-- What the rung k stands for, in units of the least place (B rungs to a binade). -/
def V (B k : Nat) : Nat := if k < B then k else (B + k % B) * 2 ^ (k / B - 1)

theorem V_low (B c : Nat) (hc : c ≤ 2 * B) (hB : 0 < B) : V B c = c := by
  unfold V
  by_cases h : c < B
  · rw [if_pos h]
  · rw [if_neg h]
    by_cases h2 : c < 2 * B
    · have e1 : c / B = 1 := by rw [Nat.div_eq_iff hB]; omega
      have e2 : c % B = c - B := by
        have := Nat.div_add_mod c B; rw [e1] at this; omega
      rw [e1, e2]; simp; omega
    · have e0 : c = 2 * B := by omega
      subst e0
      rw [Nat.mul_mod_left, Nat.mul_div_cancel _ hB]
      simp; omega

theorem V_up (B e c : Nat) (hB : 0 < B) (hc : c ≤ 2 * B) (hl : B ≤ c) : V B (e * B + c) = c * 2 ^ e := by
  unfold V
  have h0 : ¬ e * B + c < B := by omega
  rw [if_neg h0]
  by_cases h2 : c < 2 * B
  · have e3 : e * B + c = (c - B) + (e + 1) * B := by rw [Nat.add_mul]; omega
    rw [e3, Nat.add_mul_mod_self_right, Nat.add_mul_div_right _ _ hB, Nat.mod_eq_of_lt (by omega), Nat.div_eq_of_lt (by omega)]
    have e4 : 0 + (e + 1) - 1 = e := by omega
    have e5 : B + (c - B) = c := by omega
    rw [e4, e5]
  · have e0 : c = 2 * B := by omega
    subst e0
    have e3 : e * B + 2 * B = (e + 2) * B := by rw [Nat.add_mul]
    rw [e3, Nat.mul_mod_left, Nat.mul_div_cancel _ hB]
    have e4 : e + 2 - 1 = e + 1 := by omega
    rw [e4, Nat.pow_succ]
    grind

theorem V_lt_succ (B k : Nat) (hB : 0 < B) : V B k < V B (k + 1) := by
  by_cases h : k < B
  · rw [V_low B k (by omega) hB, V_low B (k + 1) (by omega) hB]; omega
  · have hr : k % B < B := Nat.mod_lt _ hB
    have hq : 1 ≤ k / B := (Nat.one_le_div_iff hB).mpr (by omega)
    have hk : k = (k / B - 1) * B + (B + k % B) := by
      have := Nat.div_add_mod k B
      obtain ⟨q, hq'⟩ : ∃ q, k / B = q + 1 := ⟨k / B - 1, by omega⟩
      rw [hq'] at this ⊢
      have : (q + 1 - 1) * B = B * q := by rw [Nat.add_sub_cancel, Nat.mul_comm]
      grind
    have e1 : V B k = (B + k % B) * 2 ^ (k / B - 1) := by
      conv => lhs; rw [hk]
      exact V_up B _ _ hB (by omega) (by omega)
    have e2 : V B (k + 1) = (B + k % B + 1) * 2 ^ (k / B - 1) := by
      have : k + 1 = (k / B - 1) * B + (B + k % B + 1) := by omega
      conv => lhs; rw [this]
      exact V_up B _ _ hB (by omega) (by omega)
    rw [e1, e2]
    exact Nat.mul_lt_mul_of_pos_right (by omega) (Nat.two_pow_pos _)

theorem V_mono (B : Nat) (hB : 0 < B) {j k : Nat} (h : j ≤ k) : V B j ≤ V B k := by
  induction k with
  | zero => have : j = 0 := by omega
            subst this; exact Nat.le_refl _
  | succ k ih =>
    by_cases h2 : j = k + 1
    · subst h2; exact Nat.le_refl _
    · exact Nat.le_trans (ih (by omega)) (Nat.le_of_lt (V_lt_succ B k hB))

theorem V_strict (B : Nat) (hB : 0 < B) {j k : Nat} (h : j < k) : V B j < V B k :=
  Nat.lt_of_lt_of_le (V_lt_succ B j hB) (V_mono B hB h)

/-- Twice the midpoint above rung k. -/
def M (B k : Nat) : Nat := V B k + V B (k + 1)

theorem M_lt (B : Nat) (hB : 0 < B) {j k : Nat} (h : j < k) : M B j < M B k := by
  have h1 := V_strict B hB h
  have h2 := V_strict B hB (show j + 1 < k + 1 by omega)
  unfold M; omega

/-- The rung of 'mag * 2 ^ place', without the greatest. -/
def rungOf (f : Format) (mag : Nat) (place : Int) : Nat :=
  (max (place + mag.log2 - f.fractionBits) f.leastPlace - f.leastPlace).toNat * f.binade + rnd (mag <<< (place - max (place + mag.log2 - f.fractionBits) f.leastPlace).toNat) (2 ^ (max (place + mag.log2 - f.fractionBits) f.leastPlace - place).toNat)

theorem nearest_eq (f : Format) (neg : Bool) (mag : Nat) (place : Int) (hm : mag ≠ 0) :
    f.nearest neg mag place = f.word neg (min (rungOf f mag place) f.infRung) := by
  unfold Format.nearest rungOf
  rw [if_neg hm]
  simp only [cut_even]

theorem rung_le (f : Format) (hf : 1 ≤ f.fractionBits) (mag : Nat) (place : Int) (hm : mag ≠ 0) (K : Nat) :
    rungOf f mag place ≤ K ↔ 2 * (mag * 2 ^ (place - f.leastPlace).toNat) < M f.binade K * 2 ^ (f.leastPlace - place).toNat ∨ 2 * (mag * 2 ^ (place - f.leastPlace).toNat) = M f.binade K * 2 ^ (f.leastPlace - place).toNat ∧ K % 2 = 0 := by
  have hB : 0 < f.binade := Nat.two_pow_pos _
  have hlo : 2 ^ mag.log2 ≤ mag := Nat.log2_self_le hm
  have hhi : mag < 2 ^ (mag.log2 + 1) := Nat.lt_log2_self
  have hBe : f.binade % 2 = 0 := by
    unfold Format.binade
    obtain ⟨d, hd⟩ : ∃ d, f.fractionBits = d + 1 := ⟨f.fractionBits - 1, by omega⟩
    rw [hd, Nat.pow_succ]; omega
  unfold rungOf
  rw [Nat.shiftLeft_eq]
  generalize hl : max (place + mag.log2 - f.fractionBits) f.leastPlace = last
  generalize hv : (place - f.leastPlace).toNat = v
  generalize hu : (f.leastPlace - place).toNat = u
  generalize ha : (place - last).toNat = a
  generalize hb : (last - place).toNat = b
  generalize he : (last - f.leastPlace).toNat = e
  have hsum : a + u + e = v + b := by omega
  have hpow : 2 ^ a * 2 ^ u * 2 ^ e = 2 ^ v * 2 ^ b := by rw [← Nat.pow_add, ← Nat.pow_add, ← Nat.pow_add, hsum]
  have pa := Nat.two_pow_pos a
  have pb := Nat.two_pow_pos b
  have pu := Nat.two_pow_pos u
  have pv := Nat.two_pow_pos v
  have pe := Nat.two_pow_pos e
  -- X * 2^b = (mag 2^a) * U * 2^e
  have hX : mag * 2 ^ v * 2 ^ b = mag * 2 ^ a * (2 ^ u * 2 ^ e) := by
    rw [Nat.mul_assoc, ← hpow]; simp only [Nat.mul_assoc]
  -- below 2B
  have hup : mag * 2 ^ v < 2 * f.binade * 2 ^ e * 2 ^ u := by
    have h1 : mag.log2 + 1 + v ≤ 1 + f.fractionBits + e + u := by omega
    have h2 : mag * 2 ^ v < 2 ^ (mag.log2 + 1) * 2 ^ v := Nat.mul_lt_mul_of_pos_right hhi pv
    have h3 : 2 ^ (mag.log2 + 1) * 2 ^ v ≤ 2 ^ (1 + f.fractionBits + e + u) := by
      rw [← Nat.pow_add]; exact Nat.pow_le_pow_right (by decide) h1
    have h4 : 2 ^ (1 + f.fractionBits + e + u) = 2 * f.binade * 2 ^ e * 2 ^ u := by
      rw [Nat.pow_add, Nat.pow_add, Nat.pow_add]; rfl
    omega
  -- not below B, above the least place
  have hdn : 1 ≤ e → f.binade * 2 ^ e * 2 ^ u ≤ mag * 2 ^ v := by
    intro h0
    have h1 : f.fractionBits + e + u = mag.log2 + v := by omega
    have h2 : 2 ^ mag.log2 * 2 ^ v ≤ mag * 2 ^ v := Nat.mul_le_mul_right _ hlo
    have h4 : 2 ^ mag.log2 * 2 ^ v = f.binade * 2 ^ e * 2 ^ u := by
      rw [← Nat.pow_add, ← h1, Nat.pow_add, Nat.pow_add]; rfl
    omega
  have hrnd : ∀ c, rnd (mag * 2 ^ a) (2 ^ b) ≤ c ↔ 2 * (mag * 2 ^ v) < (2 * c + 1) * 2 ^ e * 2 ^ u ∨ 2 * (mag * 2 ^ v) = (2 * c + 1) * 2 ^ e * 2 ^ u ∧ c % 2 = 0 := by
    intro c
    rw [rnd_le _ _ _ pb]
    have pw : 0 < 2 ^ u * 2 ^ e := Nat.mul_pos pu pe
    have k1 : 2 * (mag * 2 ^ a) * (2 ^ u * 2 ^ e) = 2 * (mag * 2 ^ v) * 2 ^ b := by rw [Nat.mul_assoc, ← hX]; grind
    have k2 : (2 * c + 1) * 2 ^ b * (2 ^ u * 2 ^ e) = (2 * c + 1) * 2 ^ e * 2 ^ u * 2 ^ b := by grind
    have l1 : 2 * (mag * 2 ^ a) < (2 * c + 1) * 2 ^ b ↔ 2 * (mag * 2 ^ v) < (2 * c + 1) * 2 ^ e * 2 ^ u := by
      rw [← Nat.mul_lt_mul_right pw, k1, k2, Nat.mul_lt_mul_right pb]
    have l2 : 2 * (mag * 2 ^ a) = (2 * c + 1) * 2 ^ b ↔ 2 * (mag * 2 ^ v) = (2 * c + 1) * 2 ^ e * 2 ^ u := by
      rw [← Nat.mul_right_cancel_iff pw, k1, k2, Nat.mul_right_cancel_iff pb]
    rw [l1, l2]
  generalize hX2 : mag * 2 ^ v = X at *
  generalize hB2 : f.binade = B at *
  generalize hE : 2 ^ e = E at *
  generalize hU : 2 ^ u = U at *
  by_cases hK : K < e * B
  · -- too low
    have e1 : 1 ≤ e := by
      rcases Nat.eq_zero_or_pos e with h | h
      · subst h; omega
      · exact h
    have hd := hdn e1
    obtain ⟨d, rfl⟩ : ∃ d, e = d + 1 := ⟨e - 1, by omega⟩
    have h1 : V B (K + 1) ≤ V B (d * B + B) := V_mono B hB (by rw [Nat.add_mul] at hK; omega)
    rw [V_up B d B hB (by omega) (by omega)] at h1
    have h2 := V_lt_succ B K hB
    have h3 : E = 2 * 2 ^ d := by rw [← hE, Nat.pow_succ]; omega
    have h4 : M B K < B * E := by unfold M; rw [h3]; grind
    have h5 : M B K * U < B * E * U := Nat.mul_lt_mul_of_pos_right h4 pu
    constructor
    · intro h; exfalso; omega
    · intro h; exfalso; omega
  · obtain ⟨c, rfl⟩ : ∃ c, K = e * B + c := ⟨K - e * B, by omega⟩
    have hr : e * B + rnd (mag * 2 ^ a) (2 ^ b) ≤ e * B + c ↔ rnd (mag * 2 ^ a) (2 ^ b) ≤ c := by omega
    rw [hr, hrnd c]
    have par : (e * B + c) % 2 = c % 2 := by
      obtain ⟨t, ht⟩ : ∃ t, B = 2 * t := ⟨B / 2, by omega⟩
      rw [ht, show e * (2 * t) = 2 * (e * t) by grind]; omega
    rw [par]
    by_cases c2 : c < 2 * B
    · by_cases c1 : e = 0 ∨ B ≤ c
      · have hM : M B (e * B + c) = (2 * c + 1) * E := by
          unfold M
          rcases c1 with c1 | c1
          · subst c1
            have : E = 1 := by rw [← hE]
            rw [Nat.zero_mul, Nat.zero_add, V_low B c (by omega) hB, V_low B (c + 1) (by omega) hB, this]; omega
          · rw [Nat.add_assoc, V_up B e c hB (by omega) c1, V_up B e (c + 1) hB (by omega) (by omega), hE]; grind
        rw [hM]
      · have e1 : 1 ≤ e := by omega
        have cB : c < B := by omega
        have hd := hdn e1
        obtain ⟨d, rfl⟩ : ∃ d, e = d + 1 := ⟨e - 1, by omega⟩
        have h1 : V B ((d + 1) * B + c + 1) ≤ V B ((d + 1) * B + B) := V_mono B hB (by omega)
        rw [V_up B (d + 1) B hB (by omega) (by omega), hE] at h1
        have h2 := V_lt_succ B ((d + 1) * B + c) hB
        have h4 : M B ((d + 1) * B + c) < 2 * (B * E) := by unfold M; omega
        have h5 : M B ((d + 1) * B + c) * U < 2 * (B * E) * U := Nat.mul_lt_mul_of_pos_right h4 pu
        have h6 : 2 * (B * E) * U = 2 * (B * E * U) := by grind
        have h7 : (2 * c + 1) * E * U < 2 * (B * E * U) := by
          have : (2 * c + 1) * (E * U) < (2 * B) * (E * U) := Nat.mul_lt_mul_of_pos_right (by omega) (Nat.mul_pos pe pu)
          grind
        constructor
        · intro h; exfalso; omega
        · intro h; exfalso; omega
    · have h1 : V B (e * B + 2 * B) ≤ V B (e * B + c) := V_mono B hB (by omega)
      rw [V_up B e (2 * B) hB (by omega) (by omega), hE] at h1
      have h2 := V_lt_succ B (e * B + c) hB
      have h4 : 2 * (2 * B * E) < M B (e * B + c) := by unfold M; omega
      have h5 : 2 * (2 * B * E) * U < M B (e * B + c) * U := Nat.mul_lt_mul_of_pos_right h4 pu
      have h6 : 2 * (2 * B * E) * U = 2 * (2 * B * E * U) := by grind
      have h7 : 2 * (2 * B * E * U) ≤ (2 * c + 1) * E * U := by
        have : (4 * B) * (E * U) ≤ (2 * c + 1) * (E * U) := Nat.mul_le_mul_right _ (by omega)
        grind
      constructor
      · intro h; left; omega
      · intro h; left; omega


/-- M K is an odd number below 4 B, times a power of two. -/
theorem M_odd (B K : Nat) (hB : 0 < B) : ∃ o e, M B K = (2 * o + 1) * 2 ^ e ∧ o < 2 * B := by
  by_cases h : K < B
  · exact ⟨K, 0, by unfold M; rw [V_low B K (by omega) hB, V_low B (K + 1) (by omega) hB]; omega, by omega⟩
  · have hr : K % B < B := Nat.mod_lt _ hB
    have hq : 1 ≤ K / B := (Nat.one_le_div_iff hB).mpr (by omega)
    have hk : K = (K / B - 1) * B + (B + K % B) := by
      have := Nat.div_add_mod K B
      obtain ⟨q, hq'⟩ : ∃ q, K / B = q + 1 := ⟨K / B - 1, by omega⟩
      rw [hq'] at this ⊢
      have : (q + 1 - 1) * B = B * q := by rw [Nat.add_sub_cancel, Nat.mul_comm]
      grind
    have e1 : V B K = (B + K % B) * 2 ^ (K / B - 1) := by
      conv => lhs; rw [hk]
      exact V_up B _ _ hB (by omega) (by omega)
    have e2 : V B (K + 1) = (B + K % B + 1) * 2 ^ (K / B - 1) := by
      have : K + 1 = (K / B - 1) * B + (B + K % B + 1) := by omega
      conv => lhs; rw [this]
      exact V_up B _ _ hB (by omega) (by omega)
    exact ⟨B + K % B, K / B - 1, by unfold M; rw [e1, e2]; grind, by omega⟩

/-- A quotient with a last digit that tells whether something is left over is rounded as the exact one. -/
theorem rung_sticky (f : Format) (hf : 1 ≤ f.fractionBits) (D n : Nat) (hn : 0 < n) (hq : 2 * f.binade ≤ D / n) (place : Int) (K : Nat) :
    rungOf f (2 * (D / n) + (D % n != 0).toNat) place ≤ K ↔ 4 * D * 2 ^ (place - f.leastPlace).toNat < M f.binade K * 2 ^ (f.leastPlace - place).toNat * n ∨ 4 * D * 2 ^ (place - f.leastPlace).toNat = M f.binade K * 2 ^ (f.leastPlace - place).toNat * n ∧ K % 2 = 0 := by
  have hB : 0 < f.binade := Nat.two_pow_pos _
  have hm : 2 * (D / n) + (D % n != 0).toNat ≠ 0 := by omega
  rw [rung_le f hf _ place hm K]
  generalize (place - f.leastPlace).toNat = v
  generalize (f.leastPlace - place).toNat = u
  have hD : D = n * (D / n) + D % n := (Nat.div_add_mod D n).symm
  have hr : D % n < n := Nat.mod_lt _ hn
  obtain ⟨o, e, hM, ho⟩ := M_odd f.binade K hB
  have pv := Nat.two_pow_pos v
  have hs : (D % n != 0).toNat ≤ 1 := Bool.toNat_le _
  by_cases hd : v + 2 ≤ e + u
  · -- the threshold is a whole even number
    obtain ⟨t, ht⟩ : ∃ t, M f.binade K * 2 ^ u = 4 * t * 2 ^ v := by
      refine ⟨(2 * o + 1) * 2 ^ (e + u - v - 2), ?_⟩
      have : 2 ^ e * 2 ^ u = 4 * 2 ^ (e + u - v - 2) * 2 ^ v := by
        rw [← Nat.pow_add, show (4 : Nat) = 2 ^ 2 by decide, ← Nat.pow_add, ← Nat.pow_add]
        congr 1; omega
      rw [hM, Nat.mul_assoc, this]; grind
    rw [ht]
    have a1 : ∀ x, 2 * (x * 2 ^ v) < 4 * t * 2 ^ v ↔ x < 2 * t := by
      intro x
      rw [show 2 * (x * 2 ^ v) = (2 * x) * 2 ^ v by grind, Nat.mul_lt_mul_right pv]; omega
    have a2 : ∀ x, 2 * (x * 2 ^ v) = 4 * t * 2 ^ v ↔ x = 2 * t := by
      intro x
      rw [show 2 * (x * 2 ^ v) = (2 * x) * 2 ^ v by grind, Nat.mul_right_cancel_iff pv]; omega
    have a3 : 4 * D * 2 ^ v < 4 * t * 2 ^ v * n ↔ D < t * n := by
      rw [show 4 * t * 2 ^ v * n = (4 * (t * n)) * 2 ^ v by grind, Nat.mul_lt_mul_right pv]; omega
    have a4 : 4 * D * 2 ^ v = 4 * t * 2 ^ v * n ↔ D = t * n := by
      rw [show 4 * t * 2 ^ v * n = (4 * (t * n)) * 2 ^ v by grind, Nat.mul_right_cancel_iff pv]; omega
    rw [a1, a2, a3, a4]
    have b1 : D < t * n ↔ D / n < t := (Nat.div_lt_iff_lt_mul hn).symm
    rw [b1]
    by_cases h0 : D % n = 0
    · have : (D % n != 0).toNat = 0 := by simp [h0]
      rw [this]
      have b2 : D = t * n ↔ D / n = t := by
        constructor
        · intro h; rw [h, Nat.mul_div_cancel _ hn]
        · intro h; rw [h0] at hD; rw [h] at hD; rw [hD, Nat.mul_comm]; rfl
      rw [b2]; omega
    · have h1 : (D % n != 0).toNat = 1 := by simp [h0]
      rw [h1]
      have b2 : ¬ D = t * n := by
        intro h; apply h0; rw [h, Nat.mul_mod_left]
      constructor
      · rintro (h | h)
        · left; omega
        · omega
      · rintro (h | h)
        · left; omega
        · exact absurd h.1 b2
  · -- the threshold is far below
    have h1 : M f.binade K * 2 ^ u < 4 * f.binade * 2 ^ (v + 1) := by
      rw [hM, Nat.mul_assoc, ← Nat.pow_add]
      have h2 : 2 ^ (e + u) ≤ 2 ^ (v + 1) := Nat.pow_le_pow_right (by decide) (by omega)
      have h3 : (2 * o + 1) * 2 ^ (e + u) ≤ (2 * o + 1) * 2 ^ (v + 1) := Nat.mul_le_mul_left _ h2
      have h4 : (2 * o + 1) * 2 ^ (v + 1) < 4 * f.binade * 2 ^ (v + 1) := Nat.mul_lt_mul_of_pos_right (by omega) (Nat.two_pow_pos _)
      omega
    have h5 : 4 * f.binade * 2 ^ (v + 1) = 8 * f.binade * 2 ^ v := by rw [Nat.pow_succ]; grind
    have h6 : 4 * f.binade * 2 ^ v ≤ (2 * (D / n) + (D % n != 0).toNat) * 2 ^ v := Nat.mul_le_mul_right _ (by omega)
    have h7 : 8 * f.binade * 2 ^ v = 2 * (4 * f.binade * 2 ^ v) := by grind
    have h8 : 2 * f.binade * n ≤ D := (Nat.le_div_iff_mul_le hn).mp hq
    have h9 : 8 * f.binade * 2 ^ v * n ≤ 4 * D * 2 ^ v := by
      have : 4 * (2 * f.binade * n) * 2 ^ v ≤ 4 * D * 2 ^ v := Nat.mul_le_mul_right _ (by omega)
      grind
    have h10 : M f.binade K * 2 ^ u * n < 8 * f.binade * 2 ^ v * n := Nat.mul_lt_mul_of_pos_right (by omega) hn
    constructor
    · intro h; exfalso; omega
    · intro h; exfalso; omega

theorem dividend_big (d m n : Nat) (hm : m ≠ 0) (hn : n ≠ 0) (hd : 1 ≤ d) : 2 ^ (d - 1) ≤ m <<< (d + n.log2 - m.log2) / n := by
  rw [Nat.le_div_iff_mul_le (by omega), Nat.shiftLeft_eq]
  have h1 : 2 ^ m.log2 ≤ m := Nat.log2_self_le hm
  have h2 : n < 2 ^ (n.log2 + 1) := Nat.lt_log2_self
  have h3 : 2 ^ (d - 1) * n ≤ 2 ^ (d - 1) * 2 ^ (n.log2 + 1) := Nat.mul_le_mul_left _ (by omega)
  rw [← Nat.pow_add] at h3
  have h4 : 2 ^ m.log2 * 2 ^ (d + n.log2 - m.log2) ≤ m * 2 ^ (d + n.log2 - m.log2) := Nat.mul_le_mul_right _ h1
  rw [← Nat.pow_add] at h4
  have h5 : 2 ^ (d - 1 + (n.log2 + 1)) ≤ 2 ^ (m.log2 + (d + n.log2 - m.log2)) := Nat.pow_le_pow_right (by decide) (by omega)
  omega

/-- The quotient's rung, by the two values in units of the least place. -/
theorem rung_quo (f : Format) (hf : 1 ≤ f.fractionBits) (hL : f.leastPlace ≤ 0) (m n : Nat) (i j : Int) (hm : m ≠ 0) (hn : n ≠ 0) (hi : f.leastPlace ≤ i) (hj : f.leastPlace ≤ j) (K : Nat) :
    rungOf f (2 * (m <<< (f.fractionBits + 2 + n.log2 - m.log2) / n) + (m <<< (f.fractionBits + 2 + n.log2 - m.log2) % n != 0).toNat) (i - j - (f.fractionBits + 2 + n.log2 - m.log2 : Nat) - 1) ≤ K ↔
      2 * (m * 2 ^ (i - f.leastPlace).toNat) * 2 ^ (-f.leastPlace).toNat < M f.binade K * (n * 2 ^ (j - f.leastPlace).toNat) ∨ 2 * (m * 2 ^ (i - f.leastPlace).toNat) * 2 ^ (-f.leastPlace).toNat = M f.binade K * (n * 2 ^ (j - f.leastPlace).toNat) ∧ K % 2 = 0 := by
  have hn' : 0 < n := by omega
  have hbig := dividend_big (f.fractionBits + 2) m n hm hn (by omega)
  have hb2 : 2 ^ (f.fractionBits + 2 - 1) = 2 * f.binade := by
    unfold Format.binade
    rw [show f.fractionBits + 2 - 1 = f.fractionBits + 1 by omega, Nat.pow_succ, Nat.mul_comm]
  rw [hb2] at hbig
  rw [rung_sticky f hf _ n hn' hbig]
  rw [Nat.shiftLeft_eq]
  generalize f.fractionBits + 2 + n.log2 - m.log2 = more
  generalize f.leastPlace = L at *
  generalize hv : (i - j - (more : Int) - 1 - L).toNat = v
  generalize hu : (L - (i - j - (more : Int) - 1)).toNat = u
  generalize ha : (i - L).toNat = a
  generalize hb : (j - L).toNat = b
  generalize hc : (-L).toNat = c
  have hsum : 2 + more + v + b = 1 + a + c + u := by omega
  have hp : 4 * 2 ^ more * 2 ^ v * 2 ^ b = 2 * 2 ^ a * 2 ^ c * 2 ^ u := by
    have h1 : 4 * 2 ^ more * 2 ^ v * 2 ^ b = 2 ^ (2 + more + v + b) := by rw [Nat.pow_add, Nat.pow_add, Nat.pow_add]
    have h2 : 2 * 2 ^ a * 2 ^ c * 2 ^ u = 2 ^ (1 + a + c + u) := by rw [Nat.pow_add, Nat.pow_add, Nat.pow_add]
    rw [h1, h2, hsum]
  have pb := Nat.two_pow_pos b
  have pu := Nat.two_pow_pos u
  have k1 : 4 * (m * 2 ^ more) * 2 ^ v * 2 ^ b = 2 * (m * 2 ^ a) * 2 ^ c * 2 ^ u := by
    have : 4 * (m * 2 ^ more) * 2 ^ v * 2 ^ b = m * (4 * 2 ^ more * 2 ^ v * 2 ^ b) := by grind
    rw [this, hp]; grind
  have k2 : M f.binade K * 2 ^ u * n * 2 ^ b = M f.binade K * (n * 2 ^ b) * 2 ^ u := by grind
  have l1 : 4 * (m * 2 ^ more) * 2 ^ v < M f.binade K * 2 ^ u * n ↔ 2 * (m * 2 ^ a) * 2 ^ c < M f.binade K * (n * 2 ^ b) := by
    rw [← Nat.mul_lt_mul_right pb, k1, k2, Nat.mul_lt_mul_right pu]
  have l2 : 4 * (m * 2 ^ more) * 2 ^ v = M f.binade K * 2 ^ u * n ↔ 2 * (m * 2 ^ a) * 2 ^ c = M f.binade K * (n * 2 ^ b) := by
    rw [← Nat.mul_right_cancel_iff pb, k1, k2, Nat.mul_right_cancel_iff pu]
  rw [l1, l2]

/-- What a word below infinity, without the sign, is read as. -/
theorem read_low (f : Format) (r : Nat) (hr : r < f.infRung) : ∃ m i, f.read r = .number false m i ∧ f.leastPlace ≤ i ∧ m * 2 ^ (i - f.leastPlace).toNat = V f.binade r := by
  have hB : 0 < f.binade := Nat.two_pow_pos _
  have hs : f.infRung < f.signWeight := by
    have h : 0 < 2 ^ f.exponentBits := Nat.two_pow_pos _
    unfold Format.infRung Format.signWeight Format.binade
    rw [Nat.pow_add]
    exact Nat.mul_lt_mul_of_pos_right (by omega) (Nat.two_pow_pos _)
  unfold Format.read
  dsimp only
  rw [Nat.div_eq_of_lt (show r < f.signWeight by omega), Nat.mod_eq_of_lt (show r < f.signWeight by omega)]
  by_cases h : r < f.binade
  · rw [if_pos h]
    refine ⟨r, f.leastPlace, rfl, Int.le_refl _, ?_⟩
    rw [Int.sub_self]; unfold V; rw [if_pos h]; simp
  · rw [if_neg h, if_pos hr]
    refine ⟨_, _, rfl, by omega, ?_⟩
    unfold V; rw [if_neg h]
    congr 2
    omega


end Go.Proofs.Ytljcbibcdajhiaa
/- Integers as float64 and their quotients: the order of what comes out. -/
set_option maxRecDepth 4000
namespace Go.Proofs.Ytljcbibcdajhiaa
open Ieee

/-- The places below the point. -/
def tt : Nat := 1074

theorem dB : double.binade = 2 ^ 52 := rfl
theorem dL : double.leastPlace = -1074 := by decide
theorem dI : double.infRung = 2047 * 2 ^ 52 := by decide
theorem dBpos : 0 < double.binade := Nat.two_pow_pos _

theorem rung_exact (mag : Nat) (place : Int) (hm : mag ≠ 0) (K : Nat) (h : mag * 2 ^ (place - double.leastPlace).toNat = V double.binade K * 2 ^ (double.leastPlace - place).toNat) : rungOf double mag place = K := by
  have hu := Nat.two_pow_pos (double.leastPlace - place).toNat
  apply Nat.le_antisymm
  · rw [rung_le double (by decide) mag place hm K]
    left
    rw [h]
    have h1 := V_lt_succ double.binade K dBpos
    have h2 : 2 * V double.binade K < M double.binade K := by unfold M; omega
    have h3 := Nat.mul_lt_mul_of_pos_right h2 hu
    rw [Nat.mul_assoc] at h3
    exact h3
  · rcases Nat.eq_zero_or_pos K with h0 | h0
    · omega
    · obtain ⟨J, rfl⟩ : ∃ J, K = J + 1 := ⟨K - 1, by omega⟩
      apply Nat.lt_of_not_le
      rw [rung_le double (by decide) mag place hm J]
      rw [h]
      have h1 := V_lt_succ double.binade J dBpos
      have h2 : M double.binade J < 2 * V double.binade (J + 1) := by unfold M; omega
      have h3 := Nat.mul_lt_mul_of_pos_right h2 hu
      rw [Nat.mul_assoc 2] at h3
      omega

/-- The rung of an integer. -/
def flR (n : Nat) : Nat := if n = 0 then 0 else rungOf double n 0

theorem flR_le (n K : Nat) (hn : n ≠ 0) : flR n ≤ K ↔ 2 * (n * 2 ^ tt) < M double.binade K ∨ 2 * (n * 2 ^ tt) = M double.binade K ∧ K % 2 = 0 := by
  unfold flR
  rw [if_neg hn, rung_le double (by decide) n 0 hn K, dL]
  rw [show ((0 : Int) - -1074).toNat = tt by decide, show ((-1074 : Int) - 0).toNat = 0 by decide, Nat.pow_zero, Nat.mul_one]

theorem flR_mono {a b : Nat} (h : a ≤ b) : flR a ≤ flR b := by
  by_cases ha : a = 0
  · subst ha; unfold flR; simp
  · have hb : b ≠ 0 := by omega
    rw [flR_le a _ ha]
    have h1 := (flR_le b (flR b) hb).mp (Nat.le_refl _)
    have h2 : a * 2 ^ tt ≤ b * 2 ^ tt := Nat.mul_le_mul_right _ h
    generalize 2 ^ tt = Z at *
    omega

theorem V_pow (e : Nat) : V double.binade ((e + 1) * 2 ^ 52) = 2 ^ (52 + e) := by
  have := V_up double.binade e double.binade dBpos (by omega) (Nat.le_refl _)
  rw [Nat.add_mul, Nat.one_mul, Nat.pow_add]
  exact this

theorem flR_pow (e : Nat) : flR (2 ^ e) = (e + 1023) * 2 ^ 52 := by
  unfold flR
  have h0 : 2 ^ e ≠ 0 := Nat.pos_iff_ne_zero.mp (Nat.two_pow_pos e)
  rw [if_neg h0]
  apply rung_exact _ _ h0
  rw [show e + 1023 = (e + 1022) + 1 by omega, V_pow, dL]
  rw [show ((0 : Int) - -1074).toNat = tt by decide, show ((-1074 : Int) - 0).toNat = 0 by decide, Nat.pow_zero, Nat.mul_one, ← Nat.pow_add]
  congr 1; unfold tt; omega

theorem flR_lt (n : Nat) (h : n < 2 ^ 64) : flR n ≤ 1087 * 2 ^ 52 := by
  have := flR_mono (Nat.le_of_lt h)
  rw [flR_pow] at this
  exact this

theorem V_flR_one_le (n : Nat) (h : n ≠ 0) : 2 ^ tt ≤ V double.binade (flR n) := by
  have h1 := flR_mono (show 2 ^ 0 ≤ n by omega)
  rw [flR_pow] at h1
  have h2 := V_mono double.binade dBpos h1
  rw [show 0 + 1023 = 1022 + 1 by omega, V_pow, show 52 + 1022 = tt by decide] at h2
  exact h2

theorem V_flR_le (n : Nat) (h : n < 2 ^ 64) : V double.binade (flR n) ≤ 2 ^ (tt + 64) := by
  have h1 := flR_lt n h
  have h2 := V_mono double.binade dBpos h1
  rw [show 1087 = 1086 + 1 by omega, V_pow, show 52 + 1086 = tt + 64 by decide] at h2
  exact h2

theorem nearest_int (n : Nat) (h : n < 2 ^ 64) : double.nearest false n 0 = flR n := by
  by_cases h0 : n = 0
  · subst h0; unfold flR; rfl
  · rw [nearest_eq double false n 0 h0]
    unfold flR
    rw [if_neg h0]
    have h1 := flR_lt n h
    unfold flR at h1
    rw [if_neg h0] at h1
    rw [Nat.min_eq_left (by rw [dI]; omega)]
    rfl

theorem word_false (r : Nat) : double.word (false ^^ false) r = r := rfl

/-- The word of the quotient of two integers as float64. -/
theorem div_fl (p w : Nat) (hp : p < 2 ^ 64) (hw : w < 2 ^ 64) (hw0 : w ≠ 0) : ∃ R, double.div (flR p) (flR w) = some (min R double.infRung) ∧
    (p = 0 → R = 0) ∧ (p ≠ 0 → ∀ K, R ≤ K ↔ 2 * V double.binade (flR p) * 2 ^ tt < M double.binade K * V double.binade (flR w) ∨ 2 * V double.binade (flR p) * 2 ^ tt = M double.binade K * V double.binade (flR w) ∧ K % 2 = 0) := by
  have lp : flR p < double.infRung := by rw [dI]; have := flR_lt p hp; omega
  have lw : flR w < double.infRung := by rw [dI]; have := flR_lt w hw; omega
  obtain ⟨m, i, e1, hi, v1⟩ := read_low double _ lp
  obtain ⟨n, j, e2, hj, v2⟩ := read_low double _ lw
  have hn : n ≠ 0 := by
    rintro rfl
    rw [Nat.zero_mul] at v2
    have := V_flR_one_le w hw0
    have := Nat.two_pow_pos tt
    omega
  unfold Format.div
  rw [e1, e2]
  unfold Datum.quotient
  dsimp only
  rw [if_neg hn]
  by_cases hp0 : p = 0
  · refine ⟨0, ?_, fun _ => rfl, fun h => absurd hp0 h⟩
    subst hp0
    have hm : m = 0 := by
      have h1 : V double.binade (flR 0) = 0 := by unfold flR V; rw [if_pos rfl, if_pos dBpos]
      rw [h1] at v1
      rcases Nat.mul_eq_zero.mp v1 with h | h
      · exact h
      · have := Nat.two_pow_pos (i - double.leastPlace).toNat; omega
    subst hm
    rw [Nat.zero_shiftLeft, Nat.zero_div, Nat.zero_mod, Option.map_some]
    unfold Format.write
    dsimp only
    rw [show 2 * 0 + ((0 : Nat) != 0).toNat = 0 by decide]
    unfold Format.nearest
    rw [if_pos rfl, Nat.zero_min, word_false]
  · have hm : m ≠ 0 := by
      rintro rfl
      rw [Nat.zero_mul] at v1
      have := V_flR_one_le p hp0
      have := Nat.two_pow_pos tt
      omega
    have hbig := dividend_big (double.fractionBits + 2) m n hm hn (by omega)
    have hb2 : 0 < 2 ^ (double.fractionBits + 2 - 1) := Nat.two_pow_pos _
    refine ⟨rungOf double (2 * (m <<< (double.fractionBits + 2 + n.log2 - m.log2) / n) + (m <<< (double.fractionBits + 2 + n.log2 - m.log2) % n != 0).toNat) (i - j - (double.fractionBits + 2 + n.log2 - m.log2 : Nat) - 1), ?_, fun h => absurd h hp0, fun _ K => ?_⟩
    · generalize hq : 2 * (m <<< (double.fractionBits + 2 + n.log2 - m.log2) / n) + (m <<< (double.fractionBits + 2 + n.log2 - m.log2) % n != 0).toNat = q
      have hq0 : q ≠ 0 := by omega
      rw [Option.map_some]
      unfold Format.write
      dsimp only
      rw [nearest_eq _ _ _ _ hq0, word_false]
    · rw [rung_quo double (by decide) (by decide) m n i j hm hn hi hj K, v1, v2]
      rw [show (-double.leastPlace).toNat = tt by decide]

/-- The share's word. -/
def shW (p w : Nat) : Nat := (double.div (flR p) (flR w)).getD 0

theorem shW_some (p w : Nat) (hp : p < 2 ^ 64) (hw : w < 2 ^ 64) (hw0 : w ≠ 0) : double.div (flR p) (flR w) = some (shW p w) := by
  obtain ⟨R, h, _⟩ := div_fl p w hp hw hw0
  unfold shW; rw [h]; rfl

theorem shW_le (p w : Nat) (hp : p < 2 ^ 64) (hw : w < 2 ^ 64) (hw0 : w ≠ 0) : shW p w ≤ double.infRung := by
  obtain ⟨R, h, _⟩ := div_fl p w hp hw hw0
  unfold shW; rw [h]; exact Nat.min_le_right _ _

theorem shW_mono {p q w : Nat} (h : p ≤ q) (hq : q < 2 ^ 64) (hw : w < 2 ^ 64) (hw0 : w ≠ 0) : shW p w ≤ shW q w := by
  obtain ⟨R, h1, z1, k1⟩ := div_fl p w (by omega) hw hw0
  obtain ⟨S, h2, z2, k2⟩ := div_fl q w hq hw hw0
  unfold shW; rw [h1, h2]
  show min R _ ≤ min S _
  have : R ≤ S := by
    by_cases hp0 : p = 0
    · rw [z1 hp0]; omega
    · have hq0 : q ≠ 0 := by omega
      rw [k1 hp0 S]
      have h3 := (k2 hq0 S).mp (Nat.le_refl _)
      have h4 := V_mono double.binade dBpos (flR_mono h)
      have h5 : 2 * V double.binade (flR p) * 2 ^ tt ≤ 2 * V double.binade (flR q) * 2 ^ tt := Nat.mul_le_mul_right _ (by omega)
      omega
  omega

theorem shW_zero (p w : Nat) (hp : p < 2 ^ 64) (hw : w < 2 ^ 64) (hw0 : w ≠ 0) : shW p w = 0 ↔ p = 0 := by
  obtain ⟨R, h1, z1, k1⟩ := div_fl p w hp hw hw0
  unfold shW; rw [h1]
  show min R _ = 0 ↔ _
  have hI : 0 < double.infRung := by decide
  constructor
  · intro h
    by_cases hp0 : p = 0
    · exact hp0
    · exfalso
      have hR : R ≤ 0 := by omega
      rw [k1 hp0 0] at hR
      have hM : M double.binade 0 = 1 := by
        unfold M
        rw [V_low _ 0 (by omega) dBpos, V_low _ 1 (by have := dBpos; omega) dBpos]
      rw [hM] at hR
      have a1 := V_flR_one_le p hp0
      have a2 := V_flR_le w hw
      have a3 : 2 * 2 ^ tt * 2 ^ tt ≤ 2 * V double.binade (flR p) * 2 ^ tt := Nat.mul_le_mul_right _ (by omega)
      have a4 : 2 ^ (tt + 64) < 2 * 2 ^ tt * 2 ^ tt := by
        rw [show 2 * 2 ^ tt * 2 ^ tt = 2 ^ (1 + tt + tt) by rw [Nat.pow_add, Nat.pow_add]]
        exact Nat.pow_lt_pow_right (by decide) (by unfold tt; omega)
      have a5 := Nat.lt_of_lt_of_le a4 a3
      generalize 2 * V double.binade (flR p) * 2 ^ tt = X at *
      generalize 2 ^ (tt + 64) = Y at *
      generalize V double.binade (flR w) = C at *
      clear a4 a3 a1
      omega
  · intro h; rw [z1 h]; omega

theorem shW_one (p w : Nat) (h : p ≤ w) (hw : w < 2 ^ 64) (hw0 : w ≠ 0) : shW p w ≤ 1023 * 2 ^ 52 := by
  obtain ⟨R, h1, z1, k1⟩ := div_fl p w (by omega) hw hw0
  unfold shW; rw [h1]
  show min R _ ≤ _
  have : R ≤ 1023 * 2 ^ 52 := by
    by_cases hp0 : p = 0
    · rw [z1 hp0]; omega
    · rw [k1 hp0]
      left
      have hM : 2 * 2 ^ tt < M double.binade (1023 * 2 ^ 52) := by
        have a1 := V_lt_succ double.binade (1023 * 2 ^ 52) dBpos
        have a2 := V_pow 1022
        rw [show 1022 + 1 = 1023 by omega, show 52 + 1022 = tt by decide] at a2
        unfold M
        rw [a2] at a1 ⊢
        omega
      have a3 := V_mono double.binade dBpos (flR_mono h)
      have a4 := V_flR_one_le w hw0
      generalize V double.binade (flR p) = A at *
      generalize V double.binade (flR w) = C at *
      generalize M double.binade (1023 * 2 ^ 52) = N at *
      have a5 := Nat.two_pow_pos tt
      generalize 2 ^ tt = Z at *
      have b1 : 2 * A * Z ≤ 2 * C * Z := Nat.mul_le_mul_right _ (by omega)
      have b2 : 2 * Z * C < N * C := Nat.mul_lt_mul_of_pos_right hM (by omega)
      grind
  omega

theorem shW_whole (w : Nat) (hw : w < 2 ^ 64) (hw0 : w ≠ 0) : shW w w = 1023 * 2 ^ 52 := by
  apply Nat.le_antisymm (shW_one w w (Nat.le_refl _) hw hw0)
  obtain ⟨R, h1, z1, k1⟩ := div_fl w w hw hw hw0
  unfold shW; rw [h1]
  show _ ≤ min R _
  have hI : 1023 * 2 ^ 52 ≤ double.infRung := by decide
  have : 1023 * 2 ^ 52 - 1 < R := by
    apply Nat.lt_of_not_le
    rw [k1 hw0]
    have hM : M double.binade (1023 * 2 ^ 52 - 1) < 2 * 2 ^ tt := by
      have a1 := V_lt_succ double.binade (1023 * 2 ^ 52 - 1) dBpos
      have a2 := V_pow 1022
      rw [show 1022 + 1 = 1023 by omega, show 52 + 1022 = tt by decide] at a2
      unfold M
      rw [show 1023 * 2 ^ 52 - 1 + 1 = 1023 * 2 ^ 52 by omega, a2] at a1 ⊢
      omega
    have a4 := V_flR_one_le w hw0
    generalize V double.binade (flR w) = C at *
    generalize M double.binade (1023 * 2 ^ 52 - 1) = N at *
    have a5 := Nat.two_pow_pos tt
    generalize 2 ^ tt = Z at *
    have b2 : N * C < 2 * Z * C := Nat.mul_lt_mul_of_pos_right hM (by omega)
    have b3 : 2 * Z * C = 2 * C * Z := by grind
    omega
  omega

theorem rung_nan (r : Nat) (h : r ≤ double.infRung) : fnan double r = false ∧ fside double r = (if r = double.infRung then 1 else 0) ∧ (r < double.infRung → fsize double r = (V double.binade r : Int)) ∧ (r = double.infRung → fsize double r = 0) := by
  rcases Nat.lt_or_eq_of_le h with h | h
  · obtain ⟨m, i, e, hi, v⟩ := read_low double r h
    have hne : r ≠ double.infRung := by omega
    unfold fnan fside fsize
    rw [e, if_neg hne]
    refine ⟨rfl, rfl, fun _ => ?_, fun h => absurd h hne⟩
    show signed false m _ = _
    unfold signed
    rw [← v, Nat.shiftLeft_eq]
    rfl
  · subst h
    have e : double.read double.infRung = .infinity false := by decide
    unfold fnan fside fsize
    rw [e, if_pos rfl]
    exact ⟨rfl, rfl, fun h => absurd h (Nat.lt_irrefl _), fun _ => rfl⟩

theorem order_lt (r s : Nat) (hr : r ≤ double.infRung) (hs : s ≤ double.infRung) : (double.order r s == some .lt) = decide (r < s) := by
  rw [Bool.eq_iff_iff, flt_iff, decide_eq_true_iff]
  obtain ⟨a1, a2, a3, a4⟩ := rung_nan r hr
  obtain ⟨b1, b2, b3, b4⟩ := rung_nan s hs
  rw [a1, a2, b1, b2]
  rcases Nat.lt_or_eq_of_le hr with h | h <;> rcases Nat.lt_or_eq_of_le hs with k | k
  · rw [if_neg (by omega), if_neg (by omega), a3 h, b3 k]
    constructor
    · rintro ⟨_, _, h2 | ⟨_, h2⟩⟩
      · omega
      · apply Nat.lt_of_not_le
        intro h3
        have := V_mono double.binade dBpos h3
        omega
    · intro h2
      have := V_strict double.binade dBpos h2
      exact ⟨rfl, rfl, Or.inr ⟨rfl, by omega⟩⟩
  · rw [if_neg (by omega), if_pos k]
    simp; omega
  · rw [if_pos h, if_neg (by omega)]
    simp; omega
  · rw [if_pos h, if_pos k, a4 h, b4 k]
    simp; omega

theorem order_gt (r s : Nat) (hr : r ≤ double.infRung) (hs : s ≤ double.infRung) : (double.order r s == some .gt) = decide (s < r) := by
  rw [← order_lt s r hs hr, Bool.eq_iff_iff, flt_iff, fgt_iff]
  constructor
  · rintro ⟨a, b, h⟩; exact ⟨b, a, by omega⟩
  · rintro ⟨a, b, h⟩; exact ⟨b, a, by omega⟩

theorem order_eq (r s : Nat) (hr : r ≤ double.infRung) (hs : s ≤ double.infRung) : (double.order r s == some .eq) = decide (r = s) := by
  rw [Bool.eq_iff_iff, feq_iff, decide_eq_true_iff]
  obtain ⟨a1, a2, a3, a4⟩ := rung_nan r hr
  obtain ⟨b1, b2, b3, b4⟩ := rung_nan s hs
  have l1 := order_lt r s hr hs
  have l2 := order_lt s r hs hr
  rw [Bool.eq_iff_iff, flt_iff, decide_eq_true_iff] at l1 l2
  constructor
  · rintro ⟨_, _, h1, h2⟩
    have n1 : ¬ r < s := by intro h; have := l1.mpr h; omega
    have n2 : ¬ s < r := by intro h; have := l2.mpr h; omega
    omega
  · rintro rfl
    exact ⟨a1, a1, rfl, rfl⟩

end Go.Proofs.Ytljcbibcdajhiaa
