/- Numbers by their digits (plain arithmetic). -/
import Derived.Test.YtjhbfkckkinfjaaDoorMem
namespace Go.Proofs.YtjhbfkckkinfjaaDoor

/-- The number whose digit i is f i, to the base B, n digits. -/
def num (B : Nat) (f : Nat → Nat) : Nat → Nat
  | 0 => 0
  | n + 1 => num B f n + f n * B ^ n

theorem num_lt (B : Nat) (f : Nat → Nat) (n : Nat) (_hB : 0 < B) (h : ∀ i, i < n → f i < B) : num B f n < B ^ n := by
  induction n with
  | zero => simp [num]
  | succ n ih =>
    rw [num, Nat.pow_succ]
    have h1 := ih (fun i hi => h i (by omega))
    have h2 : f n + 1 ≤ B := h n (by omega)
    have h3 : (f n + 1) * B ^ n ≤ B * B ^ n := Nat.mul_le_mul_right _ h2
    rw [Nat.add_mul, Nat.one_mul] at h3
    rw [Nat.mul_comm (B ^ n) B]
    omega

theorem num_congr (B : Nat) {f g : Nat → Nat} (n : Nat) (h : ∀ i, i < n → f i = g i) : num B f n = num B g n := by
  induction n with
  | zero => rfl
  | succ n ih => rw [num, num, ih (fun i hi => h i (by omega)), h n (by omega)]

/-- The digits from i on. -/
theorem num_div (B : Nat) (f : Nat → Nat) (i n : Nat) (hB : 0 < B) (h : ∀ i, i < n → f i < B) (hi : i ≤ n) : num B f n / B ^ i = num B (fun j => f (i + j)) (n - i) := by
  induction n with
  | zero =>
    obtain rfl : i = 0 := by omega
    simp [num]
  | succ n ih =>
    by_cases e : i = n + 1
    · subst e
      rw [Nat.sub_self, num, Nat.div_eq_of_lt (num_lt B f (n + 1) hB h)]
    · rw [num, show n + 1 - i = (n - i) + 1 from by omega, num, ← ih (fun j hj => h j (by omega)) (by omega), show i + (n - i) = n from by omega]
      have hp : B ^ n = B ^ i * B ^ (n - i) := by rw [← Nat.pow_add]; congr 1; omega
      rw [hp, ← Nat.mul_assoc, Nat.mul_comm (f n) (B ^ i), Nat.mul_assoc, Nat.add_mul_div_left _ _ (Nat.pow_pos hB)]

theorem num_head (B : Nat) (f : Nat → Nat) (n : Nat) (h : f 0 < B) : num B f (n + 1) % B = f 0 := by
  induction n with
  | zero => simp [num]; exact Nat.mod_eq_of_lt h
  | succ n ih => rw [num, Nat.pow_succ, ← Nat.mul_assoc, Nat.add_mul_mod_self_right, ih]

theorem num_digit (B : Nat) (f : Nat → Nat) (i n : Nat) (hB : 0 < B) (h : ∀ i, i < n → f i < B) (hi : i < n) : num B f n / B ^ i % B = f i := by
  rw [num_div B f i n hB h (by omega), show n - i = (n - i - 1) + 1 from by omega, num_head B _ _ (by simpa using h i hi)]
  simp

theorem num_of (B x n : Nat) (_hB : 0 < B) : num B (fun i => x / B ^ i % B) n = x % B ^ n := by
  induction n with
  | zero => simp [num, Nat.mod_one]
  | succ n ih => rw [num, ih, Nat.pow_succ, Nat.mod_mul, Nat.mul_comm (x / B ^ n % B)]

/-- Equal numbers have equal digits. -/
theorem num_inj (B : Nat) (f g : Nat → Nat) (n : Nat) (hB : 0 < B) (hf : ∀ i, i < n → f i < B) (hg : ∀ i, i < n → g i < B) (e : num B f n = num B g n) (i : Nat) (hi : i < n) : f i = g i := by
  rw [← num_digit B f i n hB hf hi, ← num_digit B g i n hB hg hi, e]

/-- A text's bytes as one number, the first byte the lowest. -/
def bnum (s : ByteArray) : Nat := num 256 (fun i => (bt s i).toNat) s.size

theorem bnum_lt (s : ByteArray) : bnum s < 256 ^ s.size := num_lt _ _ _ (by omega) (fun i _ => by have := bt_bd s i; omega)

theorem bnum_byte (s : ByteArray) (q : Nat) : ((bnum s / 256 ^ q % 256 : Nat) : Int) = bt s q := by
  by_cases h : q < s.size
  · unfold bnum
    rw [num_digit 256 _ q s.size (by omega) (fun i _ => by have := bt_bd s i; omega) h]
    have := bt_bd s q
    omega
  · rw [Nat.div_eq_of_lt (Nat.lt_of_lt_of_le (bnum_lt s) (Nat.pow_le_pow_right (by omega) (by omega)))]
    unfold bt
    rw [dif_neg h]
    rfl

theorem bnum_inj {a b : ByteArray} (hs : a.size = b.size) (e : bnum a = bnum b) : a = b :=
  bytes_ext hs (fun k _ => by rw [← bnum_byte a k, ← bnum_byte b k, e])

theorem bnum_strFn (n x : Nat) : bnum (strFn n (fun i => ((x / 256 ^ i % 256 : Nat) : Int))) = x % 256 ^ n := by
  unfold bnum
  rw [strFn_size, ← num_of 256 x n (by omega)]
  apply num_congr
  intro i hi
  rw [bt_strFn _ _ _ hi (by omega) (by omega)]
  omega

/-- Five bits from bit k on. -/
def fb (s : ByteArray) (k : Nat) : Int := (bt s (k / 8) + 256 * bt s (k / 8 + 1)) / 2 ^ (k % 8) % 32

theorem pow32 (j : Nat) : 32 ^ j = 256 ^ (5 * j / 8) * 2 ^ (5 * j % 8) := by
  rw [show (32 : Nat) = 2 ^ 5 from rfl, show (256 : Nat) = 2 ^ 8 from rfl, ← Nat.pow_mul, ← Nat.pow_mul, ← Nat.pow_add]
  congr 1
  omega

theorem fb_num (s : ByteArray) (j : Nat) : fb s (5 * j) = ((bnum s / 32 ^ j % 32 : Nat) : Int) := by
  unfold fb
  rw [pow32 j, ← Nat.div_div_eq_div_mul]
  have h0 := bnum_byte s (5 * j / 8)
  have h1 := bnum_byte s (5 * j / 8 + 1)
  rw [Nat.pow_succ, ← Nat.div_div_eq_div_mul] at h1
  generalize bnum s / 256 ^ (5 * j / 8) = x at h0 h1 ⊢
  generalize bt s (5 * j / 8) = a at h0 ⊢
  generalize bt s (5 * j / 8 + 1) = b at h1 ⊢
  have hr : 5 * j % 8 < 8 := Nat.mod_lt _ (by omega)
  generalize 5 * j % 8 = r at hr ⊢
  rcases (show r = 0 ∨ r = 1 ∨ r = 2 ∨ r = 3 ∨ r = 4 ∨ r = 5 ∨ r = 6 ∨ r = 7 from by omega) with rfl | rfl | rfl | rfl | rfl | rfl | rfl | rfl
  all_goals omega
#print axioms fb_num
end Go.Proofs.YtjhbfkckkinfjaaDoor
