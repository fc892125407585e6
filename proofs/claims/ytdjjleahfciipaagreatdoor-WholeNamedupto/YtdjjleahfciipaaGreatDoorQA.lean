/- Gathered: ShaA. -/
import Derived.Test.YtdjjleahfciipaaGreatDoorProg
import Derived.Deep.QuietTactic
import Derived.BigQuiet
import Derived.Deep.RegionWith
import Derived.Test.YtdjjleahfciipaaGreatDoorQa
/- What the small functions of sha and of the document's reference answer: turning, mixing, choosing. -/
namespace Go.Proofs.YtdjjleahfciipaaGreatDoor
open Go.RowKit
/-- x turned to the right by n bits. -/
def rot (x : Int) (n : Nat) : Int := x / 2 ^ n + x % 2 ^ n * 2 ^ (32 - n)

theorem neg_mask (n : Nat) (n0 : 1 ≤ n) (n1 : n ≤ 31) : bits .and .u64 (IntKind.u64.wrap (-(n : Int))) 31 = ((32 - n : Nat) : Int) := by
  have : ∀ m : Nat, m < 32 → 1 ≤ m → bits .and .u64 (IntKind.u64.wrap (-(m : Int))) 31 = ((32 - m : Nat) : Int) := by decide +kernel
  exact this n (by omega) n0

theorem ret_i {k : IntKind} {a b : Int} (h : a = b) : Ending.returned (.int k a) = .returned (.int k b) := by rw [h]

theorem pow_pos_int (n : Nat) : (0 : Int) < 2 ^ n := Int.pow_pos (by omega)

theorem rot_split (a n : Nat) (h1 : a < 4294967296) (n1 : n ≤ 31) :
    a * 2 ^ (32 - n) % 4294967296 = a % 2 ^ n * 2 ^ (32 - n) ∧ a / 2 ^ n < 2 ^ (32 - n) ∧ a % 2 ^ n * 2 ^ (32 - n) + 2 ^ (32 - n) ≤ 4294967296 := by
  have hp : 4294967296 = 2 ^ n * 2 ^ (32 - n) := by rw [← Nat.pow_add, show n + (32 - n) = 32 from by omega]
  refine ⟨?_, ?_, ?_⟩
  · rw [hp, Nat.mul_mod_mul_right]
  · rw [Nat.div_lt_iff_lt_mul (Nat.pow_pos (by omega)), Nat.mul_comm, ← hp]; exact h1
  · have h2 : a % 2 ^ n + 1 ≤ 2 ^ n := Nat.mod_lt _ (Nat.pow_pos (by omega))
    have h3 : (a % 2 ^ n + 1) * 2 ^ (32 - n) ≤ 2 ^ n * 2 ^ (32 - n) := Nat.mul_le_mul_right _ h2
    rw [← hp, Nat.add_mul, Nat.one_mul] at h3
    exact h3

theorem rot_nat (a n : Nat) : rot (a : Int) n = ((a / 2 ^ n + a % 2 ^ n * 2 ^ (32 - n) : Nat) : Int) := by
  unfold rot
  simp

theorem join_code (a n : Nat) (h1 : a < 4294967296) (n1 : n ≤ 31) : a % 2 ^ n * 2 ^ (32 - n) ||| a / 2 ^ n = a / 2 ^ n + a % 2 ^ n * 2 ^ (32 - n) := by
  have hs := rot_split a n h1 n1
  rw [nat_join (32 - n) _ _ (Nat.mul_mod_left _ _) hs.2.1, Nat.add_comm]

theorem rot_code (x : Int) (n : Nat) (h0 : 0 ≤ x) (h1 : x < 4294967296) (n1 : n ≤ 31) :
    bits .or .u32 (x * 2 ^ (32 - n) % 4294967296) (x / 2 ^ (32 - (32 - n))) = rot x n := by
  obtain ⟨a, rfl⟩ := Int.eq_ofNat_of_zero_le h0
  have ha : a < 4294967296 := by omega
  have hs := rot_split a n ha n1
  rw [show 32 - (32 - n) = n from by omega, rot_nat, ← join_code a n ha n1]
  have e1 : ((a : Int) * 2 ^ (32 - n) % 4294967296) = ((a % 2 ^ n * 2 ^ (32 - n) : Nat) : Int) := by
    rw [← hs.1]
    simp
  have e2 : ((a : Int) / 2 ^ n) = ((a / 2 ^ n : Nat) : Int) := by simp
  rw [e1, e2]
  have hp := Nat.pow_pos (n := 32 - n) (show 0 < 2 from by omega)
  exact u32_or_nat _ _ (by omega) (Nat.lt_of_le_of_lt (Nat.div_le_self _ _) ha)

theorem rot_ref (x : Int) (n : Nat) (h0 : 0 ≤ x) (h1 : x < 4294967296) (n1 : n ≤ 31) :
    bits .or .u64 (x * 4294967296) x / 2 ^ n % 4294967296 = rot x n := by
  obtain ⟨a, rfl⟩ := Int.eq_ofNat_of_zero_le h0
  have ha : a < 4294967296 := by omega
  have hs := rot_split a n ha n1
  have e1 : bits .or .u64 ((a : Int) * 4294967296) (a : Int) = ((a * 4294967296 + a : Nat) : Int) := by
    rw [show ((a : Int) * 4294967296) = ((a * 4294967296 : Nat) : Int) from by omega, u64_or_nat _ _ (by omega) (by omega), nat_join 32 _ _ (by omega) (by omega)]
  rw [e1, rot_nat]
  have hp : 4294967296 = 2 ^ (32 - n) * 2 ^ n := by rw [← Nat.pow_add, show 32 - n + n = 32 from by omega]
  have e2 : (a * 4294967296 + a) / 2 ^ n = a * 2 ^ (32 - n) + a / 2 ^ n := by
    rw [hp, ← Nat.mul_assoc, Nat.add_comm, Nat.add_mul_div_right _ _ (Nat.pow_pos (by omega)), Nat.add_comm]
  have e3 : (((a * 4294967296 + a : Nat) : Int) / 2 ^ n % 4294967296) = (((a * 4294967296 + a) / 2 ^ n % 4294967296 : Nat) : Int) := by simp
  rw [e3, e2, Nat.add_mod, hs.1]
  have hq := hs.2.1
  have hr := hs.2.2
  generalize a % 2 ^ n * 2 ^ (32 - n) = u at hr ⊢
  generalize a / 2 ^ n = v at hq ⊢
  generalize 2 ^ (32 - n) = t at hq hr
  rw [Nat.mod_eq_of_lt (show v < 4294967296 by omega), Nat.mod_eq_of_lt (show u + v < 4294967296 by omega), Nat.add_comm]

theorem rot_bd (x : Int) (n : Nat) (h : 0 ≤ x ∧ x < 4294967296) (n1 : n ≤ 31) : 0 ≤ rot x n ∧ rot x n < 4294967296 := by
  obtain ⟨a, rfl⟩ := Int.eq_ofNat_of_zero_le h.1
  have hs := rot_split a n (by omega) n1
  rw [rot_nat]
  have hq := hs.2.1
  have hr := hs.2.2
  generalize a % 2 ^ n * 2 ^ (32 - n) = u at hr ⊢
  generalize a / 2 ^ n = v at hq ⊢
  generalize 2 ^ (32 - n) = t at hq hr
  omega

set_option maxRecDepth 10000 in
set_option maxHeartbeats 400000 in
theorem turned_any (x : Int) (n : Nat) (w : World) (h0 : 0 ≤ x) (h1 : x < 4294967296) (n0 : 1 ≤ n) (n1 : n ≤ 31) :
    Calls Tryz.prog 123 #[.int .u32 x, .int .i64 n] w fun e w' => e = .returned (.int .u32 (rot x n)) ∧ w' = w := by
  have hm := neg_mask n n0 n1
  have hk : (((32 - n : Nat) : Int)) = 32 - (n : Int) := by omega
  go_enter Tryz.func123, Tryz.ntmps123
  go_wp2
  go_ret
  exact ⟨ret_i (rot_code x n h0 h1 n1), rfl⟩

/-- Within a word's range. -/
def W32 (x : Int) : Prop := 0 ≤ x ∧ x < 4294967296
/-- Exclusive or, and, not, sum of two words. -/
def xo (a b : Int) : Int := bits .xor .u32 a b
def an (a b : Int) : Int := bits .and .u32 a b
def no (a : Int) : Int := bits .xor .u32 IntKind.u32.max a
def pl (a b : Int) : Int := (a + b) % 4294967296

theorem W32.nat {x : Int} (h : W32 x) : ∃ a : Nat, x = a ∧ a < 4294967296 := by
  obtain ⟨a, rfl⟩ := Int.eq_ofNat_of_zero_le h.1
  exact ⟨a, rfl, by have := h.2; omega⟩
theorem xo_nat (a b : Nat) (ha : a < 4294967296) (hb : b < 4294967296) : xo a b = ((a ^^^ b : Nat) : Int) := u32_xor_nat a b ha hb
theorem an_nat (a b : Nat) (ha : a < 4294967296) (hb : b < 4294967296) : an a b = ((a &&& b : Nat) : Int) := u32_and_nat a b ha hb
theorem no_nat (a : Nat) (ha : a < 4294967296) : no a = ((4294967295 ^^^ a : Nat) : Int) := u32_xor_nat 4294967295 a (by omega) ha
theorem xo_bd {x y : Int} (hx : W32 x) (hy : W32 y) : W32 (xo x y) := by
  obtain ⟨a, rfl, ha⟩ := hx.nat
  obtain ⟨b, rfl, hb⟩ := hy.nat
  rw [xo_nat a b ha hb]
  have := Nat.xor_lt_two_pow (x := a) (y := b) (n := 32) (by omega) (by omega)
  exact ⟨by omega, by omega⟩
theorem an_bd {x y : Int} (hx : W32 x) (hy : W32 y) : W32 (an x y) := by
  obtain ⟨a, rfl, ha⟩ := hx.nat
  obtain ⟨b, rfl, hb⟩ := hy.nat
  rw [an_nat a b ha hb]
  have := Nat.and_le_left (n := a) (m := b)
  exact ⟨by omega, by omega⟩
theorem no_bd {x : Int} (hx : W32 x) : W32 (no x) := by
  obtain ⟨a, rfl, ha⟩ := hx.nat
  rw [no_nat a ha]
  have := Nat.xor_lt_two_pow (x := 4294967295) (y := a) (n := 32) (by omega) (by omega)
  exact ⟨by omega, by omega⟩
theorem pl_bd (x y : Int) : W32 (pl x y) := by unfold pl; exact ⟨by omega, by omega⟩

/-- The words' functions. -/
def hmx (e : Int) : Int := xo (xo (rot e 6) (rot e 11)) (rot e 25)
def lmx (a : Int) : Int := xo (xo (rot a 2) (rot a 13)) (rot a 22)
def cho (e f g : Int) : Int := xo (an e f) (an (no e) g)
def maj (a b c : Int) : Int := xo (xo (an a b) (an a c)) (an b c)

theorem rot_w {x : Int} {n : Nat} (h : W32 x) (n1 : n ≤ 31) : W32 (rot x n) := rot_bd x n h n1
theorem hmx_w {x : Int} (h : W32 x) : W32 (hmx x) := xo_bd (xo_bd (rot_w h (by omega)) (rot_w h (by omega))) (rot_w h (by omega))
theorem lmx_w {x : Int} (h : W32 x) : W32 (lmx x) := xo_bd (xo_bd (rot_w h (by omega)) (rot_w h (by omega))) (rot_w h (by omega))
theorem cho_w {e f g : Int} (he : W32 e) (hf : W32 f) (hg : W32 g) : W32 (cho e f g) := xo_bd (an_bd he hf) (an_bd (no_bd he) hg)
theorem maj_w {a b c : Int} (ha : W32 a) (hb : W32 b) (hc : W32 c) : W32 (maj a b c) := xo_bd (xo_bd (an_bd ha hb) (an_bd ha hc)) (an_bd hb hc)

theorem or_choose (e f g : Int) (he : W32 e) (hf : W32 f) (hg : W32 g) : bits .or .u32 (an e f) (an (no e) g) = cho e f g := by
  obtain ⟨a, rfl, ha⟩ := he.nat
  obtain ⟨b, rfl, hb⟩ := hf.nat
  obtain ⟨c, rfl, hc⟩ := hg.nat
  have hn := (no_bd (x := (a : Int)) ⟨by omega, by omega⟩).2
  rw [no_nat a ha] at hn
  unfold cho
  rw [no_nat a ha, an_nat a b ha hb, an_nat _ c (by omega) hc]
  have l1 := Nat.and_le_right (n := a) (m := b)
  have l2 := Nat.and_le_right (n := 4294967295 ^^^ a) (m := c)
  rw [xo_nat _ _ (by omega) (by omega), u32_or_nat _ _ (by omega) (by omega)]
  congr 1
  apply Nat.eq_of_testBit_eq
  intro i
  simp only [Nat.testBit_or, Nat.testBit_xor, Nat.testBit_and]
  by_cases hi : i < 32
  · have e : Nat.testBit 4294967295 i = true := by
      have := Nat.testBit_two_pow_sub_one 32 i
      simpa [hi] using this
    rw [e]
    cases a.testBit i <;> cases b.testBit i <;> cases c.testBit i <;> rfl
  · have h2 : 4294967296 ≤ 2 ^ i := by
      have := Nat.pow_le_pow_right (n := 2) (by omega) (show 32 ≤ i by omega)
      exact this
    rw [Nat.testBit_lt_two_pow (show a < 2 ^ i by omega), Nat.testBit_lt_two_pow (show c < 2 ^ i by omega)]
    simp

theorem or_most (a b c : Int) (ha : W32 a) (hb : W32 b) (hc : W32 c) : bits .or .u32 (bits .or .u32 (an a b) (an a c)) (an b c) = maj a b c := by
  obtain ⟨x, rfl, hx⟩ := ha.nat
  obtain ⟨y, rfl, hy⟩ := hb.nat
  obtain ⟨z, rfl, hz⟩ := hc.nat
  unfold maj
  rw [an_nat x y hx hy, an_nat x z hx hz, an_nat y z hy hz]
  have l1 := Nat.and_le_right (n := x) (m := y)
  have l2 := Nat.and_le_right (n := x) (m := z)
  have l3 := Nat.and_le_right (n := y) (m := z)
  have l4 := Nat.xor_lt_two_pow (x := x &&& y) (y := x &&& z) (n := 32) (by omega) (by omega)
  have l5 := Nat.or_lt_two_pow (x := x &&& y) (y := x &&& z) (n := 32) (by omega) (by omega)
  rw [xo_nat _ _ (by omega) (by omega), xo_nat _ _ (by omega) (by omega), u32_or_nat _ _ (by omega) (by omega), u32_or_nat _ _ (by omega) (by omega)]
  congr 1
  apply Nat.eq_of_testBit_eq
  intro i
  simp only [Nat.testBit_or, Nat.testBit_xor, Nat.testBit_and]
  cases x.testBit i <;> cases y.testBit i <;> cases z.testBit i <;> rfl

set_option maxRecDepth 10000 in
set_option maxHeartbeats 400000 in
theorem choice_any (x y z : Int) (w : World) :
    Calls Tryz.prog 102 #[.int .u32 x, .int .u32 y, .int .u32 z] w fun e w' => e = .returned (.int .u32 (cho x y z)) ∧ w' = w := by
  go_enter Tryz.func102, Tryz.ntmps102
  go_wp2
  go_ret
  exact ⟨rfl, rfl⟩

set_option maxRecDepth 10000 in
set_option maxHeartbeats 400000 in
theorem majority_any (x y z : Int) (w : World) :
    Calls Tryz.prog 104 #[.int .u32 x, .int .u32 y, .int .u32 z] w fun e w' => e = .returned (.int .u32 (maj x y z)) ∧ w' = w := by
  go_enter Tryz.func104, Tryz.ntmps104
  go_wp2
  go_ret
  exact ⟨rfl, rfl⟩

set_option maxRecDepth 10000 in
set_option maxHeartbeats 400000 in
theorem highMix_any (x : Int) (w : World) (h0 : 0 ≤ x) (h1 : x < 4294967296) :
    Calls Tryz.prog 101 #[.int .u32 x] w fun e w' => e = .returned (.int .u32 (hmx x)) ∧ w' = w := by
  go_enter Tryz.func101, Tryz.ntmps101
  go_wp2_with fail
  refine (turned_any x 6 _ h0 h1 (by omega) (by omega)).mono ?_
  rintro e w1 ⟨rfl, rfl⟩
  go_wp2_with fail
  refine (turned_any x 11 _ h0 h1 (by omega) (by omega)).mono ?_
  rintro e w2 ⟨rfl, rfl⟩
  go_wp2_with fail
  refine (turned_any x 25 _ h0 h1 (by omega) (by omega)).mono ?_
  rintro e w3 ⟨rfl, rfl⟩
  go_wp2
  go_ret
  exact ⟨rfl, rfl⟩

set_option maxRecDepth 10000 in
set_option maxHeartbeats 400000 in
theorem lowMix_any (x : Int) (w : World) (h0 : 0 ≤ x) (h1 : x < 4294967296) :
    Calls Tryz.prog 103 #[.int .u32 x] w fun e w' => e = .returned (.int .u32 (lmx x)) ∧ w' = w := by
  go_enter Tryz.func103, Tryz.ntmps103
  go_wp2_with fail
  refine (turned_any x 2 _ h0 h1 (by omega) (by omega)).mono ?_
  rintro e w1 ⟨rfl, rfl⟩
  go_wp2_with fail
  refine (turned_any x 13 _ h0 h1 (by omega) (by omega)).mono ?_
  rintro e w2 ⟨rfl, rfl⟩
  go_wp2_with fail
  refine (turned_any x 22 _ h0 h1 (by omega) (by omega)).mono ?_
  rintro e w3 ⟨rfl, rfl⟩
  go_wp2
  go_ret
  exact ⟨rfl, rfl⟩
#print axioms lowMix_any
#print axioms or_most
end Go.Proofs.YtdjjleahfciipaaGreatDoor
