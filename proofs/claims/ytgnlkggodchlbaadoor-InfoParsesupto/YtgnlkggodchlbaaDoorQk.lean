/- Gathered: LtE LtF LtG LtH InQ InR InS InT InN. -/
import Derived.Test.YtgnlkggodchlbaaDoorQc
import Derived.Test.YtgnlkggodchlbaaDoorQg
import Derived.Test.YtgnlkggodchlbaaDoorQi
import Derived.Test.YtgnlkggodchlbaaDoorQj
/- Numbers by their bits, for the document's own FromBase32. -/
namespace Go.Proofs.YtgnlkggodchlbaaDoor
open Go.RowKit

/-- Bit j of the number that the letters are, the last letter the lowest. -/
def vbF (s : ByteArray) (j : Nat) : Int := vl (bt s (s.size - 1 - j / 5)) / 2 ^ (j % 5) % 2
/-- The number that the first i bits are. -/
def xN (s : ByteArray) (i : Nat) : Nat := num 2 (fun j => (vbF s j).toNat) i

theorem vbF_bd (s : ByteArray) (j : Nat) : 0 ≤ vbF s j ∧ vbF s j < 2 := by unfold vbF; omega

theorem vbF_at (s : ByteArray) (k d c : Nat) (hd : k + d + 1 = s.size) (hc : c < 5) (y : Int) (hy : y = vl (bt s d) / 2 ^ c) : y % 2 = vbF s (5 * k + c) := by
  unfold vbF
  rw [show (5 * k + c) / 5 = k from by omega, show (5 * k + c) % 5 = c from by omega, show s.size - 1 - k = d from by omega, hy]

theorem xN_lt (s : ByteArray) (i : Nat) : xN s i < 2 ^ i := num_lt 2 _ i (by omega) (fun j _ => by have := vbF_bd s j; omega)

theorem xN_zero (s : ByteArray) (i : Nat) (h : vbF s i = 0) : xN s (i + 1) = xN s i := by
  unfold xN; rw [num, h]; simp

theorem xN_one (s : ByteArray) (i : Nat) (h : vbF s i = 1) : xN s (i + 1) = xN s i + 2 ^ i := by
  unfold xN; rw [num, h]; simp

theorem num2_ge (f : Nat → Nat) (i n : Nat) (hi : i < n) (h : 1 ≤ f i) : 2 ^ i ≤ num 2 f n := by
  induction n with
  | zero => omega
  | succ n ih =>
    rw [num]
    by_cases e : i = n
    · subst e
      have : 1 * 2 ^ i ≤ f i * 2 ^ i := Nat.mul_le_mul_right _ h
      omega
    · have := ih (by omega)
      omega

theorem five_bits (x : Nat) (h : x < 32) (p : Nat) : ((x : Int) / 2 ^ 0 % 2).toNat * (p * 2 ^ 0) + ((x : Int) / 2 ^ 1 % 2).toNat * (p * 2 ^ 1) + ((x : Int) / 2 ^ 2 % 2).toNat * (p * 2 ^ 2) + ((x : Int) / 2 ^ 3 % 2).toNat * (p * 2 ^ 3) + ((x : Int) / 2 ^ 4 % 2).toNat * (p * 2 ^ 4) = x * p := by
  have e : x = ((x : Int) / 2 ^ 0 % 2).toNat * 1 + ((x : Int) / 2 ^ 1 % 2).toNat * 2 + ((x : Int) / 2 ^ 2 % 2).toNat * 4 + ((x : Int) / 2 ^ 3 % 2).toNat * 8 + ((x : Int) / 2 ^ 4 % 2).toNat * 16 := by omega
  conv => rhs; rw [e]
  simp only [Nat.add_mul, Nat.mul_assoc, Nat.mul_comm p]

theorem xN_vnum (s : ByteArray) (k : Nat) (hk : k ≤ s.size) (hok : ∀ j, j < s.size → 0 ≤ vl (bt s j)) : xN s (5 * k) = vnum s k := by
  induction k with
  | zero => rfl
  | succ k ih =>
    have h0 := hok (s.size - 1 - k) (by omega)
    have h1 := vl_spec _ (bt_bd s (s.size - 1 - k))
    obtain ⟨v, hv⟩ : ∃ v : Nat, vl (bt s (s.size - 1 - k)) = v := ⟨(vl (bt s (s.size - 1 - k))).toNat, by omega⟩
    have hv32 : v < 32 := by omega
    rw [vnum_succ s k v hv, ← ih (by omega)]
    have hb : ∀ c, c < 5 → vbF s (5 * k + c) = (v : Int) / 2 ^ c % 2 := fun c hc => by
      rw [← vbF_at s k (s.size - 1 - k) c (by omega) hc ((v : Int) / 2 ^ c) (by rw [hv])]
    have hp : 32 ^ k = 2 ^ (5 * k) := by rw [show (32 : Nat) = 2 ^ 5 from rfl, ← Nat.pow_mul]
    rw [hp, ← five_bits v hv32 (2 ^ (5 * k))]
    unfold xN
    rw [show 5 * (k + 1) = 5 * k + 4 + 1 from by omega, num, num, num, num, num]
    simp only [Nat.add_assoc]
    rw [hb 1 (by omega), hb 2 (by omega), hb 3 (by omega), hb 4 (by omega), show vbF s (5 * k) = (v : Int) / 2 ^ 0 % 2 from hb 0 (by omega)]
    simp only [Nat.pow_add, Nat.pow_zero, Nat.mul_one]

theorem pow2_split (i : Nat) : 2 ^ i = 256 ^ (i / 8) * 2 ^ (i % 8) := by
  rw [show (256 : Nat) = 2 ^ 8 from rfl, ← Nat.pow_mul, ← Nat.pow_add]
  congr 1
  omega

theorem step2_bd (N i : Nat) (hN : N < 2 ^ i) : 0 ≤ fbFn N (i / 8) ∧ fbFn N (i / 8) + 2 ^ (i % 8) < 256 ∧ (1 : Int) ≤ 2 ^ (i % 8) ∧ (2 : Int) ^ (i % 8) ≤ 128 := by
  rw [pow2_split] at hN
  have hr : i % 8 < 8 := Nat.mod_lt _ (by omega)
  have hp := pow2_lt (i % 8) hr
  have hx : N / 256 ^ (i / 8) < 2 ^ (i % 8) := (Nat.div_lt_iff_lt_mul (Nat.pow_pos (by omega))).2 (by rw [Nat.mul_comm]; exact hN)
  unfold fbFn
  have e : (2 : Int) ^ (i % 8) = ((2 ^ (i % 8) : Nat) : Int) := by rw [Int.natCast_pow]; rfl
  rw [e]
  generalize 2 ^ (i % 8) = p at *
  generalize N / 256 ^ (i / 8) = x at *
  omega

theorem step2 (N i : Nat) (hN : N < 2 ^ i) (t : Nat) : (if t = i / 8 then fbFn N (i / 8) + 2 ^ (i % 8) else fbFn N t) = fbFn (N + 2 ^ i) t := by
  rw [pow2_split] at hN ⊢
  have hr : i % 8 < 8 := Nat.mod_lt _ (by omega)
  generalize i / 8 = q at hN ⊢
  generalize i % 8 = r at hN hr ⊢
  have hp := pow2_lt r hr
  have hx : N / 256 ^ q < 2 ^ r := (Nat.div_lt_iff_lt_mul (Nat.pow_pos (by omega))).2 (by rw [Nat.mul_comm]; exact hN)
  have hq : (N + 256 ^ q * 2 ^ r) / 256 ^ q = N / 256 ^ q + 2 ^ r := Nat.add_mul_div_left _ _ (Nat.pow_pos (by omega))
  unfold fbFn
  by_cases e1 : t = q
  · rw [if_pos e1, e1, hq]
    rw [show (2 : Int) ^ r = ((2 ^ r : Nat) : Int) from by rw [Int.natCast_pow]; rfl]
    clear hq hN
    generalize 2 ^ r = p at *
    generalize N / 256 ^ q = x at *
    omega
  · rw [if_neg e1]
    congr 1
    by_cases e3 : t < q
    · obtain ⟨d, rfl⟩ : ∃ d, q = t + 1 + d := ⟨q - t - 1, by omega⟩
      have : 256 ^ (t + 1 + d) * 2 ^ r = 256 ^ t * (256 * (256 ^ d * 2 ^ r)) := by
        rw [Nat.pow_add, Nat.pow_succ]
        simp only [Nat.mul_assoc]
      rw [this, Nat.add_mul_div_left _ _ (Nat.pow_pos (by omega)), Nat.add_mul_mod_self_left]
    · obtain ⟨d, rfl⟩ : ∃ d, t = q + 1 + d := ⟨t - q - 1, by omega⟩
      have h2 : (N + 256 ^ q * 2 ^ r) / 256 ^ (q + 1) = 0 := by
        rw [Nat.pow_succ, ← Nat.div_div_eq_div_mul, hq]
        clear hq hN
        generalize 2 ^ r = p at *
        generalize N / 256 ^ q = x at *
        omega
      have hz : N / 256 ^ (q + 1) = 0 := by
        rw [Nat.pow_succ, ← Nat.div_div_eq_div_mul]
        clear hq hN h2
        generalize 2 ^ r = p at *
        generalize N / 256 ^ q = x at *
        omega
      rw [Nat.pow_add, ← Nat.div_div_eq_div_mul, ← Nat.div_div_eq_div_mul, h2, hz]

theorem spare_bad (s : ByteArray) (n i : Nat) (hi : i < 5 * s.size) (h : vbF s i = 1) (hn : 8 * n ≤ i) (hl : 5 * s.size ≤ 8 * n + 4) : fbFn (xN s (5 * s.size)) n ≠ 0 := by
  have h1 : 2 ^ i ≤ xN s (5 * s.size) := num2_ge _ i _ hi (by show 1 ≤ (vbF s i).toNat; rw [h]; decide)
  have h2 := xN_lt s (5 * s.size)
  have h3 : 2 ^ (5 * s.size) ≤ 256 ^ n * 16 := by
    rw [show 256 ^ n * 16 = 2 ^ (8 * n + 4) from by rw [show (256 : Nat) = 2 ^ 8 from rfl, ← Nat.pow_mul, Nat.pow_add]]
    exact Nat.pow_le_pow_right (by omega) hl
  have h4 : 256 ^ n ≤ 2 ^ i := by
    rw [show (256 : Nat) = 2 ^ 8 from rfl, ← Nat.pow_mul]
    exact Nat.pow_le_pow_right (by omega) hn
  generalize xN s (5 * s.size) = X at *
  have h5 : X / 256 ^ n < 16 := (Nat.div_lt_iff_lt_mul (Nat.pow_pos (by omega))).2 (by rw [Nat.mul_comm]; omega)
  have h6 : 1 ≤ X / 256 ^ n := (Nat.le_div_iff_mul_le (Nat.pow_pos (by omega))).2 (by omega)
  unfold fbFn
  omega

theorem spare_good (X n : Nat) (h : X < 256 ^ n) : fbFn X n = 0 := by
  unfold fbFn; rw [Nat.div_eq_of_lt h]; rfl

theorem pow_room (i n : Nat) (h : i < 8 * n) (X : Nat) (hX : X < 2 ^ (i + 1)) : X < 256 ^ n := by
  refine Nat.lt_of_lt_of_le hX ?_
  rw [show (256 : Nat) = 2 ^ 8 from rfl, ← Nat.pow_mul]
  exact Nat.pow_le_pow_right (by omega) (by omega)
#print axioms spare_bad
#print axioms step2
#print axioms xN_vnum
end Go.Proofs.YtgnlkggodchlbaaDoor
/- What the document's own FromBase32 answers: as the program's. -/
namespace Go.Proofs.YtgnlkggodchlbaaDoor
open Go.RowKit

set_option maxHeartbeats 1000000 in
set_option maxRecDepth 100000 in
theorem rfb32_zero (s : ByteArray) (w : World) (hs : s.size = 0) :
    Calls Tryd.prog 42 #[.string s] w fun e w' => e = .returned (.tuple #[.string ⟨#[]⟩, .int .i64 0]) ∧ Below w.heap.size w w' := by
  obtain ⟨i0, hi, hz0, hz1, hz2⟩ := info_parts Tryd.hinfo5
  go_enter Tryd.func42, Tryd.ntmps42
  go_wp2
  go_loopw [4] (fun i wr => i = .int .i64 0 ∧ w = wr) (fun _ _ => 0)
  case atStart => exact ⟨rfl, rfl⟩
  case round =>
    obtain ⟨rfl, rfl⟩ := hrel
    go_wp2
    go_loopw [5, 6] (fun v i wq => v = .slice none 0 0 ∧ i = .int .i64 (-1) ∧ w = wq) (fun _ _ _ => 0)
    case atStart => exact ⟨rfl, rfl, rfl⟩
    case round =>
      obtain ⟨rfl, rfl, rfl⟩ := hrel
      go_wp2_with fail
      rw [run_make (P := Tryd.prog) _ 69 5 i0 (.int .u8 0) Tryd.underlying69 hi hz0 .i64 .i64 _ _ (by omega) (by omega) (by rw [hz2]; omega) (by omega)]
      have R0 : Row .u8 (w.alloc (.cells (madeCells (Value.int .u8 0).cells ((0 : Int).toNat * i0.size)) 5)) w.heap.size 0 (fun _ => 0) := Row.made (by rw [hz1]; omega)
      have B0 : Below w.heap.size w (w.alloc (.cells (madeCells (Value.int .u8 0).cells ((0 : Int).toNat * i0.size)) 5)) := (Below.refl _ _).alloc (Nat.le_refl _) _
      generalize w.alloc (.cells (madeCells (Value.int .u8 0).cells ((0 : Int).toNat * i0.size)) 5) = W1 at R0 B0 ⊢
      clear hi hz0 hz1 hz2
      have c1 := run_string_row (P := Tryd.prog) (src := 69) (dst := 9) (c := 0) Tryd.underlying69 Tryd.underlying5 Tryd.underlying9 R0
      go_wp2
      go_loopw [10] (fun i wr => i = .int .i64 0 ∧ wr = W1) (fun _ _ => 0)
      case atStart => exact ⟨rfl, rfl⟩
      case round =>
        obtain ⟨rfl, rfl⟩ := hrel
        go_wp2
        go_ret2
        exact ⟨rfl, B0⟩

#print axioms rfb32_zero
end Go.Proofs.YtgnlkggodchlbaaDoor
/- What the document's own FromBase32 answers: as the program's. -/
namespace Go.Proofs.YtgnlkggodchlbaaDoor
open Go.RowKit

set_option maxHeartbeats 4000000 in
set_option maxRecDepth 100000 in
theorem rfb32_go (s : ByteArray) (w : World) (hs : s.size ≤ 1048576) (hp : 0 < s.size) :
    Calls Tryd.prog 42 #[.string s] w fun e w' => e = .returned (.tuple #[.string (fbStr s), .int .i64 (fbErr s)]) ∧ Below w.heap.size w w' := by
  obtain ⟨i0, hi, hz0, hz1, hz2⟩ := info_parts Tryd.hinfo5
  obtain ⟨i3, hi3, hz03, hz13, hz23⟩ := info_parts Tryd.hinfo3
  have hlen : Hid (lf (5 * s.size / 8) ≠ s.size → fbStr s = ⟨#[]⟩ ∧ fbErr s = 21) := fun h => by
    have e : fbErr s = 21 := by unfold fbErr; rw [if_neg h]
    refine ⟨?_, e⟩
    unfold fbStr; rw [e, if_neg (by omega)]
  have hbad : Hid (lf (5 * s.size / 8) = s.size → fbOk s s.size = false → fbStr s = ⟨#[]⟩ ∧ fbErr s = 20) := fun hl h => by
    have e : fbErr s = 20 := by unfold fbErr; rw [if_pos hl, h, if_neg (by simp)]
    refine ⟨?_, e⟩
    unfold fbStr; rw [e, if_neg (by omega)]
  have hspare : Hid (lf (5 * s.size / 8) = s.size → fbOk s s.size = true → fbFn (vnum s s.size) (5 * s.size / 8) ≠ 0 → fbStr s = ⟨#[]⟩ ∧ fbErr s = 22) := fun hl h g => by
    have e : fbErr s = 22 := by unfold fbErr; rw [if_pos hl, h, if_pos rfl, if_neg (by unfold fbFn at g; omega)]
    refine ⟨?_, e⟩
    unfold fbStr; rw [e, if_neg (by omega)]
  have hgood : Hid (lf (5 * s.size / 8) = s.size → fbOk s s.size = true → fbFn (vnum s s.size) (5 * s.size / 8) = 0 → fbStr s = strFn (5 * s.size / 8) (fbFn (vnum s s.size)) ∧ fbErr s = 0) := fun hl h g => by
    have e : fbErr s = 0 := by unfold fbErr; rw [if_pos hl, h, if_pos rfl, if_pos (by unfold fbFn at g; omega)]
    refine ⟨?_, e⟩
    unfold fbStr; rw [e, if_pos rfl]
  go_enter Tryd.func42, Tryd.ntmps42
  go_wp2
  go_loop [4] (fun i => ∃ k : Nat, k ≤ s.size ∧ i = .int .i64 k ∧ (k = 0 ∨ (8 * (k - 1) + 4) / 5 < s.size)) (fun i => s.size - (intOf i).toNat)
  case atStart => exact ⟨0, Nat.zero_le _, rfl, .inl rfl⟩
  case round =>
    obtain ⟨n, hn, rfl, hlow⟩ := hrel
    have HLOW : Hid (n = 0 ∨ (8 * (n - 1) + 4) / 5 < s.size) := hlow
    clear hlow
    by_cases h1 : (8 * n + 4) / 5 < s.size
    · clear hi hz0 hz1 hz2 hi3 hz03 hz13 hz23
      go_wp2
      go_round
      case rel => exact ⟨n + 1, by omega, by go_num, .inr (by rw [Nat.add_sub_cancel]; exact h1)⟩
      case measure => simp [intOf]; omega
    · by_cases h2 : (8 * n + 4) / 5 = s.size
      · have hnn : Hid (5 * s.size / 8 = n) := by unfold Hid; omega
        have hlf : Hid (lf (5 * s.size / 8) = s.size) := by unfold Hid lf; rw [hnn.out]; exact h2
        have hm : 5 * s.size ≤ 8 * n + 4 := by omega
        have hm2 : 8 * n ≤ 5 * s.size := by omega
        have t1 : ((8 * (n : Int) + 4) / 5 != (s.size : Int)) = false := by simp; omega
        have t2 : ¬ (8 * (n : Int) + 4) / 5 < (s.size : Int) := by omega
        clear h1 h2 HLOW
        go_wp2
        go_loopw [5, 6] (fun v i wr => ∃ k : Nat, k ≤ s.size ∧ i = .int .i64 ((s.size : Int) - 1 - (k : Int)) ∧ (∀ j, j < k → 0 ≤ vl (bt s (s.size - 1 - j))) ∧ Own .i64 3 wr w.heap.size v (5 * k) (vbF s) ∧ Below w.heap.size w wr) (fun _ i _ => (intOf i + 1).toNat)
        case atStart => exact ⟨0, Nat.zero_le _, by simp, fun j hj => absurd hj (by omega), Own.nil _ _ _ _ _, Below.refl _ _⟩
        case round =>
          obtain ⟨k, hk, rfl, hok, O, B⟩ := hrel
          have HOK : Hid (∀ j, j < k → 0 ≤ vl (bt s (s.size - 1 - j))) := hok
          clear hok
          by_cases hlt : k < s.size
          · obtain ⟨d, hd⟩ : ∃ d : Nat, k + d + 1 = s.size := ⟨s.size - 1 - k, by omega⟩
            have hb := get_bt s
            have hbd := bt_bd s d
            have hds : d < s.size := by omega
            rw [show ((s.size : Int) - 1 - (k : Int)) = (d : Int) from by omega]
            go_wp2_with fail
            refine (rvalue_any _ _ hbd.1 hbd.2).mono ?_
            rintro e w2 ⟨rfl, rfl⟩
            have hx := vl_spec _ hbd
            have hx0 : -1 ≤ vl (bt s d) := by omega
            have hx1 : vl (bt s d) < 32 := by omega
            clear hx
            by_cases g : vl (bt s d) < 0
            · have HB := hbad.out hlf.out (fbOk_no s s.size d hds g)
              go_wp2
              go_ret2
              rw [HB.1, HB.2]
              exact ⟨rfl, B⟩
            · have hx2 : 0 ≤ vl (bt s d) := by omega
              clear g hx0
              go_wp2
              go_loopw [5, 7, 8] (fun v x j wi => ∃ (c : Nat) (y : Int), c ≤ 5 ∧ j = .int .i64 c ∧ x = .int .i64 y ∧ 0 ≤ y ∧ y < 32 ∧ y = vl (bt s d) / 2 ^ c ∧ Own .i64 3 wi w.heap.size v (5 * k + c) (vbF s) ∧ Below w.heap.size w wi) (fun _ _ j _ => 5 - (intOf j).toNat)
              case atStart => exact ⟨0, vl (bt s d), by omega, rfl, rfl, hx2, hx1, by simp, O, B⟩
              case round =>
                obtain ⟨c, y, hc, rfl, rfl, hy0, hy1, hy, O, B⟩ := hrel
                have HY : Hid (y = vl (bt s d) / 2 ^ c) := hy
                have HX : Hid (0 ≤ vl (bt s d)) := hx2
                clear hy hbd hx1 hx2
                by_cases hcl : c < 5
                · have hbit : Hid (y % 2 = vbF s (5 * k + c)) := vbF_at s k d c hd hcl y HY.out
                  have hhalf : Hid (y / 2 = vl (bt s d) / 2 ^ (c + 1)) := half_at _ c y HY.out
                  have hsz := B.size
                  go_wp2_with (at_builtin; refine wpList_append_one _ rfl _ _ 107 rfl w.heap.size 3 i3 .i64 8 Tryd.underlying107 hi3 hz03 hz13 hz23 (by decide) _ (5 * k + c) (vbF s) rfl (O.alloc _) _ 1 (y % 2) rfl ?c1 hbit.out (by omega) (by simp; omega) ?_)
                  case c1 => simp
                  intro v' w1 O' b' _
                  have B' : Below w.heap.size w w1 := (B.alloc hsz _).trans b'
                  clear O B b'
                  go_wp2
                  go_roundw
                  case rel => exact ⟨c + 1, y / 2, by omega, by go_num, by go_num, by omega, by omega, hhalf.out, O', B'⟩
                  case measure => simp [intOf]; omega
                · obtain rfl : c = 5 := by omega
                  go_wp2
                  go_roundw
                  case rel =>
                    refine ⟨k + 1, by omega, by congr 1; omega, fun j hj => ?_, by rw [show 5 * (k + 1) = 5 * k + 5 from by omega]; exact O, B⟩
                    by_cases e : j = k
                    · rw [e, show s.size - 1 - k = d from by omega]; exact HX.out
                    · exact HOK.out j (by omega)
                  case measure => simp [intOf]
          · obtain rfl : k = s.size := by omega
            have hall : Hid (∀ j, j < s.size → 0 ≤ vl (bt s j)) := fun j hj => by
              have := HOK.out (s.size - 1 - j) (by omega)
              rw [show s.size - 1 - (s.size - 1 - j) = j from by omega] at this
              exact this
            clear HOK
            obtain ⟨ga, capa, rfl, hga0, hga1, hcapa, RA⟩ := O.open (by omega)
            have hokk : Hid (fbOk s s.size = true) := (fbOk_iff s s.size).2 hall.out
            have hxv : Hid (xN s (5 * s.size) = vnum s s.size) := xN_vnum s s.size (Nat.le_refl _) hall.out
            clear O hi3 hz03 hz13 hz23 t1 t2 hlen hbad
            go_wp2_with fail
            rw [run_make (P := Tryd.prog) wr 69 5 i0 (.int .u8 0) Tryd.underlying69 hi hz0 .i64 .i64 _ _ (by omega) (by omega) (by rw [hz2]; omega) (by omega)]
            have R0 : Row .u8 (wr.alloc (.cells (madeCells (Value.int .u8 0).cells ((n : Int).toNat * i0.size)) 5)) wr.heap.size n (fun _ => 0) := Row.made (by rw [hz1]; omega)
            have RA0 : Row .i64 (wr.alloc (.cells (madeCells (Value.int .u8 0).cells ((n : Int).toNat * i0.size)) 5)) ga (5 * s.size) (vbF s) := RA.alloc hga1 _
            have B0 : Below w.heap.size w (wr.alloc (.cells (madeCells (Value.int .u8 0).cells ((n : Int).toNat * i0.size)) 5)) := B.alloc B.size _
            have hG : w.heap.size ≤ wr.heap.size := B.size
            generalize wr.alloc (.cells (madeCells (Value.int .u8 0).cells ((n : Int).toNat * i0.size)) 5) = W1 at R0 B0 RA0 ⊢
            rw [Int.toNat_natCast]
            clear hi hz0 hz1 hz2 RA B
            generalize wr.heap.size = go_ at *
            go_wp2
            go_loopw [10] (fun i wq => ∃ k : Nat, k ≤ 5 * s.size ∧ i = .int .i64 k ∧ xN s k < 256 ^ n ∧ Row .u8 wq go_ n (fbFn (xN s k)) ∧ Row .i64 wq ga (5 * s.size) (vbF s) ∧ Below w.heap.size w wq) (fun i _ => 5 * s.size - (intOf i).toNat)
            case atStart => exact ⟨0, Nat.zero_le _, rfl, Nat.pow_pos (by omega), R0.congr (fun j _ => by simp [fbFn, xN, num]), RA0, B0⟩
            case round =>
              obtain ⟨k, hk, rfl, hroom, R, RA, B⟩ := hrel
              have HR : Hid (xN s k < 256 ^ n) := hroom
              clear hroom
              by_cases hlt2 : k < 5 * s.size
              · have c1 := RA.cell k hlt2
                have hvb := vbF_bd s k
                by_cases hz : vbF s k = 0
                · have t3 : (vbF s k == 0) = true := by rw [hz]; rfl
                  have HZ : Hid (vbF s k = 0) := hz
                  clear hz
                  go_wp2
                  go_roundw
                  case rel => exact ⟨k + 1, by omega, by go_num, by rw [xN_zero s k HZ.out]; exact HR.out, by rw [xN_zero s k HZ.out]; exact R, RA, B⟩
                  case measure => simp [intOf]; omega
                · have t3 : (vbF s k == 0) = false := by rw [beq_eq_false_iff_ne]; exact hz
                  have HZ : Hid (vbF s k = 1) := by unfold Hid; omega
                  clear hz
                  by_cases h8 : 8 * n ≤ k
                  · have HB := hspare.out hlf.out hokk.out (by rw [hnn.out, ← hxv.out]; exact spare_bad s n k hlt2 HZ.out h8 hm)
                    have HB1 : Hid (fbStr s = ⟨#[]⟩) := HB.1
                    have HB2 : Hid (fbErr s = 22) := HB.2
                    clear HB
                    go_wp2
                    go_ret2
                    rw [HB1.out, HB2.out]
                    exact ⟨rfl, B⟩
                  · have hlt8 : k / 8 < n := by omega
                    have c2 := R.cell (k / 8) hlt8
                    have f2 := R.free (k / 8) hlt8
                    have hbd := step2_bd (xN s k) k (xN_lt s k)
                    have hst : Hid (∀ t, (if t = k / 8 then fbFn (xN s k) (k / 8) + 2 ^ (k % 8) else fbFn (xN s k) t) = fbFn (xN s (k + 1)) t) := fun t => by
                      rw [xN_one s k HZ.out]; exact step2 (xN s k) k (xN_lt s k) t
                    have hroom2 : Hid (xN s (k + 1) < 256 ^ n) := pow_room k n (by omega) _ (xN_lt s (k + 1))
                    go_wp2
                    go_roundw
                    case rel => exact ⟨k + 1, by omega, by go_num, hroom2.out, (R.set (k / 8) _ hlt8).congr (fun t _ => hst.out t), RA.other _ _ (by simp; omega), B.setCell hG _⟩
                    case measure => simp [intOf]; omega
              · obtain rfl : k = 5 * s.size := by omega
                have hfin := hgood.out hlf.out hokk.out (by rw [hnn.out, ← hxv.out]; exact spare_good _ n HR.out)
                rw [hnn.out, ← hxv.out] at hfin
                have HF1 : Hid (fbStr s = strFn n (fbFn (xN s (5 * s.size)))) := hfin.1
                have HF2 : Hid (fbErr s = 0) := hfin.2
                clear hfin
                have c1 := run_string_row (P := Tryd.prog) (src := 69) (dst := 9) (c := n) Tryd.underlying69 Tryd.underlying5 Tryd.underlying9 R
                go_wp2
                go_ret2
                rw [HF1.out, HF2.out]
                exact ⟨rfl, B⟩
      · have hlf : Hid (lf (5 * s.size / 8) ≠ s.size) := fun h => by
          unfold lf at h
          have h3 := HLOW.out
          generalize 5 * s.size / 8 = q at h
          have h4 : q ≤ n - 1 := by omega
          have h5 : (8 * q + 4) / 5 ≤ (8 * (n - 1) + 4) / 5 := Nat.div_le_div_right (by omega)
          omega
        have t1 : ((8 * (n : Int) + 4) / 5 != (s.size : Int)) = true := by simp; omega
        have t2 : ¬ (8 * (n : Int) + 4) / 5 < (s.size : Int) := by omega
        clear h1 h2 HLOW hi hz0 hz1 hz2 hi3 hz03 hz13 hz23
        go_wp2
        go_ret2
        rw [(hlen.out hlf.out).1, (hlen.out hlf.out).2]
        exact ⟨rfl, Below.refl _ _⟩
#print axioms rfb32_go
end Go.Proofs.YtgnlkggodchlbaaDoor
/- The document's own FromBase32, at every text. -/
namespace Go.Proofs.YtgnlkggodchlbaaDoor
open Go.RowKit
theorem rfb32_any (s : ByteArray) (w : World) (hs : s.size ≤ 1048576) :
    Calls Tryd.prog 42 #[.string s] w fun e w' => e = .returned (.tuple #[.string (fbStr s), .int .i64 (fbErr s)]) ∧ Below w.heap.size w w' := by
  by_cases h : s.size = 0
  · have e : fbErr s = 0 := by unfold fbErr; rw [h, if_pos (by decide), if_pos (show fbOk s 0 = true from rfl), if_pos (by show 0 / _ % 256 = 0; rw [Nat.zero_div])]
    have e2 : fbStr s = ⟨#[]⟩ := by unfold fbStr; rw [e, if_pos rfl, h]; rfl
    rw [e, e2]
    exact rfb32_zero s w h
  · exact rfb32_go s w hs (by omega)

end Go.Proofs.YtgnlkggodchlbaaDoor
/- The document's CheckSigner, Digest; walked. -/
namespace Go.Proofs.YtgnlkggodchlbaaDoor
open Go.RowKit

theorem sgB_cases (c : Int) : (sgB c = true ∧ ((97 ≤ c ∧ c ≤ 122) ∨ (48 ≤ c ∧ c ≤ 57 ∧ ¬ 97 ≤ c) ∨ (c = 46) ∨ (c = 45))) ∨ (sgB c = false ∧ (¬ 97 ≤ c ∨ (97 ≤ c ∧ ¬ c ≤ 122)) ∧ (¬ 48 ≤ c ∨ (48 ≤ c ∧ ¬ c ≤ 57)) ∧ c ≠ 46 ∧ c ≠ 45) := by
  unfold sgB
  by_cases h : (97 ≤ c ∧ c ≤ 122) ∨ (48 ≤ c ∧ c ≤ 57) ∨ c = 46 ∨ c = 45
  · left
    refine ⟨decide_eq_true h, ?_⟩
    omega
  · right
    refine ⟨decide_eq_false h, ?_⟩
    omega

set_option maxRecDepth 100000 in
set_option maxHeartbeats 2000000 in
theorem rckS_any (s : ByteArray) (w : World) :
    Calls Tryd.prog 15 #[.string s] w fun e w' => e = .returned (.int .i64 (sgC s)) ∧ w' = w := by
  by_cases hz : s.size < 1
  · have hh : Hid (sgC s = 151) := sgC_no (fun h => by have := h.1; omega)
    have hz' : (s.size : Int) < 1 := by omega
    go_enter Tryd.func15, Tryd.ntmps15
    go_wp2
    go_ret
    exact ⟨by rw [hh.out]; rfl, rfl⟩
  · have hz' : ¬ (s.size : Int) < 1 := by omega
    by_cases h32 : 32 < s.size
    · have hh : Hid (sgC s = 151) := sgC_no (fun h => by have := h.2.1; omega)
      have h32' : (32 : Int) < (s.size : Int) := by omega
      go_enter Tryd.func15, Tryd.ntmps15
      go_wp2
      go_ret
      exact ⟨by rw [hh.out]; rfl, rfl⟩
    · have h32' : ¬ (32 : Int) < (s.size : Int) := by omega
      have HZ : Hid (¬ s.size < 1) := hz
      have H32 : Hid (¬ 32 < s.size) := h32
      have hb := get_bt s
      clear hz h32
      go_enter Tryd.func15, Tryd.ntmps15
      go_wp2
      clear hz' h32'
      go_loop [3] (fun i => ∃ k : Nat, k ≤ s.size ∧ i = .int .i64 k ∧ Hid (∀ j, j < k → sgB (bt s j) = true)) (fun i => s.size - (intOf i).toNat)
      case atStart => exact ⟨0, Nat.zero_le _, rfl, fun j hj => absurd hj (by omega)⟩
      case round =>
        obtain ⟨k, hk, rfl, hok⟩ := hrel
        by_cases hlt : k < s.size
        · have hk32 : k < 32 := by have := H32.out; omega
          rcases sgB_cases (bt s k) with ⟨hv, hc⟩ | ⟨hv, h1, h2, h3, h4⟩
          · have hok2 : Hid (∀ j, j < k + 1 → sgB (bt s j) = true) := fun j hj => by
              by_cases e : j = k
              · rw [e]; exact hv
              · exact hok.out j (by omega)
            clear hv hok
            rcases hc with ⟨q1, q2⟩ | ⟨q1, q2, q3⟩ | q | q
            · go_wp2
              go_round
              case rel => exact ⟨k + 1, by omega, by go_num, hok2⟩
              case measure => simp [intOf]; omega
            · go_wp2
              go_round
              case rel => exact ⟨k + 1, by omega, by go_num, hok2⟩
              case measure => simp [intOf]; omega
            · have q1 : ¬ 97 ≤ bt s k := by omega
              have q2 : ¬ 48 ≤ bt s k := by omega
              have q3 : (bt s k == 46) = true := by rw [q]; rfl
              have q4 : (bt s k != 46) = false := by rw [q]; rfl
              go_wp2
              go_round
              case rel => exact ⟨k + 1, by omega, by go_num, hok2⟩
              case measure => simp [intOf]; omega
            · have q1 : ¬ 97 ≤ bt s k := by omega
              have q2 : ¬ 48 ≤ bt s k := by omega
              have q3 : (bt s k == 45) = true := by rw [q]; rfl
              have q4 : (bt s k != 45) = false := by rw [q]; rfl
              have q5 : (bt s k == 46) = false := by rw [q]; rfl
              have q6 : (bt s k != 46) = true := by rw [q]; rfl
              go_wp2
              go_round
              case rel => exact ⟨k + 1, by omega, by go_num, hok2⟩
              case measure => simp [intOf]; omega
          · have hh : Hid (sgC s = 151) := sgC_no (fun h => by have := h.2.2 k hlt; rw [hv] at this; exact Bool.noConfusion this)
            have q3 : (bt s k == 46) = false := by rw [beq_eq_false_iff_ne]; exact h3
            have q4 : (bt s k != 46) = true := by rw [bne_iff_ne]; exact h3
            have q5 : (bt s k == 45) = false := by rw [beq_eq_false_iff_ne]; exact h4
            have q6 : (bt s k != 45) = true := by rw [bne_iff_ne]; exact h4
            clear hv h3 h4
            rcases h1 with h1 | ⟨h1, h1'⟩
            all_goals rcases h2 with h2 | ⟨h2, h2'⟩
            all_goals first
              | (exfalso; omega)
              | (go_wp2
                 go_ret
                 exact ⟨by rw [hh.out]; rfl, rfl⟩)
        · have hh : Hid (sgC s = 0) := sgC_yes ⟨by have := HZ.out; omega, by have := H32.out; omega, fun j hj => hok.out j (by omega)⟩
          go_wp2
          go_ret
          exact ⟨by rw [hh.out]; rfl, rfl⟩

theorem undD32 : Tryd.prog.underlying 22 = some (.array 32 5) := by kernel_rfl
theorem szR32 : (Tryd.prog.info? 22).map (·.size) = some 32 := by kernel_rfl

set_option maxRecDepth 100000 in
set_option maxHeartbeats 2000000 in
theorem rdgO_any (t : ByteArray) (w : World) (ht : t.size ≤ 1048576) :
    Calls Tryd.prog 24 #[.string t] w fun e w' => e = .returned (.tuple #[.agg (cs .u8 32 (dFn t)), .bool (decide (dOk t))]) ∧ Below w.heap.size w w' := by
  have C0 := fun W => rfb32_any t W ht
  have R0 : Row .u8 (w.alloc (.cells (cs .u8 32 (fun _ => 0)) 22)) w.heap.size 32 (fun _ => 0) := Row.box
  have B0 : Below w.heap.size w (w.alloc (.cells (cs .u8 32 (fun _ => 0)) 22)) := (Below.refl _ _).alloc (Nat.le_refl _) _
  have z0 : (w.alloc (.cells (cs .u8 32 (fun _ => 0)) 22)).heap.size = w.heap.size + 1 := World.size_alloc _ _
  by_cases hd : dOk t
  · rw [dFn_yes hd, decide_eq_true hd]
    obtain ⟨h1, h2⟩ := (dOk_iff t).1 hd
    have h52 := hd.1
    have hbd : Hid (∀ k, 0 ≤ bt (fbStr t) k ∧ bt (fbStr t) k < 256) := bt_bd _
    generalize fbErr t = E at C0 h1
    generalize fbStr t = S at C0 h2 hbd ⊢
    subst h1
    have k1 : ((t.size : Int) == 52) = true := by rw [h52]; rfl
    have k2 : ((t.size : Int) != 52) = false := by rw [h52]; rfl
    have k3 : (t.size : Int) = 52 := by omega
    have hb := get_bt S
    clear hd h52
    go_enter Tryd.func24, Tryd.ntmps24
    go_wp2_with fail
    rw [cs_zero32]
    generalize w.alloc (.cells (cs .u8 32 (fun _ => 0)) 22) = w0 at R0 B0 z0 ⊢
    refine (C0 w0).mono ?_
    rintro e w1 ⟨rfl, b1⟩
    have R1 : Hid (Row .u8 w1 w.heap.size 32 (fun _ => 0)) := R0.below b1 (by omega)
    have B1 : Hid (Below w.heap.size w w1) := B0.trans (b1.mono B0.size)
    have z1 : Hid (w.heap.size < w1.heap.size) := by have := b1.size; unfold Hid; omega
    clear R0 B0 z0 b1 C0
    go_wp2
    rw [cs_zero32]
    clear k1 k2 k3
    have D2 : Hid (Row .u8 (w1.alloc (.cells (cs .u8 32 (fun _ => 0)) 22)) w1.heap.size 32 (fun j => if j < 0 then bt S j else 0)) := Row.box.congr (fun j _ => by rw [if_neg (by omega)])
    have R2 : Hid (Row .u8 (w1.alloc (.cells (cs .u8 32 (fun _ => 0)) 22)) w.heap.size 32 (fun _ => 0)) := R1.out.alloc z1.out _
    have B2 : Hid (Below w.heap.size w (w1.alloc (.cells (cs .u8 32 (fun _ => 0)) 22))) := B1.out.alloc B1.out.size _
    generalize w1.alloc (.cells (cs .u8 32 (fun _ => 0)) 22) = w2 at D2 R2 B2 ⊢
    obtain ⟨g, hg⟩ : ∃ g, w1.heap.size = g := ⟨_, rfl⟩
    have hgw : Hid (w.heap.size < g) := by rw [← hg]; exact z1.out
    rw [hg] at D2 ⊢
    clear hg R1 B1 z1
    go_loopw [7] (fun xi wr => ∃ k : Nat, k ≤ 32 ∧ xi = .int .i64 (k : Int) ∧ Hid (Row .u8 wr g 32 (fun j => if j < k then bt S j else 0)) ∧ Hid (Row .u8 wr w.heap.size 32 (fun _ => 0)) ∧ Hid (Below w.heap.size w wr)) (fun i _ => 32 - (intOf i).toNat)
    case atStart => exact ⟨0, Nat.zero_le _, rfl, D2, R2, B2⟩
    case round =>
      clear D2 R2 B2
      obtain ⟨k, hk, rfl, DK, RK, BK⟩ := hrel
      by_cases hlt : k < 32
      · have c0 := DK.out.cell k hlt
        have f0 := DK.out.free k hlt
        have hkS : k < S.size := by omega
        have D3 : Hid (Row .u8 (wr.setCell ⟨g, k, none⟩ (.int .u8 (bt S k))) g 32 (fun j => if j < k + 1 then bt S j else 0)) := (DK.out.set k (bt S k) hlt).congr (fun j hj => by
          by_cases e : j = k
          · rw [if_pos e, if_pos (by omega), e]
          · rw [if_neg e]
            by_cases e2 : j < k
            · rw [if_pos e2, if_pos (by omega)]
            · rw [if_neg e2, if_neg (by omega)])
        have R3 : Hid (Row .u8 (wr.setCell ⟨g, k, none⟩ (.int .u8 (bt S k))) w.heap.size 32 (fun _ => 0)) := RK.out.other _ _ (by show w.heap.size ≠ g; have := hgw.out; omega)
        have B3 : Hid (Below w.heap.size w (wr.setCell ⟨g, k, none⟩ (.int .u8 (bt S k)))) := BK.out.setCell (by show _ ≤ g; have := hgw.out; omega) _
        clear DK RK BK
        go_wp2
        go_roundw
        case rel => exact ⟨k + 1, by omega, by go_num, D3, R3, B3⟩
        case measure => simp [intOf]; omega
      · obtain rfl : k = 32 := by omega
        have DF : Row .u8 wr g 32 (bt S) := DK.out.congr (fun j hj => by rw [if_pos hj])
        have RF := RK.out
        have hl := BK.out.size
        have hgl : g < wr.heap.size := World.block_lt_of_cell? _ _ (DF.cell 0 (by omega))
        go_wp2_with (first
          | (refine wpList_load_arr (by rfl) 22 (.tmp 6) (by rfl) g (by rfl) DF undD32 szR32 ?_)
          | (refine wpList_store_any (by rfl) 22 (.tmp 2) (.tmp 30) (by rfl) w.heap.size (by rfl) (by rfl) RF szR32 (by rfl) ?_; intro W5 R5 U5))
        exact bodyPost_ret (results_ct Tryd.results24 _ _ rfl R5 undD32 szR32) rfl ⟨rfl, U5.below BK.out (Nat.le_refl _) (by have := hgw.out; omega)⟩
  · rw [dFn_no hd, decide_eq_false hd]
    have hd2 : ¬ (t.size = 52 ∧ fbErr t = 0) := hd
    generalize fbErr t = E at C0 hd2
    generalize fbStr t = S at C0
    clear hd
    have key : (E = 0 ∧ (t.size : Int) ≠ 52) ∨ E ≠ 0 := by
      by_cases he : E = 0
      · left; exact ⟨he, fun h => hd2 ⟨by omega, he⟩⟩
      · right; exact he
    clear hd2
    rcases key with ⟨he, h52⟩ | he
    · subst he
      have k1 : ((t.size : Int) == 52) = false := by rw [beq_eq_false_iff_ne]; exact h52
      have k2 : ((t.size : Int) != 52) = true := by rw [bne_iff_ne]; exact h52
      clear h52
      go_enter Tryd.func24, Tryd.ntmps24
      go_wp2_with fail
      rw [cs_zero32]
      generalize w.alloc (.cells (cs .u8 32 (fun _ => 0)) 22) = w0 at R0 B0 z0 ⊢
      refine (C0 w0).mono ?_
      rintro e w1 ⟨rfl, b1⟩
      have R1 : Row .u8 w1 w.heap.size 32 (fun _ => 0) := R0.below b1 (by omega)
      have B1 : Below w.heap.size w w1 := B0.trans (b1.mono B0.size)
      have z1 : w.heap.size < w1.heap.size := by have := b1.size; omega
      clear R0 B0 z0 b1 C0
      go_wp2_with (refine wpList_store_any (by rfl) 22 (.tmp 2) (.tmp 20) (by rfl) w.heap.size (by rfl) (by exact congrArg Value.agg cs_zero32) R1 szR32 (by rfl) ?_; intro W5 R5 U5)
      exact bodyPost_ret (results_ct Tryd.results24 _ _ rfl R5 undD32 szR32) rfl ⟨rfl, U5.below B1 (Nat.le_refl _) (by omega)⟩
    · have k1 : (E == 0) = false := by rw [beq_eq_false_iff_ne]; exact he
      have k2 : (E != 0) = true := by rw [bne_iff_ne]; exact he
      clear he
      go_enter Tryd.func24, Tryd.ntmps24
      go_wp2_with fail
      rw [cs_zero32]
      generalize w.alloc (.cells (cs .u8 32 (fun _ => 0)) 22) = w0 at R0 B0 z0 ⊢
      refine (C0 w0).mono ?_
      rintro e w1 ⟨rfl, b1⟩
      have R1 : Row .u8 w1 w.heap.size 32 (fun _ => 0) := R0.below b1 (by omega)
      have B1 : Below w.heap.size w w1 := B0.trans (b1.mono B0.size)
      have z1 : w.heap.size < w1.heap.size := by have := b1.size; omega
      clear R0 B0 z0 b1 C0
      go_wp2_with (refine wpList_store_any (by rfl) 22 (.tmp 2) (.tmp 20) (by rfl) w.heap.size (by rfl) (by exact congrArg Value.agg cs_zero32) R1 szR32 (by rfl) ?_; intro W5 R5 U5)
      exact bodyPost_ret (results_ct Tryd.results24 _ _ rfl R5 undD32 szR32) rfl ⟨rfl, U5.below B1 (Nat.le_refl _) (by omega)⟩

end Go.Proofs.YtgnlkggodchlbaaDoor
/- The document's SplitSign; walked. -/
namespace Go.Proofs.YtgnlkggodchlbaaDoor
open Go.RowKit

set_option maxRecDepth 100000 in
set_option maxHeartbeats 1000000 in
theorem rspS_any (s : ByteArray) (w : World) (hs : s.size ≤ 1048576) :
    Calls Tryd.prog 10 #[.string s] w fun e w' => e = .returned (.tuple #[.string (snN s), .agg (cs .u8 32 (snD s)), .int .i64 (snC s)]) ∧ Below w.heap.size w w' := by
  have R0 : Row .u8 (w.alloc (.cells (cs .u8 32 (fun _ => 0)) 22)) w.heap.size 32 (fun _ => 0) := Row.box
  have B0 : Below w.heap.size w (w.alloc (.cells (cs .u8 32 (fun _ => 0)) 22)) := (Below.refl _ _).alloc (Nat.le_refl _) _
  have z0 : w.heap.size < (w.alloc (.cells (cs .u8 32 (fun _ => 0)) 22)).heap.size := by rw [World.size_alloc]; omega
  have hb := get_bt s
  generalize hN : snN s = xN
  generalize hE : snD s = xD
  generalize hC : snC s = xC
  have HN : Hid (snN s = xN) := hN
  have HE : Hid (snD s = xD) := hE
  have HC : Hid (snC s = xC) := hC
  clear hN hE hC
  go_enter Tryd.func10, Tryd.ntmps10
  go_wp2
  rw [cs_zero32]
  generalize w.alloc (.cells (cs .u8 32 (fun _ => 0)) 22) = w0 at R0 B0 z0 ⊢
  go_loop [5] (fun i => ∃ k : Nat, k ≤ s.size ∧ i = .int .i64 (k : Int) ∧ Hid (∀ j, j < k → bt s j ≠ 58)) (fun i => s.size - (intOf i).toNat)
  case atStart => exact ⟨0, Nat.zero_le _, rfl, fun j hj => absurd hj (by omega)⟩
  case round =>
    obtain ⟨k, hk, rfl, hok⟩ := hrel
    by_cases hlt : k < s.size
    · by_cases hc : bt s k = 58
      · have hf : fst s 58 = k := fst_uniq hk hok.out (Or.inr hc)
        have e1 : (bt s k == 58) = true := by rw [hc]; rfl
        have e2 : (bt s k != 58) = false := by rw [hc]; rfl
        have e3 : ((k : Int) == (s.size : Int)) = false := by rw [beq_eq_false_iff_ne]; omega
        have e4 : ¬ (k : Int) = (s.size : Int) := by omega
        have k1 : k + 1 ≤ s.size := by omega
        have k2 : (k : Int) + 1 ≤ (s.size : Int) := by omega
        have k3 : ¬ (k : Int) + 1 < 0 := by omega
        have k4 : ((k : Int) + 1).toNat = k + 1 := by omega
        have hA : snA s = s.extract 0 k := by unfold snA; rw [hf]
        have hB : snB s = s.extract (k + 1) s.size := by unfold snB; rw [hf]
        have hBs : (snB s).size ≤ 1048576 := by rw [hB, ByteArray.size_extract]; omega
        have CD := rdgO_any (snB s) w0 hBs
        rw [hB] at CD
        by_cases hD : dOk (snB s)
        · by_cases hS : sgOk (snA s)
          · have hsn : snOk s := ⟨by rw [hf]; exact hlt, hS, hD⟩
            have eD : Hid (dFn (s.extract (k + 1) s.size) = xD) := by unfold Hid; rw [← hB, dFn_yes hD, ← HE.out, snD_yes hsn]
            have eN : Hid (xN = s.extract 0 k) := by unfold Hid; rw [← HN.out, snN_yes hsn, hA]
            have eC : Hid (xC = 0) := by unfold Hid; rw [← HC.out, snC_yes hsn]
            rw [eD.out, show decide (dOk (s.extract (k + 1) s.size)) = true from by rw [← hB]; exact decide_eq_true hD] at CD
            have HCS : Hid (sgC (s.extract 0 k) = 0) := by unfold Hid; rw [← hA]; exact sgC_yes hS
            clear hf hA hB hD hS hsn hok hBs hc HN HE HC eD
            go_wp2_with fail
            refine CD.mono ?_
            clear CD
            rintro e w3 ⟨rfl, b3⟩
            have R3 : Hid (Row .u8 w3 w.heap.size 32 (fun _ => 0)) := R0.below b3 z0
            have B3 : Hid (Below w.heap.size w w3) := B0.trans (b3.mono B0.size)
            have z3 : Hid (w.heap.size < w3.heap.size) := Nat.lt_of_lt_of_le z0 b3.size
            clear b3 R0 B0 z0
            go_wp2_with (refine wpList_store_any (by rfl) 22 (.tmp 6) (.tmp 31) (by rfl) w3.heap.size (by rfl) (by rfl) (Row.rep (by rfl)) szR32 (by rfl) ?_; intro W4 R4 U4; refine Hid.out ?_)
            unfold Hid
            have R4' : Hid (Row .u8 W4.drew w.heap.size 32 (fun _ => 0)) := ((R3.out.alloc z3.out _).upd U4 (by rw [World.size_alloc]; have := z3.out; omega) (by have := z3.out; omega)).drew
            have B4 : Hid (Below w.heap.size w W4.drew) := (U4.below (B3.out.alloc B3.out.size _) (by have := z3.out; omega) (by rw [World.size_alloc]; have := z3.out; omega)).drew
            have z4 : Hid (w.heap.size < W4.drew.heap.size) := by show w.heap.size < W4.heap.size; rw [U4.size, World.size_alloc]; have := z3.out; omega
            have z5 : Hid (w3.heap.size < W4.drew.heap.size) := by show w3.heap.size < W4.heap.size; rw [U4.size, World.size_alloc]; omega
            clear R3 B3 U4
            go_wp2_with fail
            refine (rckS_any _ _).mono ?_
            rintro e w5 ⟨rfl, hw5⟩
            subst hw5
            rw [HCS.out]
            clear HCS
            go_wp2
            refine wp_region_held_drew (S := fun W => Row .u8 W w3.heap.size 32 xD) (by kernel_rfl) R4.drew (fun hH => ?_)
            generalize w5.drew = W at R4' B4 z4 z5 hH ⊢
            refine wpAnyH_take (i := 0) (oi := { dst := some 43, op := Op.move (Operand.tmp 0), type := 9, pos := "ref.go:73", after := #[], guard := none }) (v := .string s) rfl (by kernel_rfl) (by kernel_rfl) (by kernel_rfl) (fun _ _ _ h => h) (Or.inl ⟨by rfl, by intro w _; go_simp⟩) hH ?_
            simp only [Act.put, List.setIfInBounds_toArray, List.set_cons_zero, List.set_cons_succ]
            refine wpAnyH_take (i := 1) (oi := { dst := some 44, op := Op.move (Operand.tmp 5), type := 3, pos := "ref.go:73", after := #[], guard := none }) (v := .int .i64 (k : Int)) rfl (by kernel_rfl) (by kernel_rfl) (by kernel_rfl) (fun _ _ _ h => h) (Or.inl ⟨by rfl, by intro w _; go_simp⟩) hH ?_
            simp only [Act.put, List.setIfInBounds_toArray, List.set_cons_zero, List.set_cons_succ]
            refine wpAnyH_take (i := 2) (oi := { dst := some 45, op := Op.slice 9 (Operand.tmp 43) none (some (Operand.tmp 44)) none, type := 9, pos := "ref.go:73", after := #[{ on := 0, ground := Ground.data }, { on := 1, ground := Ground.data }], guard := none }) (v := .string (s.extract 0 k)) rfl (by kernel_rfl) (by kernel_rfl) (by kernel_rfl) (fun _ _ _ h => h) (Or.inl ⟨by rfl, by intro w _; go_simp⟩) hH ?_
            simp only [Act.put, List.setIfInBounds_toArray, List.set_cons_zero, List.set_cons_succ]
            refine wpAnyH_take (i := 3) (oi := { dst := some 46, op := Op.load 22 (Operand.tmp 6), type := 22, pos := "ref.go:73", after := #[{ on := 4, ground := Ground.gcOnly Departure.lateStores }], guard := none }) rfl (by kernel_rfl) (by kernel_rfl) (by kernel_rfl) (fun _ _ _ h => h) (yieldsIf_arr (by rfl) 22 (.tmp 6) rfl w3.heap.size rfl (fun w' s => s) undD32 szR32) hH ?_
            simp only [Act.put, List.setIfInBounds_toArray, List.set_cons_zero, List.set_cons_succ]
            refine wpAnyH_ready (rs := [4]) (by kernel_rfl) (by decide) (AllReadyH.cons rfl (fun K hK => ?_) AllReadyH.nil)
            rw [if_pos (by rfl)]
            go_simp
            refine hK.out _ _ hH (fun hH2 => ?_)
            clear hK K
            try simp only [Act.put, List.setIfInBounds_toArray, List.set_cons_zero, List.set_cons_succ]
            refine wpAnyH_ready (rs := [5]) (by kernel_rfl) (by decide) (AllReadyH.cons rfl (fun K hK => ?_) AllReadyH.nil)
            rw [if_pos (by rfl)]
            refine wp_store_mid 22 (.tmp 3) (.tmp 46) rfl w.heap.size 0 (cs .u8 32 xD) rfl rfl (by rw [cs_size]; exact R4'.out.thereAll) (by rw [cs_size]; exact szR32) (cs_all _ _ _) ?_
            have U6 := put_upd W w.heap.size .u8 32 xD
            have R6 := put_row (f := xD) R4'.out
            have R7 : Row .u8 (put W w.heap.size .u8 32 xD) w3.heap.size 32 xD := hH2.upd U6 z5.out (by have := z3.out; omega)
            change K _ (put W w.heap.size .u8 32 xD)
            generalize put W w.heap.size .u8 32 xD = W6 at U6 R6 R7 ⊢
            refine hK.out _ _ R7 (fun hH3 => ?_)
            clear hK K
            try simp only [Act.put]
            refine wpAnyH_ready (rs := [6]) (by kernel_rfl) (by decide) (AllReadyH.cons rfl (fun K hK => ?_) AllReadyH.nil)
            rw [if_pos (by rfl)]
            go_simp
            refine hK.out _ _ hH3 (fun hH4 => ?_)
            clear hK K
            try simp only [Act.put, List.setIfInBounds_toArray, List.set_cons_zero, List.set_cons_succ]
            refine wpAnyH_done (by kernel_rfl) ?_ _
            go_wp2
            exact bodyPost_ret (results_tct Tryd.results10 _ _ rfl R6 undD32 szR32) rfl ⟨by rw [eN.out, eC.out]; rfl, U6.below B4.out (Nat.le_refl _) (by have := z4.out; omega)⟩
          · have hsn : ¬ snOk s := fun h => hS h.2.1
            have eN : Hid (xN = ⟨#[]⟩) := by unfold Hid; rw [← HN.out, snN_no hsn]
            have eD : Hid (xD = fun _ => 0) := by unfold Hid; rw [← HE.out, snD_no hsn]
            have eC : Hid (xC = 151) := by unfold Hid; rw [← HC.out, snC_no hsn]
            rw [show decide (dOk (s.extract (k + 1) s.size)) = true from by rw [← hB]; exact decide_eq_true hD] at CD
            generalize dFn (s.extract (k + 1) s.size) = Y at CD
            have HCS : Hid (sgC (s.extract 0 k) = 151) := by unfold Hid; rw [← hA]; exact sgC_no hS
            clear hf hA hB hD hS hsn hok hBs hc HN HE HC
            go_wp2_with fail
            refine CD.mono ?_
            clear CD
            rintro e w3 ⟨rfl, b3⟩
            have R3 : Hid (Row .u8 w3 w.heap.size 32 (fun _ => 0)) := R0.below b3 z0
            have B3 : Hid (Below w.heap.size w w3) := B0.trans (b3.mono B0.size)
            have z3 : Hid (w.heap.size < w3.heap.size) := Nat.lt_of_lt_of_le z0 b3.size
            clear b3 R0 B0 z0
            go_wp2_with (refine wpList_store_any (by rfl) 22 (.tmp 6) (.tmp 31) (by rfl) w3.heap.size (by rfl) (by rfl) (Row.rep (by rfl)) szR32 (by rfl) ?_; intro W4 R4 U4; refine Hid.out ?_)
            unfold Hid
            have R4' : Row .u8 W4 w.heap.size 32 (fun _ => 0) := ((R3.out.alloc z3.out _).upd U4 (by rw [World.size_alloc]; have := z3.out; omega) (by have := z3.out; omega))
            have B4 : Below w.heap.size w W4 := (U4.below (B3.out.alloc B3.out.size _) (by have := z3.out; omega) (by rw [World.size_alloc]; have := z3.out; omega))
            have z4 : w.heap.size < W4.heap.size := by rw [U4.size, World.size_alloc]; have := z3.out; omega
            clear R3 B3 U4 R4
            go_wp2_with fail
            refine (rckS_any _ _).mono ?_
            rintro e w5 ⟨rfl, hw5⟩
            subst hw5
            rw [HCS.out]
            clear HCS
            go_wp2_with (refine wpList_store_any (by rfl) 22 (.tmp 3) (.tmp 42) (by rfl) w.heap.size (by rfl) (by exact congrArg Value.agg cs_zero32) R4' szR32 (by rfl) ?_; intro W5 R5 U5)
            exact bodyPost_ret (results_tct Tryd.results10 _ _ rfl R5 undD32 szR32) rfl ⟨by rw [eN.out, eD.out, eC.out]; rfl, U5.below B4 (Nat.le_refl _) (by omega)⟩
        · have hsn : ¬ snOk s := fun h => hD h.2.2
          have eN : Hid (xN = ⟨#[]⟩) := by unfold Hid; rw [← HN.out, snN_no hsn]
          have eD : Hid (xD = fun _ => 0) := by unfold Hid; rw [← HE.out, snD_no hsn]
          have eC : Hid (xC = 151) := by unfold Hid; rw [← HC.out, snC_no hsn]
          rw [show decide (dOk (s.extract (k + 1) s.size)) = false from by rw [← hB]; exact decide_eq_false hD] at CD
          generalize dFn (s.extract (k + 1) s.size) = Y at CD
          clear hf hA hB hD hsn hok hBs hc HN HE HC
          go_wp2_with fail
          refine CD.mono ?_
          clear CD
          rintro e w3 ⟨rfl, b3⟩
          have R3 : Hid (Row .u8 w3 w.heap.size 32 (fun _ => 0)) := R0.below b3 z0
          have B3 : Hid (Below w.heap.size w w3) := B0.trans (b3.mono B0.size)
          have z3 : Hid (w.heap.size < w3.heap.size) := Nat.lt_of_lt_of_le z0 b3.size
          clear b3 R0 B0 z0
          go_wp2_with (refine wpList_store_any (by rfl) 22 (.tmp 6) (.tmp 31) (by rfl) w3.heap.size (by rfl) (by rfl) (Row.rep (by rfl)) szR32 (by rfl) ?_; intro W4 R4 U4; refine Hid.out ?_)
          unfold Hid
          have R4' : Row .u8 W4 w.heap.size 32 (fun _ => 0) := ((R3.out.alloc z3.out _).upd U4 (by rw [World.size_alloc]; have := z3.out; omega) (by have := z3.out; omega))
          have B4 : Below w.heap.size w W4 := (U4.below (B3.out.alloc B3.out.size _) (by have := z3.out; omega) (by rw [World.size_alloc]; have := z3.out; omega))
          have z4 : w.heap.size < W4.heap.size := by rw [U4.size, World.size_alloc]; have := z3.out; omega
          clear R3 B3 U4 R4
          go_wp2_with (refine wpList_store_any (by rfl) 22 (.tmp 3) (.tmp 42) (by rfl) w.heap.size (by rfl) (by exact congrArg Value.agg cs_zero32) R4' szR32 (by rfl) ?_; intro W5 R5 U5)
          exact bodyPost_ret (results_tct Tryd.results10 _ _ rfl R5 undD32 szR32) rfl ⟨by rw [eN.out, eD.out, eC.out]; rfl, U5.below B4 (Nat.le_refl _) (by omega)⟩
      · have e1 : (bt s k == 58) = false := by rw [beq_eq_false_iff_ne]; exact hc
        have e2 : (bt s k != 58) = true := by rw [bne_iff_ne]; exact hc
        have hok2 : Hid (∀ j, j < k + 1 → bt s j ≠ 58) := fun j hj => by
          by_cases e : j = k
          · rw [e]; exact hc
          · exact hok.out j (by omega)
        clear hc
        go_wp2
        go_round
        case rel => exact ⟨k + 1, by omega, by go_num, hok2⟩
        case measure => simp [intOf]; omega
    · obtain rfl : k = s.size := by omega
      have hf : fst s 58 = s.size := fst_uniq (Nat.le_refl _) hok.out (Or.inl rfl)
      have hsn : ¬ snOk s := fun h => by have := h.1; omega
      have eN : Hid (xN = ⟨#[]⟩) := by unfold Hid; rw [← HN.out, snN_no hsn]
      have eD : Hid (xD = fun _ => 0) := by unfold Hid; rw [← HE.out, snD_no hsn]
      have eC : Hid (xC = 151) := by unfold Hid; rw [← HC.out, snC_no hsn]
      have e3 : ((s.size : Int) == (s.size : Int)) = true := by simp
      clear hf hsn hok HN HE HC
      go_wp2_with (refine wpList_store_any (by rfl) 22 (.tmp 3) (.tmp 24) (by rfl) w.heap.size (by rfl) (by exact congrArg Value.agg cs_zero32) R0 szR32 (by rfl) ?_; intro W5 R5 U5)
      exact bodyPost_ret (results_tct Tryd.results10 _ _ rfl R5 undD32 szR32) rfl ⟨by rw [eN.out, eD.out, eC.out]; rfl, U5.below B0 (Nat.le_refl _) (by omega)⟩

end Go.Proofs.YtgnlkggodchlbaaDoor
/- The document's path, Unsigned, Check; the laws' plain; walked. -/
namespace Go.Proofs.YtgnlkggodchlbaaDoor
open Go.RowKit Go.Shelf

set_option maxHeartbeats 400000 in
theorem rpath_any (p : ByteArray) (w : World) :
    Calls Tryd.prog 47 #[.string p] w fun e w' => e = .returned (.int .i64 (prC p)) ∧ w' = w := by
  have C0 := rparse_any p w
  generalize prH p = a at C0
  generalize prL p = b at C0
  generalize prC p = c at C0 ⊢
  go_enter Tryd.func47, Tryd.ntmps47
  go_wp2_with fail
  refine C0.mono ?_
  rintro e w1 ⟨rfl, rfl⟩
  go_wp2
  go_ret
  exact ⟨rfl, rfl⟩

theorem szRINF : (Tryd.prog.info? 36).map (·.size) = some 37 := by kernel_rfl
theorem wpList_load_rinf {ops : Array Oper} {rest : List Oper} {o : Oper} {a : Act} {w : World} {Q : Exit → Act → World → Prop} {g : Nat} {P : ByteArray} {D : Nat → Int} {z : Int} {vr : Value} {F : ByteArray} {vs : Value} (hgd : o.guard = none) (x : Operand) (ho : o.op = .load 36 x)
    (hx : a.eval x = .pointer (some ⟨g, 0, none⟩)) (h : Inf w g P D z vr F vs) (hK : wpList Tryd.prog ops Q rest (a.put o.dst (.agg (infC P D z vr F vs))) w) : wpList Tryd.prog ops Q (o :: rest) a w :=
  wpList_load_mid hgd 36 x ho g 0 hx (infL P D z vr F vs) _ h.range Tryd.underlying36 rfl (by rw [szRINF]; exact congrArg some (infC_size P D z vr F vs).symm) hK

set_option maxRecDepth 100000 in
set_option maxHeartbeats 2000000 in
theorem runs_any (P : ByteArray) (D : Nat → Int) (z : Int) (F : ByteArray) (xr : Option Addr) (nr cr : Nat) (fr : Nat → ByteArray) (vs : Value) (w : World) (hr : SIs w xr nr fr) :
    Calls Tryd.prog 28 #[.agg (infC P D z (.slice xr nr cr) F vs)] w fun e w' => e = .returned (.int .i64 (unC P z fr nr F)) ∧ Below w.heap.size w w' := by
  have I0 : Inf (w.alloc (.cells (infC P D z (.slice xr nr cr) F vs) 36)) w.heap.size P D z (.slice xr nr cr) F vs := Inf.box _ _ _ _ _ _ _ _
  have B0 : Below w.heap.size w (w.alloc (.cells (infC P D z (.slice xr nr cr) F vs) 36)) := (Below.refl _ _).alloc (Nat.le_refl _) _
  have HR : Hid (SIs w xr nr fr) := hr
  clear hr
  generalize hC : unC P z fr nr F = C
  have HC : Hid (unC P z fr nr F = C) := hC
  clear hC
  unfold unC at HC
  have p0 := I0.path
  have CP := fun W => rpath_any P W
  rcases prC_is P with hP | hP
  · rw [hP] at CP
    by_cases hz0 : 0 ≤ z
    · have hz0' : ¬ z < 0 := by omega
      by_cases hz1 : z ≤ 1048576
      · have hz1' : ¬ 1048576 < z := by omega
        have HC1 : Hid (orC (crf fr nr) (frC F) = C) := by
          have h1 := HC.out
          rw [orC_z hP, orC_z (szC_yes hz0 hz1)] at h1
          exact h1
        rcases crf_is fr nr with hR | hR
        · have HC2 : Hid (frC F = C) := by
            have h1 := HC1.out
            rw [orC_z hR] at h1
            exact h1
          by_cases hF : F.size = 0
          · have hc : Hid (C = 0) := by
              have h1 := HC2.out
              rw [frC_z hF] at h1
              exact h1.symm
            obtain rfl : F = ⟨#[]⟩ := bytes_ext (by rw [hF]; rfl) (fun k hk => absurd hk (by omega))
            clear HC HC1 HC2 hF
            go_enter Tryd.func28, Tryd.ntmps28
            go_wp2_with fail
            generalize w.alloc (.cells (infC P D z (.slice xr nr cr) ⟨#[]⟩ vs) 36) = w0 at I0 B0 p0 ⊢
            refine (CP w0).mono ?_
            rintro e w1 ⟨rfl, rfl⟩
            have B1 : Hid (Below w.heap.size w w1) := B0
            have I1 := I0
            clear I0 B0 p0 CP
            have c33 := I1.size
            have c34 := I1.refs
            have CR := rckR_any xr nr cr fr w1 (HR.out.below B1.out (Nat.le_refl _))
            rw [hR] at CR
            go_wp2_with fail
            refine CR.mono ?_
            rintro e w2 ⟨rfl, rfl⟩
            have I2 := I1
            have B2 : Hid (Below w.heap.size w w2) := B1
            have c35 := I2.from_
            go_wp2
            go_ret
            exact ⟨by rw [hc.out]; rfl, B2.out⟩
          · have f1 : (F.toList == []) = false := by
              rw [beq_eq_false_iff_ne]
              intro h
              exact hF ((empty_iff F).1 (by rw [h]; rfl))
            have f2 : (F.toList != []) = true := by rw [bne_iff_ne]; rw [beq_eq_false_iff_ne] at f1; exact f1
            have f3 : ¬ F.toList = [] := by rw [beq_eq_false_iff_ne] at f1; exact f1
            have f4 : F.toList.isEmpty = false := by
              cases h : F.toList.isEmpty
              · rfl
              · exact absurd ((empty_iff F).1 h) hF
            have hc : Hid (C = prC F) := by
              have h1 := HC2.out
              rw [frC_n hF] at h1
              exact h1.symm
            clear HC HC1 HC2 hF
            go_enter Tryd.func28, Tryd.ntmps28
            go_wp2_with fail
            generalize w.alloc (.cells (infC P D z (.slice xr nr cr) F vs) 36) = w0 at I0 B0 p0 ⊢
            refine (CP w0).mono ?_
            rintro e w1 ⟨rfl, rfl⟩
            have B1 : Hid (Below w.heap.size w w1) := B0
            have I1 := I0
            clear I0 B0 p0 CP
            have c33 := I1.size
            have c34 := I1.refs
            have CR := rckR_any xr nr cr fr w1 (HR.out.below B1.out (Nat.le_refl _))
            rw [hR] at CR
            go_wp2_with fail
            refine CR.mono ?_
            rintro e w2 ⟨rfl, rfl⟩
            have I2 := I1
            have B2 : Hid (Below w.heap.size w w2) := B1
            have c35 := I2.from_
            go_wp2_with fail
            refine (rpath_any F w2).mono ?_
            rintro e w3 ⟨rfl, rfl⟩
            go_wp2
            go_ret
            exact ⟨by rw [hc.out]; rfl, B2.out⟩
        · have hc : Hid (C = crf fr nr) := by
            have h1 := HC1.out
            rw [bne_iff_ne] at hR
            rw [orC_n hR] at h1
            exact h1.symm
          clear HC HC1
          go_enter Tryd.func28, Tryd.ntmps28
          go_wp2_with fail
          generalize w.alloc (.cells (infC P D z (.slice xr nr cr) F vs) 36) = w0 at I0 B0 p0 ⊢
          refine (CP w0).mono ?_
          rintro e w1 ⟨rfl, rfl⟩
          have B1 : Hid (Below w.heap.size w w1) := B0
          have I1 := I0
          clear I0 B0 p0 CP
          have c33 := I1.size
          have c34 := I1.refs
          have CR := rckR_any xr nr cr fr w1 (HR.out.below B1.out (Nat.le_refl _))
          go_wp2_with fail
          refine CR.mono ?_
          rintro e w2 ⟨rfl, rfl⟩
          have I2 := I1
          have B2 : Hid (Below w.heap.size w w2) := B1
          go_wp2
          go_ret
          exact ⟨by rw [hc.out]; rfl, B2.out⟩
      · have hz1' : 1048576 < z := by omega
        have hc : Hid (C = 152) := by
          have h1 := HC.out
          have h2 := szC_no (z := z) (by omega)
          rw [orC_z hP, h2, orC_n (by decide)] at h1
          exact h1.symm
        clear HC
        go_enter Tryd.func28, Tryd.ntmps28
        go_wp2_with fail
        generalize w.alloc (.cells (infC P D z (.slice xr nr cr) F vs) 36) = w0 at I0 B0 p0 ⊢
        refine (CP w0).mono ?_
        rintro e w1 ⟨rfl, rfl⟩
        have B1 : Hid (Below w.heap.size w w1) := B0
        have I1 := I0
        clear I0 B0 p0 CP
        have c33 := I1.size
        go_wp2
        go_ret
        exact ⟨by rw [hc.out]; rfl, B1.out⟩
    · have hz0' : z < 0 := by omega
      have hc : Hid (C = 152) := by
        have h1 := HC.out
        have h2 := szC_no (z := z) (by omega)
        rw [orC_z hP, h2, orC_n (by decide)] at h1
        exact h1.symm
      clear HC
      go_enter Tryd.func28, Tryd.ntmps28
      go_wp2_with fail
      generalize w.alloc (.cells (infC P D z (.slice xr nr cr) F vs) 36) = w0 at I0 B0 p0 ⊢
      refine (CP w0).mono ?_
      rintro e w1 ⟨rfl, rfl⟩
      have B1 : Hid (Below w.heap.size w w1) := B0
      have I1 := I0
      clear I0 B0 p0 CP
      have c33 := I1.size
      go_wp2
      go_ret
      exact ⟨by rw [hc.out]; rfl, B1.out⟩
  · have hc : Hid (C = prC P) := by
      have h1 := HC.out
      rw [bne_iff_ne] at hP
      unfold Hid
      rw [orC_n hP] at h1
      exact h1.symm
    clear HC
    go_enter Tryd.func28, Tryd.ntmps28
    go_wp2_with fail
    generalize w.alloc (.cells (infC P D z (.slice xr nr cr) F vs) 36) = w0 at I0 B0 p0 ⊢
    refine (CP w0).mono ?_
    rintro e w1 ⟨rfl, rfl⟩
    have B1 : Hid (Below w.heap.size w w1) := B0
    have I1 := I0
    clear I0 B0 p0 CP
    have c33 := I1.size
    go_wp2
    go_ret
    exact ⟨by rw [hc.out]; rfl, B1.out⟩

end Go.Proofs.YtgnlkggodchlbaaDoor
/- The document's Check; the laws' plain; walked. -/
namespace Go.Proofs.YtgnlkggodchlbaaDoor
open Go.RowKit Go.Shelf

theorem snOk_min {s : ByteArray} (h : snOk s) : 46 ≤ s.size := by
  obtain ⟨h1, h2, h3⟩ := h
  have b := h3.1
  unfold snB at b
  rw [ByteArray.size_extract] at b
  omega
theorem sn_of {s : ByteArray} (h : snC s = 0) : snOk s := by
  unfold snC at h
  split at h
  · rename_i a; exact a
  · exact absurd h (by decide)
theorem less_aheadS (f : Nat → ByteArray) (k : Nat) (h : snC (f k) = 0) : (0 < k → Op.bytesLess (f (k - 1)).toList (f k).toList = true) ↔ Op.bytesLess (ahead f k).toList (f k).toList = true := by
  unfold ahead
  by_cases e : k = 0
  · rw [if_pos e]
    constructor
    · intro _
      have e : (ByteArray.toList ⟨#[]⟩) = [] := by decide +kernel
      rw [e]
      exact less_nil _ (snOk_min (sn_of h))
    · intro _ q; omega
  · rw [if_neg e]
    exact ⟨fun g => g (by omega), fun g _ => g⟩
theorem ahead_succ (f : Nat → ByteArray) (k : Nat) : ahead f (k + 1) = f k := by unfold ahead; rw [if_neg (by omega), Nat.add_sub_cancel]

set_option maxRecDepth 100000 in
set_option maxHeartbeats 2000000 in
theorem rick_any (P : ByteArray) (D : Nat → Int) (z : Int) (F : ByteArray) (xr : Option Addr) (nr cr : Nat) (fr : Nat → ByteArray) (xs : Option Addr) (ns cs' : Nat) (fs : Nat → ByteArray) (w : World)
    (hr : SIs w xr nr fr) (hs : SIs w xs ns fs) (hns : ns ≤ 1152921504606846976) (hsz : ∀ i, i < ns → (fs i).size ≤ 1048576) :
    Calls Tryd.prog 12 #[.agg (infC P D z (.slice xr nr cr) F (.slice xs ns cs'))] w fun e w' => e = .returned (.int .i64 (ckC P z fr nr F fs ns)) ∧ Below w.heap.size w w' := by
  have I0 : Inf (w.alloc (.cells (infC P D z (.slice xr nr cr) F (.slice xs ns cs')) 36)) w.heap.size P D z (.slice xr nr cr) F (.slice xs ns cs') := Inf.box _ _ _ _ _ _ _ _
  have B0 : Below w.heap.size w (w.alloc (.cells (infC P D z (.slice xr nr cr) F (.slice xs ns cs')) 36)) := (Below.refl _ _).alloc (Nat.le_refl _) _
  have CU := fun W (b : Below w.heap.size w W) => runs_any P D z F xr nr cr fr (.slice xs ns cs') W (hr.below b (Nat.le_refl _))
  have HS : Hid (SIs w xs ns fs) := hs
  have HZ : Hid (∀ i, i < ns → (fs i).size ≤ 1048576) := hsz
  clear hr hs hsz
  generalize hC : ckC P z fr nr F fs ns = C
  have HC : Hid (ckC P z fr nr F fs ns = C) := hC
  clear hC
  unfold ckC at HC
  by_cases hU : unC P z fr nr F = 0
  · have hc : Hid (C = ssC fs ns) := by
      have h1 := HC.out
      rw [orC_z hU] at h1
      exact h1.symm
    simp only [hU] at CU
    clear HC hU
    go_enter Tryd.func12, Tryd.ntmps12
    go_wp2_with (refine wpList_load_rinf (by rfl) (.tmp 1) (by rfl) (by rfl) I0 ?_; refine Hid.out ?_)
    unfold Hid
    generalize w.alloc (.cells (infC P D z (.slice xr nr cr) F (.slice xs ns cs')) 36) = w0 at I0 B0 ⊢
    go_wp2_with fail
    refine (CU w0 B0).mono ?_
    rintro e w1 ⟨rfl, b1⟩
    have I1 : Hid (Inf w1 w.heap.size P D z (.slice xr nr cr) F (.slice xs ns cs')) := I0.below b1 I0.lt
    have B1 : Hid (Below w.heap.size w w1) := B0.trans (b1.mono B0.size)
    clear CU I0 B0 b1
    go_wp2
    go_loopw [4, 5] (fun lx xi wr => ∃ k : Nat, k ≤ ns ∧ xi = .int .i64 (k : Int) ∧ lx = .string (ahead fs k) ∧ Hid (ssOk fs k) ∧ Hid (Inf wr w.heap.size P D z (.slice xr nr cr) F (.slice xs ns cs')) ∧ Hid (Below w.heap.size w wr)) (fun _ i _ => ns - (intOf i).toNat)
    case atStart => exact ⟨0, Nat.zero_le _, rfl, rfl, fun i hi => absurd hi (by omega), I1, B1⟩
    case round =>
      clear I1 B1
      obtain ⟨k, hk, rfl, rfl, hok, IK, BK⟩ := hrel
      have c36 := IK.out.signs
      by_cases hlt : k < ns
      · have S1 := HS.out.below BK.out (Nat.le_refl _)
        obtain ⟨a, rfl, c0⟩ := S1 k hlt
        have CS := rspS_any (fs k) wr (HZ.out k hlt)
        clear S1
        have hl1 : (k : Int) < (ns : Int) := by omega
        rcases snC_is (fs k) with h0 | h0
        · have HLA : Hid ((0 < k → Op.bytesLess (fs (k - 1)).toList (fs k).toList = true) ↔ Op.bytesLess (ahead fs k).toList (fs k).toList = true) := less_aheadS fs k h0
          have H0 : Hid (snC (fs k) = 0) := h0
          rw [h0] at CS
          clear h0
          generalize snD (fs k) = E at CS
          generalize snN (fs k) = N at CS
          have hah : Hid (ahead fs (k + 1) = fs k) := ahead_succ fs k
          go_wp2_with fail
          refine CS.mono ?_
          clear CS
          rintro e w2 ⟨rfl, b2⟩
          have I2 : Hid (Inf w2 w.heap.size P D z (.slice (xr) nr cr) F (.slice (some a) ns cs')) := IK.out.below b2 IK.out.lt
          have B2 : Hid (Below w.heap.size w w2) := BK.out.trans (b2.mono BK.out.size)
          have c2 : Hid (w2.cell? (a.add k) = some (.string (fs k))) := (b2.cell (World.block_lt_of_cell? _ _ c0)).trans c0
          clear b2 IK BK c0 c36
          go_wp2_with (refine wpList_store_any (by rfl) 22 (.tmp 7) (.tmp 29) (by rfl) w2.heap.size (by rfl) (by rfl) (Row.rep (by rfl)) szR32 (by rfl) ?_; intro W4 R4 U4; refine Hid.out ?_)
          unfold Hid
          have hlt2 : Hid (∀ i, i < w2.heap.size → W4.heap[i]? = w2.heap[i]?) := fun i hi => (U4.block i (by rw [World.size_alloc]; omega) (by omega)).trans (Below.heap_alloc w2 _ i hi)
          have I4 : Hid (Inf W4 w.heap.size P D z (.slice (xr) nr cr) F (.slice (some a) ns cs')) := I2.out.same (hlt2.out _ I2.out.lt)
          have B4 : Hid (Below w.heap.size w W4) := U4.below (B2.out.alloc B2.out.size _) B2.out.size (by rw [World.size_alloc]; have := B2.out.size; omega)
          have c4 : W4.cell? (a.add k) = some (.string (fs k)) := (World.cell?_of_block (w := w2) (w' := W4) (a := a.add k) (hlt2.out _ (World.block_lt_of_cell? _ _ c2.out))).trans c2.out
          have d36 := I4.out.signs
          clear R4 U4 hlt2 I2 B2 c2
          cases h2 : Op.bytesLess (ahead fs k).toList (fs k).toList
          · have hh : Hid (ssC fs ns = 151) := ssC_no (fun g => by
              have := HLA.out.1 (g k hlt).2
              rw [h2] at this
              exact Bool.noConfusion this)
            have LE : (Op.bytesLess (fs k).toList (ahead fs k).toList || (fs k).toList == (ahead fs k).toList) = true := by rw [le_not, h2]; rfl
            clear h2 HLA
            generalize ahead fs k = L at LE ⊢
            go_wp2
            go_ret
            exact ⟨by rw [hc.out, hh.out]; rfl, B4.out⟩
          · have hok2 : Hid (ssOk fs (k + 1)) := ssOk_succ hok.out H0.out (HLA.out.2 h2)
            have LE : (Op.bytesLess (fs k).toList (ahead fs k).toList || (fs k).toList == (ahead fs k).toList) = false := by rw [le_not, h2]; rfl
            clear h2 HLA
            generalize ahead fs k = L at LE ⊢
            go_wp2
            go_roundw
            case rel => exact ⟨k + 1, by omega, by go_num, by rw [hah.out], hok2, I4, B4⟩
            case measure => simp [intOf]; omega
        · have hh : Hid (ssC fs ns = 151) := ssC_no (fun g => by have := (g k hlt).1; rw [h0] at this; exact absurd this (by decide))
          rw [h0] at CS
          clear h0
          generalize snD (fs k) = E at CS
          generalize snN (fs k) = N at CS
          go_wp2_with fail
          refine CS.mono ?_
          clear CS
          rintro e w2 ⟨rfl, b2⟩
          have B2 : Hid (Below w.heap.size w w2) := BK.out.trans (b2.mono BK.out.size)
          clear b2 IK BK c0 c36
          go_wp2_with (refine wpList_store_any (by rfl) 22 (.tmp 7) (.tmp 29) (by rfl) w2.heap.size (by rfl) (by rfl) (Row.rep (by rfl)) szR32 (by rfl) ?_; intro W4 R4 U4; refine Hid.out ?_)
          unfold Hid
          have B4 : Hid (Below w.heap.size w W4) := U4.below (B2.out.alloc B2.out.size _) B2.out.size (by rw [World.size_alloc]; have := B2.out.size; omega)
          clear R4 U4 B2
          generalize ahead fs k = L
          go_wp2
          go_ret
          exact ⟨by rw [hc.out, hh.out]; rfl, B4.out⟩
      · obtain rfl : k = ns := by omega
        have hh : Hid (ssC fs k = 0) := ssC_yes hok.out
        go_wp2
        go_ret
        exact ⟨by rw [hc.out, hh.out]; rfl, BK.out⟩
  · have hc : Hid (C = unC P z fr nr F) := by
      have h1 := HC.out
      rw [orC_n hU] at h1
      exact h1.symm
    have hU' : (unC P z fr nr F != 0) = true := by rw [bne_iff_ne]; exact hU
    have hU'' : (unC P z fr nr F == 0) = false := by rw [beq_eq_false_iff_ne]; exact hU
    clear HC hU
    generalize unC P z fr nr F = U at CU hc hU' hU''
    go_enter Tryd.func12, Tryd.ntmps12
    go_wp2_with (refine wpList_load_rinf (by rfl) (.tmp 1) (by rfl) (by rfl) I0 ?_; refine Hid.out ?_)
    unfold Hid
    generalize w.alloc (.cells (infC P D z (.slice xr nr cr) F (.slice xs ns cs')) 36) = w0 at I0 B0 ⊢
    go_wp2_with fail
    refine (CU w0 B0).mono ?_
    rintro e w1 ⟨rfl, b1⟩
    go_wp2
    go_ret
    exact ⟨by rw [hc.out]; rfl, B0.trans (b1.mono B0.size)⟩

end Go.Proofs.YtgnlkggodchlbaaDoor
/- info.Parse at the text that the laws read first; walked. -/
namespace Go.Proofs.YtgnlkggodchlbaaDoor
open Go.RowKit Go.Shelf

def fsP : ByteArray := ⟨#[47, 100, 101, 112, 111, 116, 47, 115, 116, 111, 114, 101, 47, 48, 49, 50, 51, 52, 53, 54, 55, 56, 57, 97, 98, 99, 100, 102, 103, 104, 105, 106, 107, 108, 109, 110, 112, 113, 114, 115, 118, 119, 120, 121, 122, 45, 97]⟩
def lnT : ByteArray := ⟨((List.append ([80, 97, 116, 104, 58, 32, 47, 100, 101, 112, 111, 116, 47, 115, 116, 111, 114, 101, 47, 48, 49, 50, 51, 52, 53, 54, 55, 56, 57, 97, 98, 99, 100] : List UInt8) [102, 103, 104, 105, 106, 107, 108, 109, 110, 112, 113, 114, 115, 118, 119, 120, 121, 122, 45, 97, 10, 72, 97, 115, 104, 58, 32, 115, 104, 97, 50, 53, 54, 58]).append (List.append ([48, 48, 48, 48, 48, 48, 48, 48, 48, 48, 48, 48, 48, 48, 48, 48, 48, 48, 48, 48, 48, 48, 48, 48, 48, 48, 48, 48, 48, 48, 48, 48, 48, 48] : List UInt8) [48, 48, 48, 48, 48, 48, 48, 48, 48, 48, 48, 48, 48, 48, 48, 48, 48, 48, 10, 83, 105, 122, 101, 58, 32, 57, 54, 10, 82, 101, 102, 115, 58, 10])).toArray⟩
def ln0 : ByteArray := hdP ++ fsP
def ln1 : ByteArray := hdH ++ ⟨#[48, 48, 48, 48, 48, 48, 48, 48, 48, 48, 48, 48, 48, 48, 48, 48, 48, 48, 48, 48, 48, 48, 48, 48, 48, 48, 48, 48, 48, 48, 48, 48, 48, 48, 48, 48, 48, 48, 48, 48, 48, 48, 48, 48, 48, 48, 48, 48, 48, 48, 48, 48]⟩
def ln2 : ByteArray := hdZ ++ ⟨#[57, 54]⟩
/-- What is left behind k lines. -/
def lnR : Nat → ByteArray
  | 0 => lnT
  | 1 => ⟨#[72, 97, 115, 104, 58, 32, 115, 104, 97, 50, 53, 54, 58, 48, 48, 48, 48, 48, 48, 48, 48, 48, 48, 48, 48, 48, 48, 48, 48, 48, 48, 48, 48, 48, 48, 48, 48, 48, 48, 48, 48, 48, 48, 48, 48, 48, 48, 48, 48, 48, 48, 48, 48, 48, 48, 48, 48, 48, 48, 48, 48, 48, 48, 48, 48, 10, 83, 105, 122, 101, 58, 32, 57, 54, 10, 82, 101, 102, 115, 58, 10]⟩
  | 2 => ⟨#[83, 105, 122, 101, 58, 32, 57, 54, 10, 82, 101, 102, 115, 58, 10]⟩
  | 3 => ⟨#[82, 101, 102, 115, 58, 10]⟩
  | _ => emp
def lnL : Nat → ByteArray
  | 0 => ln0
  | 1 => ln1
  | 2 => ln2
  | _ => hdR
theorem ln_cut : ∀ k, k < 4 → ctA (lnR k) 10 = lnL k ∧ ctB (lnR k) 10 = lnR (k + 1) ∧ ctF (lnR k) 10 = true := by decide +kernel
theorem ln_size : ∀ k, k < 5 → (lnR k).size ≤ 140737488351232 := by decide +kernel
theorem ln_P : rpC ln0 hdP = 0 ∧ rpS ln0 hdP = fsP := by decide +kernel
theorem ln_H : rhC ln1 = 0 := by decide +kernel
theorem ln_Z : rzC ln2 = 0 ∧ rzV ln2 = 96 := by decide +kernel
theorem nl_bt : bt nl 0 = 10 := by decide +kernel
theorem inf_zero : (#[.string ⟨#[]⟩, .int .u8 0, .int .u8 0, .int .u8 0, .int .u8 0, .int .u8 0, .int .u8 0, .int .u8 0, .int .u8 0, .int .u8 0, .int .u8 0, .int .u8 0, .int .u8 0, .int .u8 0, .int .u8 0, .int .u8 0, .int .u8 0, .int .u8 0, .int .u8 0, .int .u8 0, .int .u8 0, .int .u8 0, .int .u8 0, .int .u8 0, .int .u8 0, .int .u8 0, .int .u8 0, .int .u8 0, .int .u8 0, .int .u8 0, .int .u8 0, .int .u8 0, .int .u8 0, .int .i64 0, .slice none 0 0, .string ⟨#[]⟩, .slice none 0 0] : Array Value) = infC ⟨#[]⟩ (fun _ => 0) 0 (.slice none 0 0) ⟨#[]⟩ (.slice none 0 0) := by rfl
theorem inf_one (P : ByteArray) (D : Nat → Int) (z : Int) (vr : Value) (F : ByteArray) (vs : Value) (h1 : vr.oneCell' = true) (h2 : vs.oneCell' = true) : (infC P D z vr F vs).all (·.oneCell') = true := by
  apply all_oneCell_toArray
  intro v hv
  unfold infL at hv
  simp only [List.mem_cons, List.mem_append, List.mem_map, List.mem_nil_iff, or_false] at hv
  rcases hv with rfl | ⟨_, _, rfl⟩ | rfl | rfl | rfl | rfl
  · rfl
  · rfl
  · rfl
  · exact h1
  · rfl
  · exact h2
theorem Inf.there37 {w : World} {g : Nat} {P : ByteArray} {D : Nat → Int} {z : Int} {vr : Value} {F : ByteArray} {vs : Value} (h : Inf w g P D z vr F vs) : w.there g 0 37 := fun j hj => by
  rw [Nat.zero_add]
  refine ⟨?_, h.free j hj⟩
  by_cases h0 : j = 0
  · subst h0; rw [h.path]; rfl
  · by_cases h1 : j < 33
    · obtain ⟨i, rfl⟩ : ∃ i, j = 1 + i := ⟨j - 1, by omega⟩
      rw [h.dig i (by omega)]; rfl
    · rcases (show j = 33 ∨ j = 34 ∨ j = 35 ∨ j = 36 from by omega) with rfl | rfl | rfl | rfl
      · rw [h.size]; rfl
      · rw [h.refs]; rfl
      · rw [h.from_]; rfl
      · rw [h.signs]; rfl
/-- The whole info stored. -/
theorem wpList_store_inf {ops : Array Oper} {rest : List Oper} {o : Oper} {a : Act} {w : World} {Q : Exit → Act → World → Prop} {g : Nat} {P P' : ByteArray} {D D' : Nat → Int} {z z' : Int} {vr vr' : Value} {F F' : ByteArray} {vs vs' : Value} (hgd : o.guard = none) (x y : Operand) (ho : o.op = .store 26 x y)
    (hx : a.eval x = .pointer (some ⟨g, 0, none⟩)) (hy : a.eval y = .agg (infC P' D' z' vr' F' vs')) (h : Inf w g P D z vr F vs) (h1 : vr'.oneCell' = true) (h2 : vs'.oneCell' = true) (hdst : o.dst = none)
    (hK : ∀ W, W.rangeAt g 0 (infL P' D' z' vr' F' vs') → Upd w W g → wpList Tryd.prog ops Q rest a W) : wpList Tryd.prog ops Q (o :: rest) a w := by
  refine wpList_store_mid hgd 26 x y ho g 0 (infC P' D' z' vr' F' vs') hx hy (by rw [infC_size]; exact h.there37) (by rw [infC_size]; exact szINF) (inf_one _ _ _ _ _ _ h1 h2) ?_
  rw [hdst]
  obtain ⟨s1, s2, s3, s4, s5⟩ := setCells_only g (infL P' D' z' vr' F' vs') 0 w
  exact hK _ (World.rangeAt_setCells_same w g 0 (infL P' D' z' vr' F' vs') (by rw [infL_len]; exact h.there37)) ⟨s3, s4, s5, s1, fun i _ hne => s2 i hne⟩
theorem szFLT : (Tryd.prog.info? 42).map (·.size) = some 2 := by kernel_rfl
theorem results_cc {P' : ByteArray} {D' : Nat → Int} {z' : Int} {vr' : Value} {F' : ByteArray} {vs' : Value} {fn : Func} {p q : Tmp} (hr : fn.results = #[.cell p 26, .cell q 42]) (tmps : Array Value) (w : World) (g f : Nat) (a b : Int)
    (hp : tmps.getD p undef = .pointer (some ⟨g, 0, none⟩)) (hq : tmps.getD q undef = .pointer (some ⟨f, 0, none⟩)) (h1 : w.rangeAt g 0 (infL P' D' z' vr' F' vs')) (h2 : w.cell? ⟨f, 0, none⟩ = some (.int .i64 a)) (h3 : w.cell? ⟨f, 1, none⟩ = some (.int .i64 b)) :
    (results fn tmps).run Tryd.prog w = .ok (.tuple #[.agg (infC P' D' z' vr' F' vs'), .agg #[.int .i64 a, .int .i64 b]]) w := by
  have l1 := run_loadVar_mid (P := Tryd.prog) w g 0 26 (infL P' D' z' vr' F' vs') _ h1 Tryd.underlying26 rfl (by rw [szINF]; exact congrArg some (infL_len P' D' z' vr' F' vs').symm)
  have l2 := run_loadVar_mid (P := Tryd.prog) w f 0 42 [.int .i64 a, .int .i64 b] _ (fun j v hj => by
    match j, hj with
    | 0, hj => simp at hj; subst hj; exact h2
    | 1, hj => simp at hj; subst hj; exact h3) Tryd.underlying42 rfl szFLT
  have hp' : tmps[p]?.getD undef = .pointer (some ⟨g, 0, none⟩) := by simpa using hp
  have hq' : tmps[q]?.getD undef = .pointer (some ⟨f, 0, none⟩) := by simpa using hq
  simp [results, hr, hp', hq', asAddr, l1, l2]
  rfl

theorem range_set {w : World} {g : Nat} {L : List Value} (h : w.rangeAt g 0 L) (b i : Nat) (v : Value) (hne : g ≠ b) : (w.setCell ⟨b, i, none⟩ v).rangeAt g 0 L := fun j u hj =>
  (World.cell?_setCell_other _ _ _ _ (fun c => hne (by injection c with c1 _ _; exact c1.symm))).trans (h j u hj)
/-- The info behind k lines. -/
def lnP (k : Nat) : ByteArray := if k = 0 then ⟨#[]⟩ else fsP
def lnD (k : Nat) : Nat → Int := if k ≤ 1 then fun _ => 0 else rhD ln1
def lnZ (k : Nat) : Int := if k ≤ 2 then 0 else 96

set_option maxRecDepth 100000 in
set_option maxHeartbeats 4000000 in
theorem parse_ln (w : World) :
    Calls Tryd.prog 17 #[.string lnT] w fun e w' => e = .returned (.tuple #[.agg (infC fsP (rhD ln1) 96 (.slice none 0 0) ⟨#[]⟩ (.slice none 0 0)), .agg #[.int .i64 0, .int .i64 0]]) ∧ Below w.heap.size w w' := by
  have CT := fun k (hk : k < 4) W => cut_any (lnR k) nl 10 W rfl nl_bt (ln_size k (by omega))
  go_enter Tryd.func17, Tryd.ntmps17
  rw [show (⟨#[10]⟩ : ByteArray) = nl from rfl]
  go_wp2
  rw [inf_zero]
  have J0 : Hid (Inf (((w.alloc (.cells (infC ⟨#[]⟩ (fun _ => 0) 0 (.slice none 0 0) ⟨#[]⟩ (.slice none 0 0)) 26)).alloc (.cells #[.int .i64 0, .int .i64 0] 42)).alloc (.cells (infC ⟨#[]⟩ (fun _ => 0) 0 (.slice none 0 0) ⟨#[]⟩ (.slice none 0 0)) 26)) w.heap.size ⟨#[]⟩ (fun _ => 0) 0 (.slice none 0 0) ⟨#[]⟩ (.slice none 0 0)) :=
    ((Inf.box w 26 _ _ _ _ _ _).same (Below.heap_alloc _ _ _ (by rw [World.size_alloc]; omega))).same (Below.heap_alloc _ _ _ (by rw [World.size_alloc, World.size_alloc]; omega))
  have F0 : Hid (Row .i64 (((w.alloc (.cells (infC ⟨#[]⟩ (fun _ => 0) 0 (.slice none 0 0) ⟨#[]⟩ (.slice none 0 0)) 26)).alloc (.cells #[.int .i64 0, .int .i64 0] 42)).alloc (.cells (infC ⟨#[]⟩ (fun _ => 0) 0 (.slice none 0 0) ⟨#[]⟩ (.slice none 0 0)) 26)) (w.heap.size + 1) 2 (fun _ => 0)) := by
    have := Row.arr (k := .i64) (w := w.alloc (.cells (infC ⟨#[]⟩ (fun _ => 0) 0 (.slice none 0 0) ⟨#[]⟩ (.slice none 0 0)) 26)) (e := 42) (C := #[.int .i64 0, .int .i64 0]) (n := 2) (f := fun _ => 0) (fun j hj => by rcases (show j = 0 ∨ j = 1 from by omega) with rfl | rfl <;> rfl)
    rw [World.size_alloc] at this
    exact this.alloc (by rw [World.size_alloc, World.size_alloc]; omega) _
  have I0 : Hid (Inf (((w.alloc (.cells (infC ⟨#[]⟩ (fun _ => 0) 0 (.slice none 0 0) ⟨#[]⟩ (.slice none 0 0)) 26)).alloc (.cells #[.int .i64 0, .int .i64 0] 42)).alloc (.cells (infC ⟨#[]⟩ (fun _ => 0) 0 (.slice none 0 0) ⟨#[]⟩ (.slice none 0 0)) 26)) (w.heap.size + 2) (lnP 0) (lnD 0) (lnZ 0) (.slice none 0 0) ⟨#[]⟩ (.slice none 0 0)) := by
    have := Inf.box ((w.alloc (.cells (infC ⟨#[]⟩ (fun _ => 0) 0 (.slice none 0 0) ⟨#[]⟩ (.slice none 0 0)) 26)).alloc (.cells #[.int .i64 0, .int .i64 0] 42)) 26 ⟨#[]⟩ (fun _ => 0) 0 (.slice none 0 0) ⟨#[]⟩ (.slice none 0 0)
    rw [World.size_alloc, World.size_alloc] at this
    exact this
  have B0 : Hid (Below w.heap.size w (((w.alloc (.cells (infC ⟨#[]⟩ (fun _ => 0) 0 (.slice none 0 0) ⟨#[]⟩ (.slice none 0 0)) 26)).alloc (.cells #[.int .i64 0, .int .i64 0] 42)).alloc (.cells (infC ⟨#[]⟩ (fun _ => 0) 0 (.slice none 0 0) ⟨#[]⟩ (.slice none 0 0)) 26))) :=
    (((Below.refl _ _).alloc (Nat.le_refl _) _).alloc (by rw [World.size_alloc]; omega) _).alloc (by rw [World.size_alloc, World.size_alloc]; omega) _
  generalize ((w.alloc (.cells (infC ⟨#[]⟩ (fun _ => 0) 0 (.slice none 0 0) ⟨#[]⟩ (.slice none 0 0)) 26)).alloc (.cells #[.int .i64 0, .int .i64 0] 42)).alloc (.cells (infC ⟨#[]⟩ (fun _ => 0) 0 (.slice none 0 0) ⟨#[]⟩ (.slice none 0 0)) 26) = w0 at J0 F0 I0 B0 ⊢
  go_loopw [0, 5] (fun tx xi wr => ∃ k : Nat, k ≤ 4 ∧ xi = .int .i64 (k : Int) ∧ tx = .string (lnR k) ∧ Hid (Inf wr (w.heap.size + 2) (lnP k) (lnD k) (lnZ k) (.slice none 0 0) ⟨#[]⟩ (.slice none 0 0)) ∧ Hid (Inf wr w.heap.size ⟨#[]⟩ (fun _ => 0) 0 (.slice none 0 0) ⟨#[]⟩ (.slice none 0 0)) ∧ Hid (Row .i64 wr (w.heap.size + 1) 2 (fun _ => 0)) ∧ Hid (Below w.heap.size w wr)) (fun _ i _ => 4 - (intOf i).toNat)
  case atStart => exact ⟨0, by omega, rfl, rfl, I0, J0, F0, B0⟩
  case round =>
  clear I0 J0 F0 B0
  obtain ⟨k, hk, rfl, rfl, IR, JR, FR, BR⟩ := hrel
  rcases (show k = 0 ∨ k = 1 ∨ k = 2 ∨ k = 3 ∨ k = 4 from by omega) with rfl | rfl | rfl | rfl | rfl
  · -- line 0
    obtain ⟨q1, q2, q3⟩ := ln_cut 0 (by omega)
    have CC := CT 0 (by omega) wr
    rw [q1, q2, q3] at CC
    clear q1 q2 q3
    go_wp2_with fail
    refine CC.mono ?_
    clear CC
    rintro e w4 ⟨rfl, b4⟩
    have I4 : Inf w4 (w.heap.size + 2) (lnP 0) (lnD 0) (lnZ 0) (.slice none 0 0) ⟨#[]⟩ (.slice none 0 0) := IR.out.below b4 IR.out.lt
    have J4 : Inf w4 w.heap.size ⟨#[]⟩ (fun _ => 0) 0 (.slice none 0 0) ⟨#[]⟩ (.slice none 0 0) := JR.out.below b4 JR.out.lt
    have F4 : Row .i64 w4 (w.heap.size + 1) 2 (fun _ => 0) := FR.out.below b4 (by have := IR.out.lt; omega)
    have B4 : Below w.heap.size w w4 := BR.out.trans (b4.mono BR.out.size)
    clear b4
    have CL := tl0_any (w.heap.size + 2) ln0 w4 I4
    rw [ln_P.1, ln_P.2] at CL
    go_wp2_with fail
    refine CL.mono ?_
    clear CL
    rintro e w5 ⟨rfl, I5, b5⟩
    have I5' : Hid (Inf w5 (w.heap.size + 2) (lnP 1) (lnD 1) (lnZ 1) (.slice none 0 0) ⟨#[]⟩ (.slice none 0 0)) := I5
    have J5 : Hid (Inf w5 w.heap.size ⟨#[]⟩ (fun _ => 0) 0 (.slice none 0 0) ⟨#[]⟩ (.slice none 0 0)) := J4.below b5 (by omega)
    have F5 : Hid (Row .i64 w5 (w.heap.size + 1) 2 (fun _ => 0)) := F4.below b5 (by omega)
    have B5 : Hid (Below w.heap.size w w5) := B4.trans (b5.mono (by omega))
    clear I5 J4 F4 B4 b5 I4 IR JR FR BR
    go_wp2
    go_roundw
    case rel => exact ⟨1, by omega, by go_num, rfl, I5', J5, F5, B5⟩
    case measure => simp [intOf]
  · -- line 1
    obtain ⟨q1, q2, q3⟩ := ln_cut 1 (by omega)
    have CC := CT 1 (by omega) wr
    rw [q1, q2, q3] at CC
    clear q1 q2 q3
    go_wp2_with fail
    refine CC.mono ?_
    clear CC
    rintro e w4 ⟨rfl, b4⟩
    have I4 : Inf w4 (w.heap.size + 2) (lnP 1) (lnD 1) (lnZ 1) (.slice none 0 0) ⟨#[]⟩ (.slice none 0 0) := IR.out.below b4 IR.out.lt
    have J4 : Inf w4 w.heap.size ⟨#[]⟩ (fun _ => 0) 0 (.slice none 0 0) ⟨#[]⟩ (.slice none 0 0) := JR.out.below b4 JR.out.lt
    have F4 : Row .i64 w4 (w.heap.size + 1) 2 (fun _ => 0) := FR.out.below b4 (by have := IR.out.lt; omega)
    have B4 : Below w.heap.size w w4 := BR.out.trans (b4.mono BR.out.size)
    clear b4
    have CL := tl1_any (w.heap.size + 2) ln1 w4 (by decide +kernel) I4
    rw [ln_H] at CL
    go_wp2_with fail
    refine CL.mono ?_
    clear CL
    rintro e w5 ⟨rfl, I5, b5⟩
    have I5' : Hid (Inf w5 (w.heap.size + 2) (lnP 2) (lnD 2) (lnZ 2) (.slice none 0 0) ⟨#[]⟩ (.slice none 0 0)) := I5
    have J5 : Hid (Inf w5 w.heap.size ⟨#[]⟩ (fun _ => 0) 0 (.slice none 0 0) ⟨#[]⟩ (.slice none 0 0)) := J4.below b5 (by omega)
    have F5 : Hid (Row .i64 w5 (w.heap.size + 1) 2 (fun _ => 0)) := F4.below b5 (by omega)
    have B5 : Hid (Below w.heap.size w w5) := B4.trans (b5.mono (by omega))
    clear I5 J4 F4 B4 b5 I4 IR JR FR BR
    go_wp2
    go_roundw
    case rel => exact ⟨2, by omega, by go_num, rfl, I5', J5, F5, B5⟩
    case measure => simp [intOf]
  · -- line 2
    obtain ⟨q1, q2, q3⟩ := ln_cut 2 (by omega)
    have CC := CT 2 (by omega) wr
    rw [q1, q2, q3] at CC
    clear q1 q2 q3
    go_wp2_with fail
    refine CC.mono ?_
    clear CC
    rintro e w4 ⟨rfl, b4⟩
    have I4 : Inf w4 (w.heap.size + 2) (lnP 2) (lnD 2) (lnZ 2) (.slice none 0 0) ⟨#[]⟩ (.slice none 0 0) := IR.out.below b4 IR.out.lt
    have J4 : Inf w4 w.heap.size ⟨#[]⟩ (fun _ => 0) 0 (.slice none 0 0) ⟨#[]⟩ (.slice none 0 0) := JR.out.below b4 JR.out.lt
    have F4 : Row .i64 w4 (w.heap.size + 1) 2 (fun _ => 0) := FR.out.below b4 (by have := IR.out.lt; omega)
    have B4 : Below w.heap.size w w4 := BR.out.trans (b4.mono BR.out.size)
    clear b4
    have CL := tl2_any (w.heap.size + 2) ln2 w4 (by decide +kernel) I4
    rw [ln_Z.1, ln_Z.2] at CL
    go_wp2_with fail
    refine CL.mono ?_
    clear CL
    rintro e w5 ⟨rfl, I5, b5⟩
    have I5' : Hid (Inf w5 (w.heap.size + 2) (lnP 3) (lnD 3) (lnZ 3) (.slice none 0 0) ⟨#[]⟩ (.slice none 0 0)) := I5
    have J5 : Hid (Inf w5 w.heap.size ⟨#[]⟩ (fun _ => 0) 0 (.slice none 0 0) ⟨#[]⟩ (.slice none 0 0)) := J4.below b5 (by omega)
    have F5 : Hid (Row .i64 w5 (w.heap.size + 1) 2 (fun _ => 0)) := F4.below b5 (by omega)
    have B5 : Hid (Below w.heap.size w w5) := B4.trans (b5.mono (by omega))
    clear I5 J4 F4 B4 b5 I4 IR JR FR BR
    go_wp2
    go_roundw
    case rel => exact ⟨3, by omega, by go_num, rfl, I5', J5, F5, B5⟩
    case measure => simp [intOf]
  · -- line 3
    obtain ⟨q1, q2, q3⟩ := ln_cut 3 (by omega)
    have CC := CT 3 (by omega) wr
    rw [q1, q2, q3] at CC
    clear q1 q2 q3
    go_wp2_with fail
    refine CC.mono ?_
    clear CC
    rintro e w4 ⟨rfl, b4⟩
    have I4 : Inf w4 (w.heap.size + 2) (lnP 3) (lnD 3) (lnZ 3) (.slice none 0 0) ⟨#[]⟩ (.slice none 0 0) := IR.out.below b4 IR.out.lt
    have J4 : Inf w4 w.heap.size ⟨#[]⟩ (fun _ => 0) 0 (.slice none 0 0) ⟨#[]⟩ (.slice none 0 0) := JR.out.below b4 JR.out.lt
    have F4 : Row .i64 w4 (w.heap.size + 1) 2 (fun _ => 0) := FR.out.below b4 (by have := IR.out.lt; omega)
    have B4 : Below w.heap.size w w4 := BR.out.trans (b4.mono BR.out.size)
    clear b4
    have CL := tl3_empty (w.heap.size + 2) w4 I4
    skip
    go_wp2_with fail
    refine CL.mono ?_
    clear CL
    rintro e w5 ⟨rfl, I5, b5⟩
    have I5' : Hid (Inf w5 (w.heap.size + 2) (lnP 4) (lnD 4) (lnZ 4) (.slice none 0 0) ⟨#[]⟩ (.slice none 0 0)) := I5
    have J5 : Hid (Inf w5 w.heap.size ⟨#[]⟩ (fun _ => 0) 0 (.slice none 0 0) ⟨#[]⟩ (.slice none 0 0)) := J4.below b5 (by omega)
    have F5 : Hid (Row .i64 w5 (w.heap.size + 1) 2 (fun _ => 0)) := F4.below b5 (by omega)
    have B5 : Hid (Below w.heap.size w w5) := B4.trans (b5.mono (by omega))
    clear I5 J4 F4 B4 b5 I4 IR JR FR BR
    go_wp2
    go_roundw
    case rel => exact ⟨4, by omega, by go_num, rfl, I5', J5, F5, B5⟩
    case measure => simp [intOf]
  · clear CT
    have hz : Hid (w.heap.size + 2 < wr.heap.size) := IR.out.lt
    have eR : lnR 4 = ⟨#[]⟩ := rfl
    rw [eR]
    have IR' : Inf wr (w.heap.size + 2) fsP (rhD ln1) 96 (.slice none 0 0) ⟨#[]⟩ (.slice none 0 0) := IR.out
    have JR' := JR.out
    have c0 := FR.out.cell 0 (by omega)
    have c1 := FR.out.cell 1 (by omega)
    have f0 := FR.out.free 0 (by omega)
    have f1 := FR.out.free 1 (by omega)
    clear IR JR
    go_wp2_with (first
      | (refine wpList_load_inf (by rfl) (.tmp 4) (by rfl) (by rfl) IR' ?_)
      | (refine wpList_store_inf (by rfl) (.tmp 2) (.tmp 39) (by rfl) (by rfl) (by rfl) JR' rfl rfl (by rfl) ?_; intro W5 R5 U5; refine Hid.out ?_))
    unfold Hid
    have F5 : Row .i64 W5 (w.heap.size + 1) 2 (fun _ => 0) := FR.out.upd U5 (by have := hz.out; omega) (by omega)
    have B5 : Hid (Below w.heap.size w W5) := U5.below BR.out (Nat.le_refl _) (by have := hz.out; omega)
    have d0 := F5.cell 0 (by omega)
    have d1 := F5.cell 1 (by omega)
    have g0 := F5.free 0 (by omega)
    have g1 := F5.free 1 (by omega)
    clear c0 c1 f0 f1 FR BR
    go_wp2
    refine bodyPost_ret (results_cc Tryd.results17 _ _ w.heap.size (w.heap.size + 1) 0 0 rfl rfl (range_set (range_set R5 _ _ _ (by omega)) _ _ _ (by omega)) ?_ ?_) rfl ⟨rfl, (B5.out.setCell (by show _ ≤ w.heap.size + 1; omega) _).setCell (by show _ ≤ w.heap.size + 1; omega) _⟩
    · exact ((F5.set 0 0 (by omega)).set 1 0 (by omega)).cell 0 (by omega)
    · exact ((F5.set 0 0 (by omega)).set 1 0 (by omega)).cell 1 (by omega)

end Go.Proofs.YtgnlkggodchlbaaDoor
