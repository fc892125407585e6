/- What radix.FromBase32 answers. -/
import Derived.Test.YtjhbfkckkinfjaaDoorB32N
namespace Go.Proofs.YtjhbfkckkinfjaaDoor
open Go.RowKit
/-- Are the first k bytes letters? -/
def fbOk (s : ByteArray) (k : Nat) : Bool := (List.range k).all (fun j => decide (0 ≤ vl (bt s j)))
theorem fbOk_iff (s : ByteArray) (k : Nat) : fbOk s k = true ↔ ∀ j, j < k → 0 ≤ vl (bt s j) := by
  unfold fbOk; rw [List.all_eq_true]; simp
theorem fbOk_no (s : ByteArray) (k j : Nat) (hj : j < k) (h : vl (bt s j) < 0) : fbOk s k = false := by
  rw [Bool.eq_false_iff]; intro e; have := (fbOk_iff s k).1 e j hj; omega
/-- The number that the last j letters are, the last the lowest. -/
def vnum (s : ByteArray) (j : Nat) : Nat := num 32 (fun t => (vl (bt s (s.size - 1 - t))).toNat) j
def fbErr (s : ByteArray) : Int := if lf (5 * s.size / 8) = s.size then (if fbOk s s.size = true then (if vnum s s.size / 256 ^ (5 * s.size / 8) % 256 = 0 then 0 else 22) else 20) else 21
def fbFn (x i : Nat) : Int := ((x / 256 ^ i % 256 : Nat) : Int)
def fbStr (s : ByteArray) : ByteArray := if fbErr s = 0 then strFn (5 * s.size / 8) (fbFn (vnum s s.size)) else ⟨#[]⟩

theorem vnum_lt (s : ByteArray) (k : Nat) : vnum s k < 32 ^ k :=
  num_lt 32 _ k (by omega) (fun i _ => by have := vl_spec _ (bt_bd s (s.size - 1 - i)); omega)

theorem vnum_succ (s : ByteArray) (k v : Nat) (h : vl (bt s (s.size - 1 - k)) = v) : vnum s (k + 1) = vnum s k + v * 32 ^ k := by
  unfold vnum
  rw [num, h]
  rfl

theorem pow2_lt (r : Nat) (h : r < 8) : 1 ≤ 2 ^ r ∧ 2 ^ r ≤ 128 := by
  rcases (show r = 0 ∨ r = 1 ∨ r = 2 ∨ r = 3 ∨ r = 4 ∨ r = 5 ∨ r = 6 ∨ r = 7 from by omega) with rfl | rfl | rfl | rfl | rfl | rfl | rfl | rfl
  all_goals omega

theorem top_room (y p r : Nat) (h : r < 8) (hp : p = 2 ^ r) (hd : y % 256 % p = 0) : y % 256 + p ≤ 256 := by
  have h256 : 256 = p * 2 ^ (8 - r) := by rw [hp, ← Nat.pow_add, show r + (8 - r) = 8 from by omega]
  obtain ⟨t, ht⟩ := Nat.dvd_of_mod_eq_zero hd
  have hlt : y % 256 < 256 := Nat.mod_lt _ (by omega)
  rw [ht, h256] at hlt
  have h3 : t + 1 ≤ 2 ^ (8 - r) := Nat.lt_of_mul_lt_mul_left hlt
  have h4 : p * (t + 1) ≤ p * 2 ^ (8 - r) := Nat.mul_le_mul_left _ h3
  rw [← h256, Nat.mul_add, Nat.mul_one] at h4
  rw [ht]
  exact h4

theorem mid_core (x y p r : Nat) (h : r < 8) (hp : p = 2 ^ r) (hx : x < p) (hp8 : p ≤ 128) (_hy : y < 4096) (hd : y % 256 % p = 0) :
    bits .or .u8 ((x % 256 : Nat) : Int) ((y : Int) % 256) = (((x + y) % 256 : Nat) : Int) ∧ bits .or .u8 0 ((y : Int) / 256 % 256) = (((x + y) / 256 % 256 : Nat) : Int) := by
  have hb := top_room y p r h hp hd
  have hj : y % 256 ||| x % 256 = y % 256 + x % 256 := nat_join r _ _ (by rw [← hp]; exact hd) (by rw [← hp]; omega)
  constructor
  · rw [show ((y : Int) % 256) = ((y % 256 : Nat) : Int) from by omega, u8_or_nat _ _ (by omega) (by omega), Nat.or_comm, hj]
    omega
  · rw [show ((y : Int) / 256 % 256) = ((y / 256 % 256 : Nat) : Int) from by omega]
    have := u8_or_nat 0 (y / 256 % 256) (by omega) (by omega)
    rw [Nat.zero_or] at this
    rw [show (0 : Int) = ((0 : Nat) : Int) from rfl, this]
    omega

theorem step_mid (x v r : Nat) (h : r < 8) (hx : x < 2 ^ r) (hv : v < 32) :
    bits .or .u8 ((x % 256 : Nat) : Int) (wrap64 ((v : Int) * 2 ^ r) % 256) = (((x + v * 2 ^ r) % 256 : Nat) : Int) ∧ bits .or .u8 0 (wrap64 ((v : Int) * 2 ^ r) / 256 % 256) = (((x + v * 2 ^ r) / 256 % 256 : Nat) : Int) := by
  have hp := pow2_lt r h
  have hvp : v * 2 ^ r < 4096 := Nat.lt_of_le_of_lt (Nat.mul_le_mul (show v ≤ 31 by omega) hp.2) (by omega)
  have hw : wrap64 ((v : Int) * 2 ^ r) = ((v * 2 ^ r : Nat) : Int) := by
    rw [show ((v : Int) * 2 ^ r) = ((v * 2 ^ r : Nat) : Int) from by rw [Int.natCast_mul, Int.natCast_pow]; rfl]
    generalize v * 2 ^ r = y at hvp ⊢
    exact IntWalk.wrap64_in _ ⟨by omega, by omega⟩
  rw [hw]
  have hd : v * 2 ^ r % 256 % 2 ^ r = 0 := by
    rw [Nat.mod_mod_of_dvd _ (show 2 ^ r ∣ 256 from by rw [show (256 : Nat) = 2 ^ 8 from rfl]; exact Nat.pow_dvd_pow 2 (by omega)), Nat.mul_mod_left]
  exact mid_core x (v * 2 ^ r) (2 ^ r) r h rfl hx hp.2 hvp hd

theorem high_zero (t y : Nat) (h : t < 128) (g : y < 4096) : (t + y) / 256 / 256 = 0 := by omega

theorem step32 (V k v : Nat) (hV : V < 32 ^ k) (hv : v < 32) (i : Nat) :
    (if i = 5 * k / 8 + 1 then bits .or .u8 (fbFn V (5 * k / 8 + 1)) (wrap64 ((v : Int) * 2 ^ (5 * k % 8)) / 256 % 256) else if i = 5 * k / 8 then bits .or .u8 (fbFn V (5 * k / 8)) (wrap64 ((v : Int) * 2 ^ (5 * k % 8)) % 256) else fbFn V i) = fbFn (V + v * 32 ^ k) i := by
  rw [pow32 k] at hV ⊢
  have hr : 5 * k % 8 < 8 := Nat.mod_lt _ (by omega)
  generalize 5 * k / 8 = q at hV ⊢
  generalize 5 * k % 8 = r at hV hr ⊢
  have hp := pow2_lt r hr
  have hx : V / 256 ^ q < 2 ^ r := (Nat.div_lt_iff_lt_mul (Nat.pow_pos (by omega))).2 (by rw [Nat.mul_comm]; exact hV)
  have hq : (V + v * (256 ^ q * 2 ^ r)) / 256 ^ q = V / 256 ^ q + v * 2 ^ r := by
    rw [← Nat.mul_assoc, Nat.mul_comm v, Nat.mul_assoc, Nat.add_mul_div_left _ _ (Nat.pow_pos (by omega))]
  have hx8 : V / 256 ^ q < 128 := Nat.lt_of_lt_of_le hx hp.2
  have hz : V / 256 ^ (q + 1) = 0 := by rw [Nat.pow_succ, ← Nat.div_div_eq_div_mul]; exact Nat.div_eq_of_lt (Nat.lt_trans hx8 (by omega))
  have hm := step_mid (V / 256 ^ q) v r hr hx hv
  unfold fbFn
  by_cases e1 : i = q + 1
  · rw [if_pos e1, e1, hz, Nat.pow_succ, ← Nat.div_div_eq_div_mul, hq]
    exact hm.2
  · rw [if_neg e1]
    by_cases e2 : i = q
    · rw [if_pos e2, e2, hq]
      exact hm.1
    · rw [if_neg e2]
      congr 1
      by_cases e3 : i < q
      · obtain ⟨d, rfl⟩ : ∃ d, q = i + 1 + d := ⟨q - i - 1, by omega⟩
        have : v * (256 ^ (i + 1 + d) * 2 ^ r) = 256 ^ i * (256 * (v * (256 ^ d * 2 ^ r))) := by
          rw [Nat.pow_add, Nat.pow_succ]
          simp only [Nat.mul_assoc, Nat.mul_comm, Nat.mul_left_comm]
        rw [this, Nat.add_mul_div_left _ _ (Nat.pow_pos (by omega)), Nat.add_mul_mod_self_left]
      · obtain ⟨d, rfl⟩ : ∃ d, i = q + 1 + 1 + d := ⟨i - q - 2, by omega⟩
        have hvp : v * 2 ^ r < 4096 := Nat.lt_of_le_of_lt (Nat.mul_le_mul (show v ≤ 31 by omega) hp.2) (by omega)
        have h2 : (V + v * (256 ^ q * 2 ^ r)) / 256 ^ (q + 1 + 1) = 0 := by
          rw [Nat.pow_succ, Nat.pow_succ, ← Nat.div_div_eq_div_mul, ← Nat.div_div_eq_div_mul, hq]
          exact high_zero _ _ hx8 hvp
        rw [Nat.pow_add, ← Nat.div_div_eq_div_mul, ← Nat.div_div_eq_div_mul, h2, Nat.pow_succ 256 (q + 1), ← Nat.div_div_eq_div_mul, hz]

set_option maxHeartbeats 400000 in
set_option maxRecDepth 100000 in
theorem fb32_len (s : ByteArray) (w : World) (hs : s.size ≤ 281474976710656) (hl : lf (5 * s.size / 8) ≠ s.size) :
    Calls Tryd.prog 64 #[.string s] w fun e w' => e = .returned (.tuple #[.string ⟨#[]⟩, .int .i64 21]) ∧ Below w.heap.size w w' := by
  have ht : ((lf (5 * s.size / 8) : Int) != (s.size : Int)) = true := by rw [bne_iff_ne]; omega
  go_enter Tryd.func64, Tryd.ntmps64
  go_wp2_with fail
  rw [show (5 * (s.size : Int) / 8) = ((5 * s.size / 8 : Nat) : Int) from by omega]
  refine (lf_any _ _ (by omega)).mono ?_
  rintro e w1 ⟨rfl, rfl⟩
  go_wp2
  go_ret2
  exact ⟨rfl, Below.refl _ _⟩

set_option maxHeartbeats 1000000 in
set_option maxRecDepth 100000 in
theorem fb32_go (s : ByteArray) (n : Nat) (w : World) (hs : s.size ≤ 281474976710656) (hn : n = 5 * s.size / 8) (hl : lf n = s.size) :
    Calls Tryd.prog 64 #[.string s] w fun e w' => e = .returned (.tuple #[.string (fbStr s), .int .i64 (fbErr s)]) ∧ Below w.heap.size w w' := by
  obtain ⟨i0, hi, hz0, hz1, hz2⟩ := info_parts Tryd.hinfo5
  have hbad : Hid (fbOk s s.size = false → fbStr s = ⟨#[]⟩ ∧ fbErr s = 20) := fun h => by
    have e : fbErr s = 20 := by unfold fbErr; rw [← hn, if_pos hl, h, if_neg (by simp)]
    refine ⟨?_, e⟩
    unfold fbStr; rw [e, if_neg (by omega)]
  have hspare : Hid (fbOk s s.size = true → fbFn (vnum s s.size) n ≠ 0 → fbStr s = ⟨#[]⟩ ∧ fbErr s = 22) := fun h g => by
    have e : fbErr s = 22 := by unfold fbErr; rw [← hn, if_pos hl, h, if_pos rfl, if_neg (by unfold fbFn at g; omega)]
    refine ⟨?_, e⟩
    unfold fbStr; rw [e, if_neg (by omega)]
  have hgood : Hid (fbOk s s.size = true → fbFn (vnum s s.size) n = 0 → fbStr s = strFn n (fbFn (vnum s s.size)) ∧ fbErr s = 0) := fun h g => by
    have e : fbErr s = 0 := by unfold fbErr; rw [← hn, if_pos hl, h, if_pos rfl, if_pos (by unfold fbFn at g; omega)]
    refine ⟨?_, e⟩
    unfold fbStr; rw [e, if_pos rfl, ← hn]
  have hm : 5 * s.size ≤ 8 * n + 4 := by unfold lf at hl; omega
  have hm2 : 8 * n ≤ 5 * s.size := by omega
  have e0 : Hid (5 * (s.size : Int) / 8 = (n : Int)) := by unfold Hid; omega
  have HL : Hid (lf n = s.size) := hl
  clear hn hl
  have ht : ((s.size : Int) != (s.size : Int)) = false := by simp
  go_enter Tryd.func64, Tryd.ntmps64
  go_wp2_with fail
  rw [e0.out]
  refine (lf_any n _ (by omega)).mono ?_
  rintro e w1 ⟨rfl, rfl⟩
  rw [HL.out]
  go_wp2
  go_loop [20] (fun i => ∃ k : Nat, k ≤ s.size ∧ i = .int .i64 k ∧ (∀ j, j < k → 0 ≤ vl (bt s j))) (fun i => s.size - (intOf i).toNat)
  case atStart => exact ⟨0, Nat.zero_le _, rfl, fun j hj => absurd hj (by omega)⟩
  case round =>
    obtain ⟨k, hk, rfl, hok⟩ := hrel
    have HOK : Hid (∀ j, j < k → 0 ≤ vl (bt s j)) := hok
    clear hok
    have hb := get_bt s
    by_cases hlt : k < s.size
    · have hx := vl_spec _ (bt_bd s k)
      have hx0 : -1 ≤ vl (bt s k) := by omega
      clear hx
      go_wp2_with fail
      refine (value_any _ _).mono ?_
      rintro e w2 ⟨rfl, rfl⟩
      by_cases g : vl (bt s k) < 0
      · go_wp2
        go_ret2
        rw [(hbad.out (fbOk_no s s.size k hlt g)).1, (hbad.out (fbOk_no s s.size k hlt g)).2]
        exact ⟨rfl, Below.refl _ _⟩
      · go_wp2
        go_round
        case rel =>
          refine ⟨k + 1, by omega, by go_num, fun j hj => ?_⟩
          by_cases e : j = k
          · rw [e]; omega
          · exact HOK.out j (by omega)
        case measure => simp [intOf]; omega
    · have hall : Hid (fbOk s s.size = true) := (fbOk_iff s s.size).2 (fun j hj => HOK.out j (by omega))
      have HV : Hid (∀ j, j < s.size → 0 ≤ vl (bt s j)) := fun j hj => HOK.out j (by omega)
      clear HOK
      go_wp2_with fail
      rw [show ((n : Int) + 1) = ((n + 1 : Nat) : Int) from by omega]
      rw [run_make (P := Tryd.prog) w1 39 5 i0 (.int .u8 0) Tryd.underlying39 hi hz0 .i64 .i64 _ _ (by omega) (by omega) (by rw [hz2]; omega) (by omega)]
      have R0 : Row .u8 (w1.alloc (.cells (madeCells (Value.int .u8 0).cells (((n + 1 : Nat) : Int).toNat * i0.size)) 5)) w1.heap.size (n + 1) (fun _ => 0) := Row.made (by rw [hz1]; omega)
      have B0 : Below w1.heap.size w1 (w1.alloc (.cells (madeCells (Value.int .u8 0).cells (((n + 1 : Nat) : Int).toNat * i0.size)) 5)) := (Below.refl _ _).alloc (Nat.le_refl _) _
      generalize w1.alloc (.cells (madeCells (Value.int .u8 0).cells (((n + 1 : Nat) : Int).toNat * i0.size)) 5) = W1 at R0 B0 ⊢
      rw [Int.toNat_natCast]
      clear hi hz0 hz1 hz2
      go_wp2
      go_loopw [33] (fun i wr => ∃ k : Nat, k ≤ s.size ∧ i = .int .i64 k ∧ Row .u8 wr w1.heap.size (n + 1) (fbFn (vnum s k)) ∧ Below w1.heap.size w1 wr) (fun i _ => s.size - (intOf i).toNat)
      case atStart => exact ⟨0, Nat.zero_le _, rfl, R0.congr (fun j hj => by simp [fbFn, vnum, num]), B0⟩
      case round =>
        obtain ⟨k, hk, rfl, R, B⟩ := hrel
        by_cases hlt2 : k < s.size
        · have hv0 := HV.out (s.size - 1 - k) (by omega)
          have hx := vl_spec _ (bt_bd s (s.size - 1 - k))
          have hv1 : vl (bt s (s.size - 1 - k)) < 32 := by omega
          clear hx
          have c1 := R.cell (5 * k / 8) (by omega)
          have f1 := R.free (5 * k / 8) (by omega)
          have c2 := R.cell (5 * k / 8 + 1) (by omega)
          have f2 := R.free (5 * k / 8 + 1) (by omega)
          go_wp2_with fail
          refine (value_any _ _).mono ?_
          rintro e w2 ⟨rfl, rfl⟩
          have hvlt : Hid (vnum s k < 32 ^ k) := vnum_lt s k
          generalize hvx : vl (bt s (s.size - 1 - k)) = x at hv0 hv1 ⊢
          have hvd : Hid (vl (bt s (s.size - 1 - k)) = x) := hvx
          clear hvx
          go_wp2
          go_roundw
          case rel =>
            refine ⟨k + 1, by omega, by go_num, ((R.set (5 * k / 8) _ (by omega)).set (5 * k / 8 + 1) _ (by omega)).congr (fun j hj => ?_), (B.setCell (Nat.le_refl _) _).setCell (Nat.le_refl _) _⟩
            obtain ⟨v, rfl⟩ : ∃ v : Nat, x = v := ⟨x.toNat, by omega⟩
            rw [vnum_succ s k v hvd.out]
            exact step32 (vnum s k) k v (hvlt.out) (by omega) j
          case measure => simp [intOf]; omega
        · have c1 := R.cell n (by omega)
          have hk' : k = s.size := by omega
          subst hk'
          by_cases g : fbFn (vnum s s.size) n = 0
          · have ht2 : (fbFn (vnum s s.size) n != 0) = false := by rw [g]; rfl
            have G : Hid (fbFn (vnum s s.size) n = 0) := g
            clear g
            have c2 := run_string_row (P := Tryd.prog) (src := 39) (dst := 9) (c := n + 1) Tryd.underlying39 Tryd.underlying5 Tryd.underlying9 (R.take (Nat.le_succ n))
            go_wp2
            go_ret2
            rw [(hgood.out hall.out G.out).1, (hgood.out hall.out G.out).2]
            exact ⟨rfl, B⟩
          · have ht2 : (fbFn (vnum s s.size) n != 0) = true := by rw [bne_iff_ne]; exact g
            have G : Hid (fbFn (vnum s s.size) n ≠ 0) := g
            clear g
            go_wp2
            go_ret2
            rw [(hspare.out hall.out G.out).1, (hspare.out hall.out G.out).2]
            exact ⟨rfl, B⟩

theorem fb32_any (s : ByteArray) (w : World) (hs : s.size ≤ 281474976710656) :
    Calls Tryd.prog 64 #[.string s] w fun e w' => e = .returned (.tuple #[.string (fbStr s), .int .i64 (fbErr s)]) ∧ Below w.heap.size w w' := by
  by_cases h : lf (5 * s.size / 8) = s.size
  · exact fb32_go s _ w hs rfl h
  · have e : fbErr s = 21 := by unfold fbErr; rw [if_neg h]
    have e2 : fbStr s = ⟨#[]⟩ := by unfold fbStr; rw [e, if_neg (by omega)]
    rw [e, e2]
    exact fb32_len s w hs h
#print axioms fb32_any
end Go.Proofs.YtjhbfkckkinfjaaDoor
