/- What radix.Base32 and radix.Value answer. -/
import Derived.Test.YtjhbfkckkinfjaaDoorHexA
import Derived.Test.YtjhbfkckkinfjaaDoorPtV
import Derived.Test.YtjhbfkckkinfjaaDoorNum
namespace Go.Proofs.YtjhbfkckkinfjaaDoor
open Go.RowKit
/-- How many letters n bytes take. -/
def lf (n : Nat) : Nat := (8 * n + 4) / 5
def b32Fn (s : ByteArray) (i : Nat) : Int := lt32 (fb s (5 * (lf s.size - 1 - i)))
def b32Str (s : ByteArray) : ByteArray := strFn (lf s.size) (b32Fn s)

theorem or_i64w (x y : Int) (h0 : 0 ≤ x) (h1 : x < 256) (h2 : 0 ≤ y) (h3 : y < 256) : bits .or .i64 x (y * 256) = x + 256 * y := by
  have e : bits .or .i64 x (y * 256) = ((x.toNat ||| (y * 256).toNat : Nat) : Int) := by
    obtain ⟨a, rfl⟩ := Int.eq_ofNat_of_zero_le h0
    obtain ⟨b, rfl⟩ := Int.eq_ofNat_of_zero_le h2
    have hk : ∀ n : Int, 0 ≤ n → n < 2 ^ 16 → IntKind.i64.wrap n = n := fun n g0 g1 => by rw [IntKind.wrap_i64]; omega
    have := (bits_nat .i64 16 (by decide) hk a (b * 256) (by omega) (by omega)).2
    rw [show ((b : Int) * 256) = ((b * 256 : Nat) : Int) from by omega, this]
    rfl
  rw [e, Nat.or_comm, nat_join 8 _ _ (by omega) (by omega)]
  omega

theorem and_i64w (x : Int) (h0 : 0 ≤ x) (h1 : x < 65536) : bits .and .i64 x 31 = x % 32 := by
  have hk : ∀ n : Int, 0 ≤ n → n < 2 ^ 16 → IntKind.i64.wrap n = n := fun n g0 g1 => by rw [IntKind.wrap_i64]; omega
  exact bits_mask .i64 16 (by decide) hk 5 (by decide) x h0 h1

set_option maxHeartbeats 400000 in
theorem lf_any (n : Nat) (w : World) (h : n ≤ 281474976710656) : Calls Tryd.prog 24 #[.int .i64 n] w fun e w' => e = .returned (.int .i64 (lf n)) ∧ w' = w := by
  have e : Hid ((lf n : Int) = (8 * (n : Int) + 4) / 5) := by unfold Hid lf; omega
  go_enter Tryd.func24, Tryd.ntmps24
  go_wp2
  go_ret
  rw [e.out]
  exact ⟨rfl, rfl⟩

theorem ret_i {k : IntKind} {a b : Int} (h : a = b) : Ending.returned (.int k a) = .returned (.int k b) := by rw [h]

theorem pw_cases (r : Nat) (h : r < 8) (x : Int) (h0 : 0 ≤ x) (h1 : x < 65536) : 0 ≤ x / 2 ^ r ∧ x / 2 ^ r < 65536 := by
  rcases (show r = 0 ∨ r = 1 ∨ r = 2 ∨ r = 3 ∨ r = 4 ∨ r = 5 ∨ r = 6 ∨ r = 7 from by omega) with rfl | rfl | rfl | rfl | rfl | rfl | rfl | rfl
  all_goals omega

theorem fb_of1 (s : ByteArray) (k : Nat) (b0 : 0 ≤ bt s (k / 8) ∧ bt s (k / 8) < 256) (b1 : 0 ≤ bt s (k / 8 + 1) ∧ bt s (k / 8 + 1) < 256) :
    bits .and .i64 (bits .or .i64 (bt s (k / 8)) (bt s (k / 8 + 1) * 256) / 2 ^ (k % 8)) 31 = fb s k := by
  rw [or_i64w _ _ b0.1 b0.2 b1.1 b1.2]
  have h := pw_cases (k % 8) (Nat.mod_lt _ (by omega)) (bt s (k / 8) + 256 * bt s (k / 8 + 1)) (by omega) (by omega)
  rw [and_i64w _ h.1 h.2]
  rfl

theorem fb_of2 (s : ByteArray) (k : Nat) (b0 : 0 ≤ bt s (k / 8) ∧ bt s (k / 8) < 256) (b1 : bt s (k / 8 + 1) = 0) :
    bits .and .i64 (bt s (k / 8) / 2 ^ (k % 8)) 31 = fb s k := by
  have h := pw_cases (k % 8) (Nat.mod_lt _ (by omega)) (bt s (k / 8)) (by omega) (by omega)
  rw [and_i64w _ h.1 h.2]
  unfold fb
  rw [b1]
  simp

set_option maxHeartbeats 400000 in
theorem fb_any (s : ByteArray) (k : Nat) (w : World) (hs : s.size ≤ 140737488351232) (hk : k < 8 * s.size) :
    Calls Tryd.prog 25 #[.string s, .int .i64 k] w fun e w' => e = .returned (.int .i64 (fb s k)) ∧ w' = w := by
  have hb := get_bt s
  have b0 := bt_bd s (k / 8)
  have b1 := bt_bd s (k / 8 + 1)
  have hk8 : k / 8 < s.size := by omega
  by_cases h : k / 8 + 1 < s.size
  · go_enter Tryd.func25, Tryd.ntmps25
    go_wp2
    go_ret
    exact ⟨ret_i (fb_of1 s k b0 b1), rfl⟩
  · have hz : bt s (k / 8 + 1) = 0 := by unfold bt; rw [dif_neg h]
    have HZ : Hid (bt s (k / 8 + 1) = 0) := hz
    clear hz b1
    go_enter Tryd.func25, Tryd.ntmps25
    go_wp2
    go_ret
    exact ⟨ret_i (fb_of2 s k b0 HZ.out), rfl⟩

set_option maxHeartbeats 400000 in
set_option maxRecDepth 100000 in
theorem b32_any (s : ByteArray) (w : World) (hs : s.size ≤ 140737488351232) :
    Calls Tryd.prog 12 #[.string s] w fun e w' => e = .returned (.string (b32Str s)) ∧ Below w.heap.size w w' := by
  obtain ⟨i0, hi, hz0, hz1, hz2⟩ := info_parts Tryd.hinfo5
  have hl : 5 * lf s.size ≤ 8 * s.size + 4 := by unfold lf; omega
  go_enter Tryd.func12, Tryd.ntmps12
  go_wp2_with fail
  refine (lf_any s.size _ (by omega)).mono ?_
  rintro e w1 ⟨rfl, rfl⟩
  have hd : Hid (b32Str s = strFn (lf s.size) (b32Fn s)) := rfl
  have hfn : Hid (∀ i, b32Fn s i = lt32 (fb s (5 * (lf s.size - 1 - i)))) := fun i => rfl
  generalize lf s.size = m at hl hd hfn ⊢
  go_wp2_with fail
  rw [run_make (P := Tryd.prog) w1 39 5 i0 (.int .u8 0) Tryd.underlying39 hi hz0 .i64 .i64 _ _ (by omega) (by omega) (by rw [hz2]; omega) (by omega)]
  have R0 : Row .u8 (w1.alloc (.cells (madeCells (Value.int .u8 0).cells ((m : Int).toNat * i0.size)) 5)) w1.heap.size m (fun _ => 0) := Row.made (by rw [hz1]; omega)
  have B0 : Below w1.heap.size w1 (w1.alloc (.cells (madeCells (Value.int .u8 0).cells ((m : Int).toNat * i0.size)) 5)) := (Below.refl _ _).alloc (Nat.le_refl _) _
  generalize w1.alloc (.cells (madeCells (Value.int .u8 0).cells ((m : Int).toNat * i0.size)) 5) = W1 at R0 B0 ⊢
  rw [Int.toNat_natCast]
  clear hi hz0 hz1 hz2
  go_wp2
  go_loopw [12] (fun i wr => ∃ k : Nat, k ≤ m ∧ i = .int .i64 k ∧ Row .u8 wr w1.heap.size m (fun j => if m - k ≤ j then b32Fn s j else 0) ∧ Below w1.heap.size w1 wr) (fun i _ => m - (intOf i).toNat)
  case atStart => exact ⟨0, Nat.zero_le _, rfl, R0.congr (fun j hj => by rw [if_neg (by omega)]), B0⟩
  case round =>
    obtain ⟨k, hk, rfl, R, B⟩ := hrel
    by_cases hlt : k < m
    · have c1 := R.cell (m - 1 - k) (by omega)
      have f1 := R.free (m - 1 - k) (by omega)
      have hfb : 0 ≤ fb s (5 * k) ∧ fb s (5 * k) < 32 := by unfold fb; omega
      have hd2 := get_bt ⟨#[48, 49, 50, 51, 52, 53, 54, 55, 56, 57, 97, 98, 99, 100, 102, 103, 104, 105, 106, 107, 108, 109, 110, 112, 113, 114, 115, 118, 119, 120, 121, 122]⟩
      go_wp2_with fail
      rw [show (5 * (k : Int)) = ((5 * k : Nat) : Int) from by omega]
      refine (fb_any s (5 * k) _ hs (by omega)).mono ?_
      rintro e w2 ⟨rfl, rfl⟩
      have he : Hid (bt ⟨#[48, 49, 50, 51, 52, 53, 54, 55, 56, 57, 97, 98, 99, 100, 102, 103, 104, 105, 106, 107, 108, 109, 110, 112, 113, 114, 115, 118, 119, 120, 121, 122]⟩ (fb s (5 * k)).toNat = b32Fn s (m - 1 - k)) := by
        unfold Hid
        rw [hfn.out, show m - 1 - (m - 1 - k) = k from by omega]
        rfl
      generalize fb s (5 * k) = x at hfb he ⊢
      go_wp2
      go_roundw
      case rel =>
        rw [he.out]
        refine ⟨k + 1, by omega, by go_num, (R.set (m - 1 - k) _ (by omega)).congr (fun j hj => ?_), B.setCell (Nat.le_refl _) _⟩
        by_cases a1 : j = m - 1 - k
        · rw [if_pos a1, if_pos (by omega), a1]
        · rw [if_neg a1]
          by_cases h : m - k ≤ j
          · rw [if_pos h, if_pos (by omega)]
          · rw [if_neg h, if_neg (by omega)]
      case measure => simp [intOf]; omega
    · have c1 := run_string_row (P := Tryd.prog) (src := 39) (dst := 9) (c := m) Tryd.underlying39 Tryd.underlying5 Tryd.underlying9 R
      obtain rfl : k = m := by omega
      rw [show strFn k (fun j => if k - k ≤ j then b32Fn s j else 0) = b32Str s from by rw [hd.out]; exact strFn_congr (fun j hj => by rw [if_pos (by omega)])] at c1
      go_wp2
      go_ret
      exact ⟨rfl, B⟩
#print axioms b32_any
end Go.Proofs.YtjhbfkckkinfjaaDoor
