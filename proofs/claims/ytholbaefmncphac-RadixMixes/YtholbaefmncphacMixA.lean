/- What the law's own helper mixed answers, and the plain laws of folding with exclusive or. -/
import Derived.Test.YtholbaefmncphacFoldB
namespace Go.Proofs.Ytholbaefmncphac
open Go.RowKit
/-- Exclusive or of two bytes. -/
def xr (a b : Int) : Int := bits .xor .u8 a b
theorem xr_nat (a b : Nat) (ha : a < 256) (hb : b < 256) : xr a b = ((a ^^^ b : Nat) : Int) := u8_xor_nat a b ha hb
theorem xr_bd (a b : Int) (h : 0 ≤ a ∧ a < 256) (g : 0 ≤ b ∧ b < 256) : 0 ≤ xr a b ∧ xr a b < 256 := by
  obtain ⟨x, rfl⟩ : ∃ m : Nat, a = m := ⟨a.toNat, by omega⟩
  obtain ⟨y, rfl⟩ : ∃ m : Nat, b = m := ⟨b.toNat, by omega⟩
  rw [xr_nat x y (by omega) (by omega)]
  have := Nat.xor_lt_two_pow (x := x) (y := y) (n := 8) (by omega) (by omega)
  omega
theorem xr_zero (a : Int) (h : 0 ≤ a ∧ a < 256) : xr 0 a = a := by
  obtain ⟨x, rfl⟩ : ∃ m : Nat, a = m := ⟨a.toNat, by omega⟩
  have := xr_nat 0 x (by omega) (by omega)
  simpa using this
theorem xr_mix (a b c d : Int) (h : 0 ≤ a ∧ a < 256) (g : 0 ≤ b ∧ b < 256) (hc : 0 ≤ c ∧ c < 256) (hd : 0 ≤ d ∧ d < 256) : xr (xr a b) (xr c d) = xr (xr a c) (xr b d) := by
  obtain ⟨x, rfl⟩ : ∃ m : Nat, a = m := ⟨a.toNat, by omega⟩
  obtain ⟨y, rfl⟩ : ∃ m : Nat, b = m := ⟨b.toNat, by omega⟩
  obtain ⟨z, rfl⟩ : ∃ m : Nat, c = m := ⟨c.toNat, by omega⟩
  obtain ⟨t, rfl⟩ : ∃ m : Nat, d = m := ⟨d.toNat, by omega⟩
  have h8 : ∀ p q : Nat, p < 256 → q < 256 → p ^^^ q < 256 := fun p q hp hq => Nat.xor_lt_two_pow (n := 8) hp hq
  rw [xr_nat x y (by omega) (by omega), xr_nat z t (by omega) (by omega), xr_nat x z (by omega) (by omega), xr_nat y t (by omega) (by omega),
    xr_nat _ _ (h8 x y (by omega) (by omega)) (h8 z t (by omega) (by omega)), xr_nat _ _ (h8 x z (by omega) (by omega)) (h8 y t (by omega) (by omega))]
  congr 1
  rw [Nat.xor_assoc, Nat.xor_assoc, ← Nat.xor_assoc y z t, Nat.xor_comm y z, Nat.xor_assoc z y t]

theorem foldFn_bd (s : ByteArray) (n k j : Nat) : 0 ≤ foldFn s n k j ∧ foldFn s n k j < 256 := by
  induction k with
  | zero => simp [foldFn]
  | succ k ih =>
    rw [foldFn]
    split
    · exact xr_bd _ _ ih (bt_bd s k)
    · exact ih

def mixStr (a b : ByteArray) : ByteArray := strFn a.size (fun j => xr (bt a j) (bt b j))
theorem mixStr_size (a b : ByteArray) : (mixStr a b).size = a.size := strFn_size _ _
theorem mixStr_bt (a b : ByteArray) (j : Nat) (hj : j < a.size) : bt (mixStr a b) j = xr (bt a j) (bt b j) :=
  bt_strFn _ _ _ hj (xr_bd _ _ (bt_bd a j) (bt_bd b j)).1 (xr_bd _ _ (bt_bd a j) (bt_bd b j)).2

theorem foldFn_mix (a b : ByteArray) (n k j : Nat) (hk : k ≤ a.size) : foldFn (mixStr a b) n k j = xr (foldFn a n k j) (foldFn b n k j) := by
  induction k with
  | zero => rw [foldFn, foldFn, foldFn, xr_zero 0 (by omega)]
  | succ k ih =>
    rw [foldFn, foldFn, foldFn]
    split
    · rw [mixStr_bt a b k (by omega), ih (by omega)]
      exact xr_mix _ _ _ _ (foldFn_bd a n k j) (foldFn_bd b n k j) (bt_bd a k) (bt_bd b k)
    · exact ih (by omega)

theorem foldFn_fit (a : ByteArray) (n k j : Nat) (hk : k ≤ n) : foldFn a n k j = if j < k then bt a j else 0 := by
  induction k with
  | zero => rfl
  | succ k ih =>
    rw [foldFn, ih (by omega), Nat.mod_eq_of_lt (show k < n by omega)]
    by_cases e : j = k
    · subst e
      rw [if_pos rfl, if_neg (by omega), if_pos (by omega)]
      exact xr_zero _ (bt_bd a j)
    · rw [if_neg e]
      by_cases h : j < k
      · rw [if_pos h, if_pos (by omega)]
      · rw [if_neg h, if_neg (by omega)]

/-- The fold of the mixture is the mixture of the folds. -/
theorem fold_mix (a b : ByteArray) (n : Nat) (h : a.size = b.size) : strFn n (foldFn (mixStr a b) n a.size) = mixStr (strFn n (foldFn a n a.size)) (strFn n (foldFn b n b.size)) := by
  conv => rhs; rw [mixStr, strFn_size]
  apply strFn_congr
  intro j hj
  rw [foldFn_mix a b n a.size j (Nat.le_refl _), h, bt_strFn _ _ _ hj (foldFn_bd _ _ _ _).1 (foldFn_bd _ _ _ _).2, bt_strFn _ _ _ hj (foldFn_bd _ _ _ _).1 (foldFn_bd _ _ _ _).2]

set_option maxHeartbeats 400000 in
theorem mixed_any (a b : ByteArray) (w : World) (ha : a.size ≤ 140737488351232) (hab : a.size = b.size) :
    Calls Try.prog 15 #[.string a, .string b] w fun e w' => e = .returned (.string (mixStr a b)) ∧ Below w.heap.size w w' := by
  obtain ⟨i0, hi, hz0, hz1, hz2⟩ := info_parts Try.info5
  have HAB : Hid (a.size = b.size) := hab
  have hle : a.size ≤ b.size := by omega
  have hb' : b.size ≤ 140737488351232 := by omega
  clear hab
  go_enter Try.func15, Try.ntmps15
  go_wp2_with fail
  rw [run_make (P := Try.prog) w 35 5 i0 (.int .u8 0) Try.underlying35 hi hz0 .i64 .i64 _ _ (by omega) (by omega) (by rw [hz2]; omega) (by omega)]
  have R0 : Row .u8 (w.alloc (.cells (madeCells (Value.int .u8 0).cells ((a.size : Int).toNat * i0.size)) 5)) w.heap.size a.size (fun _ => 0) := Row.made (by rw [hz1]; omega)
  have B0 : Below w.heap.size w (w.alloc (.cells (madeCells (Value.int .u8 0).cells ((a.size : Int).toNat * i0.size)) 5)) := (Below.refl _ _).alloc (Nat.le_refl _) _
  generalize w.alloc (.cells (madeCells (Value.int .u8 0).cells ((a.size : Int).toNat * i0.size)) 5) = W1 at R0 B0 ⊢
  rw [Int.toNat_natCast]
  clear hi hz0 hz1 hz2
  go_wp2
  go_loopw [12] (fun i wr => ∃ k : Nat, k ≤ a.size ∧ i = .int .i64 k ∧ Row .u8 wr w.heap.size a.size (fun j => if j < k then xr (bt a j) (bt b j) else 0) ∧ Below w.heap.size w wr) (fun i _ => a.size - (intOf i).toNat)
  case atStart => exact ⟨0, Nat.zero_le _, rfl, R0.congr (fun j _ => by simp), B0⟩
  case round =>
    obtain ⟨k, hk, rfl, R, B⟩ := hrel
    by_cases hlt : k < a.size
    · have c1 := R.cell k (by omega)
      have f1 := R.free k (by omega)
      have hlt2 : k < b.size := by omega
      have hba := get_bt a
      have hbb := get_bt b
      go_wp2
      go_region
      all_goals go_wp2
      all_goals
        go_roundw
        case rel =>
          refine ⟨k + 1, by omega, by go_num, ((R.set k _ (by omega)).congr (fun j _ => ?_)).drew, (B.setCell (Nat.le_refl _) _).drew⟩
          by_cases e : j = k
          · subst e; rw [if_pos rfl, if_pos (by omega)]; rfl
          · rw [if_neg e]
            by_cases h : j < k
            · rw [if_pos h, if_pos (by omega)]
            · rw [if_neg h, if_neg (by omega)]
        case measure => simp [intOf]; omega
    · have c1 := run_string_row (P := Try.prog) (src := 35) (dst := 9) (c := a.size) Try.underlying35 Try.underlying5 Try.underlying9 R
      obtain rfl : k = a.size := by omega
      rw [show strFn a.size (fun j => if j < a.size then xr (bt a j) (bt b j) else 0) = mixStr a b from strFn_congr (fun j hj => by rw [if_pos hj])] at c1
      go_wp2
      go_ret
      exact ⟨rfl, B⟩
#print axioms mixed_any
end Go.Proofs.Ytholbaefmncphac
