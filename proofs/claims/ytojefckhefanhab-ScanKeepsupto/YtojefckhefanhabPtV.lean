/- The thirty-two letters: radix.Value and the document's. -/
import Derived.Test.YtojefckhefanhabPtA
namespace Go.Proofs.Ytojefckhefanhab
open Go.RowKit

/-- The thirty-two letters. -/
def lts : ByteArray := ⟨#[48, 49, 50, 51, 52, 53, 54, 55, 56, 57, 97, 98, 99, 100, 102, 103, 104, 105, 106, 107, 108, 109, 110, 112, 113, 114, 115, 118, 119, 120, 121, 122]⟩
def lt32 (v : Int) : Int := bt lts v.toNat
/-- A letter's value, or -1. -/
def vl (c : Int) : Int := Lib.indexByte lts.data.toList c.toNat.toUInt8
theorem vl_nat : ∀ c : Nat, c < 256 → (0 ≤ vl c ∧ vl c < 32 ∧ lt32 (vl c) = c) ∨ vl c = -1 := by decide +kernel
theorem vl_spec (c : Int) (h : 0 ≤ c ∧ c < 256) : (0 ≤ vl c ∧ vl c < 32 ∧ lt32 (vl c) = c) ∨ vl c = -1 := by
  obtain ⟨n, rfl⟩ : ∃ n : Nat, c = n := ⟨c.toNat, by omega⟩
  exact vl_nat n (by omega)
theorem vl_lt : ∀ d : Nat, d < 32 → vl (lt32 d) = d := by decide +kernel
theorem vl_first : ∀ c : Nat, c < 256 → ∀ d : Nat, d < 32 → (bt lts d = c ↔ vl c = d) := by decide +kernel

set_option maxHeartbeats 400000 in
theorem value_any (c : Int) (w : World) :
    Calls Try.prog 29 #[.int .u8 c] w fun e w' => e = .returned (.int .i64 (vl c)) ∧ w' = w := by
  go_enter Try.func29, Try.ntmps29
  go_wp2_with fail
  refine (ib_any lts c w).mono ?_
  rintro e w1 ⟨rfl, rfl⟩
  go_wp2
  go_ret
  exact ⟨rfl, rfl⟩

/-- May it be a label? -/
def labOk (s : ByteArray) : Prop := 1 ≤ s.size ∧ s.size ≤ 211 ∧ bt s 0 ≠ 46 ∧ ∀ k, k < s.size → labC (bt s k) = true
instance (s : ByteArray) : Decidable (labOk s) := inferInstanceAs (Decidable (_ ∧ _ ∧ _ ∧ _))
def lab (s : ByteArray) : Int := if labOk s then 0 else 130
/-- May it be a hash? -/
def hshOk (s : ByteArray) : Prop := s.size = 32 ∧ ∀ k, k < 32 → 0 ≤ vl (bt s k)
instance (s : ByteArray) : Decidable (hshOk s) := inferInstanceAs (Decidable (_ ∧ _))
def hsh (s : ByteArray) : Int := if hshOk s then 0 else 131
theorem lab_cases (s : ByteArray) : (labOk s ∧ lab s = 0) ∨ (¬ labOk s ∧ lab s = 130) := by
  unfold lab
  by_cases h : labOk s
  · left; exact ⟨h, if_pos h⟩
  · right; exact ⟨h, if_neg h⟩
theorem hsh_cases (s : ByteArray) : (hshOk s ∧ hsh s = 0) ∨ (¬ hshOk s ∧ hsh s = 131) := by
  unfold hsh
  by_cases h : hshOk s
  · left; exact ⟨h, if_pos h⟩
  · right; exact ⟨h, if_neg h⟩
theorem lab_no {s : ByteArray} (h : ¬ labOk s) : lab s = 130 := if_neg h
theorem lab_yes {s : ByteArray} (h : labOk s) : lab s = 0 := if_pos h
theorem hsh_no {s : ByteArray} (h : ¬ hshOk s) : hsh s = 131 := if_neg h
theorem hsh_yes {s : ByteArray} (h : hshOk s) : hsh s = 0 := if_pos h

set_option maxHeartbeats 400000 in
theorem ckH_any (s : ByteArray) (w : World) :
    Calls Try.prog 15 #[.string s] w fun e w' => e = .returned (.int .i64 (hsh s)) ∧ w' = w := by
  by_cases hz : s.size = 32
  · have Z : ((s.size : Int) == 32) = true := by simp [hz]
    have Z2 : (s.size : Int) = 32 := by omega
    have HZ : Hid (s.size = 32) := hz
    have hb := get_bt s
    clear hz Z2
    go_enter Try.func15, Try.ntmps15
    go_wp2
    clear Z
    generalize ((s.size : Int) != 32) = zb
    go_loop [9] (fun i => ∃ k : Nat, k ≤ s.size ∧ i = .int .i64 k ∧ Hid (∀ j, j < k → 0 ≤ vl (bt s j))) (fun i => s.size - (intOf i).toNat)
    case atStart => exact ⟨0, Nat.zero_le _, rfl, fun j hj => absurd hj (by omega)⟩
    case round =>
      obtain ⟨k, hk, rfl, hok⟩ := hrel
      by_cases hlt : k < s.size
      · have hk32 : k < 32 := by have := HZ.out; omega
        by_cases hv : vl (bt s k) < 0
        · have hh : Hid (hsh s = 131) := hsh_no (fun h => by have := h.2 k (by have := HZ.out; omega); omega)
          go_wp2_with fail
          refine (value_any _ _).mono ?_
          rintro e w1 ⟨rfl, rfl⟩
          go_wp2
          go_ret
          exact ⟨by rw [hh.out]; rfl, rfl⟩
        · go_wp2_with fail
          refine (value_any _ _).mono ?_
          rintro e w1 ⟨rfl, rfl⟩
          go_wp2
          go_round
          case rel => exact ⟨k + 1, by omega, by go_num, fun j hj => by
            by_cases e : j = k
            · rw [e]; omega
            · exact hok.out j (by omega)⟩
          case measure => simp [intOf]; omega
      · have hh : Hid (hsh s = 0) := hsh_yes ⟨HZ.out, fun j hj => hok.out j (by have := HZ.out; omega)⟩
        go_wp2
        go_ret
        exact ⟨by rw [hh.out]; rfl, rfl⟩
  · have Z : ((s.size : Int) == 32) = false := by rw [beq_eq_false_iff_ne]; omega
    have hh : Hid (hsh s = 131) := hsh_no (fun h => hz h.1)
    clear hz
    go_enter Try.func15, Try.ntmps15
    go_wp2
    go_ret
    exact ⟨by rw [hh.out]; rfl, rfl⟩

end Go.Proofs.Ytojefckhefanhab
