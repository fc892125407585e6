/- gauge.ToInt, walked: the same as the document's. -/
import Derived.Test.YtibkdphogglegaaGRf
import Derived.Laws.FloatArith
namespace Go.Proofs.Ytibkdphogglegaa
open Go.RowKit

theorem sg_bd (x : Int) (h0 : 0 ≤ x) (h1 : x ≤ 18446744073709551615) : sgF x = (x.toNat / 9223372036854775808 % 2 == 1) := by
  unfold sgF
  rw [Bool.eq_iff_iff]; simp; omega

/-- What a number's word is read as. -/
theorem read_num (x : Int) (h0 : 0 ≤ x) (h1 : x ≤ 18446744073709551615) (he : exF x ≠ 2047) : Ieee.double.read x.toNat = .number (sgF x) (mgF x).toNat (plF x) := by
  have be := exF_bd x
  have bf := frF_bd x
  unfold Ieee.Format.read
  dsimp only
  rw [show Ieee.double.signWeight = 9223372036854775808 from rfl, show Ieee.double.binade = 4503599627370496 from rfl, show Ieee.double.infRung = 9218868437227405312 from rfl, dL, ← sg_bd x h0 h1]
  unfold mgF plF exF frF at *
  by_cases hz : x / 4503599627370496 % 2048 = 0
  · rw [if_pos (by omega), if_pos hz, if_pos hz]
    congr 1
    · omega
  · rw [if_neg (by omega), if_pos (by omega), if_neg hz, if_neg hz]
    congr 1
    · omega
    · omega

theorem read_nan (x : Int) (h0 : 0 ≤ x) (h1 : x ≤ 18446744073709551615) (he : exF x = 2047) (hf : frF x ≠ 0) : fnan Ieee.double x.toNat = true := by
  have be := exF_bd x
  have bf := frF_bd x
  unfold fnan Ieee.Format.read
  dsimp only
  rw [show Ieee.double.signWeight = 9223372036854775808 from rfl, show Ieee.double.binade = 4503599627370496 from rfl, show Ieee.double.infRung = 9218868437227405312 from rfl]
  unfold exF frF at *
  rw [if_neg (by omega), if_neg (by omega), if_neg (by omega)]
  rfl

theorem read_inf (x : Int) (h0 : 0 ≤ x) (h1 : x ≤ 18446744073709551615) (he : exF x = 2047) (hf : frF x = 0) : Ieee.double.read x.toNat = .infinity (sgF x) := by
  have be := exF_bd x
  have bf := frF_bd x
  unfold Ieee.Format.read
  dsimp only
  rw [show Ieee.double.signWeight = 9223372036854775808 from rfl, show Ieee.double.binade = 4503599627370496 from rfl, show Ieee.double.infRung = 9218868437227405312 from rfl, ← sg_bd x h0 h1]
  unfold exF frF at *
  rw [if_neg (by omega), if_neg (by omega), if_pos (by omega)]

theorem trOE_odd (O M P : Int) (t : Nat) (h : O * 2 ^ t = M) : trOE O (P + t) = trOE M P := by
  unfold trOE
  rw [← h]
  have pt := pow_pos_int t
  by_cases hp : 0 ≤ P
  · rw [show (-(P + (t : Int))).toNat = 0 by omega, show (-P).toNat = 0 by omega, show (P + (t : Int)).toNat = t + P.toNat by omega, Int.pow_add]
    simp
    rw [Int.mul_assoc]
  · by_cases hq : 0 ≤ P + t
    · rw [show (-(P + (t : Int))).toNat = 0 by omega, show P.toNat = 0 by omega]
      obtain ⟨d, hd⟩ : ∃ d : Nat, (P + (t : Int)).toNat = d := ⟨_, rfl⟩
      rw [hd, show t = d + (-P).toNat by omega, Int.pow_add]
      have := pow_pos_int (-P).toNat
      rw [← Int.mul_assoc, Int.mul_ediv_cancel _ (by omega)]
      simp
    · rw [show (P + (t : Int)).toNat = 0 by omega, show P.toNat = 0 by omega, show (-P).toNat = (-(P + (t : Int))).toNat + t by omega, Int.pow_add]
      rw [Int.mul_ediv_mul_of_pos_left _ _ pt]

theorem cut_zero (s : Bool) (n d : Nat) : Ieee.Toward.zero.cut s n d = n / 2 ^ d := by
  unfold Ieee.Toward.cut
  simp only [Nat.shiftLeft_eq, Nat.one_mul]
  by_cases h : d ≤ n.log2 + 2
  · rw [Nat.min_eq_left h]; simp
  · rw [Nat.min_eq_right (by omega)]
    have h2 : n < 2 ^ (n.log2 + 1) := Nat.lt_log2_self
    have h3 : 2 ^ (n.log2 + 1) ≤ 2 ^ (n.log2 + 2) := Nat.pow_le_pow_right (by decide) (by omega)
    have h4 : 2 ^ (n.log2 + 2) ≤ 2 ^ d := Nat.pow_le_pow_right (by decide) (by omega)
    rw [Nat.div_eq_of_lt (by omega), Nat.div_eq_of_lt (by omega)]; rfl

theorem toInt_num (s : Bool) (m : Nat) (i : Int) : (Ieee.Datum.number s m i).toInt .zero = some (if s then -(trOE m i) else trOE m i) := by
  unfold Ieee.Datum.toInt Ieee.Datum.integral
  simp only [cut_zero, Nat.shiftLeft_eq]
  unfold Ieee.signed trOE
  simp only [Nat.shiftLeft_zero]
  have e : ((m * 2 ^ i.toNat / 2 ^ (-i).toNat : Nat) : Int) = (m : Int) / 2 ^ (-i).toNat * 2 ^ i.toNat := by
    by_cases h : 0 ≤ i
    · rw [show (-i).toNat = 0 by omega]; simp
    · rw [show i.toNat = 0 by omega]; simp
  rw [e]

/-- The size of a number that is read, in units of the least place. -/
theorem size_num (x : Int) (h0 : 0 ≤ x) (h1 : x ≤ 18446744073709551615) (he : exF x ≠ 2047) : fnan Ieee.double x.toNat = false ∧ fside Ieee.double x.toNat = 0 ∧ fsize Ieee.double x.toNat = (if sgF x then -1 else 1) * (mgF x * 2 ^ (plF x + 1074).toNat) := by
  have hm : 0 ≤ mgF x := by have := frF_bd x; unfold mgF; split <;> omega
  unfold fnan fside fsize
  rw [read_num x h0 h1 he]
  refine ⟨rfl, rfl, ?_⟩
  show Ieee.signed _ _ _ = _
  rw [signed_eq, dL, show (plF x - -1074) = plF x + 1074 by omega, show ((mgF x).toNat : Int) = mgF x by omega]

/-- 2^63 in units of the least place. -/
def u63 : Nat := 1137
theorem size_hi : fnan Ieee.double 4890909195324358656 = false ∧ fside Ieee.double 4890909195324358656 = 0 ∧ fsize Ieee.double 4890909195324358656 = 2 ^ u63 := by decide +kernel
theorem size_lo : fnan Ieee.double 14114281232179134464 = false ∧ fside Ieee.double 14114281232179134464 = 0 ∧ fsize Ieee.double 14114281232179134464 = -2 ^ u63 := by decide +kernel

theorem tr_iff (M P : Int) (h0 : 0 ≤ M) (h1 : M < 9007199254740992) (hP : -1074 ≤ P) : (2 ^ u63 ≤ M * 2 ^ (P + 1074).toNat ↔ 9223372036854775808 ≤ trOE M P) ∧ (2 ^ u63 < M * 2 ^ (P + 1074).toNat ↔ 9223372036854775808 < trOE M P) := by
  have pt := pow_pos_int tt
  have e0 : (2 : Int) ^ u63 = 9223372036854775808 * 2 ^ tt := by
    rw [show u63 = 63 + tt from rfl, Int.pow_add]; rfl
  by_cases hp : 0 ≤ P
  · have e1 : M * 2 ^ (P + 1074).toNat = trOE M P * 2 ^ tt := by
      unfold trOE
      rw [show (-P).toNat = 0 by omega, show (P + 1074).toNat = P.toNat + tt by unfold tt; omega, Int.pow_add]
      simp
      rw [Int.mul_assoc]
    rw [e0, e1]
    exact ⟨Int.mul_le_mul_right pt, Int.mul_lt_mul_right pt⟩
  · have e1 : trOE M P ≤ M := by
      unfold trOE
      rw [show P.toNat = 0 by omega, Int.pow_zero, Int.mul_one]
      exact Int.ediv_le_self _ h0
    have e2 : (2 : Int) ^ (P + 1074).toNat ≤ 2 ^ tt := by
      obtain ⟨d, hd⟩ : ∃ d : Nat, tt = (P + 1074).toNat + d := ⟨tt - (P + 1074).toNat, by unfold tt; omega⟩
      rw [hd, Int.pow_add]
      have := pow_pos_int d
      have := pow_pos_int (P + 1074).toNat
      have h2 : (2 : Int) ^ (P + 1074).toNat * 1 ≤ 2 ^ (P + 1074).toNat * 2 ^ d := Int.mul_le_mul_of_nonneg_left (by omega) (by omega)
      omega
    have e3 : M * 2 ^ (P + 1074).toNat ≤ M * 2 ^ tt := Int.mul_le_mul_of_nonneg_left e2 h0
    have e4 : M * 2 ^ tt < 9007199254740992 * 2 ^ tt := Int.mul_lt_mul_of_pos_right h1 pt
    have e5 : 9007199254740992 * (2 : Int) ^ tt ≤ 9223372036854775808 * 2 ^ tt := Int.mul_le_mul_of_nonneg_right (by decide) (by omega)
    rw [e0]
    generalize (2 : Int) ^ tt = Z at *
    generalize M * 2 ^ (P + 1074).toNat = X at *
    constructor <;> constructor <;> intro h <;> omega

end Go.Proofs.Ytibkdphogglegaa
