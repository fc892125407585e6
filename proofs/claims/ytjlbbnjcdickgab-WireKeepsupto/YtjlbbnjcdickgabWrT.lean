/- Framed texts as lists; what Split says of them. -/
import Derived.Test.YtjlbbnjcdickgabWrS
namespace Go.Proofs.Ytjlbbnjcdickgab
open Go.RowKit

/-- The k lowest bytes of n. -/
def lek : Nat → Nat → List UInt8
  | 0, _ => []
  | k + 1, n => UInt8.ofNat (n % 256) :: lek k (n / 256)
theorem lek_len (k n : Nat) : (lek k n).length = k := by
  induction k generalizing n with
  | zero => rfl
  | succ k ih => show (lek k (n / 256)).length + 1 = k + 1; rw [ih]
theorem le_lek (k n : Nat) : le (lek k n) = n % 256 ^ k := by
  induction k generalizing n with
  | zero => show 0 = n % 1; omega
  | succ k ih =>
    show (UInt8.ofNat (n % 256)).toNat + 256 * le (lek k (n / 256)) = n % 256 ^ (k + 1)
    rw [ih, Nat.pow_succ, Nat.mul_comm (256 ^ k) 256, Nat.mod_mul]
    congr 1
    simp
theorem w8_nat (n j : Nat) : (w8 n j).toNat = n / 2 ^ (8 * j) % 256 := by
  have : w8 n j = ((n / 2 ^ (8 * j) % 256 : Nat) : Int) := by unfold w8; rw [Int.natCast_emod, Int.natCast_ediv, Int.natCast_pow]; rfl
  rw [this, Int.toNat_natCast]
theorem le8_eq (n : Nat) : strFn 8 (w8 n) = ba (lek 8 n) := by
  have e : ∀ m : Nat, m % 256 % 256 = m % 256 := fun m => by omega
  show ByteArray.mk _ = ByteArray.mk _
  congr 2
  simp [List.range_succ, w8_nat, lek, Nat.div_div_eq_div_mul]
theorem n7_ext (p : Nat) (h : p < 8) : n7.extract 0 p = ba (List.replicate p 0) := by
  apply bytes_ext
  · rw [ByteArray.size_extract, ba_size, List.length_replicate]
    have : n7.size = 7 := rfl
    omega
  · intro k hk
    rw [bt_n7]
    by_cases hk2 : k < p
    · rw [bt_ba _ _ (by rw [List.length_replicate]; exact hk2), List.getElem_replicate]
      rfl
    · unfold bt
      rw [dif_neg (by rw [ba_size, List.length_replicate]; exact hk2)]
/-- A framed text. -/
def fr8 (l : List UInt8) : List UInt8 := lek 8 l.length ++ l ++ List.replicate (padN l.length) 0
theorem fr8_len (l : List UInt8) : (fr8 l).length = 8 + l.length + padN l.length := by unfold fr8; rw [List.length_append, List.length_append, lek_len, List.length_replicate]
theorem txt_ba (l : List UInt8) : txt (ba l) = ba (fr8 l) := by
  rw [← txt_eq, ba_size, le8_eq, n7_ext _ (padN_lt _), ← ba_append, ← ba_append]
  rfl
theorem le_fr (n : Nat) (h : n < 18446744073709551616) : le (lek 8 n) = n := by
  rw [le_lek]
  exact Nat.mod_eq_of_lt h

/-- What Split tells, by the plan. -/
theorem sp_got (tl pl : List UInt8) (m : Nat) (h : badAt pl = pl.length) : ((rsNew pl m).run tl).got = rdG m pl tl 0 [] := by
  unfold rsNew
  rw [h, if_neg (Nat.lt_irrefl _)]
  exact run_rdG pl tl m 0 []
theorem shut_bad (s : RS) (h : s.code ≠ 0) : s.shut.code = s.code ∧ s.shut.fat = s.fat := by
  unfold RS.shut
  rw [if_neg (fun c => h c.1)]
  exact ⟨rfl, rfl⟩
theorem sp_bad (tl pl : List UInt8) (m c a : Nat) (hc : c ≠ 0) (h : badAt pl = pl.length) (hg : (rdG m pl tl 0 []).code = c ∧ (rdG m pl tl 0 []).fat = a) : (sp tl pl m).code = c ∧ (sp tl pl m).fat = a := by
  rw [← sp_got tl pl m h] at hg
  have e1 : ((rsNew pl m).run tl).code = c := hg.1
  have e2 : ((rsNew pl m).run tl).fat = a := hg.2
  have := shut_bad ((rsNew pl m).run tl) (by rw [e1]; exact hc)
  exact ⟨this.1.trans e1, this.2.trans e2⟩

theorem zeros_at (q : Nat) (b : UInt8) (r : List UInt8) (hb : b ≠ 0) : zeros (List.replicate q 0 ++ b :: r) = q := by
  induction q with
  | zero => unfold zeros; simp [hb]
  | succ q ih =>
    rw [List.replicate_succ, List.cons_append]
    unfold zeros at ih ⊢
    rw [List.takeWhile_cons, if_pos (by simp), List.length_cons, ih]

/-- A padding byte that isn't nought. -/
theorem pads_pure (l : List UInt8) (q : Nat) (b : UInt8) (r : List UInt8) (hq : q < padN l.length) (hb : b ≠ 0) (hl : l.length < 18446744073709551616) :
    (sp (lek 8 l.length ++ l ++ (List.replicate q 0 ++ b :: r)) [116, 116] l.length).code = 7 ∧ (sp (lek 8 l.length ++ l ++ (List.replicate q 0 ++ b :: r)) [116, 116] l.length).fat = 8 + l.length + q := by
  refine sp_bad _ _ _ _ _ (by decide) (by rfl) ?_
  have t8 : (lek 8 l.length ++ l ++ (List.replicate q 0 ++ b :: r)).take 8 = lek 8 l.length := by
    rw [List.append_assoc, List.take_append_of_le_length (by rw [lek_len]; omega), List.take_of_length_le (by rw [lek_len]; omega)]
  have d8 : (lek 8 l.length ++ l ++ (List.replicate q 0 ++ b :: r)).drop 8 = l ++ (List.replicate q 0 ++ b :: r) := by
    rw [List.append_assoc, List.drop_append, lek_len, List.drop_of_length_le (by rw [lek_len]; omega)]
    rfl
  have dn : (l ++ (List.replicate q 0 ++ b :: r)).drop l.length = List.replicate q 0 ++ b :: r := by rw [List.drop_left]
  have hz : (List.replicate q 0 ++ b :: r).take (padN l.length) = List.replicate q 0 ++ b :: r.take (padN l.length - q - 1) := by
    rw [List.take_append, List.take_of_length_le (by rw [List.length_replicate]; omega), List.length_replicate]
    congr 1
    rw [show padN l.length - q = (padN l.length - q - 1) + 1 by omega, List.take_succ_cons]
    rfl
  unfold rdG
  rw [if_neg (by simp [lek_len]), if_pos rfl, t8, d8, le_fr _ hl, dn, hz, zeros_at _ _ _ hb, if_neg (by omega), if_pos (by simp)]
  exact ⟨rfl, by show 0 + 8 + l.length + q = _; omega⟩

end Go.Proofs.Ytjlbbnjcdickgab
