/- What a reader has of the bytes so far, by the plan: the machine and the document agree. -/
import Derived.Test.YthjpmiidbgaiaaaWrP
namespace Go.Proofs.Ythjpmiidbgaiaaa
open Go.RowKit

/-- A number out of its bytes, the lowest first. -/
def le : List UInt8 → Nat
  | [] => 0
  | b :: l => b.toNat + 256 * le l

theorem le_lt (l : List UInt8) : le l < 256 ^ l.length := by
  induction l with
  | nil => exact Nat.one_pos
  | cons b l ih =>
    have hb := b.toNat_lt
    show b.toNat + 256 * le l < 256 ^ (l.length + 1)
    rw [Nat.pow_succ]
    omega

theorem le_append (a b : List UInt8) : le (a ++ b) = le a + 256 ^ a.length * le b := by
  induction a with
  | nil => show le b = 0 + 256 ^ 0 * le b; omega
  | cons c a ih =>
    show c.toNat + 256 * le (a ++ b) = c.toNat + 256 * le a + 256 ^ (a.length + 1) * le b
    rw [ih, Nat.pow_succ, Nat.mul_add, ← Nat.mul_assoc, Nat.mul_comm 256 (256 ^ a.length), Nat.add_assoc]

/-- What a reader has. -/
structure Got where
  out : List It
  code : Nat
  fat : Nat
  tk : Nat
def RS.got (s : RS) : Got := ⟨s.out, s.code, s.fat, s.tk⟩

/-- How many of the padding's bytes that are there are noughts, from the first on. -/
def zeros (z : List UInt8) : Nat := (z.takeWhile (· == 0)).length

/-- The document's reading, from a place on. -/
def rdG (most : Nat) : List UInt8 → List UInt8 → Nat → List It → Got
  | [], rem, at_, out => if rem.length = 0 then ⟨out, 0, 0, at_⟩ else ⟨out, 5, at_, at_⟩
  | c :: p, rem, at_, out =>
    if rem.length < 8 then ⟨out, 0, 0, at_ + rem.length⟩
    else if c = 116 then
      if most < le (rem.take 8) then ⟨out, 6, at_, at_ + 7⟩
      else if zeros (((rem.drop 8).drop (le (rem.take 8))).take (padN (le (rem.take 8)))) < (((rem.drop 8).drop (le (rem.take 8))).take (padN (le (rem.take 8)))).length then
        ⟨out, 7, at_ + 8 + le (rem.take 8) + zeros (((rem.drop 8).drop (le (rem.take 8))).take (padN (le (rem.take 8)))), at_ + 8 + le (rem.take 8) + zeros (((rem.drop 8).drop (le (rem.take 8))).take (padN (le (rem.take 8))))⟩
      else if (rem.drop 8).length < le (rem.take 8) + padN (le (rem.take 8)) then ⟨out, 0, 0, at_ + rem.length⟩
      else rdG most p ((rem.drop 8).drop (le (rem.take 8) + padN (le (rem.take 8)))) (at_ + 8 + le (rem.take 8) + padN (le (rem.take 8))) (out ++ [⟨false, 0, (rem.drop 8).take (le (rem.take 8))⟩])
    else rdG most p (rem.drop 8) (at_ + 8) (out ++ [⟨true, le (rem.take 8), []⟩])

/-- A reader that is on. -/
def on (tk : Nat) (plan : List UInt8) (most ph lack word : Nat) (tx : List UInt8) (out : List It) : RS := ⟨tk, 0, 0, plan, most, false, ph, lack, word, tx, out⟩
/-- At the beginning of an item. -/
def bg (plan : List UInt8) (most tk : Nat) (out : List It) : RS := (on tk plan most 0 0 0 [] out).beg

theorem beg_on (tk : Nat) (plan : List UInt8) (most ph lack word : Nat) (tx : List UInt8) (out : List It) : (on tk plan most ph lack word tx out).beg = bg plan most tk out := by
  cases plan with
  | nil => rfl
  | cons c p => rfl

theorem step_on (tk : Nat) (plan : List UInt8) (most ph lack word : Nat) (tx : List UInt8) (out : List It) (b : UInt8) : (on tk plan most ph lack word tx out).step b = (on tk plan most ph lack word tx out).take b := rfl

theorem adv_on (tk : Nat) (plan : List UInt8) (most ph lack word : Nat) (tx : List UInt8) (out : List It) (h : 1 < lack) : (on tk plan most ph lack word tx out).adv = on (tk + 1) plan most ph (lack - 1) word tx out := by
  exact (if_pos (show 0 < lack - 1 by omega)).trans rfl
theorem adv_end (tk : Nat) (plan : List UInt8) (most ph word : Nat) (tx : List UInt8) (out : List It) : (on tk plan most ph 1 word tx out).adv = (on (tk + 1) plan most ph 0 word tx out).fin := by
  exact (if_neg (show ¬ 0 < 1 - 1 by omega)).trans rfl

theorem take_word (tk : Nat) (plan : List UInt8) (most ph lack word : Nat) (tx : List UInt8) (out : List It) (b : UInt8) (hp : ph ≤ 1) :
    (on tk plan most ph lack word tx out).take b = if (on tk plan most ph lack (word + b.toNat * 2 ^ (8 * (8 - lack))) tx out).tooLong then (on tk plan most ph lack (word + b.toNat * 2 ^ (8 * (8 - lack))) tx out).fl 6 (tk - 7) else (on tk plan most ph lack (word + b.toNat * 2 ^ (8 * (8 - lack))) tx out).adv := by
  refine (if_neg (show ¬ ph = 4 by omega)).trans ?_
  refine (if_neg (show ¬ ph = 3 by omega)).trans ?_
  exact (if_neg (show ¬ ph = 2 by omega)).trans rfl
theorem take_text (tk : Nat) (plan : List UInt8) (most lack word : Nat) (tx : List UInt8) (out : List It) (b : UInt8) :
    (on tk plan most 2 lack word tx out).take b = (on tk plan most 2 lack word (tx ++ [b]) out).adv := rfl
theorem take_pad (tk : Nat) (plan : List UInt8) (most lack word : Nat) (tx : List UInt8) (out : List It) (b : UInt8) :
    (on tk plan most 3 lack word tx out).take b = if b = 0 then (on tk plan most 3 lack word tx out).adv else (on tk plan most 3 lack word tx out).fl 7 tk := rfl

theorem pow_28 (k : Nat) : 2 ^ (8 * k) = 256 ^ k := by rw [Nat.pow_mul]

/-- Bytes of a word that doesn't end with them. -/
theorem run_word (l : List UInt8) : ∀ (tk : Nat) (plan : List UInt8) (most ph lack word : Nat) (tx : List UInt8) (out : List It), ph ≤ 1 → l.length < lack → lack ≤ 8 →
    (on tk plan most ph lack word tx out).run l = on (tk + l.length) plan most ph (lack - l.length) (word + 256 ^ (8 - lack) * le l) tx out := by
  induction l with
  | nil => intros; rfl
  | cons b l ih =>
    intro tk plan most ph lack word tx out hp hl h8
    have hl' : l.length + 1 < lack := hl
    rw [RS.run_cons, step_on, take_word _ _ _ _ _ _ _ _ _ hp, if_neg (by unfold RS.tooLong; show ¬ (ph == 1 && lack == 1 && decide _) = true; rw [show (lack == 1) = false by simp; omega]; simp), adv_on _ _ _ _ _ _ _ _ (by omega), ih _ _ _ _ _ _ _ _ hp (by omega) (by omega)]
    show on (tk + 1 + l.length) plan most ph (lack - 1 - l.length) (word + b.toNat * 2 ^ (8 * (8 - lack)) + 256 ^ (8 - (lack - 1)) * le l) tx out = on (tk + (l.length + 1)) plan most ph (lack - (l.length + 1)) (word + 256 ^ (8 - lack) * (b.toNat + 256 * le l)) tx out
    have e : word + b.toNat * 2 ^ (8 * (8 - lack)) + 256 ^ (8 - (lack - 1)) * le l = word + 256 ^ (8 - lack) * (b.toNat + 256 * le l) := by
      rw [pow_28, show 8 - (lack - 1) = (8 - lack) + 1 by omega, Nat.pow_succ, Nat.mul_add, Nat.mul_comm b.toNat, Nat.mul_assoc, Nat.add_assoc]
    rw [e, show tk + 1 + l.length = tk + (l.length + 1) by omega, show lack - 1 - l.length = lack - (l.length + 1) by omega]

/-- Bytes of a text that doesn't end with them. -/
theorem run_text (l : List UInt8) : ∀ (tk : Nat) (plan : List UInt8) (most lack word : Nat) (tx : List UInt8) (out : List It), l.length < lack →
    (on tk plan most 2 lack word tx out).run l = on (tk + l.length) plan most 2 (lack - l.length) word (tx ++ l) out := by
  induction l with
  | nil => intros; rw [List.append_nil]; rfl
  | cons b l ih =>
    intro tk plan most lack word tx out hl
    have hl' : l.length + 1 < lack := hl
    rw [RS.run_cons, step_on, take_text, adv_on _ _ _ _ _ _ _ _ (by omega), ih _ _ _ _ _ _ _ (by omega)]
    show on (tk + 1 + l.length) plan most 2 (lack - 1 - l.length) word (tx ++ [b] ++ l) out = on (tk + (l.length + 1)) plan most 2 (lack - (l.length + 1)) word (tx ++ b :: l) out
    rw [show tk + 1 + l.length = tk + (l.length + 1) by omega, show lack - 1 - l.length = lack - (l.length + 1) by omega, List.append_assoc]
    rfl

theorem fin_num (tk : Nat) (plan : List UInt8) (most lack word : Nat) (tx : List UInt8) (out : List It) : (on tk plan most 0 lack word tx out).fin = bg plan most tk (out ++ [⟨true, word, []⟩]) := by
  rw [← beg_on tk plan most 0 lack word tx]
  rfl
theorem fin_none (tk : Nat) (plan : List UInt8) (most lack : Nat) (tx : List UInt8) (out : List It) : (on tk plan most 1 lack 0 tx out).fin = bg plan most tk (out ++ [⟨false, 0, tx⟩]) := by
  rw [← beg_on tk plan most 1 lack 0 tx]
  rfl
theorem fin_len (tk : Nat) (plan : List UInt8) (most lack word : Nat) (tx : List UInt8) (out : List It) (h : 0 < word) : (on tk plan most 1 lack word tx out).fin = on tk plan most 2 word word tx out := by
  refine (if_neg (show ¬ (1 : Nat) = 0 by omega)).trans ?_
  exact (if_pos (show (1 : Nat) = 1 ∧ 0 < word from ⟨rfl, h⟩)).trans rfl
theorem fin_text (tk : Nat) (plan : List UInt8) (most lack word : Nat) (tx : List UInt8) (out : List It) : (on tk plan most 2 lack word tx out).fin = if 0 < padN tx.length then on tk plan most 3 (padN tx.length) word tx out else bg plan most tk (out ++ [⟨false, 0, tx⟩]) := by
  rw [← beg_on tk plan most 2 lack word tx]
  refine (if_neg (show ¬ (2 : Nat) = 0 by omega)).trans ?_
  refine (if_neg (show ¬ ((2 : Nat) = 1 ∧ 0 < word) by omega)).trans ?_
  by_cases h : 0 < padN tx.length
  · rw [if_pos h]; exact (if_pos (show (2 : Nat) = 2 ∧ 0 < padN tx.length from ⟨rfl, h⟩)).trans rfl
  · rw [if_neg h]; exact (if_neg (show ¬ ((2 : Nat) = 2 ∧ 0 < padN tx.length) from fun c => h c.2)).trans rfl
theorem fin_pad (tk : Nat) (plan : List UInt8) (most lack word : Nat) (tx : List UInt8) (out : List It) : (on tk plan most 3 lack word tx out).fin = bg plan most tk (out ++ [⟨false, 0, tx⟩]) := by
  rw [← beg_on tk plan most 3 lack word tx]
  rfl

/-- Behind a text's last byte, ahead of its padding. -/
theorem run_pad (rem : List UInt8) : ∀ (tk : Nat) (plan : List UInt8) (most lack word : Nat) (tx : List UInt8) (out : List It), 0 < lack →
    ((on tk plan most 3 lack word tx out).run rem).got =
      if zeros (rem.take lack) < (rem.take lack).length then ⟨out, 7, tk + zeros (rem.take lack), tk + zeros (rem.take lack)⟩
      else if rem.length < lack then ⟨out, 0, 0, tk + rem.length⟩
      else ((bg plan most (tk + lack) (out ++ [⟨false, 0, tx⟩])).run (rem.drop lack)).got := by
  induction rem with
  | nil =>
    intro tk plan most lack word tx out h
    rw [List.take_nil, if_neg (by unfold zeros; simp), if_pos (by simpa using h)]
    rfl
  | cons b l ih =>
    intro tk plan most lack word tx out h
    obtain ⟨m, rfl⟩ : ∃ m, lack = m + 1 := ⟨lack - 1, by omega⟩
    rw [RS.run_cons, step_on, take_pad, List.take_succ_cons, List.drop_succ_cons]
    by_cases hb : b = 0
    · subst hb
      have hz : zeros ((0 : UInt8) :: l.take m) = zeros (l.take m) + 1 := by unfold zeros; simp
      rw [if_pos rfl, hz, List.length_cons, List.length_cons]
      by_cases hm : m = 0
      · subst hm
        rw [adv_end, fin_pad, List.take_zero, if_neg (by unfold zeros; simp), if_neg (by omega)]
        rfl
      · rw [adv_on _ _ _ _ _ _ _ _ (by omega), ih _ _ _ _ _ _ _ (by omega), show m + 1 - 1 = m by omega]
        by_cases c1 : zeros (l.take m) < (l.take m).length
        · rw [if_pos c1, if_pos (show zeros (l.take m) + 1 < (l.take m).length + 1 by omega)]
          congr 1 <;> omega
        · rw [if_neg c1, if_neg (show ¬ zeros (l.take m) + 1 < (l.take m).length + 1 by omega)]
          by_cases c2 : l.length < m
          · rw [if_pos c2, if_pos (show l.length + 1 < m + 1 by omega)]
            congr 1; omega
          · rw [if_neg c2, if_neg (show ¬ l.length + 1 < m + 1 by omega), show tk + 1 + m = tk + (m + 1) by omega]
    · have hz : zeros (b :: l.take m) = 0 := by unfold zeros; simp [hb]
      rw [if_neg hb, hz, if_pos (by simp), RS.run_off _ rfl]
      rfl

theorem parted {α : Type} (l : List α) (k : Nat) (h : k < l.length) : ∃ a b c, l = a ++ b :: c ∧ a.length = k := by
  refine ⟨l.take k, l[k], l.drop (k + 1), ?_, by rw [List.length_take]; omega⟩
  rw [← List.drop_eq_getElem_cons h, List.take_append_drop]

theorem zeros_nil : zeros [] = 0 := rfl

/-- The machine does as the document says. -/
theorem run_rdG (plan : List UInt8) : ∀ (rem : List UInt8) (most tk : Nat) (out : List It), ((bg plan most tk out).run rem).got = rdG most plan rem tk out := by
  induction plan with
  | nil =>
    intro rem most tk out
    unfold rdG
    cases rem with
    | nil => rfl
    | cons b l =>
      rw [if_neg (by simp), RS.run_cons]
      show ((((bg [] most tk out)).fl 5 tk).run l).got = _
      rw [RS.run_off _ rfl]
      rfl
  | cons c p ih =>
    intro rem most tk out
    have hph : phOf c ≤ 1 := by unfold phOf; split <;> omega
    have e0 : bg (c :: p) most tk out = on tk p most (phOf c) 8 0 [] out := rfl
    rw [e0]
    unfold rdG
    by_cases h8 : rem.length < 8
    · rw [if_pos h8, run_word _ _ _ _ _ _ _ _ _ hph h8 (by omega)]
      rfl
    rw [if_neg h8]
    obtain ⟨l7, b, r, rfl, hl7⟩ : ∃ l7 b r, rem = l7 ++ b :: r ∧ l7.length = 7 := parted rem 7 (by omega)
    have t8 : (l7 ++ b :: r).take 8 = l7 ++ [b] := by rw [List.take_append, hl7, List.take_of_length_le (by omega)]; rfl
    have d8 : (l7 ++ b :: r).drop 8 = r := by rw [List.drop_append, hl7, List.drop_of_length_le (by omega)]; rfl
    have hle : 0 + 256 ^ (8 - 8) * le l7 + b.toNat * 2 ^ (8 * (8 - (8 - 7))) = le (l7 ++ [b]) := by
      have e1 : le [b] = b.toNat := by unfold le; unfold le; omega
      have e2 : 8 * (8 - (8 - 7)) = 8 * 7 := rfl
      rw [le_append, hl7, e1, e2, pow_28, Nat.sub_self, Nat.pow_zero, Nat.one_mul, Nat.zero_add, Nat.mul_comm]
    rw [t8, d8, RS.run_append, run_word _ _ _ _ _ _ _ _ _ hph (by omega) (by omega), RS.run_cons, step_on, take_word _ _ _ _ _ _ _ _ _ hph, hl7, hle]
    generalize le (l7 ++ [b]) = n
    by_cases hc : c = 116
    · have hp1 : phOf c = 1 := by unfold phOf; rw [if_pos hc]
      rw [if_pos hc, hp1]
      by_cases hm : most < n
      · rw [if_pos hm, if_pos (by show ((1 : Nat) == 1 && (8 - 7 : Nat) == 1 && decide (most < n)) = true; simp [hm]), RS.run_off _ rfl]
        show Got.mk out 6 (tk + 7 - 7) (tk + 7) = _
        rw [Nat.add_sub_cancel]
      · rw [if_neg hm, if_neg (by show ¬ ((1 : Nat) == 1 && (8 - 7 : Nat) == 1 && decide (most < n)) = true; simp [hm]), adv_end]
        by_cases hn : n = 0
        · subst hn
          have p0 : padN 0 = 0 := rfl
          rw [fin_none, p0, List.take_zero, zeros_nil, if_neg (by simp), if_neg (by omega), ih]
          rfl
        · rw [fin_len _ _ _ _ _ _ _ (by omega)]
          by_cases hr : r.length < n
          · rw [run_text _ _ _ _ _ _ _ _ hr, List.drop_of_length_le (by omega), List.take_nil, zeros_nil, if_neg (by simp), if_pos (by omega)]
            show Got.mk out 0 0 (tk + 7 + 1 + r.length) = _
            rw [List.length_append, hl7, List.length_cons]
            congr 1; omega
          · -- the text's bytes, then the padding
            obtain ⟨t, d, q, rfl, ht⟩ : ∃ t d q, r = t ++ d :: q ∧ t.length + 1 = n := by
              obtain ⟨t, d, q, e, ht⟩ := parted r (n - 1) (by omega)
              exact ⟨t, d, q, e, by omega⟩
            have tn : (t ++ d :: q).take n = t ++ [d] := by rw [List.take_append, List.take_of_length_le (by omega), show n - t.length = 1 by omega]; rfl
            have dn : (t ++ d :: q).drop n = q := by rw [List.drop_append, List.drop_of_length_le (by omega), show n - t.length = 1 by omega]; rfl
            have dnp : (t ++ d :: q).drop (n + padN n) = q.drop (padN n) := by rw [← List.drop_drop, dn]
            have lt : (t ++ [d]).length = n := by simp; omega
            rw [tn, dn, dnp, RS.run_append, run_text _ _ _ _ _ _ _ _ (by omega), RS.run_cons, step_on, take_text, show n - t.length = 1 by omega, adv_end, fin_text, List.nil_append, lt]
            have e1 : tk + 7 + 1 + t.length + 1 = tk + 8 + n := by omega
            rw [e1]
            by_cases hpn : 0 < padN n
            · rw [if_pos hpn, run_pad _ _ _ _ _ _ _ _ hpn]
              by_cases c1 : zeros (q.take (padN n)) < (q.take (padN n)).length
              · rw [if_pos c1, if_pos c1]
              · rw [if_neg c1, if_neg c1]
                by_cases c2 : q.length < padN n
                · rw [if_pos c2, if_pos (by simp; omega)]
                  congr 1
                  simp; omega
                · rw [if_neg c2, if_neg (by simp; omega), ih]
            · rw [if_neg hpn, show padN n = 0 by omega, List.take_zero, zeros_nil, if_neg (by simp), if_neg (by simp; omega), ih, List.drop_zero]
              rfl
    · have hp0 : phOf c = 0 := by unfold phOf; rw [if_neg hc]
      rw [if_neg hc, hp0, if_neg (by show ¬ ((0 : Nat) == 1 && (8 - 7 : Nat) == 1 && decide _) = true; simp), adv_end, fin_num, ih]

end Go.Proofs.Ythjpmiidbgaiaaa
