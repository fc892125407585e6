/- Gathered: WrP WrQ WrM UpP UpQ UpM PkP UpA UpB UpC UpD. -/
import Derived.Test.YtljcbibcdajhiaaWwB
import Derived.Test.YtljcbibcdajhiaaRows
import Derived.BigQuiet
import Derived.BigRegion
import Derived.Deep.RegionWith
import Derived.Deep.RegionLaw
/- The reader of framed items as a machine over bytes: pure. -/
namespace Go.Proofs.Ytljcbibcdajhiaa
open Go.RowKit

/-- An item: a number, or a text. -/
structure It where
  isInt : Bool
  num : Nat
  text : List UInt8
/-- A reader's state; out: the items so far. -/
structure RS where
  tk : Nat
  code : Nat
  fat : Nat
  plan : List UInt8
  most : Nat
  cl : Bool
  ph : Nat
  lack : Nat
  word : Nat
  tx : List UInt8
  out : List It

/-- A fault. -/
def RS.fl (s : RS) (c a : Nat) : RS := { s with code := c, fat := a, plan := [], tx := [] }
/-- The phase at which an item of that letter begins. -/
def phOf (c : UInt8) : Nat := if c = 116 then 1 else 0
/-- The next item begins. -/
def RS.beg (s : RS) : RS := match s.plan with
  | [] => { s with lack := 8, word := 0, tx := [], ph := 4 }
  | c :: r => { s with lack := 8, word := 0, tx := [], ph := phOf c, plan := r }
/-- An item is whole. -/
def RS.push (s : RS) (i : It) : RS := { s with out := s.out ++ [i] }
/-- A phase ends. -/
def RS.fin (s : RS) : RS :=
  if s.ph = 0 then (s.push ⟨true, s.word, []⟩).beg
  else if s.ph = 1 ∧ 0 < s.word then { s with ph := 2, lack := s.word }
  else if s.ph = 2 ∧ 0 < padN s.tx.length then { s with ph := 3, lack := padN s.tx.length }
  else (s.push ⟨false, 0, s.tx⟩).beg
/-- A byte was taken. -/
def RS.tick (s : RS) : RS := { s with tk := s.tk + 1, lack := s.lack - 1 }
def RS.adv (s : RS) : RS := if 0 < s.tick.lack then s.tick else s.tick.fin
/-- A byte of a number or of a length. -/
def RS.wput (s : RS) (b : UInt8) : RS := { s with word := s.word + b.toNat * 2 ^ (8 * (8 - s.lack)) }
def RS.tput (s : RS) (b : UInt8) : RS := { s with tx := s.tx ++ [b] }
def RS.tooLong (s : RS) : Bool := s.ph == 1 && s.lack == 1 && decide (s.most < s.word)
/-- Nothing more is taken. -/
def RS.off (s : RS) : Bool := s.cl || s.code != 0
/-- The next byte of a reader that is on. -/
def RS.take (s : RS) (b : UInt8) : RS :=
  if s.ph = 4 then s.fl 5 s.tk else
  if s.ph = 3 then (if b = 0 then s.adv else s.fl 7 s.tk) else
  if s.ph = 2 then (s.tput b).adv else
  if (s.wput b).tooLong then (s.wput b).fl 6 (s.tk - 7) else (s.wput b).adv
def RS.step (s : RS) (b : UInt8) : RS := if s.off then s else s.take b
def RS.run (s : RS) (l : List UInt8) : RS := l.foldl RS.step s

theorem RS.run_nil (s : RS) : s.run [] = s := rfl
theorem RS.run_cons (s : RS) (b : UInt8) (l : List UInt8) : s.run (b :: l) = (s.step b).run l := rfl
theorem RS.run_append (s : RS) (a b : List UInt8) : s.run (a ++ b) = (s.run a).run b := by unfold RS.run; rw [List.foldl_append]
theorem RS.run_off (s : RS) (h : s.off = true) (l : List UInt8) : s.run l = s := by
  induction l with
  | nil => rfl
  | cons b l ih => rw [RS.run_cons]; unfold RS.step; rw [if_pos h]; exact ih

/-- The reader of a plan, nothing taken. -/
def rs0 (plan : List UInt8) (most : Nat) : RS := ⟨0, 0, 0, plan, most, false, 0, 0, 0, [], []⟩
/-- Letters that a plan may have. -/
def okLK (c : UInt8) : Bool := c == 105 || c == 116
/-- The place of the first letter that is none. -/
def badAt (plan : List UInt8) : Nat := (plan.takeWhile okLK).length
def rsNew (plan : List UInt8) (most : Nat) : RS := if badAt plan < plan.length then (rs0 plan most).fl 30 (badAt plan) else (rs0 plan most).beg
/-- The bytes end. -/
def RS.shut (s : RS) : RS := { (if s.code = 0 ∧ s.ph ≠ 4 then s.fl 4 s.tk else s) with cl := true }

/-- What holds of a reader that is on. -/
structure RS.Inv (s : RS) : Prop where
  cl : s.cl = false
  cd : s.code = 0
  fa : s.fat = 0
  ph4 : s.ph ≤ 4
  wd : s.ph ≤ 1 → 1 ≤ s.lack ∧ s.lack ≤ 8 ∧ s.word < 2 ^ (8 * (8 - s.lack)) ∧ s.tx = [] ∧ 8 - s.lack ≤ s.tk
  wt : s.ph = 2 → 1 ≤ s.lack ∧ s.tx.length + s.lack = s.word ∧ s.word ≤ s.most
  wp : s.ph = 3 → 1 ≤ s.lack ∧ s.lack ≤ 7
  mo : s.most ≤ 9223372036854775807
  tl : s.tx.length ≤ s.tk
  ol : s.out.length ≤ s.tk
  l8 : s.ph = 4 → s.lack = 8

theorem RS.Inv.off {s : RS} (h : s.Inv) : s.off = false := by unfold RS.off; rw [h.cl, h.cd]; rfl
theorem RS.Inv.step {s : RS} (h : s.Inv) (b : UInt8) : s.step b = s.take b := by unfold RS.step; rw [h.off]; rfl

theorem RS.beg_Inv {s : RS} (cl : s.cl = false) (cd : s.code = 0) (fa : s.fat = 0) (mo : s.most ≤ 9223372036854775807) (ol : s.out.length ≤ s.tk) : s.beg.Inv := by
  obtain ⟨tk, code, fat, plan, most, c, ph, lack, word, tx, out⟩ := s
  dsimp at cl cd fa mo ol
  subst cl cd fa
  cases plan with
  | nil => exact ⟨rfl, rfl, rfl, Nat.le_refl 4, fun h => absurd h (by show ¬ 4 ≤ 1; omega), fun h => absurd h (by show ¬ 4 = 2; omega), fun h => absurd h (by show ¬ 4 = 3; omega), mo, Nat.zero_le _, ol, fun _ => rfl⟩
  | cons d p =>
    have hp : phOf d ≤ 1 := by unfold phOf; split <;> omega
    refine ⟨rfl, rfl, rfl, ?_, fun _ => ⟨by show 1 ≤ 8; omega, Nat.le_refl 8, by show 0 < 2 ^ (8 * (8 - 8)); decide, rfl, Nat.zero_le _⟩, fun h => absurd h ?_, fun h => absurd h ?_, mo, Nat.zero_le _, ol, fun _ => rfl⟩
    · show phOf d ≤ 4; omega
    · show ¬ phOf d = 2; omega
    · show ¬ phOf d = 3; omega

theorem padN_lt8 (n : Nat) : padN n < 8 := by unfold padN; omega

/-- Behind a byte, ahead of the phase's end. -/
theorem RS.fin_Inv {s : RS} (cl : s.cl = false) (cd : s.code = 0) (fa : s.fat = 0) (h1 : s.ph = 1 → s.word ≤ s.most ∧ s.tx = []) (mo : s.most ≤ 9223372036854775807) (tl : s.tx.length ≤ s.tk) (ol : s.out.length < s.tk) : s.fin.Inv := by
  unfold RS.fin
  split
  · exact RS.beg_Inv cl cd fa mo (by show (s.out ++ [_]).length ≤ s.tk; simp; omega)
  · split
    · rename_i h
      obtain ⟨e, hw⟩ := h
      refine ⟨cl, cd, fa, by show 2 ≤ 4; omega, fun h => absurd h (by show ¬ 2 ≤ 1; omega), fun _ => ⟨hw, ?_, (h1 e).1⟩, fun h => absurd h (by show ¬ 2 = 3; omega), mo, tl, by show s.out.length ≤ s.tk; omega, fun h => absurd h (by show ¬ 2 = 4; omega)⟩
      show s.tx.length + s.word = s.word
      rw [(h1 e).2]; simp
    · split
      · rename_i h
        have := padN_lt8 s.tx.length
        exact ⟨cl, cd, fa, by show 3 ≤ 4; omega, fun h => absurd h (by show ¬ 3 ≤ 1; omega), fun h => absurd h (by show ¬ 3 = 2; omega), fun _ => ⟨h.2, by show padN s.tx.length ≤ 7; omega⟩, mo, tl, by show s.out.length ≤ s.tk; omega, fun h => absurd h (by show ¬ 3 = 4; omega)⟩
      · exact RS.beg_Inv cl cd fa mo (by show (s.out ++ [_]).length ≤ s.tk; simp; omega)

theorem RS.adv_Inv {s : RS} (cl : s.cl = false) (cd : s.code = 0) (fa : s.fat = 0) (ph : s.ph ≤ 3) (hl : 1 ≤ s.lack)
    (h0 : s.ph ≤ 1 → s.lack ≤ 8 ∧ s.word < 2 ^ (8 * (9 - s.lack)) ∧ s.tx = [] ∧ 8 - s.lack ≤ s.tk) (h1 : s.ph = 1 → s.lack = 1 → s.word ≤ s.most)
    (h2 : s.ph = 2 → s.tx.length + (s.lack - 1) = s.word ∧ s.word ≤ s.most) (h3 : s.ph = 3 → s.lack ≤ 7) (mo : s.most ≤ 9223372036854775807) (tl : s.tx.length ≤ s.tk + 1) (ol : s.out.length ≤ s.tk) : s.adv.Inv := by
  unfold RS.adv
  split
  · rename_i h
    have hk : 0 < s.lack - 1 := h
    refine ⟨cl, cd, fa, by show s.ph ≤ 4; omega, fun hp => ?_, fun hp => ?_, fun hp => ?_, mo, tl, by show s.out.length ≤ s.tk + 1; omega, fun h => absurd h (by show ¬ s.ph = 4; omega)⟩
    · obtain ⟨a, b, c, d⟩ := h0 hp
      show 1 ≤ s.lack - 1 ∧ s.lack - 1 ≤ 8 ∧ s.word < 2 ^ (8 * (8 - (s.lack - 1))) ∧ s.tx = [] ∧ 8 - (s.lack - 1) ≤ s.tk + 1
      rw [show 8 - (s.lack - 1) = 9 - s.lack by omega]
      exact ⟨hk, by omega, b, c, by omega⟩
    · obtain ⟨a, b⟩ := h2 hp
      exact ⟨hk, a, b⟩
    · have := h3 hp
      exact ⟨hk, by show s.lack - 1 ≤ 7; omega⟩
  · rename_i h
    have hk : s.lack = 1 := by have : ¬ 0 < s.lack - 1 := h; omega
    refine RS.fin_Inv cl cd fa (fun hp => ⟨h1 hp hk, ?_⟩) mo tl (by show s.out.length < s.tk + 1; omega)
    exact (h0 (by have : s.ph = 1 := hp; omega)).2.2.1

theorem RS.fl_off (s : RS) (c a : Nat) (h : c ≠ 0) : (s.fl c a).off = true := by unfold RS.off RS.fl; simp [h]

/-- A byte more: a fault, or all is well. -/
theorem RS.Inv.take {s : RS} (h : s.Inv) (b : UInt8) : (s.take b).off = true ∨ (s.take b).Inv := by
  unfold RS.take
  split
  · exact .inl (RS.fl_off _ _ _ (by decide))
  split
  · rename_i hp
    split
    · right
      obtain ⟨a, c⟩ := h.wp hp
      exact RS.adv_Inv h.cl h.cd h.fa (by omega) a (fun h => absurd h (by omega)) (fun h => absurd h (by omega)) (fun h => absurd h (by omega)) (fun _ => c) h.mo (by have := h.tl; omega) h.ol
    · exact .inl (RS.fl_off _ _ _ (by decide))
  split
  · rename_i hp
    right
    obtain ⟨a, c, d⟩ := h.wt hp
    refine RS.adv_Inv h.cl h.cd h.fa (by show s.ph ≤ 3; omega) a (fun h => absurd h (by show ¬ s.ph ≤ 1; omega)) (fun h => absurd h (by show ¬ s.ph = 1; omega)) (fun _ => ⟨?_, d⟩) (fun h => absurd h (by show ¬ s.ph = 3; omega)) h.mo ?_ h.ol
    · show (s.tx ++ [b]).length + (s.lack - 1) = s.word
      simp; omega
    · show (s.tx ++ [b]).length ≤ s.tk + 1
      have := h.tl
      simp; omega
  split
  · exact .inl (RS.fl_off _ _ _ (by decide))
  · rename_i n4 n3 n2 nt
    right
    have hp : s.ph ≤ 1 := by have := h.ph4; omega
    obtain ⟨a, c, d, e, f⟩ := h.wd hp
    have hb := b.toNat_lt
    refine RS.adv_Inv h.cl h.cd h.fa (by show s.ph ≤ 3; omega) a (fun _ => ⟨c, ?_, e, f⟩) (fun hp1 hl1 => ?_) (fun h => absurd h (by show ¬ s.ph = 2; omega)) (fun h => absurd h (by show ¬ s.ph = 3; omega)) h.mo (by have := h.tl; show s.tx.length ≤ s.tk + 1; omega) h.ol
    · show s.word + b.toNat * 2 ^ (8 * (8 - s.lack)) < 2 ^ (8 * (9 - s.lack))
      rw [show 8 * (9 - s.lack) = 8 * (8 - s.lack) + 8 by omega, Nat.pow_add]
      have : b.toNat * 2 ^ (8 * (8 - s.lack)) ≤ 255 * 2 ^ (8 * (8 - s.lack)) := Nat.mul_le_mul_right _ (by omega)
      omega
    · show (s.wput b).word ≤ s.most
      have h1 : (s.wput b).ph = 1 := hp1
      have h2 : (s.wput b).lack = 1 := hl1
      unfold RS.tooLong at nt
      rw [h1, h2] at nt
      have h3 : ¬ (s.wput b).most < (s.wput b).word := by simpa using nt
      have h4 : (s.wput b).most = s.most := rfl
      omega

theorem RS.beg_push (s : RS) (i : It) : (s.push i).beg = { s.beg with out := s.out ++ [i] } := by
  obtain ⟨tk, code, fat, plan, most, cl, ph, lack, word, tx, out⟩ := s
  cases plan <;> rfl
theorem RS.push_out (s : RS) (i : It) : (s.push i).beg.out = s.out ++ [i] := by rw [RS.beg_push]
theorem RS.beg_tk (s : RS) : s.beg.tk = s.tk := by
  obtain ⟨tk, code, fat, plan, most, cl, ph, lack, word, tx, out⟩ := s
  cases plan <;> rfl
theorem RS.fin_tk (s : RS) : s.fin.tk = s.tk := by
  unfold RS.fin
  split
  · rw [RS.beg_tk]; rfl
  · split
    · rfl
    · split
      · rfl
      · rw [RS.beg_tk]; rfl
theorem RS.adv_tk (s : RS) : s.adv.tk = s.tk + 1 := by
  unfold RS.adv
  split
  · rfl
  · rw [RS.fin_tk]; rfl
theorem RS.step_tk (s : RS) (b : UInt8) : (s.step b).tk ≤ s.tk + 1 := by
  unfold RS.step RS.take
  split
  · omega
  split
  · exact Nat.le_succ _
  split
  · split
    · rw [RS.adv_tk]; exact Nat.le_refl _
    · exact Nat.le_succ _
  split
  · rw [RS.adv_tk]; exact Nat.le_refl _
  split
  · exact Nat.le_succ _
  · rw [RS.adv_tk]; exact Nat.le_refl _
theorem RS.run_tk (s : RS) (l : List UInt8) : (s.run l).tk ≤ s.tk + l.length := by
  induction l generalizing s with
  | nil => exact Nat.le_refl _
  | cons b l ih =>
    have := ih (s.step b)
    have := RS.step_tk s b
    rw [RS.run_cons, List.length_cons]
    omega
theorem RS.fin_n (s : RS) (h : s.ph = 0) : s.fin = (s.push ⟨true, s.word, []⟩).beg := if_pos h
theorem RS.fin_l (s : RS) (h : s.ph = 1) (hw : 0 < s.word) : s.fin = { s with ph := 2, lack := s.word } := by
  unfold RS.fin
  rw [if_neg (by omega), if_pos ⟨h, hw⟩]
theorem RS.fin_p (s : RS) (h : s.ph = 2) (hw : 0 < padN s.tx.length) : s.fin = { s with ph := 3, lack := padN s.tx.length } := by
  unfold RS.fin
  rw [if_neg (by omega), if_neg (by omega), if_pos ⟨h, hw⟩]
theorem RS.fin_t (s : RS) (h : s.ph ≠ 0) (h1 : s.ph = 1 → s.word = 0) (h2 : s.ph = 2 → padN s.tx.length = 0) : s.fin = (s.push ⟨false, 0, s.tx⟩).beg := by
  unfold RS.fin
  rw [if_neg h, if_neg (fun c => by have := h1 c.1; omega), if_neg (fun c => by have := h2 c.1; omega)]

theorem RS.beg_off (s : RS) : s.beg.off = s.off := by
  obtain ⟨tk, code, fat, plan, most, cl, ph, lack, word, tx, out⟩ := s
  cases plan <;> rfl
theorem RS.fin_off (s : RS) : s.fin.off = s.off := by
  unfold RS.fin
  split
  · rw [RS.beg_off]; rfl
  · split
    · rfl
    · split
      · rfl
      · rw [RS.beg_off]; rfl
theorem RS.adv_off (s : RS) : s.adv.off = s.off := by
  unfold RS.adv
  split
  · rfl
  · rw [RS.fin_off]; rfl

end Go.Proofs.Ytljcbibcdajhiaa
/- What a reader has of the bytes so far, by the plan: the machine and the document agree. -/
namespace Go.Proofs.Ytljcbibcdajhiaa
open Go.RowKit

/-- A number out of its bytes, the lowest first. -/
def le : List UInt8 → Nat
  | [] => 0
  | b :: l => b.toNat + 256 * le l

theorem le_lt (l : List UInt8) : le l < 256 ^ l.length := by
  induction l with
  | nil => exact Nat.one_pos
  | cons b l ih =>
    have hb := b.toNat_lt
    show b.toNat + 256 * le l < 256 ^ (l.length + 1)
    rw [Nat.pow_succ]
    omega

theorem le_append (a b : List UInt8) : le (a ++ b) = le a + 256 ^ a.length * le b := by
  induction a with
  | nil => show le b = 0 + 256 ^ 0 * le b; omega
  | cons c a ih =>
    show c.toNat + 256 * le (a ++ b) = c.toNat + 256 * le a + 256 ^ (a.length + 1) * le b
    rw [ih, Nat.pow_succ, Nat.mul_add, ← Nat.mul_assoc, Nat.mul_comm 256 (256 ^ a.length), Nat.add_assoc]

/-- What a reader has. -/
structure Got where
  out : List It
  code : Nat
  fat : Nat
  tk : Nat
def RS.got (s : RS) : Got := ⟨s.out, s.code, s.fat, s.tk⟩

/-- How many of the padding's bytes that are there are noughts, from the first on. -/
def zeros (z : List UInt8) : Nat := (z.takeWhile (· == 0)).length

/-- The document's reading, from a place on. -/
def rdG (most : Nat) : List UInt8 → List UInt8 → Nat → List It → Got
  | [], rem, at_, out => if rem.length = 0 then ⟨out, 0, 0, at_⟩ else ⟨out, 5, at_, at_⟩
  | c :: p, rem, at_, out =>
    if rem.length < 8 then ⟨out, 0, 0, at_ + rem.length⟩
    else if c = 116 then
      if most < le (rem.take 8) then ⟨out, 6, at_, at_ + 7⟩
      else if zeros (((rem.drop 8).drop (le (rem.take 8))).take (padN (le (rem.take 8)))) < (((rem.drop 8).drop (le (rem.take 8))).take (padN (le (rem.take 8)))).length then
        ⟨out, 7, at_ + 8 + le (rem.take 8) + zeros (((rem.drop 8).drop (le (rem.take 8))).take (padN (le (rem.take 8)))), at_ + 8 + le (rem.take 8) + zeros (((rem.drop 8).drop (le (rem.take 8))).take (padN (le (rem.take 8))))⟩
      else if (rem.drop 8).length < le (rem.take 8) + padN (le (rem.take 8)) then ⟨out, 0, 0, at_ + rem.length⟩
      else rdG most p ((rem.drop 8).drop (le (rem.take 8) + padN (le (rem.take 8)))) (at_ + 8 + le (rem.take 8) + padN (le (rem.take 8))) (out ++ [⟨false, 0, (rem.drop 8).take (le (rem.take 8))⟩])
    else rdG most p (rem.drop 8) (at_ + 8) (out ++ [⟨true, le (rem.take 8), []⟩])

/-- A reader that is on. -/
def on (tk : Nat) (plan : List UInt8) (most ph lack word : Nat) (tx : List UInt8) (out : List It) : RS := ⟨tk, 0, 0, plan, most, false, ph, lack, word, tx, out⟩
/-- At the beginning of an item. -/
def bg (plan : List UInt8) (most tk : Nat) (out : List It) : RS := (on tk plan most 0 0 0 [] out).beg

theorem beg_on (tk : Nat) (plan : List UInt8) (most ph lack word : Nat) (tx : List UInt8) (out : List It) : (on tk plan most ph lack word tx out).beg = bg plan most tk out := by
  cases plan with
  | nil => rfl
  | cons c p => rfl

theorem step_on (tk : Nat) (plan : List UInt8) (most ph lack word : Nat) (tx : List UInt8) (out : List It) (b : UInt8) : (on tk plan most ph lack word tx out).step b = (on tk plan most ph lack word tx out).take b := rfl

theorem adv_on (tk : Nat) (plan : List UInt8) (most ph lack word : Nat) (tx : List UInt8) (out : List It) (h : 1 < lack) : (on tk plan most ph lack word tx out).adv = on (tk + 1) plan most ph (lack - 1) word tx out := by
  exact (if_pos (show 0 < lack - 1 by omega)).trans rfl
theorem adv_end (tk : Nat) (plan : List UInt8) (most ph word : Nat) (tx : List UInt8) (out : List It) : (on tk plan most ph 1 word tx out).adv = (on (tk + 1) plan most ph 0 word tx out).fin := by
  exact (if_neg (show ¬ 0 < 1 - 1 by omega)).trans rfl

theorem take_word (tk : Nat) (plan : List UInt8) (most ph lack word : Nat) (tx : List UInt8) (out : List It) (b : UInt8) (hp : ph ≤ 1) :
    (on tk plan most ph lack word tx out).take b = if (on tk plan most ph lack (word + b.toNat * 2 ^ (8 * (8 - lack))) tx out).tooLong then (on tk plan most ph lack (word + b.toNat * 2 ^ (8 * (8 - lack))) tx out).fl 6 (tk - 7) else (on tk plan most ph lack (word + b.toNat * 2 ^ (8 * (8 - lack))) tx out).adv := by
  refine (if_neg (show ¬ ph = 4 by omega)).trans ?_
  refine (if_neg (show ¬ ph = 3 by omega)).trans ?_
  exact (if_neg (show ¬ ph = 2 by omega)).trans rfl
theorem take_text (tk : Nat) (plan : List UInt8) (most lack word : Nat) (tx : List UInt8) (out : List It) (b : UInt8) :
    (on tk plan most 2 lack word tx out).take b = (on tk plan most 2 lack word (tx ++ [b]) out).adv := rfl
theorem take_pad (tk : Nat) (plan : List UInt8) (most lack word : Nat) (tx : List UInt8) (out : List It) (b : UInt8) :
    (on tk plan most 3 lack word tx out).take b = if b = 0 then (on tk plan most 3 lack word tx out).adv else (on tk plan most 3 lack word tx out).fl 7 tk := rfl

theorem pow_28 (k : Nat) : 2 ^ (8 * k) = 256 ^ k := by rw [Nat.pow_mul]

/-- Bytes of a word that doesn't end with them. -/
theorem run_word (l : List UInt8) : ∀ (tk : Nat) (plan : List UInt8) (most ph lack word : Nat) (tx : List UInt8) (out : List It), ph ≤ 1 → l.length < lack → lack ≤ 8 →
    (on tk plan most ph lack word tx out).run l = on (tk + l.length) plan most ph (lack - l.length) (word + 256 ^ (8 - lack) * le l) tx out := by
  induction l with
  | nil => intros; rfl
  | cons b l ih =>
    intro tk plan most ph lack word tx out hp hl h8
    have hl' : l.length + 1 < lack := hl
    rw [RS.run_cons, step_on, take_word _ _ _ _ _ _ _ _ _ hp, if_neg (by unfold RS.tooLong; show ¬ (ph == 1 && lack == 1 && decide _) = true; rw [show (lack == 1) = false by simp; omega]; simp), adv_on _ _ _ _ _ _ _ _ (by omega), ih _ _ _ _ _ _ _ _ hp (by omega) (by omega)]
    show on (tk + 1 + l.length) plan most ph (lack - 1 - l.length) (word + b.toNat * 2 ^ (8 * (8 - lack)) + 256 ^ (8 - (lack - 1)) * le l) tx out = on (tk + (l.length + 1)) plan most ph (lack - (l.length + 1)) (word + 256 ^ (8 - lack) * (b.toNat + 256 * le l)) tx out
    have e : word + b.toNat * 2 ^ (8 * (8 - lack)) + 256 ^ (8 - (lack - 1)) * le l = word + 256 ^ (8 - lack) * (b.toNat + 256 * le l) := by
      rw [pow_28, show 8 - (lack - 1) = (8 - lack) + 1 by omega, Nat.pow_succ, Nat.mul_add, Nat.mul_comm b.toNat, Nat.mul_assoc, Nat.add_assoc]
    rw [e, show tk + 1 + l.length = tk + (l.length + 1) by omega, show lack - 1 - l.length = lack - (l.length + 1) by omega]

/-- Bytes of a text that doesn't end with them. -/
theorem run_text (l : List UInt8) : ∀ (tk : Nat) (plan : List UInt8) (most lack word : Nat) (tx : List UInt8) (out : List It), l.length < lack →
    (on tk plan most 2 lack word tx out).run l = on (tk + l.length) plan most 2 (lack - l.length) word (tx ++ l) out := by
  induction l with
  | nil => intros; rw [List.append_nil]; rfl
  | cons b l ih =>
    intro tk plan most lack word tx out hl
    have hl' : l.length + 1 < lack := hl
    rw [RS.run_cons, step_on, take_text, adv_on _ _ _ _ _ _ _ _ (by omega), ih _ _ _ _ _ _ _ (by omega)]
    show on (tk + 1 + l.length) plan most 2 (lack - 1 - l.length) word (tx ++ [b] ++ l) out = on (tk + (l.length + 1)) plan most 2 (lack - (l.length + 1)) word (tx ++ b :: l) out
    rw [show tk + 1 + l.length = tk + (l.length + 1) by omega, show lack - 1 - l.length = lack - (l.length + 1) by omega, List.append_assoc]
    rfl

theorem fin_num (tk : Nat) (plan : List UInt8) (most lack word : Nat) (tx : List UInt8) (out : List It) : (on tk plan most 0 lack word tx out).fin = bg plan most tk (out ++ [⟨true, word, []⟩]) := by
  rw [← beg_on tk plan most 0 lack word tx]
  rfl
theorem fin_none (tk : Nat) (plan : List UInt8) (most lack : Nat) (tx : List UInt8) (out : List It) : (on tk plan most 1 lack 0 tx out).fin = bg plan most tk (out ++ [⟨false, 0, tx⟩]) := by
  rw [← beg_on tk plan most 1 lack 0 tx]
  rfl
theorem fin_len (tk : Nat) (plan : List UInt8) (most lack word : Nat) (tx : List UInt8) (out : List It) (h : 0 < word) : (on tk plan most 1 lack word tx out).fin = on tk plan most 2 word word tx out := by
  refine (if_neg (show ¬ (1 : Nat) = 0 by omega)).trans ?_
  exact (if_pos (show (1 : Nat) = 1 ∧ 0 < word from ⟨rfl, h⟩)).trans rfl
theorem fin_text (tk : Nat) (plan : List UInt8) (most lack word : Nat) (tx : List UInt8) (out : List It) : (on tk plan most 2 lack word tx out).fin = if 0 < padN tx.length then on tk plan most 3 (padN tx.length) word tx out else bg plan most tk (out ++ [⟨false, 0, tx⟩]) := by
  rw [← beg_on tk plan most 2 lack word tx]
  refine (if_neg (show ¬ (2 : Nat) = 0 by omega)).trans ?_
  refine (if_neg (show ¬ ((2 : Nat) = 1 ∧ 0 < word) by omega)).trans ?_
  by_cases h : 0 < padN tx.length
  · rw [if_pos h]; exact (if_pos (show (2 : Nat) = 2 ∧ 0 < padN tx.length from ⟨rfl, h⟩)).trans rfl
  · rw [if_neg h]; exact (if_neg (show ¬ ((2 : Nat) = 2 ∧ 0 < padN tx.length) from fun c => h c.2)).trans rfl
theorem fin_pad (tk : Nat) (plan : List UInt8) (most lack word : Nat) (tx : List UInt8) (out : List It) : (on tk plan most 3 lack word tx out).fin = bg plan most tk (out ++ [⟨false, 0, tx⟩]) := by
  rw [← beg_on tk plan most 3 lack word tx]
  rfl

/-- Behind a text's last byte, ahead of its padding. -/
theorem run_pad (rem : List UInt8) : ∀ (tk : Nat) (plan : List UInt8) (most lack word : Nat) (tx : List UInt8) (out : List It), 0 < lack →
    ((on tk plan most 3 lack word tx out).run rem).got =
      if zeros (rem.take lack) < (rem.take lack).length then ⟨out, 7, tk + zeros (rem.take lack), tk + zeros (rem.take lack)⟩
      else if rem.length < lack then ⟨out, 0, 0, tk + rem.length⟩
      else ((bg plan most (tk + lack) (out ++ [⟨false, 0, tx⟩])).run (rem.drop lack)).got := by
  induction rem with
  | nil =>
    intro tk plan most lack word tx out h
    rw [List.take_nil, if_neg (by unfold zeros; simp), if_pos (by simpa using h)]
    rfl
  | cons b l ih =>
    intro tk plan most lack word tx out h
    obtain ⟨m, rfl⟩ : ∃ m, lack = m + 1 := ⟨lack - 1, by omega⟩
    rw [RS.run_cons, step_on, take_pad, List.take_succ_cons, List.drop_succ_cons]
    by_cases hb : b = 0
    · subst hb
      have hz : zeros ((0 : UInt8) :: l.take m) = zeros (l.take m) + 1 := by unfold zeros; simp
      rw [if_pos rfl, hz, List.length_cons, List.length_cons]
      by_cases hm : m = 0
      · subst hm
        rw [adv_end, fin_pad, List.take_zero, if_neg (by unfold zeros; simp), if_neg (by omega)]
        rfl
      · rw [adv_on _ _ _ _ _ _ _ _ (by omega), ih _ _ _ _ _ _ _ (by omega), show m + 1 - 1 = m by omega]
        by_cases c1 : zeros (l.take m) < (l.take m).length
        · rw [if_pos c1, if_pos (show zeros (l.take m) + 1 < (l.take m).length + 1 by omega)]
          congr 1 <;> omega
        · rw [if_neg c1, if_neg (show ¬ zeros (l.take m) + 1 < (l.take m).length + 1 by omega)]
          by_cases c2 : l.length < m
          · rw [if_pos c2, if_pos (show l.length + 1 < m + 1 by omega)]
            congr 1; omega
          · rw [if_neg c2, if_neg (show ¬ l.length + 1 < m + 1 by omega), show tk + 1 + m = tk + (m + 1) by omega]
    · have hz : zeros (b :: l.take m) = 0 := by unfold zeros; simp [hb]
      rw [if_neg hb, hz, if_pos (by simp), RS.run_off _ rfl]
      rfl

theorem parted {α : Type} (l : List α) (k : Nat) (h : k < l.length) : ∃ a b c, l = a ++ b :: c ∧ a.length = k := by
  refine ⟨l.take k, l[k], l.drop (k + 1), ?_, by rw [List.length_take]; omega⟩
  rw [← List.drop_eq_getElem_cons h, List.take_append_drop]

theorem zeros_nil : zeros [] = 0 := rfl

/-- The machine does as the document says. -/
theorem run_rdG (plan : List UInt8) : ∀ (rem : List UInt8) (most tk : Nat) (out : List It), ((bg plan most tk out).run rem).got = rdG most plan rem tk out := by
  induction plan with
  | nil =>
    intro rem most tk out
    unfold rdG
    cases rem with
    | nil => rfl
    | cons b l =>
      rw [if_neg (by simp), RS.run_cons]
      show ((((bg [] most tk out)).fl 5 tk).run l).got = _
      rw [RS.run_off _ rfl]
      rfl
  | cons c p ih =>
    intro rem most tk out
    have hph : phOf c ≤ 1 := by unfold phOf; split <;> omega
    have e0 : bg (c :: p) most tk out = on tk p most (phOf c) 8 0 [] out := rfl
    rw [e0]
    unfold rdG
    by_cases h8 : rem.length < 8
    · rw [if_pos h8, run_word _ _ _ _ _ _ _ _ _ hph h8 (by omega)]
      rfl
    rw [if_neg h8]
    obtain ⟨l7, b, r, rfl, hl7⟩ : ∃ l7 b r, rem = l7 ++ b :: r ∧ l7.length = 7 := parted rem 7 (by omega)
    have t8 : (l7 ++ b :: r).take 8 = l7 ++ [b] := by rw [List.take_append, hl7, List.take_of_length_le (by omega)]; rfl
    have d8 : (l7 ++ b :: r).drop 8 = r := by rw [List.drop_append, hl7, List.drop_of_length_le (by omega)]; rfl
    have hle : 0 + 256 ^ (8 - 8) * le l7 + b.toNat * 2 ^ (8 * (8 - (8 - 7))) = le (l7 ++ [b]) := by
      have e1 : le [b] = b.toNat := by unfold le; unfold le; omega
      have e2 : 8 * (8 - (8 - 7)) = 8 * 7 := rfl
      rw [le_append, hl7, e1, e2, pow_28, Nat.sub_self, Nat.pow_zero, Nat.one_mul, Nat.zero_add, Nat.mul_comm]
    rw [t8, d8, RS.run_append, run_word _ _ _ _ _ _ _ _ _ hph (by omega) (by omega), RS.run_cons, step_on, take_word _ _ _ _ _ _ _ _ _ hph, hl7, hle]
    generalize le (l7 ++ [b]) = n
    by_cases hc : c = 116
    · have hp1 : phOf c = 1 := by unfold phOf; rw [if_pos hc]
      rw [if_pos hc, hp1]
      by_cases hm : most < n
      · rw [if_pos hm, if_pos (by show ((1 : Nat) == 1 && (8 - 7 : Nat) == 1 && decide (most < n)) = true; simp [hm]), RS.run_off _ rfl]
        show Got.mk out 6 (tk + 7 - 7) (tk + 7) = _
        rw [Nat.add_sub_cancel]
      · rw [if_neg hm, if_neg (by show ¬ ((1 : Nat) == 1 && (8 - 7 : Nat) == 1 && decide (most < n)) = true; simp [hm]), adv_end]
        by_cases hn : n = 0
        · subst hn
          have p0 : padN 0 = 0 := rfl
          rw [fin_none, p0, List.take_zero, zeros_nil, if_neg (by simp), if_neg (by omega), ih]
          rfl
        · rw [fin_len _ _ _ _ _ _ _ (by omega)]
          by_cases hr : r.length < n
          · rw [run_text _ _ _ _ _ _ _ _ hr, List.drop_of_length_le (by omega), List.take_nil, zeros_nil, if_neg (by simp), if_pos (by omega)]
            show Got.mk out 0 0 (tk + 7 + 1 + r.length) = _
            rw [List.length_append, hl7, List.length_cons]
            congr 1; omega
          · -- the text's bytes, then the padding
            obtain ⟨t, d, q, rfl, ht⟩ : ∃ t d q, r = t ++ d :: q ∧ t.length + 1 = n := by
              obtain ⟨t, d, q, e, ht⟩ := parted r (n - 1) (by omega)
              exact ⟨t, d, q, e, by omega⟩
            have tn : (t ++ d :: q).take n = t ++ [d] := by rw [List.take_append, List.take_of_length_le (by omega), show n - t.length = 1 by omega]; rfl
            have dn : (t ++ d :: q).drop n = q := by rw [List.drop_append, List.drop_of_length_le (by omega), show n - t.length = 1 by omega]; rfl
            have dnp : (t ++ d :: q).drop (n + padN n) = q.drop (padN n) := by rw [← List.drop_drop, dn]
            have lt : (t ++ [d]).length = n := by simp; omega
            rw [tn, dn, dnp, RS.run_append, run_text _ _ _ _ _ _ _ _ (by omega), RS.run_cons, step_on, take_text, show n - t.length = 1 by omega, adv_end, fin_text, List.nil_append, lt]
            have e1 : tk + 7 + 1 + t.length + 1 = tk + 8 + n := by omega
            rw [e1]
            by_cases hpn : 0 < padN n
            · rw [if_pos hpn, run_pad _ _ _ _ _ _ _ _ hpn]
              by_cases c1 : zeros (q.take (padN n)) < (q.take (padN n)).length
              · rw [if_pos c1, if_pos c1]
              · rw [if_neg c1, if_neg c1]
                by_cases c2 : q.length < padN n
                · rw [if_pos c2, if_pos (by simp; omega)]
                  congr 1
                  simp; omega
                · rw [if_neg c2, if_neg (by simp; omega), ih]
            · rw [if_neg hpn, show padN n = 0 by omega, List.take_zero, zeros_nil, if_neg (by simp), if_neg (by simp; omega), ih, List.drop_zero]
              rfl
    · have hp0 : phOf c = 0 := by unfold phOf; rw [if_neg hc]
      rw [if_neg hc, hp0, if_neg (by show ¬ ((0 : Nat) == 1 && (8 - 7 : Nat) == 1 && decide _) = true; simp), adv_end, fin_num, ih]

end Go.Proofs.Ytljcbibcdajhiaa
/- A reader in memory: ten cells and its text's block. -/
namespace Go.Proofs.Ytljcbibcdajhiaa
open Go.RowKit

/-- The bytes of a list. -/
def ba (l : List UInt8) : ByteArray := ⟨l.toArray⟩

theorem ba_size (l : List UInt8) : (ba l).size = l.length := by
  show l.toArray.size = _
  simp
theorem bt_ba (l : List UInt8) (k : Nat) (h : k < l.length) : bt (ba l) k = ((l[k]'h).toNat : Int) := by
  unfold bt
  rw [dif_pos (by rw [ba_size]; exact h)]
  rfl
theorem ba_append (a b : List UInt8) : ba (a ++ b) = ba a ++ ba b := by
  apply bytes_ext
  · rw [ByteArray.size_append, ba_size, ba_size, ba_size, List.length_append]
  · intro k hk
    rw [ba_size, List.length_append] at hk
    rw [bt_append, bt_ba _ _ (by rw [List.length_append]; exact hk), ba_size]
    by_cases h : k < a.length
    · rw [if_pos h, bt_ba _ _ h, List.getElem_append_left h]
    · rw [if_neg h, bt_ba _ _ (by omega), List.getElem_append_right (by omega)]
theorem ba_list (s : ByteArray) : ba s.data.toList = s := by
  apply ByteArray.ext
  simp [ba]

/-- Block g is a reader in that state; its text is v. -/
structure Rd (w : World) (g : Nat) (v : Value) (s : RS) : Prop where
  c0 : w.cell? ⟨g, 0, none⟩ = some (.int .i64 s.tk)
  c1 : w.cell? ⟨g, 1, none⟩ = some (.int .i64 s.code)
  c2 : w.cell? ⟨g, 2, none⟩ = some (.int .i64 s.fat)
  c3 : w.cell? ⟨g, 3, none⟩ = some (.string (ba s.plan))
  c4 : w.cell? ⟨g, 4, none⟩ = some (.int .u64 s.most)
  c5 : w.cell? ⟨g, 5, none⟩ = some (.bool s.cl)
  c6 : w.cell? ⟨g, 6, none⟩ = some (.int .i64 s.ph)
  c7 : w.cell? ⟨g, 7, none⟩ = some (.int .i64 s.lack)
  c8 : w.cell? ⟨g, 8, none⟩ = some (.int .u64 s.word)
  c9 : w.cell? ⟨g, 9, none⟩ = some v
  fr : ∀ j, j < 10 → w.frozen? ⟨g, j, none⟩ = false
  lt : g < w.heap.size
  buf : Buf w 0 v s.tx.length (fun j => .int .u8 (bt (ba s.tx) j))
  ne : v.ownBlock ≠ some g

theorem Rd.same {w w' : World} {g : Nat} {v : Value} {s : RS} (h : Rd w g v s) (hs : w.heap.size ≤ w'.heap.size) (e : w'.heap[g]? = w.heap[g]?) (e2 : ∀ k, v.ownBlock = some k → w'.heap[k]? = w.heap[k]?) : Rd w' g v s := by
  have hc : ∀ j, w'.cell? ⟨g, j, none⟩ = w.cell? ⟨g, j, none⟩ := fun j => World.cell?_of_block (w := w) (w' := w') (a := ⟨g, j, none⟩) e
  refine ⟨?_, ?_, ?_, ?_, ?_, ?_, ?_, ?_, ?_, ?_, fun j hj => ?_, Nat.lt_of_lt_of_le h.lt hs, h.buf.same hs e2, h.ne⟩
  · rw [hc]; exact h.c0
  · rw [hc]; exact h.c1
  · rw [hc]; exact h.c2
  · rw [hc]; exact h.c3
  · rw [hc]; exact h.c4
  · rw [hc]; exact h.c5
  · rw [hc]; exact h.c6
  · rw [hc]; exact h.c7
  · rw [hc]; exact h.c8
  · rw [hc]; exact h.c9
  · rw [World.frozen?_of_block (w := w) (w' := w') (a := ⟨g, j, none⟩) e]; exact h.fr j hj

theorem Rd.below {w w' : World} {g : Nat} {v : Value} {s : RS} (h : Rd w g v s) (b : Below w.heap.size w w') : Rd w' g v s :=
  h.same b.size (b.block g h.lt) (fun k hk => b.block k (h.buf.lt k hk).2)
theorem Rd.alloc {w : World} {g : Nat} {v : Value} {s : RS} (h : Rd w g v s) (o : Obj) : Rd (w.alloc o) g v s := h.below ((Below.refl _ _).alloc (Nat.le_refl _) o)
theorem Rd.drew {w : World} {g : Nat} {v : Value} {s : RS} (h : Rd w g v s) : Rd w.drew g v s := h.same (Nat.le_refl _) rfl (fun _ _ => rfl)
theorem Rd.drewN {w : World} {g : Nat} {v : Value} {s : RS} (h : Rd w g v s) (q : Nat) : Rd (w.drewN q) g v s := h.same (Nat.le_refl _) rfl (fun _ _ => rfl)

/-- Cell j of the reader written over. -/
theorem Rd.bufSet {w : World} {g : Nat} {v : Value} {s : RS} (h : Rd w g v s) (j : Nat) (x : Value) : Buf (w.setCell ⟨g, j, none⟩ x) 0 v s.tx.length (fun j => .int .u8 (bt (ba s.tx) j)) :=
  h.buf.same (by simp) (fun k hk => Below.heap_setCell w _ _ k (fun e => h.ne (by rw [hk, e])))
theorem cell_otherK (w : World) (g i j : Nat) (x : Value) (h : i ≠ j) : (w.setCell ⟨g, j, none⟩ x).cell? ⟨g, i, none⟩ = w.cell? ⟨g, i, none⟩ :=
  World.cell?_setCell_other _ _ _ _ (fun c => h (by injection c with _ c2 _; exact c2.symm))
def RS.s0 (s : RS) (n : Nat) : RS := { s with tk := n }
theorem Rd.set0 {w : World} {g : Nat} {v : Value} {s : RS} (h : Rd w g v s) (n : Nat) {x : Value} (hx : x = .int .i64 (n : Int)) : Rd (w.setCell ⟨g, 0, none⟩ x) g v (s.s0 n) := by
  subst hx
  exact ⟨World.cell?_setCell_same _ _ _ h.c0, (cell_otherK w g 1 0 _ (by decide)).trans h.c1, (cell_otherK w g 2 0 _ (by decide)).trans h.c2, (cell_otherK w g 3 0 _ (by decide)).trans h.c3, (cell_otherK w g 4 0 _ (by decide)).trans h.c4, (cell_otherK w g 5 0 _ (by decide)).trans h.c5, (cell_otherK w g 6 0 _ (by decide)).trans h.c6, (cell_otherK w g 7 0 _ (by decide)).trans h.c7, (cell_otherK w g 8 0 _ (by decide)).trans h.c8, (cell_otherK w g 9 0 _ (by decide)).trans h.c9, fun j hj => by rw [World.frozen?_setCell]; exact h.fr j hj, by simpa using h.lt, h.bufSet _ _, h.ne⟩
def RS.s1 (s : RS) (n : Nat) : RS := { s with code := n }
theorem Rd.set1 {w : World} {g : Nat} {v : Value} {s : RS} (h : Rd w g v s) (n : Nat) {x : Value} (hx : x = .int .i64 (n : Int)) : Rd (w.setCell ⟨g, 1, none⟩ x) g v (s.s1 n) := by
  subst hx
  exact ⟨(cell_otherK w g 0 1 _ (by decide)).trans h.c0, World.cell?_setCell_same _ _ _ h.c1, (cell_otherK w g 2 1 _ (by decide)).trans h.c2, (cell_otherK w g 3 1 _ (by decide)).trans h.c3, (cell_otherK w g 4 1 _ (by decide)).trans h.c4, (cell_otherK w g 5 1 _ (by decide)).trans h.c5, (cell_otherK w g 6 1 _ (by decide)).trans h.c6, (cell_otherK w g 7 1 _ (by decide)).trans h.c7, (cell_otherK w g 8 1 _ (by decide)).trans h.c8, (cell_otherK w g 9 1 _ (by decide)).trans h.c9, fun j hj => by rw [World.frozen?_setCell]; exact h.fr j hj, by simpa using h.lt, h.bufSet _ _, h.ne⟩
def RS.s2 (s : RS) (n : Nat) : RS := { s with fat := n }
theorem Rd.set2 {w : World} {g : Nat} {v : Value} {s : RS} (h : Rd w g v s) (n : Nat) {x : Value} (hx : x = .int .i64 (n : Int)) : Rd (w.setCell ⟨g, 2, none⟩ x) g v (s.s2 n) := by
  subst hx
  exact ⟨(cell_otherK w g 0 2 _ (by decide)).trans h.c0, (cell_otherK w g 1 2 _ (by decide)).trans h.c1, World.cell?_setCell_same _ _ _ h.c2, (cell_otherK w g 3 2 _ (by decide)).trans h.c3, (cell_otherK w g 4 2 _ (by decide)).trans h.c4, (cell_otherK w g 5 2 _ (by decide)).trans h.c5, (cell_otherK w g 6 2 _ (by decide)).trans h.c6, (cell_otherK w g 7 2 _ (by decide)).trans h.c7, (cell_otherK w g 8 2 _ (by decide)).trans h.c8, (cell_otherK w g 9 2 _ (by decide)).trans h.c9, fun j hj => by rw [World.frozen?_setCell]; exact h.fr j hj, by simpa using h.lt, h.bufSet _ _, h.ne⟩
def RS.s3 (s : RS) (n : List UInt8) : RS := { s with plan := n }
theorem Rd.set3 {w : World} {g : Nat} {v : Value} {s : RS} (h : Rd w g v s) (n : List UInt8) {x : Value} (hx : x = .string (ba n)) : Rd (w.setCell ⟨g, 3, none⟩ x) g v (s.s3 n) := by
  subst hx
  exact ⟨(cell_otherK w g 0 3 _ (by decide)).trans h.c0, (cell_otherK w g 1 3 _ (by decide)).trans h.c1, (cell_otherK w g 2 3 _ (by decide)).trans h.c2, World.cell?_setCell_same _ _ _ h.c3, (cell_otherK w g 4 3 _ (by decide)).trans h.c4, (cell_otherK w g 5 3 _ (by decide)).trans h.c5, (cell_otherK w g 6 3 _ (by decide)).trans h.c6, (cell_otherK w g 7 3 _ (by decide)).trans h.c7, (cell_otherK w g 8 3 _ (by decide)).trans h.c8, (cell_otherK w g 9 3 _ (by decide)).trans h.c9, fun j hj => by rw [World.frozen?_setCell]; exact h.fr j hj, by simpa using h.lt, h.bufSet _ _, h.ne⟩
def RS.s4 (s : RS) (n : Nat) : RS := { s with most := n }
theorem Rd.set4 {w : World} {g : Nat} {v : Value} {s : RS} (h : Rd w g v s) (n : Nat) {x : Value} (hx : x = .int .u64 (n : Int)) : Rd (w.setCell ⟨g, 4, none⟩ x) g v (s.s4 n) := by
  subst hx
  exact ⟨(cell_otherK w g 0 4 _ (by decide)).trans h.c0, (cell_otherK w g 1 4 _ (by decide)).trans h.c1, (cell_otherK w g 2 4 _ (by decide)).trans h.c2, (cell_otherK w g 3 4 _ (by decide)).trans h.c3, World.cell?_setCell_same _ _ _ h.c4, (cell_otherK w g 5 4 _ (by decide)).trans h.c5, (cell_otherK w g 6 4 _ (by decide)).trans h.c6, (cell_otherK w g 7 4 _ (by decide)).trans h.c7, (cell_otherK w g 8 4 _ (by decide)).trans h.c8, (cell_otherK w g 9 4 _ (by decide)).trans h.c9, fun j hj => by rw [World.frozen?_setCell]; exact h.fr j hj, by simpa using h.lt, h.bufSet _ _, h.ne⟩
def RS.s5 (s : RS) (n : Bool) : RS := { s with cl := n }
theorem Rd.set5 {w : World} {g : Nat} {v : Value} {s : RS} (h : Rd w g v s) (n : Bool) {x : Value} (hx : x = .bool n) : Rd (w.setCell ⟨g, 5, none⟩ x) g v (s.s5 n) := by
  subst hx
  exact ⟨(cell_otherK w g 0 5 _ (by decide)).trans h.c0, (cell_otherK w g 1 5 _ (by decide)).trans h.c1, (cell_otherK w g 2 5 _ (by decide)).trans h.c2, (cell_otherK w g 3 5 _ (by decide)).trans h.c3, (cell_otherK w g 4 5 _ (by decide)).trans h.c4, World.cell?_setCell_same _ _ _ h.c5, (cell_otherK w g 6 5 _ (by decide)).trans h.c6, (cell_otherK w g 7 5 _ (by decide)).trans h.c7, (cell_otherK w g 8 5 _ (by decide)).trans h.c8, (cell_otherK w g 9 5 _ (by decide)).trans h.c9, fun j hj => by rw [World.frozen?_setCell]; exact h.fr j hj, by simpa using h.lt, h.bufSet _ _, h.ne⟩
def RS.s6 (s : RS) (n : Nat) : RS := { s with ph := n }
theorem Rd.set6 {w : World} {g : Nat} {v : Value} {s : RS} (h : Rd w g v s) (n : Nat) {x : Value} (hx : x = .int .i64 (n : Int)) : Rd (w.setCell ⟨g, 6, none⟩ x) g v (s.s6 n) := by
  subst hx
  exact ⟨(cell_otherK w g 0 6 _ (by decide)).trans h.c0, (cell_otherK w g 1 6 _ (by decide)).trans h.c1, (cell_otherK w g 2 6 _ (by decide)).trans h.c2, (cell_otherK w g 3 6 _ (by decide)).trans h.c3, (cell_otherK w g 4 6 _ (by decide)).trans h.c4, (cell_otherK w g 5 6 _ (by decide)).trans h.c5, World.cell?_setCell_same _ _ _ h.c6, (cell_otherK w g 7 6 _ (by decide)).trans h.c7, (cell_otherK w g 8 6 _ (by decide)).trans h.c8, (cell_otherK w g 9 6 _ (by decide)).trans h.c9, fun j hj => by rw [World.frozen?_setCell]; exact h.fr j hj, by simpa using h.lt, h.bufSet _ _, h.ne⟩
def RS.s7 (s : RS) (n : Nat) : RS := { s with lack := n }
theorem Rd.set7 {w : World} {g : Nat} {v : Value} {s : RS} (h : Rd w g v s) (n : Nat) {x : Value} (hx : x = .int .i64 (n : Int)) : Rd (w.setCell ⟨g, 7, none⟩ x) g v (s.s7 n) := by
  subst hx
  exact ⟨(cell_otherK w g 0 7 _ (by decide)).trans h.c0, (cell_otherK w g 1 7 _ (by decide)).trans h.c1, (cell_otherK w g 2 7 _ (by decide)).trans h.c2, (cell_otherK w g 3 7 _ (by decide)).trans h.c3, (cell_otherK w g 4 7 _ (by decide)).trans h.c4, (cell_otherK w g 5 7 _ (by decide)).trans h.c5, (cell_otherK w g 6 7 _ (by decide)).trans h.c6, World.cell?_setCell_same _ _ _ h.c7, (cell_otherK w g 8 7 _ (by decide)).trans h.c8, (cell_otherK w g 9 7 _ (by decide)).trans h.c9, fun j hj => by rw [World.frozen?_setCell]; exact h.fr j hj, by simpa using h.lt, h.bufSet _ _, h.ne⟩
def RS.s8 (s : RS) (n : Nat) : RS := { s with word := n }
theorem Rd.set8 {w : World} {g : Nat} {v : Value} {s : RS} (h : Rd w g v s) (n : Nat) {x : Value} (hx : x = .int .u64 (n : Int)) : Rd (w.setCell ⟨g, 8, none⟩ x) g v (s.s8 n) := by
  subst hx
  exact ⟨(cell_otherK w g 0 8 _ (by decide)).trans h.c0, (cell_otherK w g 1 8 _ (by decide)).trans h.c1, (cell_otherK w g 2 8 _ (by decide)).trans h.c2, (cell_otherK w g 3 8 _ (by decide)).trans h.c3, (cell_otherK w g 4 8 _ (by decide)).trans h.c4, (cell_otherK w g 5 8 _ (by decide)).trans h.c5, (cell_otherK w g 6 8 _ (by decide)).trans h.c6, (cell_otherK w g 7 8 _ (by decide)).trans h.c7, World.cell?_setCell_same _ _ _ h.c8, (cell_otherK w g 9 8 _ (by decide)).trans h.c9, fun j hj => by rw [World.frozen?_setCell]; exact h.fr j hj, by simpa using h.lt, h.bufSet _ _, h.ne⟩
def RS.s9 (s : RS) (n : List UInt8) : RS := { s with tx := n }
theorem Rd.set9 {w : World} {g : Nat} {v : Value} {s : RS} (h : Rd w g v s) (v' : Value) (tx : List UInt8) (hb : Buf w 0 v' tx.length (fun j => .int .u8 (bt (ba tx) j))) (hn : v'.ownBlock ≠ some g) : Rd (w.setCell ⟨g, 9, none⟩ v') g v' (s.s9 tx) :=
  ⟨(cell_otherK w g 0 9 _ (by decide)).trans h.c0, (cell_otherK w g 1 9 _ (by decide)).trans h.c1, (cell_otherK w g 2 9 _ (by decide)).trans h.c2, (cell_otherK w g 3 9 _ (by decide)).trans h.c3, (cell_otherK w g 4 9 _ (by decide)).trans h.c4, (cell_otherK w g 5 9 _ (by decide)).trans h.c5, (cell_otherK w g 6 9 _ (by decide)).trans h.c6, (cell_otherK w g 7 9 _ (by decide)).trans h.c7, (cell_otherK w g 8 9 _ (by decide)).trans h.c8, World.cell?_setCell_same _ _ _ h.c9, fun j hj => by rw [World.frozen?_setCell]; exact h.fr j hj, by simpa using h.lt, hb.same (by simp) (fun k hk => Below.heap_setCell w _ _ k (fun e => hn (by rw [hk, e]))), hn⟩
theorem Rd.set9n {w : World} {g : Nat} {v : Value} {s : RS} (h : Rd w g v s) : Rd (w.setCell ⟨g, 9, none⟩ (.slice none 0 0)) g (.slice none 0 0) (s.s9 []) :=
  h.set9 _ [] (Buf.nil _ _ _) (by simp [Value.ownBlock])
theorem Rd.cast {w : World} {g : Nat} {v : Value} {s s' : RS} (h : Rd w g v s) (e : s = s') : Rd w g v s' := e ▸ h
/-- What the memory doesn't tell. -/
theorem Rd.outs {w : World} {g : Nat} {v : Value} {s : RS} (h : Rd w g v s) (o : List It) : Rd w g v { s with out := o } := ⟨h.c0, h.c1, h.c2, h.c3, h.c4, h.c5, h.c6, h.c7, h.c8, h.c9, h.fr, h.lt, h.buf, h.ne⟩

/-- What a reader's methods leave alone. -/
structure Mv (w w' : World) (g : Nat) (v v' : Value) : Prop where
  os : w'.os = w.os
  tape : w'.tape = w.tape
  output : w'.output = w.output
  size : w.heap.size ≤ w'.heap.size
  block : ∀ k, k < w.heap.size → k ≠ g → v.ownBlock ≠ some k → w'.heap[k]? = w.heap[k]?
  new : ∀ k, v'.ownBlock = some k → v.ownBlock = some k ∨ w.heap.size ≤ k
theorem Mv.refl (w : World) (g : Nat) (v : Value) : Mv w w g v v := ⟨rfl, rfl, rfl, Nat.le_refl _, fun _ _ _ _ => rfl, fun _ h => .inl h⟩
theorem Mv.trans {a b c : World} {g : Nat} {v1 v2 v3 : Value} (h : Mv a b g v1 v2) (k : Mv b c g v2 v3) : Mv a c g v1 v3 := by
  refine ⟨k.os.trans h.os, k.tape.trans h.tape, k.output.trans h.output, Nat.le_trans h.size k.size, fun i hi hg ho => ?_, fun i hi => ?_⟩
  · rw [k.block i (Nat.lt_of_lt_of_le hi h.size) hg (fun e => ?_), h.block i hi hg ho]
    rcases h.new i e with e | e
    · exact ho e
    · omega
  · rcases k.new i hi with e | e
    · exact h.new i e
    · exact .inr (Nat.le_trans h.size e)
theorem Mv.set (w : World) (g : Nat) (v : Value) (j : Nat) (x : Value) : Mv w (w.setCell ⟨g, j, none⟩ x) g v v :=
  ⟨rfl, rfl, rfl, by simp, fun k _ hg _ => Below.heap_setCell w _ _ k hg, fun _ h => .inl h⟩
theorem Mv.store {a w : World} {g : Nat} {v v1 : Value} (h : Mv a w g v v1) (j : Nat) (x : Value) : Mv a (w.setCell ⟨g, j, none⟩ x) g v v1 := h.trans (Mv.set _ _ _ _ _)
theorem Mv.nil {a w : World} {g : Nat} {v v1 : Value} (h : Mv a w g v v1) : Mv a w g v (.slice none 0 0) := ⟨h.os, h.tape, h.output, h.size, h.block, fun k hk => by cases hk⟩
theorem Mv.below {a w w' : World} {g : Nat} {v v1 : Value} (h : Mv a w g v v1) (b : Below w.heap.size w w') : Mv a w' g v v1 :=
  h.trans ⟨b.os, b.tape, b.output, b.size, fun k hk _ _ => b.block k hk, fun _ h => .inl h⟩
theorem Mv.alloc {a w : World} {g : Nat} {v v1 : Value} (h : Mv a w g v v1) (o : Obj) : Mv a (w.alloc o) g v v1 := h.below ((Below.refl _ _).alloc (Nat.le_refl _) o)
theorem Mv.drew {a w : World} {g : Nat} {v v1 : Value} (h : Mv a w g v v1) : Mv a w.drew g v v1 := h.below ⟨rfl, rfl, rfl, Nat.le_refl _, fun _ _ => rfl⟩
theorem Mv.drewN {a w : World} {g : Nat} {v v1 : Value} (h : Mv a w g v v1) (q : Nat) : Mv a (w.drewN q) g v v1 := h.below ⟨rfl, rfl, rfl, Nat.le_refl _, fun _ _ => rfl⟩
theorem Mv.cell {a w : World} {g : Nat} {v v1 : Value} (h : Mv a w g v v1) (k j : Nat) (hk : k < a.heap.size) (hg : k ≠ g) (ho : v.ownBlock ≠ some k) : w.cell? ⟨k, j, none⟩ = a.cell? ⟨k, j, none⟩ :=
  World.cell?_of_block (w := a) (w' := w) (a := ⟨k, j, none⟩) (h.block k hk hg ho)
theorem Mv.free {a w : World} {g : Nat} {v v1 : Value} (h : Mv a w g v v1) (k j : Nat) (hk : k < a.heap.size) (hg : k ≠ g) (ho : v.ownBlock ≠ some k) : w.frozen? ⟨k, j, none⟩ = a.frozen? ⟨k, j, none⟩ :=
  World.frozen?_of_block (w := a) (w' := w) (a := ⟨k, j, none⟩) (h.block k hk hg ho)
theorem Rd.newBlock {w : World} {g : Nat} {v : Value} {s : RS} (h : Rd w g v s) (k : Nat) (hk : w.heap.size ≤ k) : k ≠ g ∧ v.ownBlock ≠ some k :=
  ⟨by have := h.lt; omega, fun e => by have := (h.buf.lt k e).2; omega⟩
theorem Mv.of_below {w w' : World} {g : Nat} {v : Value} (b : Below w.heap.size w w') : Mv w w' g v v := ⟨b.os, b.tape, b.output, b.size, fun k hk _ _ => b.block k hk, fun _ h => .inl h⟩
theorem Rd.put {w : World} {g : Nat} {v : Value} {s : RS} (h : Rd w g v s) (k j : Nat) (x : Value) (hk : g ≠ k) (ho : v.ownBlock ≠ some k) : Rd (w.setCell ⟨k, j, none⟩ x) g v s :=
  h.same (by simp) (Below.heap_setCell w _ _ g hk) (fun i hi => Below.heap_setCell w _ _ i (fun e => ho (by rw [hi]; exact congrArg some e)))
theorem Mv.put {a w : World} {g : Nat} {v v1 : Value} (h : Mv a w g v v1) (k j : Nat) (x : Value) (hk : a.heap.size ≤ k) : Mv a (w.setCell ⟨k, j, none⟩ x) g v v1 :=
  ⟨h.os, h.tape, h.output, by simpa using h.size, fun i hi hg ho => (Below.heap_setCell w _ _ i (by show i ≠ k; omega)).trans (h.block i hi hg ho), h.new⟩
/-- Two new blocks, and what a method left of them. -/
theorem alloc2_after {w w3 : World} {g : Nat} {v v3 : Value} {s : RS} (R : Rd w g v s) (C1 C2 : Array Value) (T1 T2 : TypeId) (M : Mv ((w.alloc (.cells C1 T1)).alloc (.cells C2 T2)) w3 g v v3) :
    (∀ j, w3.cell? ⟨w.heap.size, j, none⟩ = C1[j]?) ∧ (∀ j, w3.frozen? ⟨w.heap.size, j, none⟩ = false) ∧ (∀ j, w3.cell? ⟨w.heap.size + 1, j, none⟩ = C2[j]?) ∧ (∀ j, w3.frozen? ⟨w.heap.size + 1, j, none⟩ = false) ∧ w.heap.size + 2 ≤ w3.heap.size ∧ Mv w w3 g v v3 := by
  have s1 : (w.alloc (.cells C1 T1)).heap.size = w.heap.size + 1 := World.size_alloc _ _
  have s2 : ((w.alloc (.cells C1 T1)).alloc (.cells C2 T2)).heap.size = w.heap.size + 2 := by rw [World.size_alloc, s1]
  have n0 := R.newBlock w.heap.size (Nat.le_refl _)
  have n1 := R.newBlock (w.heap.size + 1) (Nat.le_succ _)
  refine ⟨fun j => ?_, fun j => ?_, fun j => ?_, fun j => ?_, ?_, ?_⟩
  · rw [M.cell _ _ (by omega) n0.1 n0.2, World.cell?_alloc_old _ _ _ (by rw [s1]; show w.heap.size ≠ _; omega), World.cell?_alloc_new]
  · rw [M.free _ _ (by omega) n0.1 n0.2, World.frozen?_of_block (w := w.alloc (.cells C1 T1)) (a := ⟨w.heap.size, j, none⟩) (Below.heap_alloc _ _ _ (by rw [s1]; show w.heap.size < _; omega))]
    exact World.frozen?_alloc_new w _ _ _
  · rw [M.cell _ _ (by omega) n1.1 n1.2, ← s1, World.cell?_alloc_new]
  · rw [M.free _ _ (by omega) n1.1 n1.2, ← s1]
    exact World.frozen?_alloc_new _ _ _ _
  · have := M.size
    omega
  · exact (((Mv.refl w g v).alloc _).alloc _).trans M

/-- Three cells written. -/
theorem put3_cells {w : World} {G : Nat} {a b c : Value} (x : Value) (y : Value) (z : Value) (h0 : w.cell? ⟨G, 0, none⟩ = some x) (h1 : w.cell? ⟨G, 1, none⟩ = some y) (h2 : w.cell? ⟨G, 2, none⟩ = some z) :
    (((w.setCell ⟨G, 0, none⟩ a).setCell ⟨G, 1, none⟩ b).setCell ⟨G, 2, none⟩ c).cell? ⟨G, 0, none⟩ = some a ∧ (((w.setCell ⟨G, 0, none⟩ a).setCell ⟨G, 1, none⟩ b).setCell ⟨G, 2, none⟩ c).cell? ⟨G, 1, none⟩ = some b ∧ (((w.setCell ⟨G, 0, none⟩ a).setCell ⟨G, 1, none⟩ b).setCell ⟨G, 2, none⟩ c).cell? ⟨G, 2, none⟩ = some c := by
  have e1 : (w.setCell ⟨G, 0, none⟩ a).cell? ⟨G, 1, none⟩ = some y := (cell_otherK w G 1 0 _ (by decide)).trans h1
  have e2 : ((w.setCell ⟨G, 0, none⟩ a).setCell ⟨G, 1, none⟩ b).cell? ⟨G, 2, none⟩ = some z := (cell_otherK _ G 2 1 _ (by decide)).trans ((cell_otherK _ G 2 0 _ (by decide)).trans h2)
  refine ⟨?_, ?_, World.cell?_setCell_same _ _ _ e2⟩
  · rw [cell_otherK _ G 0 2 _ (by decide), cell_otherK _ G 0 1 _ (by decide)]
    exact World.cell?_setCell_same _ _ _ h0
  · rw [cell_otherK _ G 1 2 _ (by decide)]
    exact World.cell?_setCell_same _ _ _ e1

/-- An item, as a value. -/
def itV (i : It) : Value := .agg #[.bool i.isInt, .int .u64 (i.num : Int), .string (ba i.text)]
/-- A block that isn't the reader's. -/
theorem Mv.keeps {a w : World} {g : Nat} {v v1 : Value} (h : Mv a w g v v1) (B : Nat) (hB : B ≤ a.heap.size) (hg : B ≤ g) (hv : ∀ k, v.ownBlock = some k → B ≤ k) : Below B a w :=
  ⟨h.os, h.tape, h.output, h.size, fun k hk => h.block k (by omega) (by omega) (fun e => by have := hv k e; omega)⟩

end Go.Proofs.Ytljcbibcdajhiaa
/- The unpacker as a machine over bytes: pure. -/
namespace Go.Proofs.Ytljcbibcdajhiaa
open Go.RowKit

/-- An unpacker's state. -/
structure US where
  tk : Nat
  code : Nat
  fat : Nat
  cl : Bool
  ph : Nat
  len : Nat
  tx : List UInt8
  lack : Nat
  near : Nat

/-- What a token that points back gives, byte by byte. -/
def cpy (far : Nat) : Nat → List UInt8 → List UInt8
  | 0, t => t
  | n + 1, t => cpy far n (t ++ [t.getD (t.length - far) 0])
/-- A fault. -/
def US.fl (s : US) (c a : Nat) : US := { s with code := c, fat := a, tx := [] }
/-- A byte was taken. -/
def US.tick (s : US) : US := { s with tk := s.tk + 1 }
def US.wh (s : US) : Bool := s.ph == 1 && s.len - s.tx.length == 0
def US.off (s : US) : Bool := s.cl || s.code != 0
/-- The length's next byte. -/
def US.lput (s : US) (b : UInt8) : US := { s with len := s.len + b.toNat * 2 ^ (8 * s.tk) }
/-- A token's first byte. -/
def US.tok (s : US) (b : UInt8) : US := if 128 ≤ b.toNat then { s with ph := 3, lack := b.toNat - 124 } else { s with ph := 2, lack := b.toNat + 1 }
def US.far (s : US) (b : UInt8) : Nat := b.toNat * 256 + s.near + 1
/-- A byte of a plain token. -/
def US.pput (s : US) (b : UInt8) : US := { s with tx := s.tx ++ [b], lack := s.lack - 1, ph := if s.lack - 1 = 0 then 1 else s.ph }
/-- The state behind a byte that is looked at, and the fault with it: its code and place. -/
def US.look (s : US) (b : UInt8) : US × Nat × Nat :=
  if s.ph = 0 then
    if s.tk < 7 then (s.lput b, 0, 0) else if 1048576 < (s.lput b).len then (s.lput b, 2, 0) else ({ s.lput b with ph := 1 }, 0, 0)
  else if s.ph = 1 then
    if s.wh then (s, 5, s.tk) else if s.len - s.tx.length < (s.tok b).lack then (s.tok b, 101, s.tk) else (s.tok b, 0, 0)
  else if s.ph = 2 then (s.pput b, 0, 0)
  else if s.ph = 3 then ({ s with near := b.toNat, ph := 4 }, 0, 0)
  else if s.tx.length < s.far b then (s, 100, s.tk - 2) else ({ s with tx := cpy (s.far b) s.lack s.tx, ph := 1 }, 0, 0)
/-- The next byte of an unpacker that is on. -/
def US.take (s : US) (b : UInt8) : US := if (s.look b).2.1 = 0 then (s.look b).1.tick else (s.look b).1.fl (s.look b).2.1 (s.look b).2.2
def US.step (s : US) (b : UInt8) : US := if s.off then s else s.take b
def US.run (s : US) (l : List UInt8) : US := l.foldl US.step s
/-- The first state. -/
def u0 : US := ⟨0, 0, 0, false, 0, 0, [], 0, 0⟩

theorem US.run_nil (s : US) : s.run [] = s := rfl
theorem US.run_cons (s : US) (b : UInt8) (l : List UInt8) : s.run (b :: l) = (s.step b).run l := rfl
theorem US.run_append (s : US) (a b : List UInt8) : s.run (a ++ b) = (s.run a).run b := by unfold US.run; rw [List.foldl_append]
theorem US.run_off (s : US) (h : s.off = true) (l : List UInt8) : s.run l = s := by
  induction l with
  | nil => rfl
  | cons b l ih => rw [US.run_cons]; unfold US.step; rw [if_pos h]; exact ih

theorem cpy_length (far n : Nat) (t : List UInt8) : (cpy far n t).length = t.length + n := by
  induction n generalizing t with
  | zero => rfl
  | succ n ih => unfold cpy; rw [ih, List.length_append]; simp; omega

/-- The number of eight bytes, least first. -/
def leNK : List UInt8 → Nat
  | [] => 0
  | b :: l => b.toNat + 256 * leNK l
theorem leN_append (a : List UInt8) (b : UInt8) : leNK (a ++ [b]) = leNK a + b.toNat * 2 ^ (8 * a.length) := by
  induction a with
  | nil => simp [leNK]
  | cons x a ih =>
    rw [List.cons_append, leNK, ih, leNK, List.length_cons, show 8 * (a.length + 1) = 8 * a.length + 8 by omega, Nat.pow_add]
    generalize 2 ^ (8 * a.length) = q
    have : b.toNat * (q * 2 ^ 8) = 256 * (b.toNat * q) := by grind
    rw [this]; omega
theorem leN_lt (a : List UInt8) : leNK a < 2 ^ (8 * a.length) := by
  induction a with
  | nil => simp [leNK]
  | cons x a ih =>
    rw [leNK, List.length_cons, show 8 * (a.length + 1) = 8 * a.length + 8 by omega, Nat.pow_add]
    have := x.toNat_lt
    generalize 2 ^ (8 * a.length) = q at *
    omega

/-- What holds of every state that comes of the first one. -/
structure UI (s : US) : Prop where
  ph : s.ph ≤ 4
  ln : s.ph = 0 → s.code = 0 → s.tk < 8 ∧ s.len < 2 ^ (8 * s.tk) ∧ s.tx = []
  lm : s.ph ≠ 0 → s.len ≤ 1048576
  tx : s.tx.length ≤ s.len ∨ s.ph = 0
  lk : s.code = 0 → 2 ≤ s.ph → s.lack ≤ s.len - s.tx.length ∧ 1 ≤ s.lack
  nr : s.near < 256
  lc : s.lack ≤ 131
  ft : s.fat ≤ s.tk
  tk2 : s.code = 0 → s.ph = 4 → 2 ≤ s.tk
  tk3 : s.code = 0 → s.ph = 3 → 1 ≤ s.tk
  cd : s.code = 0 → s.fat = 0
  le8 : s.len < 2 ^ 64

theorem US.tok_lack (s : US) (b : UInt8) : (s.tok b).lack ≤ 131 ∧ 1 ≤ (s.tok b).lack := by
  unfold US.tok
  have := b.toNat_lt
  split <;> dsimp only <;> omega

theorem UI.u0 : UI u0 := ⟨by decide, fun _ _ => by decide, fun h => absurd rfl h, .inr rfl, fun _ h => absurd h (by decide), by decide, by decide, by decide, fun _ h => absurd h (by decide), fun _ h => absurd h (by decide), fun _ => rfl, by decide⟩

theorem pow_step (a b k : Nat) (ha : a < 2 ^ (8 * k)) (hb : b < 256) : a + b * 2 ^ (8 * k) < 2 ^ (8 * (k + 1)) := by
  rw [show 8 * (k + 1) = 8 * k + 8 by omega, Nat.pow_add]
  generalize 2 ^ (8 * k) = q at *
  have : b * q ≤ 255 * q := Nat.mul_le_mul_right q (by omega)
  omega
theorem pow_most (a k : Nat) (ha : a < 2 ^ (8 * k)) (hk : k ≤ 8) : a < 2 ^ 64 :=
  Nat.lt_of_lt_of_le ha (Nat.pow_le_pow_right (by decide) (by omega))

theorem UI.fl {s : US} (h : UI s) (c a : Nat) (hc : c ≠ 0) (ha : a ≤ s.tk) : UI (s.fl c a) :=
  ⟨h.ph, fun _ e => absurd e hc, h.lm, .inl (Nat.zero_le _), fun e => absurd e hc, h.nr, h.lc, ha, fun e => absurd e hc, fun e => absurd e hc, fun e => absurd e hc, h.le8⟩

theorem US.tok_ph (s : US) (b : UInt8) : (s.tok b).ph = 3 ∨ (s.tok b).ph = 2 := by unfold US.tok; split <;> simp
theorem US.tok_len (s : US) (b : UInt8) : (s.tok b).len = s.len ∧ (s.tok b).tx = s.tx ∧ (s.tok b).tk = s.tk ∧ (s.tok b).near = s.near ∧ (s.tok b).code = s.code ∧ (s.tok b).fat = s.fat ∧ (s.tok b).cl = s.cl := by unfold US.tok; split <;> simp

/-- One byte more. -/
theorem UI.take {s : US} (h : UI s) (hc : s.code = 0) (b : UInt8) : UI (s.take b) := by
  have hb := b.toNat_lt
  have hf := h.cd hc
  unfold US.take US.look
  by_cases h0 : s.ph = 0
  · obtain ⟨l1, l2, l3⟩ := h.ln h0 hc
    have hl := pow_step s.len b.toNat s.tk l2 hb
    have hl8 := pow_most _ _ hl (by omega)
    rw [if_pos h0]
    by_cases h1 : s.tk < 7
    · rw [if_pos h1]
      simp only [if_true]
      exact ⟨h.ph, fun _ _ => ⟨by show s.tk + 1 < 8; omega, hl, l3⟩, fun e => absurd h0 e, .inr h0, fun _ e => absurd e (by show ¬ 2 ≤ s.ph; omega), h.nr, h.lc, by show s.fat ≤ s.tk + 1; omega, fun _ e => absurd e (by show ¬ s.ph = 4; omega), fun _ e => absurd e (by show ¬ s.ph = 3; omega), fun _ => hf, hl8⟩
    · rw [if_neg h1]
      by_cases h2 : 1048576 < (s.lput b).len
      · rw [if_pos h2]
        simp only [Nat.reduceEqDiff, if_false]
        exact ⟨h.ph, fun _ e => absurd e (by decide : (2 : Nat) ≠ 0), fun e => absurd h0 e, .inl (Nat.zero_le _), fun e => absurd e (by decide : (2 : Nat) ≠ 0), h.nr, h.lc, Nat.zero_le _, fun e => absurd e (by decide : (2 : Nat) ≠ 0), fun e => absurd e (by decide : (2 : Nat) ≠ 0), fun e => absurd e (by decide : (2 : Nat) ≠ 0), hl8⟩
      · rw [if_neg h2]
        simp only [if_true]
        exact ⟨by show 1 ≤ 4; omega, fun e => absurd e (by decide : (1 : Nat) ≠ 0), fun _ => by show (s.lput b).len ≤ 1048576; omega, .inl (by show s.tx.length ≤ _; rw [l3]; exact Nat.zero_le _), fun _ e => absurd e (by show ¬ 2 ≤ 1; omega), h.nr, h.lc, by show s.fat ≤ s.tk + 1; omega, fun _ e => absurd e (by show ¬ 1 = 4; omega), fun _ e => absurd e (by show ¬ 1 = 3; omega), fun _ => hf, hl8⟩
  · have hm := h.lm h0
    have ht : s.tx.length ≤ s.len := by rcases h.tx with e | e; exact e; exact absurd e h0
    rw [if_neg h0]
    by_cases h1 : s.ph = 1
    · rw [if_pos h1]
      by_cases h2 : s.wh = true
      · rw [if_pos h2]
        simp only [Nat.reduceEqDiff, if_false]
        exact h.fl 5 _ (by decide) (Nat.le_refl _)
      · rw [if_neg h2]
        obtain ⟨t1, t2⟩ := s.tok_lack b
        obtain ⟨e1, e2, e3, e4, e5, e6, e7⟩ := s.tok_len b
        have tp := s.tok_ph b
        by_cases h3 : s.len - s.tx.length < (s.tok b).lack
        · rw [if_pos h3]
          simp only [Nat.reduceEqDiff, if_false]
          exact ⟨by show (s.tok b).ph ≤ 4; omega, fun _ e => absurd e (by decide : (101 : Nat) ≠ 0), fun _ => by show (s.tok b).len ≤ _; rw [e1]; exact hm, .inl (Nat.zero_le _), fun e => absurd e (by decide : (101 : Nat) ≠ 0), by show (s.tok b).near < _; rw [e4]; exact h.nr, t1, by show s.tk ≤ (s.tok b).tk; omega, fun e => absurd e (by decide : (101 : Nat) ≠ 0), fun e => absurd e (by decide : (101 : Nat) ≠ 0), fun e => absurd e (by decide : (101 : Nat) ≠ 0), by show (s.tok b).len < _; rw [e1]; exact h.le8⟩
        · rw [if_neg h3]
          simp only [if_true]
          exact ⟨by show (s.tok b).ph ≤ 4; omega, fun e => absurd e (by show ¬ (s.tok b).ph = 0; omega), fun _ => by show (s.tok b).len ≤ _; rw [e1]; exact hm, .inl (by show (s.tok b).tx.length ≤ (s.tok b).len; rw [e1, e2]; exact ht), fun _ _ => ⟨by show (s.tok b).lack ≤ (s.tok b).len - (s.tok b).tx.length; rw [e1, e2]; omega, t2⟩, by show (s.tok b).near < _; rw [e4]; exact h.nr, t1, by show (s.tok b).fat ≤ (s.tok b).tk + 1; omega, fun _ e => absurd e (by show ¬ (s.tok b).ph = 4; omega), fun _ _ => by show 1 ≤ (s.tok b).tk + 1; omega, fun _ => by show (s.tok b).fat = 0; omega, by show (s.tok b).len < _; rw [e1]; exact h.le8⟩
    · rw [if_neg h1]
      obtain ⟨k1, k2⟩ := h.lk hc (by omega)
      by_cases h2 : s.ph = 2
      · rw [if_pos h2]
        simp only [if_true]
        have pl : (s.tx ++ [b]).length = s.tx.length + 1 := by simp
        by_cases h3 : s.lack - 1 = 0
        · have pe : (s.pput b).ph = 1 := by unfold US.pput; simp [h3]
          exact ⟨by show (s.pput b).ph ≤ 4; omega, fun e => absurd e (by show ¬ (s.pput b).ph = 0; omega), fun _ => hm, .inl (by show (s.tx ++ [b]).length ≤ s.len; omega), fun _ e => absurd e (by show ¬ 2 ≤ (s.pput b).ph; omega), h.nr, by show s.lack - 1 ≤ 131; have := h.lc; omega, by show s.fat ≤ s.tk + 1; omega, fun _ e => absurd e (by show ¬ (s.pput b).ph = 4; omega), fun _ e => absurd e (by show ¬ (s.pput b).ph = 3; omega), fun _ => hf, h.le8⟩
        · have pe : (s.pput b).ph = 2 := by unfold US.pput; simp [h3, h2]
          exact ⟨by show (s.pput b).ph ≤ 4; omega, fun e => absurd e (by show ¬ (s.pput b).ph = 0; omega), fun _ => hm, .inl (by show (s.tx ++ [b]).length ≤ s.len; omega), fun _ _ => ⟨by show s.lack - 1 ≤ s.len - (s.tx ++ [b]).length; omega, by show 1 ≤ s.lack - 1; omega⟩, h.nr, by show s.lack - 1 ≤ 131; have := h.lc; omega, by show s.fat ≤ s.tk + 1; omega, fun _ e => absurd e (by show ¬ (s.pput b).ph = 4; omega), fun _ e => absurd e (by show ¬ (s.pput b).ph = 3; omega), fun _ => hf, h.le8⟩
      · rw [if_neg h2]
        by_cases h3 : s.ph = 3
        · rw [if_pos h3]
          simp only [if_true]
          exact ⟨by show 4 ≤ 4; omega, fun e => absurd e (by decide : (4 : Nat) ≠ 0), fun _ => hm, .inl ht, fun _ _ => ⟨k1, k2⟩, hb, h.lc, by show s.fat ≤ s.tk + 1; omega, fun _ _ => by show 2 ≤ s.tk + 1; have := h.tk3 hc h3; omega, fun _ e => absurd e (by decide : ¬ (4 : Nat) = 3), fun _ => hf, h.le8⟩
        · rw [if_neg h3]
          by_cases h4 : s.tx.length < s.far b
          · rw [if_pos h4]
            simp only [Nat.reduceEqDiff, if_false]
            exact h.fl 100 _ (by decide) (Nat.sub_le _ _)
          · rw [if_neg h4]
            simp only [if_true]
            have cl := cpy_length (s.far b) s.lack s.tx
            exact ⟨by show 1 ≤ 4; omega, fun e => absurd e (by decide : (1 : Nat) ≠ 0), fun _ => hm, .inl (by show (cpy (s.far b) s.lack s.tx).length ≤ s.len; omega), fun _ e => absurd e (by show ¬ 2 ≤ 1; omega), h.nr, h.lc, by show s.fat ≤ s.tk + 1; omega, fun _ e => absurd e (by decide : ¬ (1 : Nat) = 4), fun _ e => absurd e (by decide : ¬ (1 : Nat) = 3), fun _ => hf, h.le8⟩

theorem UI.step {s : US} (h : UI s) (b : UInt8) : UI (s.step b) := by
  unfold US.step
  by_cases ho : s.off = true
  · rw [if_pos ho]; exact h
  · rw [if_neg ho]
    refine h.take ?_ b
    unfold US.off at ho
    simp at ho
    exact ho.2
theorem UI.run {s : US} (h : UI s) (l : List UInt8) : UI (s.run l) := by
  induction l generalizing s with
  | nil => exact h
  | cons b l ih => rw [US.run_cons]; exact ih (h.step b)

end Go.Proofs.Ytljcbibcdajhiaa
/- The unpacker's machine, token by token: pure. -/
namespace Go.Proofs.Ytljcbibcdajhiaa
open Go.RowKit

theorem US.step_on (s : US) (h1 : s.cl = false) (h2 : s.code = 0) (b : UInt8) : s.step b = s.take b := by
  unfold US.step US.off
  rw [h1, h2]
  rfl

theorem US.take0a (s : US) (b : UInt8) (h : s.ph = 0) (h1 : s.tk < 7) : s.take b = (s.lput b).tick := by
  unfold US.take US.look
  rw [if_pos h, if_pos h1]
  rfl
theorem US.take0b (s : US) (b : UInt8) (h : s.ph = 0) (h1 : ¬ s.tk < 7) (h2 : 1048576 < (s.lput b).len) : s.take b = (s.lput b).fl 2 0 := by
  unfold US.take US.look
  rw [if_pos h, if_neg h1, if_pos h2]
  rfl
theorem US.take0c (s : US) (b : UInt8) (h : s.ph = 0) (h1 : ¬ s.tk < 7) (h2 : ¬ 1048576 < (s.lput b).len) : s.take b = ({ s.lput b with ph := 1 } : US).tick := by
  unfold US.take US.look
  rw [if_pos h, if_neg h1, if_neg h2]
  rfl

theorem US.take1a (s : US) (b : UInt8) (h : s.ph = 1) (h1 : s.wh = true) : s.take b = s.fl 5 s.tk := by
  unfold US.take US.look
  rw [if_neg (by omega : ¬ s.ph = 0), if_pos h, if_pos h1]
  rfl
theorem US.take1b (s : US) (b : UInt8) (h : s.ph = 1) (h1 : ¬ s.wh = true) (h2 : s.len - s.tx.length < (s.tok b).lack) : s.take b = (s.tok b).fl 101 s.tk := by
  unfold US.take US.look
  rw [if_neg (by omega : ¬ s.ph = 0), if_pos h, if_neg h1, if_pos h2]
  rfl
theorem US.take1c (s : US) (b : UInt8) (h : s.ph = 1) (h1 : ¬ s.wh = true) (h2 : ¬ s.len - s.tx.length < (s.tok b).lack) : s.take b = (s.tok b).tick := by
  unfold US.take US.look
  rw [if_neg (by omega : ¬ s.ph = 0), if_pos h, if_neg h1, if_neg h2]
  rfl

theorem len_run (l : List UInt8) : ∀ (tk len : Nat), tk + l.length ≤ 7 → (⟨tk, 0, 0, false, 0, len, [], 0, 0⟩ : US).run l = ⟨tk + l.length, 0, 0, false, 0, len + leNK l * 2 ^ (8 * tk), [], 0, 0⟩ := by
  induction l with
  | nil => intro tk len _; rw [US.run_nil, leNK, Nat.zero_mul]; rfl
  | cons b l ih =>
    intro tk len h
    rw [List.length_cons] at h
    rw [US.run_cons, US.step_on _ rfl rfl]
    rw [US.take0a _ _ rfl (by show tk < 7; omega)]
    rw [show ((⟨tk, 0, 0, false, 0, len, [], 0, 0⟩ : US).lput b).tick = ⟨tk + 1, 0, 0, false, 0, len + b.toNat * 2 ^ (8 * tk), [], 0, 0⟩ from rfl, ih _ _ (by omega), leNK, List.length_cons]
    have e : len + b.toNat * 2 ^ (8 * tk) + leNK l * 2 ^ (8 * (tk + 1)) = len + (b.toNat + 256 * leNK l) * 2 ^ (8 * tk) := by
      rw [show 8 * (tk + 1) = 8 * tk + 8 by omega, Nat.pow_add, Nat.add_mul]
      generalize 2 ^ (8 * tk) = q
      have : leNK l * (q * 2 ^ 8) = 256 * leNK l * q := by grind
      rw [this]; omega
    rw [e, show tk + 1 + l.length = tk + (l.length + 1) by omega]

theorem head_short (l : List UInt8) (h : l.length ≤ 7) : u0.run l = ⟨l.length, 0, 0, false, 0, leNK l, [], 0, 0⟩ := by
  have := len_run l 0 0 (by omega)
  unfold u0
  rw [this]
  simp

theorem snoc_of (l : List UInt8) (n : Nat) (h : l.length = n + 1) : ∃ a b, l = a ++ [b] ∧ a.length = n := by
  refine ⟨l.take n, l[n]'(by omega), ?_, by simp; omega⟩
  have := List.take_append_getElem (by omega : n < l.length)
  rw [this, List.take_of_length_le (by omega)]

theorem head_eight (l : List UInt8) (h : l.length = 8) : u0.run l = if 1048576 < leNK l then ⟨7, 2, 0, false, 0, leNK l, [], 0, 0⟩ else ⟨8, 0, 0, false, 1, leNK l, [], 0, 0⟩ := by
  obtain ⟨a, b, rfl, ha⟩ := snoc_of l 7 h
  rw [US.run_append, head_short a (by omega), US.run_cons, US.step_on _ rfl rfl, US.run_nil]
  have e : ((⟨a.length, 0, 0, false, 0, leNK a, [], 0, 0⟩ : US).lput b).len = leNK (a ++ [b]) := by
    show leNK a + b.toNat * 2 ^ (8 * a.length) = _
    rw [leN_append]
  by_cases hb : 1048576 < leNK (a ++ [b])
  · rw [if_pos hb, US.take0b _ _ rfl (by show ¬ a.length < 7; omega) (by rw [e]; exact hb)]
    show (⟨a.length, 2, 0, false, 0, leNK a + b.toNat * 2 ^ (8 * a.length), [], 0, 0⟩ : US) = _
    rw [leN_append, ha]
  · rw [if_neg hb, US.take0c _ _ rfl (by show ¬ a.length < 7; omega) (by rw [e]; exact hb)]
    show (⟨a.length + 1, 0, 0, false, 1, leNK a + b.toNat * 2 ^ (8 * a.length), [], 0, 0⟩ : US) = _
    rw [leN_append, ha]

theorem plain_step (tk n nr k : Nat) (tx : List UInt8) (b : UInt8) : (⟨tk, 0, 0, false, 2, n, tx, k + 1, nr⟩ : US).step b = ⟨tk + 1, 0, 0, false, if k = 0 then 1 else 2, n, tx ++ [b], k, nr⟩ := by
  rw [US.step_on _ rfl rfl]
  unfold US.take US.look
  rw [if_neg (by decide : ¬ (2 : Nat) = 0), if_neg (by decide : ¬ (2 : Nat) = 1), if_pos rfl]
  simp only [if_true]
  unfold US.pput US.tick
  simp

theorem plain_run (l : List UInt8) : ∀ (tk n nr k : Nat) (tx : List UInt8), l.length < k → (⟨tk, 0, 0, false, 2, n, tx, k, nr⟩ : US).run l = ⟨tk + l.length, 0, 0, false, 2, n, tx ++ l, k - l.length, nr⟩ := by
  induction l with
  | nil => intro tk n nr k tx h; rw [US.run_nil]; simp
  | cons b l ih =>
    intro tk n nr k tx h
    rw [List.length_cons] at h
    obtain ⟨k, rfl⟩ : ∃ j, k = j + 1 := ⟨k - 1, by omega⟩
    rw [US.run_cons, plain_step, if_neg (by omega), ih _ _ _ _ _ (by omega)]
    simp
    omega

theorem plain_all (l : List UInt8) (tk n nr : Nat) (tx : List UInt8) (h : 0 < l.length) : (⟨tk, 0, 0, false, 2, n, tx, l.length, nr⟩ : US).run l = ⟨tk + l.length, 0, 0, false, 1, n, tx ++ l, 0, nr⟩ := by
  obtain ⟨a, b, e, ha⟩ := snoc_of l (l.length - 1) (by omega)
  generalize hk : l.length = k at *
  rw [e, US.run_append, plain_run a _ _ _ _ _ (by omega), US.run_cons, US.run_nil, show k - a.length = 0 + 1 by omega, plain_step, if_pos rfl, List.append_assoc]
  congr 1
  omega

/-- A token's state. -/
def US.t (at' n : Nat) (out : List UInt8) (lk nr : Nat) : US := ⟨at', 0, 0, false, 1, n, out, lk, nr⟩

theorem t_trail (at' n lk nr : Nat) (out : List UInt8) (b : UInt8) (l : List UInt8) (h : n ≤ out.length) : (US.t at' n out lk nr).run (b :: l) = ⟨at', 5, at', false, 1, n, [], lk, nr⟩ := by
  rw [US.run_cons, US.step_on _ rfl rfl, US.take1a _ _ rfl (by unfold US.wh US.t; simp; omega)]
  exact US.run_off _ rfl l

theorem t_tok (at' n lk nr : Nat) (out : List UInt8) (b : UInt8) (h : out.length < n) : (US.t at' n out lk nr).step b = if n - out.length < ((US.t at' n out lk nr).tok b).lack then ((US.t at' n out lk nr).tok b).fl 101 at' else ((US.t at' n out lk nr).tok b).tick := by
  have hw : ¬ (US.t at' n out lk nr).wh = true := by unfold US.wh US.t; simp; omega
  rw [US.step_on _ rfl rfl]
  by_cases hh : n - out.length < ((US.t at' n out lk nr).tok b).lack
  · rw [if_pos hh, US.take1b _ _ rfl hw hh]; rfl
  · rw [if_neg hh, US.take1c _ _ rfl hw hh]

theorem t_extra (at' n lk nr : Nat) (out : List UInt8) (b : UInt8) (l : List UInt8) (h : out.length < n) (hx : n - out.length < ((US.t at' n out lk nr).tok b).lack) : ((US.t at' n out lk nr).run (b :: l)).tk = at' ∧ ((US.t at' n out lk nr).run (b :: l)).code = 101 ∧ ((US.t at' n out lk nr).run (b :: l)).fat = at' := by
  rw [US.run_cons, t_tok _ _ _ _ _ _ h, if_pos hx]
  have : (((US.t at' n out lk nr).tok b).fl 101 at').off = true := by unfold US.off US.fl; simp
  rw [US.run_off _ this l]
  exact ⟨((US.t at' n out lk nr).tok_len b).2.2.1, rfl, rfl⟩

theorem tok_low (at' n lk nr : Nat) (out : List UInt8) (b : UInt8) (h : b.toNat < 128) : (US.t at' n out lk nr).tok b = ⟨at', 0, 0, false, 2, n, out, b.toNat + 1, nr⟩ := by unfold US.tok; rw [if_neg (by omega)]; rfl
theorem tok_high (at' n lk nr : Nat) (out : List UInt8) (b : UInt8) (h : 128 ≤ b.toNat) : (US.t at' n out lk nr).tok b = ⟨at', 0, 0, false, 3, n, out, b.toNat - 124, nr⟩ := by unfold US.tok; rw [if_pos h]; rfl

theorem t_plain_short (at' n lk nr : Nat) (out : List UInt8) (b : UInt8) (l : List UInt8) (hb : b.toNat < 128) (hx : b.toNat + 1 ≤ n - out.length) (hl : l.length < b.toNat + 1) :
    (US.t at' n out lk nr).run (b :: l) = ⟨at' + 1 + l.length, 0, 0, false, 2, n, out ++ l, b.toNat + 1 - l.length, nr⟩ := by
  rw [US.run_cons, t_tok _ _ _ _ _ _ (by omega), tok_low _ _ _ _ _ _ hb, if_neg (by show ¬ n - out.length < b.toNat + 1; omega)]
  exact plain_run l (at' + 1) n nr (b.toNat + 1) out hl

theorem t_plain (at' n lk nr : Nat) (out : List UInt8) (b : UInt8) (l r : List UInt8) (hb : b.toNat < 128) (hx : b.toNat + 1 ≤ n - out.length) (hl : l.length = b.toNat + 1) :
    (US.t at' n out lk nr).run (b :: (l ++ r)) = (US.t (at' + b.toNat + 2) n (out ++ l) 0 nr).run r := by
  rw [US.run_cons, t_tok _ _ _ _ _ _ (by omega), tok_low _ _ _ _ _ _ hb, if_neg (by show ¬ n - out.length < b.toNat + 1; omega), US.run_append]
  have := plain_all l (at' + 1) n nr out (by omega)
  rw [hl] at this
  rw [show (⟨at', 0, 0, false, 2, n, out, b.toNat + 1, nr⟩ : US).tick = ⟨at' + 1, 0, 0, false, 2, n, out, b.toNat + 1, nr⟩ from rfl, this]
  rw [show at' + 1 + (b.toNat + 1) = at' + b.toNat + 2 by omega]
  rfl

theorem near_step (tk n nr k : Nat) (tx : List UInt8) (b : UInt8) : (⟨tk, 0, 0, false, 3, n, tx, k, nr⟩ : US).step b = ⟨tk + 1, 0, 0, false, 4, n, tx, k, b.toNat⟩ := by
  rw [US.step_on _ rfl rfl]
  unfold US.take US.look
  rw [if_neg (by decide : ¬ (3 : Nat) = 0), if_neg (by decide : ¬ (3 : Nat) = 1), if_neg (by decide : ¬ (3 : Nat) = 2), if_pos rfl]
  rfl
theorem far_step (tk n nr k : Nat) (tx : List UInt8) (b : UInt8) : (⟨tk, 0, 0, false, 4, n, tx, k, nr⟩ : US).step b = if tx.length < b.toNat * 256 + nr + 1 then ⟨tk, 100, tk - 2, false, 4, n, [], k, nr⟩ else ⟨tk + 1, 0, 0, false, 1, n, cpy (b.toNat * 256 + nr + 1) k tx, k, nr⟩ := by
  rw [US.step_on _ rfl rfl]
  unfold US.take US.look
  rw [if_neg (by decide : ¬ (4 : Nat) = 0), if_neg (by decide : ¬ (4 : Nat) = 1), if_neg (by decide : ¬ (4 : Nat) = 2), if_neg (by decide : ¬ (4 : Nat) = 3)]
  rw [show (⟨tk, 0, 0, false, 4, n, tx, k, nr⟩ : US).far b = b.toNat * 256 + nr + 1 from rfl]
  by_cases h : tx.length < b.toNat * 256 + nr + 1
  · rw [if_pos h, if_pos h]; rfl
  · rw [if_neg h, if_neg h]; rfl

theorem t_back_short (at' n lk nr : Nat) (out : List UInt8) (b : UInt8) (l : List UInt8) (hb : 128 ≤ b.toNat) (hx : b.toNat - 124 ≤ n - out.length) (hl : l.length < 2) :
    ((US.t at' n out lk nr).run (b :: l)).tk = at' + 1 + l.length ∧ ((US.t at' n out lk nr).run (b :: l)).code = 0 ∧ ((US.t at' n out lk nr).run (b :: l)).fat = 0 ∧ ((US.t at' n out lk nr).run (b :: l)).ph ≠ 1 := by
  rw [US.run_cons, t_tok _ _ _ _ _ _ (by omega), tok_high _ _ _ _ _ _ hb, if_neg (by show ¬ n - out.length < b.toNat - 124; omega)]
  rw [show (⟨at', 0, 0, false, 3, n, out, b.toNat - 124, nr⟩ : US).tick = ⟨at' + 1, 0, 0, false, 3, n, out, b.toNat - 124, nr⟩ from rfl]
  match l, hl with
  | [], _ => rw [US.run_nil]; exact ⟨rfl, rfl, rfl, by show (3 : Nat) ≠ 1; decide⟩
  | [x], _ => rw [US.run_cons, near_step, US.run_nil]; exact ⟨rfl, rfl, rfl, by show (4 : Nat) ≠ 1; decide⟩

theorem t_back_far (at' n lk nr : Nat) (out : List UInt8) (b x y : UInt8) (l : List UInt8) (hb : 128 ≤ b.toNat) (hx : b.toNat - 124 ≤ n - out.length) (hf : out.length < y.toNat * 256 + x.toNat + 1) :
    (US.t at' n out lk nr).run (b :: x :: y :: l) = ⟨at' + 2, 100, at', false, 4, n, [], b.toNat - 124, x.toNat⟩ := by
  rw [US.run_cons, t_tok _ _ _ _ _ _ (by omega), tok_high _ _ _ _ _ _ hb, if_neg (by show ¬ n - out.length < b.toNat - 124; omega)]
  rw [show (⟨at', 0, 0, false, 3, n, out, b.toNat - 124, nr⟩ : US).tick = ⟨at' + 1, 0, 0, false, 3, n, out, b.toNat - 124, nr⟩ from rfl, US.run_cons, near_step, US.run_cons, far_step, if_pos hf, US.run_off _ rfl l]
  rfl

theorem t_back (at' n lk nr : Nat) (out : List UInt8) (b x y : UInt8) (l : List UInt8) (hb : 128 ≤ b.toNat) (hx : b.toNat - 124 ≤ n - out.length) (hf : y.toNat * 256 + x.toNat + 1 ≤ out.length) :
    (US.t at' n out lk nr).run (b :: x :: y :: l) = (US.t (at' + 3) n (cpy (y.toNat * 256 + x.toNat + 1) (b.toNat - 124) out) (b.toNat - 124) x.toNat).run l := by
  rw [US.run_cons, t_tok _ _ _ _ _ _ (by omega), tok_high _ _ _ _ _ _ hb, if_neg (by show ¬ n - out.length < b.toNat - 124; omega)]
  rw [show (⟨at', 0, 0, false, 3, n, out, b.toNat - 124, nr⟩ : US).tick = ⟨at' + 1, 0, 0, false, 3, n, out, b.toNat - 124, nr⟩ from rfl, US.run_cons, near_step, US.run_cons, far_step, if_neg (by omega)]
  rfl

end Go.Proofs.Ytljcbibcdajhiaa
/- An unpacker in memory: nine cells and its text's block. -/
namespace Go.Proofs.Ytljcbibcdajhiaa
open Go.RowKit

/-- Block g holds, from its head on, these values; none is frozen. -/
structure StK (w : World) (g : Nat) (L : List Value) : Prop where
  get : ∀ j x, L[j]? = some x → w.cell? ⟨g, j, none⟩ = some x
  fr : ∀ j, j < L.length → w.frozen? ⟨g, j, none⟩ = false
  lt : g < w.heap.size

theorem StK.same {w w' : World} {g : Nat} {L : List Value} (h : StK w g L) (hs : w.heap.size ≤ w'.heap.size) (e : w'.heap[g]? = w.heap[g]?) : StK w' g L :=
  ⟨fun j x hx => (World.cell?_of_block (w := w) (w' := w') (a := ⟨g, j, none⟩) e).trans (h.get j x hx),
   fun j hj => (World.frozen?_of_block (w := w) (w' := w') (a := ⟨g, j, none⟩) e).trans (h.fr j hj), Nat.lt_of_lt_of_le h.lt hs⟩
theorem StK.alloc {w : World} {g : Nat} {L : List Value} (h : StK w g L) (o : Obj) : StK (w.alloc o) g L := h.same (by rw [World.size_alloc]; omega) (Below.heap_alloc w o g h.lt)
theorem StK.drewN {w : World} {g : Nat} {L : List Value} (h : StK w g L) (q : Nat) : StK (w.drewN q) g L := h.same (Nat.le_refl _) rfl
theorem StK.other {w : World} {g : Nat} {L : List Value} (h : StK w g L) (k j : Nat) (x : Value) (hk : g ≠ k) : StK (w.setCell ⟨k, j, none⟩ x) g L := h.same (by simp) (Below.heap_setCell w _ _ g hk)
theorem StK.set {w : World} {g : Nat} {L : List Value} (h : StK w g L) (j : Nat) (x : Value) (hj : j < L.length) : StK (w.setCell ⟨g, j, none⟩ x) g (L.set j x) := by
  refine ⟨fun i y hy => ?_, fun i hi => ?_, by simpa using h.lt⟩
  · by_cases e : i = j
    · subst e
      rw [List.getElem?_set_self hj] at hy
      injection hy with hy
      subst hy
      exact World.cell?_setCell_same _ _ _ (h.get i _ (List.getElem?_eq_getElem hj))
    · rw [List.getElem?_set_ne (fun c => e c.symm)] at hy
      exact (cell_otherK w g i j x e).trans (h.get i y hy)
  · rw [World.frozen?_setCell]
    exact h.fr i (by simpa using hi)
theorem StK.new (w : World) (C : Array Value) (T : TypeId) : StK (w.alloc (.cells C T)) w.heap.size C.toList :=
  ⟨fun j x hx => (World.cell?_alloc_new w _ _ j).trans (by simpa using hx), fun j _ => World.frozen?_alloc_new w _ _ _, by rw [World.size_alloc]; omega⟩
theorem StK.cast {w : World} {g : Nat} {L L' : List Value} (h : StK w g L) (e : L = L') : StK w g L' := e ▸ h

/-- The nine cells. -/
def US.cells (s : US) (v : Value) : List Value := [.int .i64 (s.tk : Int), .int .i64 (s.code : Int), .int .i64 (s.fat : Int), .bool s.cl, .int .i64 (s.ph : Int), .int .u64 (s.len : Int), v, .int .i64 (s.lack : Int), .int .u8 (s.near : Int)]
/-- Block g is an unpacker in that state; its text is v. -/
structure Up (w : World) (g : Nat) (v : Value) (s : US) : Prop where
  st : StK w g (s.cells v)
  buf : Buf w 0 v s.tx.length (fun j => .int .u8 (bt (ba s.tx) j))
  ne : v.ownBlock ≠ some g

theorem Up.lt {w : World} {g : Nat} {v : Value} {s : US} (h : Up w g v s) : g < w.heap.size := h.st.lt
theorem Up.same {w w' : World} {g : Nat} {v : Value} {s : US} (h : Up w g v s) (hs : w.heap.size ≤ w'.heap.size) (e : w'.heap[g]? = w.heap[g]?) (e2 : ∀ k, v.ownBlock = some k → w'.heap[k]? = w.heap[k]?) : Up w' g v s :=
  ⟨h.st.same hs e, h.buf.same hs e2, h.ne⟩
theorem Up.below {w w' : World} {g : Nat} {v : Value} {s : US} (h : Up w g v s) (b : Below w.heap.size w w') : Up w' g v s :=
  h.same b.size (b.block g h.lt) (fun k hk => b.block k (h.buf.lt k hk).2)
theorem Up.alloc {w : World} {g : Nat} {v : Value} {s : US} (h : Up w g v s) (o : Obj) : Up (w.alloc o) g v s := h.below ((Below.refl _ _).alloc (Nat.le_refl _) o)
theorem Up.drewN {w : World} {g : Nat} {v : Value} {s : US} (h : Up w g v s) (q : Nat) : Up (w.drewN q) g v s := h.same (Nat.le_refl _) rfl (fun _ _ => rfl)
theorem Up.drew {w : World} {g : Nat} {v : Value} {s : US} (h : Up w g v s) : Up w.drew g v s := h.same (Nat.le_refl _) rfl (fun _ _ => rfl)
theorem Up.cast {w : World} {g : Nat} {v : Value} {s s' : US} (h : Up w g v s) (e : s = s') : Up w g v s' := e ▸ h
theorem Up.newBlock {w : World} {g : Nat} {v : Value} {s : US} (h : Up w g v s) (k : Nat) (hk : w.heap.size ≤ k) : k ≠ g ∧ v.ownBlock ≠ some k :=
  ⟨by have := h.lt; omega, fun e => by have := (h.buf.lt k e).2; omega⟩
theorem Up.put {w : World} {g : Nat} {v : Value} {s : US} (h : Up w g v s) (k j : Nat) (x : Value) (hk : g ≠ k) (ho : v.ownBlock ≠ some k) : Up (w.setCell ⟨k, j, none⟩ x) g v s :=
  h.same (by simp) (Below.heap_setCell w _ _ g hk) (fun i hi => Below.heap_setCell w _ _ i (fun e => ho (by rw [hi]; exact congrArg some e)))
/-- A cell written over that isn't the text's. -/
theorem Up.set {w : World} {g : Nat} {v : Value} {s : US} (h : Up w g v s) (j : Nat) (x : Value) (s' : US) (hj : j < 9) (e : (s.cells v).set j x = s'.cells v) (et : s'.tx = s.tx) : Up (w.setCell ⟨g, j, none⟩ x) g v s' := by
  refine ⟨(h.st.set j x hj).cast e, ?_, h.ne⟩
  rw [et]
  exact h.buf.same (by simp) (fun k hk => Below.heap_setCell w _ _ k (fun e => h.ne (by rw [hk, e])))
/-- The text's cell written over. -/
theorem Up.setv {w : World} {g : Nat} {v : Value} {s : US} (h : StK w g (s.cells v)) (v' : Value) (t : List UInt8) (hb : Buf w 0 v' t.length (fun j => .int .u8 (bt (ba t) j))) (hn : v'.ownBlock ≠ some g) : Up (w.setCell ⟨g, 6, none⟩ v') g v' { s with tx := t } := by
  refine ⟨(h.set 6 v' (by show 6 < 9; decide)).cast rfl, ?_, hn⟩
  exact hb.same (by simp) (fun k hk => Below.heap_setCell w _ _ k (fun e => hn (by rw [hk, e])))
theorem Up.setn {w : World} {g : Nat} {v : Value} {s : US} (h : Up w g v s) : Up (w.setCell ⟨g, 6, none⟩ (.slice none 0 0)) g (.slice none 0 0) { s with tx := [] } :=
  Up.setv h.st _ [] (Buf.nil _ _ _) (by simp [Value.ownBlock])
theorem Up.fresh (w : World) : Up (w.alloc (.cells #[.int .i64 0, .int .i64 0, .int .i64 0, .bool false, .int .i64 0, .int .u64 0, .slice none 0 0, .int .i64 0, .int .u8 0] 75)) w.heap.size (.slice none 0 0) u0 :=
  ⟨(StK.new w _ _).cast rfl, Buf.nil _ _ _, by simp [Value.ownBlock]⟩
/-- The length of the text's slice. -/
theorem Up.len {w : World} {g : Nat} {v : Value} {s : US} (h : Up w g v s) : ∃ p c, v = .slice p s.tx.length c := by
  rcases h.buf with ⟨rfl, e⟩ | ⟨k, c, rfl, _⟩
  · exact ⟨none, 0, by rw [e]⟩
  · exact ⟨_, _, rfl⟩

end Go.Proofs.Ytljcbibcdajhiaa
/- Packing, as a function on lists of bytes. -/
namespace Go.Proofs.Ytljcbibcdajhiaa
open Go.RowKit

/-- The four bytes at a place. -/
def fourAt (s : List UInt8) (i : Nat) : List UInt8 := [s.getD i 0, s.getD (i + 1) 0, s.getD (i + 2) 0, s.getD (i + 3) 0]
/-- The last place ahead of i at which four bytes stand. -/
def lastOf (s : List UInt8) (k : List UInt8) : Nat → Option Nat
  | 0 => none
  | i + 1 => if i + 4 ≤ s.length ∧ fourAt s i = k then some i else lastOf s k i
/-- How many bytes are the same, from two places on; at most n. -/
def mch (s : List UInt8) (a b : Nat) : Nat → Nat → Nat
  | 0, i => i
  | n + 1, i => if s.getD (a + i) 0 = s.getD (b + i) 0 then mch s a b n (i + 1) else i
/-- Bytes written as they are. -/
def plT : Nat → List UInt8 → List UInt8
  | 0, _ => []
  | f + 1, l => if l.length = 0 then [] else UInt8.ofNat (min 128 l.length - 1) :: (l.take 128 ++ plT f (l.drop 128))
/-- A token that points back. -/
def bkT (far n : Nat) : List UInt8 := [UInt8.ofNat (124 + n), UInt8.ofNat ((far - 1) % 256), UInt8.ofNat ((far - 1) / 256)]
/-- Where a place's bytes stood last, near enough. -/
def findB (s : List UInt8) (i : Nat) : Option Nat :=
  if i + 4 ≤ s.length then (match lastOf s (fourAt s i) i with | some p => if i - p ≤ 65536 then some p else none | none => none) else none
/-- The bytes from p on up to i. -/
def cutL (s : List UInt8) (p i : Nat) : List UInt8 := (s.drop p).take (i - p)
/-- The tokens from a place on; p: where the bytes begin that are still to be written. -/
def pkGo (s : List UInt8) : Nat → Nat → Nat → List UInt8
  | 0, _, p => plT (s.length + 1) (cutL s p s.length)
  | f + 1, i, p =>
    if i < s.length then
      match findB s i with
      | some q => plT (s.length + 1) (cutL s p i) ++ bkT (i - q) (mch s q i (min 131 (s.length - i)) 0) ++ pkGo s f (i + mch s q i (min 131 (s.length - i)) 0) (i + mch s q i (min 131 (s.length - i)) 0)
      | none => pkGo s f (i + 1) p
    else plT (s.length + 1) (cutL s p s.length)
/-- A number as k bytes, least first. -/
def lekK : Nat → Nat → List UInt8
  | 0, _ => []
  | k + 1, n => UInt8.ofNat (n % 256) :: lekK k (n / 256)
def pk (s : List UInt8) : List UInt8 := lekK 8 s.length ++ pkGo s s.length 0 0

theorem lastOf_some {s k : List UInt8} {n p : Nat} (h : lastOf s k n = some p) : p < n ∧ p + 4 ≤ s.length ∧ fourAt s p = k := by
  induction n with
  | zero => cases h
  | succ n ih =>
    unfold lastOf at h
    by_cases hc : n + 4 ≤ s.length ∧ fourAt s n = k
    · rw [if_pos hc] at h
      cases h
      exact ⟨Nat.lt_succ_self _, hc⟩
    · rw [if_neg hc] at h
      have := ih h
      exact ⟨by omega, this.2⟩

theorem mch_le (s : List UInt8) (a b : Nat) : ∀ (n i : Nat), i ≤ mch s a b n i ∧ mch s a b n i ≤ i + n := by
  intro n
  induction n with
  | zero => intro i; exact ⟨Nat.le_refl _, Nat.le_refl _⟩
  | succ n ih =>
    intro i
    unfold mch
    by_cases h : s.getD (a + i) 0 = s.getD (b + i) 0
    · rw [if_pos h]; have := ih (i + 1); omega
    · rw [if_neg h]; omega
theorem mch_eq (s : List UInt8) (a b : Nat) : ∀ (n i j : Nat), i ≤ j → j < mch s a b n i → s.getD (a + j) 0 = s.getD (b + j) 0 := by
  intro n
  induction n with
  | zero => intro i j h1 h2; unfold mch at h2; omega
  | succ n ih =>
    intro i j h1 h2
    unfold mch at h2
    by_cases h : s.getD (a + i) 0 = s.getD (b + i) 0
    · rw [if_pos h] at h2
      by_cases e : i = j
      · rw [← e]; exact h
      · exact ih (i + 1) j (by omega) h2
    · rw [if_neg h] at h2; omega
/-- As many as are known to be the same. -/
theorem mch_ge (s : List UInt8) (a b : Nat) : ∀ (n i k : Nat), k ≤ i + n → (∀ j, i ≤ j → j < k → s.getD (a + j) 0 = s.getD (b + j) 0) → k ≤ mch s a b n i := by
  intro n
  induction n with
  | zero => intro i k h _; unfold mch; omega
  | succ n ih =>
    intro i k h he
    unfold mch
    by_cases hk : k ≤ i
    · have := (mch_le s a b (n + 1) i).1
      unfold mch at this
      omega
    · rw [if_pos (he i (Nat.le_refl _) (by omega))]
      exact ih (i + 1) k (by omega) (fun j h1 h2 => he j (by omega) h2)

theorem findB_some {s : List UInt8} {i q : Nat} (h : findB s i = some q) : q < i ∧ i + 4 ≤ s.length ∧ i - q ≤ 65536 ∧ 4 ≤ mch s q i (min 131 (s.length - i)) 0 := by
  unfold findB at h
  by_cases h4 : i + 4 ≤ s.length
  · rw [if_pos h4] at h
    cases hl : lastOf s (fourAt s i) i with
    | none => rw [hl] at h; cases h
    | some p =>
      rw [hl] at h
      dsimp only at h
      by_cases hf : i - p ≤ 65536
      · rw [if_pos hf] at h
        cases h
        obtain ⟨h1, h2, h3⟩ := lastOf_some hl
        refine ⟨h1, h4, hf, mch_ge _ _ _ _ _ _ (by omega) (fun j _ hj => ?_)⟩
        unfold fourAt at h3
        injection h3 with e0 h3
        injection h3 with e1 h3
        injection h3 with e2 h3
        injection h3 with e3 h3
        match j, hj with
        | 0, _ => exact e0
        | 1, _ => exact e1
        | 2, _ => exact e2
        | 3, _ => exact e3
      · rw [if_neg hf] at h; cases h
  · rw [if_neg h4] at h; cases h

end Go.Proofs.Ytljcbibcdajhiaa
/- The unpacker's small methods: missing, whole, fail, Taken, Fault, NewUnpacker. -/
namespace Go.Proofs.Ytljcbibcdajhiaa
open Go.RowKit

set_option maxHeartbeats 400000 in
theorem newU_any (w : World) : Calls Try.prog 7 #[] w fun e w' => e = .returned (.pointer (some ⟨w.heap.size, 0, none⟩)) ∧ Up w' w.heap.size (.slice none 0 0) u0 ∧ Below w.heap.size w w' := by
  have U : Hid (Up (w.alloc (.cells #[.int .i64 0, .int .i64 0, .int .i64 0, .bool false, .int .i64 0, .int .u64 0, .slice none 0 0, .int .i64 0, .int .u8 0] 75)) w.heap.size (.slice none 0 0) u0) := Up.fresh w
  go_enter Try.func7, Try.ntmps7
  go_wp2
  go_ret
  exact ⟨rfl, U.out, (Below.refl _ _).alloc (Nat.le_refl _) _⟩

set_option maxHeartbeats 1000000 in
theorem missing_any (g : Nat) (v : Value) (s : US) (w : World) (R : Up w g v s) (hl : s.len ≤ 1048576) (ht : s.tx.length ≤ s.len) :
    Calls Try.prog 42 #[.pointer (some ⟨g, 0, none⟩)] w fun e w' => e = .returned (.int .i64 ((s.len - s.tx.length : Nat) : Int)) ∧ ∃ q, w' = w.drewN q := by
  have c5 := R.st.get 5 _ rfl
  have c6 := R.st.get 6 _ rfl
  obtain ⟨p, c, rfl⟩ := R.len
  clear R
  have e0 : Hid ((s.len : Int) - (s.tx.length : Int) = ((s.len - s.tx.length : Nat) : Int)) := by unfold Hid; omega
  generalize (s.len - s.tx.length : Nat) = D at e0 ⊢
  generalize s.tx.length = T at *
  generalize s.len = L at *
  go_enter Try.func42, Try.ntmps42
  go_wp2_with fail
  go_quiet (fail)
  go_wp2
  go_ret
  exact ⟨by rw [e0.out]; rfl, _, rfl⟩

set_option maxHeartbeats 1000000 in
theorem fail_any' (g : Nat) (v : Value) (s : US) (c a : Nat) (w : World) (R : Up w g v s) :
    Calls Try.prog 26 #[.pointer (some ⟨g, 0, none⟩), .agg #[.int .i64 (c : Int), .int .i64 (a : Int)]] w fun e w' => e = .returned (.tuple #[]) ∧ Up w' g (.slice none 0 0) (s.fl c a) ∧ Mv w w' g v (.slice none 0 0) := by
  have HR : Hid (Up w g v s) := R
  have c1 := R.st.get 1 _ rfl
  have c2 := R.st.get 2 _ rfl
  have c6 := R.st.get 6 _ rfl
  have f1 := R.st.fr 1 (by show 1 < 9; decide)
  have f2 := R.st.fr 2 (by show 2 < 9; decide)
  have f6 := R.st.fr 6 (by show 6 < 9; decide)
  have hl := R.lt
  have n0 := (R.newBlock w.heap.size (Nat.le_refl _)).1
  clear R
  go_enter Try.func26, Try.ntmps26
  go_wp2
  go_end0
  refine ⟨rfl, ?_, (((((Mv.refl _ _ _).store _ _).store _ _).store _ _).alloc _).nil⟩
  exact ((((HR.out.set 1 _ { s with code := c } (by decide) rfl rfl).set 2 _ { s with code := c, fat := a } (by decide) rfl rfl).setn).alloc _).cast rfl

set_option maxHeartbeats 1000000 in
theorem whole_anyK (g : Nat) (v : Value) (s : US) (w : World) (R : Up w g v s) (hl : s.ph = 1 → s.len ≤ 1048576 ∧ s.tx.length ≤ s.len) :
    Calls Try.prog 27 #[.pointer (some ⟨g, 0, none⟩)] w fun e w' => e = .returned (.bool s.wh) ∧ ∃ q, w' = w.drewN q := by
  have HR : Hid (Up w g v s) := R
  have c4 := R.st.get 4 _ rfl
  clear R
  by_cases h1 : s.ph = 1
  · obtain ⟨l1, l2⟩ := hl h1
    have ew : Hid (s.wh = ((s.len - s.tx.length : Nat) == 0)) := by unfold Hid US.wh; rw [h1]; rfl
    rw [h1] at c4
    have MM := missing_any g v s w HR.out l1 l2
    clear hl h1
    generalize (s.len - s.tx.length : Nat) = D at ew MM
    go_enter Try.func27, Try.ntmps27
    go_wp2_with fail
    refine MM.mono ?_
    rintro e w1 ⟨rfl, q, rfl⟩
    by_cases hD : D = 0
    · subst hD
      go_wp2
      go_ret
      exact ⟨by rw [ew.out]; rfl, q, rfl⟩
    · have h2 : ((D : Int) == 0) = false := by simp; omega
      go_wp2
      go_ret
      exact ⟨by rw [ew.out]; simp [hD], q, rfl⟩
  · have h2 : ((s.ph : Int) == 1) = false := by simp; omega
    have ew : Hid (s.wh = false) := by unfold Hid US.wh; simp [h1]
    go_enter Try.func27, Try.ntmps27
    go_wp2
    go_ret
    exact ⟨by rw [ew.out]; rfl, 0, rfl⟩

end Go.Proofs.Ytljcbibcdajhiaa
/- takeLength, walked. -/
namespace Go.Proofs.Ytljcbibcdajhiaa
open Go.RowKit

theorem or_wordK (x b t : Nat) (hx : x < 2 ^ (8 * t)) (hb : b < 256) (ht : t ≤ 7) : bits .or .u64 (x : Int) (IntKind.u64.wrap ((b : Int) * 2 ^ (8 * t))) = ((x + b * 2 ^ (8 * t) : Nat) : Int) := by
  have h1 : b * 2 ^ (8 * t) < 18446744073709551616 := by
    have e : 2 ^ (8 * t) ≤ 2 ^ 56 := Nat.pow_le_pow_right (by decide) (by omega)
    calc b * 2 ^ (8 * t) ≤ 255 * 2 ^ 56 := Nat.mul_le_mul (by omega) e
      _ < 18446744073709551616 := by decide
  have h0 : x < 18446744073709551616 := by
    have e : 2 ^ (8 * t) ≤ 2 ^ 56 := Nat.pow_le_pow_right (by decide) (by omega)
    exact Nat.lt_of_lt_of_le hx (Nat.le_trans e (by decide))
  have h2 : ((b : Int) * 2 ^ (8 * t)) = ((b * 2 ^ (8 * t) : Nat) : Int) := by push_cast; rfl
  have h3 : IntKind.u64.wrap ((b * 2 ^ (8 * t) : Nat) : Int) = ((b * 2 ^ (8 * t) : Nat) : Int) := by
    generalize b * 2 ^ (8 * t) = z at h1
    show (z : Int) % 18446744073709551616 = z
    omega
  rw [h2, h3, u64_or _ _ (by omega) (by omega) (by omega) (by omega), Int.toNat_natCast, Int.toNat_natCast]
  congr 1
  rw [Nat.mul_comm, Nat.or_comm, ← Nat.two_pow_add_eq_or_of_lt hx, Nat.add_comm]

/-- A fault that is handed back in two new cells. -/
theorem ret_faultK {f : Func} {tmps : Array Value} {W : World} {G : Nat} {i : Nat} {a b : Int} {R : Ending → World → Prop} (hf : f.results = #[.cell i 39]) (ht : tmps[i]?.getD undef = .pointer (some ⟨G, 0, none⟩))
    (q : StK W G [.int .i64 a, .int .i64 b]) (hR : R (.returned (.agg #[.int .i64 a, .int .i64 b])) W) :
    bodyPost Try.prog f R .ret { tmps := tmps, defers := [] } W := by
  have q0 := q.get 0 _ rfl
  have q1 := q.get 1 _ rfl
  exact bodyPost_ret (v := .agg #[.int .i64 a, .int .i64 b]) (by simp [results, hf, go_sem, ht, q0, q1]) rfl hR

set_option maxHeartbeats 2000000 in
theorem takeLength_any (g : Nat) (v : Value) (s : US) (b : UInt8) (w : World) (R : Up w g v s) (h0 : s.ph = 0) (htk : s.tk < 8) (hln : s.len < 2 ^ (8 * s.tk)) :
    Calls Try.prog 39 #[.pointer (some ⟨g, 0, none⟩), .int .u8 (b.toNat : Int)] w fun e w' => e = .returned (.agg #[.int .i64 ((s.look b).2.1 : Int), .int .i64 ((s.look b).2.2 : Int)]) ∧ Up w' g v (s.look b).1 ∧ Mv w w' g v v := by
  have HR : Hid (Up w g v s) := R
  have c0 := R.st.get 0 _ rfl
  have c4 := R.st.get 4 _ rfl
  have c5 := R.st.get 5 _ rfl
  have f4 := R.st.fr 4 (by show 4 < 9; decide)
  have f5 := R.st.fr 5 (by show 5 < 9; decide)
  have hl := R.lt
  have n0 := (R.newBlock w.heap.size (Nat.le_refl _)).1
  have hb := b.toNat_lt
  clear R
  have HW : Hid (bits .or .u64 (s.len : Int) (IntKind.u64.wrap ((b.toNat : Int) * 2 ^ (8 * s.tk))) = ((s.lput b).len : Int)) := or_wordK s.len b.toNat s.tk hln hb (by omega)
  have HK : Hid (s.look b = if s.tk < 7 then (s.lput b, 0, 0) else if 1048576 < (s.lput b).len then (s.lput b, 2, 0) else ({ s.lput b with ph := 1 }, 0, 0)) := by unfold Hid US.look; rw [if_pos h0]
  have U1 : Hid (Up (w.setCell ⟨g, 5, none⟩ (.int .u64 ((s.lput b).len : Int))) g v (s.lput b)) := HR.out.set 5 _ (s.lput b) (by decide) rfl rfl
  have M1 : Hid (Mv w (w.setCell ⟨g, 5, none⟩ (.int .u64 ((s.lput b).len : Int))) g v v) := (Mv.refl _ _ _).store _ _
  clear h0 hln
  generalize hL : (s.lput b).len = LL at *
  go_enter Try.func39, Try.ntmps39
  go_wp2_with fail
  go_region
  rw [HW.out]
  have U2 : Hid (Up (((w.setCell ⟨g, 5, none⟩ (.int .u64 (LL : Int))).alloc (.cells #[.int .i64 0, .int .i64 0] 39)).drew) g v (s.lput b)) := (U1.out.alloc _).drew
  have M2 : Hid (Mv w (((w.setCell ⟨g, 5, none⟩ (.int .u64 (LL : Int))).alloc (.cells #[.int .i64 0, .int .i64 0] 39)).drew) g v v) := (M1.out.alloc _).drew
  have q2 : Hid (StK (((w.setCell ⟨g, 5, none⟩ (.int .u64 (LL : Int))).alloc (.cells #[.int .i64 0, .int .i64 0] 39)).drew) w.heap.size [.int .i64 0, .int .i64 0]) := by
    have h := (StK.new (w.setCell ⟨g, 5, none⟩ (.int .u64 (LL : Int))) #[.int .i64 0, .int .i64 0] 39).drewN 1
    rw [World.size_setCell] at h
    exact h
  have hG : Hid (w.heap.size ≤ w.heap.size ∧ v.ownBlock ≠ some w.heap.size) := ⟨Nat.le_refl _, (HR.out.newBlock w.heap.size (Nat.le_refl _)).2⟩
  generalize ((w.setCell ⟨g, 5, none⟩ (.int .u64 (LL : Int))).alloc (.cells #[.int .i64 0, .int .i64 0] 39)).drew = W1 at U2 M2 q2 ⊢
  clear c0 c4 c5 f4 f5 U1 M1 HW hl
  have G0 : Hid (w.heap.size ≤ w.heap.size) := Nat.le_refl _
  generalize hGG : w.heap.size = G at n0 q2 hG ⊢
  have GG : Hid (w.heap.size = G) := hGG
  clear hGG G0
  have d0 := U2.out.st.get 0 _ rfl
  have d5 := U2.out.st.get 5 _ rfl
  have d4 := U2.out.st.get 4 _ rfl
  have f4 := U2.out.st.fr 4 (by show 4 < 9; decide)
  have z0 := q2.out.get 0 _ rfl
  have z1 := q2.out.get 1 _ rfl
  have y0 := q2.out.fr 0 (by show 0 < 2; decide)
  have y1 := q2.out.fr 1 (by show 1 < 2; decide)
  have n1 : g ≠ G := fun e => n0 e.symm
  rw [show ((s.lput b).tk) = s.tk from rfl] at d0
  rw [hL] at d5
  by_cases h7 : s.tk < 7
  · have HE : Hid (s.look b = (s.lput b, 0, 0)) := by unfold Hid; rw [HK.out, if_pos h7]
    clear HK
    go_wp2
    refine ret_faultK rfl rfl (((q2.out.set 0 _ (by show 0 < 2; decide)).set 1 _ (by show 1 < 2; decide)).cast rfl) ⟨by rw [HE.out]; rfl, by rw [HE.out]; exact (U2.out.put G 0 _ n1 hG.out.2).put G 1 _ n1 hG.out.2, (M2.out.put G 0 _ (by rw [GG.out]; exact Nat.le_refl _)).put G 1 _ (by rw [GG.out]; exact Nat.le_refl _)⟩
  · by_cases hb2 : 1048576 < LL
    · have HE : Hid (s.look b = (s.lput b, 2, 0)) := by unfold Hid; rw [HK.out, if_neg h7, if_pos hb2]
      clear HK
      go_wp2
      refine ret_faultK rfl rfl (((q2.out.set 0 _ (by show 0 < 2; decide)).set 1 _ (by show 1 < 2; decide)).cast rfl) ⟨by rw [HE.out]; rfl, by rw [HE.out]; exact (U2.out.put G 0 _ n1 hG.out.2).put G 1 _ n1 hG.out.2, (M2.out.put G 0 _ (by rw [GG.out]; exact Nat.le_refl _)).put G 1 _ (by rw [GG.out]; exact Nat.le_refl _)⟩
    · have HE : Hid (s.look b = ({ s.lput b with ph := 1 }, 0, 0)) := by unfold Hid; rw [HK.out, if_neg h7, if_neg hb2]
      clear HK
      go_wp2
      refine ret_faultK rfl rfl ((((q2.out.other g 4 _ n0).set 0 _ (by show 0 < 2; decide)).set 1 _ (by show 1 < 2; decide)).cast rfl) ⟨by rw [HE.out]; rfl, by rw [HE.out]; exact ((U2.out.set 4 _ { s.lput b with ph := 1 } (by decide) rfl rfl).put G 0 _ n1 hG.out.2).put G 1 _ n1 hG.out.2, ((M2.out.store 4 _).put G 0 _ (by rw [GG.out]; exact Nat.le_refl _)).put G 1 _ (by rw [GG.out]; exact Nat.le_refl _)⟩

end Go.Proofs.Ytljcbibcdajhiaa
/- takeToken, walked. -/
namespace Go.Proofs.Ytljcbibcdajhiaa
open Go.RowKit

set_option maxHeartbeats 2000000 in
set_option maxRecDepth 8000 in
theorem takeToken_any (g : Nat) (v : Value) (s : US) (b : UInt8) (w : World) (R : Up w g v s) (h0 : s.ph = 1) (hlm : s.len ≤ 1048576) (htl : s.tx.length ≤ s.len) :
    Calls Try.prog 40 #[.pointer (some ⟨g, 0, none⟩), .int .u8 (b.toNat : Int)] w fun e w' => e = .returned (.agg #[.int .i64 ((s.look b).2.1 : Int), .int .i64 ((s.look b).2.2 : Int)]) ∧ Up w' g v (s.look b).1 ∧ Mv w w' g v v := by
  have HR : Hid (Up w g v s) := R
  have hl := R.lt
  have n0 := (R.newBlock w.heap.size (Nat.le_refl _)).1
  have hb := b.toNat_lt
  have WC := fun w R => whole_anyK g v s w R (fun _ => ⟨hlm, htl⟩)
  clear R
  have HK : Hid (s.look b = if s.wh then (s, 5, s.tk) else if s.len - s.tx.length < (s.tok b).lack then (s.tok b, 101, s.tk) else (s.tok b, 0, 0)) := by unfold Hid US.look; rw [if_neg (by omega), if_pos h0]
  go_enter Try.func40, Try.ntmps40
  go_wp2_with fail
  refine (WC _ (HR.out.alloc _)).mono ?_
  rintro e w1 ⟨rfl, q, rfl⟩
  clear WC
  have U2 : Hid (Up ((w.alloc (.cells #[.int .i64 0, .int .i64 0] 39)).drewN q) g v s) := (HR.out.alloc _).drewN q
  have M2 : Hid (Mv w ((w.alloc (.cells #[.int .i64 0, .int .i64 0] 39)).drewN q) g v v) := ((Mv.refl _ _ _).alloc _).drewN q
  have q2 : Hid (StK ((w.alloc (.cells #[.int .i64 0, .int .i64 0] 39)).drewN q) w.heap.size [.int .i64 0, .int .i64 0]) := (StK.new w #[.int .i64 0, .int .i64 0] 39).drewN q
  have hG : Hid (v.ownBlock ≠ some w.heap.size) := (HR.out.newBlock w.heap.size (Nat.le_refl _)).2
  generalize (w.alloc (.cells #[.int .i64 0, .int .i64 0] 39)).drewN q = W1 at U2 M2 q2 ⊢
  clear hl
  generalize hGG : w.heap.size = G at n0 q2 hG ⊢
  have GG : Hid (w.heap.size = G) := hGG
  clear hGG
  have d0 := U2.out.st.get 0 _ rfl
  have d4 := U2.out.st.get 4 _ rfl
  have d7 := U2.out.st.get 7 _ rfl
  have f4 := U2.out.st.fr 4 (by show 4 < 9; decide)
  have f7 := U2.out.st.fr 7 (by show 7 < 9; decide)
  have z0 := q2.out.get 0 _ rfl
  have z1 := q2.out.get 1 _ rfl
  have y0 := q2.out.fr 0 (by show 0 < 2; decide)
  have y1 := q2.out.fr 1 (by show 1 < 2; decide)
  have n1 : g ≠ G := fun e => n0 e.symm
  by_cases hw : s.wh = true
  · have HE : Hid (s.look b = (s, 5, s.tk)) := by unfold Hid; rw [HK.out, if_pos hw]
    clear HK
    go_wp2
    refine ret_faultK rfl rfl (((q2.out.set 0 _ (by show 0 < 2; decide)).set 1 _ (by show 1 < 2; decide)).cast rfl) ⟨by rw [HE.out]; rfl, by rw [HE.out]; exact (U2.out.put G 0 _ n1 hG.out).put G 1 _ n1 hG.out, (M2.out.put G 0 _ (by rw [GG.out]; exact Nat.le_refl _)).put G 1 _ (by rw [GG.out]; exact Nat.le_refl _)⟩
  · have hwf : s.wh = false := by simpa using hw
    rw [hwf]
    clear hw
    by_cases h8 : 128 ≤ b.toNat
    · skip
      have ht : Hid (s.tok b = { s with ph := 3, lack := b.toNat - 124 }) := by unfold Hid US.tok; rw [if_pos h8]
      have U3 : Hid (Up ((((W1.setCell ⟨g, 4, none⟩ (.int .i64 2)).setCell ⟨g, 7, none⟩ (.int .i64 ((b.toNat : Int) + 1))).setCell ⟨g, 4, none⟩ (.int .i64 3)).setCell ⟨g, 7, none⟩ (.int .i64 ((b.toNat : Int) - 128 + 4))) g v (s.tok b)) := ((((U2.out.set 4 _ { s with ph := 2 } (by decide) rfl rfl).set 7 _ { s with ph := 2, lack := b.toNat + 1 } (by decide) rfl rfl).set 4 _ { s with ph := 3, lack := b.toNat + 1 } (by decide) rfl rfl).set 7 _ { s with ph := 3, lack := b.toNat - 124 } (by decide) (by rw [show ((b.toNat : Int) - 128 + 4) = ((b.toNat - 124 : Nat) : Int) by omega]; rfl) rfl).cast ht.out.symm
      have M3 : Hid (Mv w ((((W1.setCell ⟨g, 4, none⟩ (.int .i64 2)).setCell ⟨g, 7, none⟩ (.int .i64 ((b.toNat : Int) + 1))).setCell ⟨g, 4, none⟩ (.int .i64 3)).setCell ⟨g, 7, none⟩ (.int .i64 ((b.toNat : Int) - 128 + 4))) g v v) := (((M2.out.store _ _).store _ _).store _ _).store _ _
      have q3 : Hid (StK ((((W1.setCell ⟨g, 4, none⟩ (.int .i64 2)).setCell ⟨g, 7, none⟩ (.int .i64 ((b.toNat : Int) + 1))).setCell ⟨g, 4, none⟩ (.int .i64 3)).setCell ⟨g, 7, none⟩ (.int .i64 ((b.toNat : Int) - 128 + 4))) G [.int .i64 0, .int .i64 0]) := (((q2.out.other g 4 _ n0).other g 7 _ n0).other g 4 _ n0).other g 7 _ n0
      go_wp2_with fail
      generalize (((W1.setCell ⟨g, 4, none⟩ (.int .i64 2)).setCell ⟨g, 7, none⟩ (.int .i64 ((b.toNat : Int) + 1))).setCell ⟨g, 4, none⟩ (.int .i64 3)).setCell ⟨g, 7, none⟩ (.int .i64 ((b.toNat : Int) - 128 + 4)) = W3 at U3 M3 q3 ⊢
      clear d0 d4 d7 f4 f7 z0 z1 y0 y1 U2 M2 q2
      have d0 := U3.out.st.get 0 _ rfl
      have d7 := U3.out.st.get 7 _ rfl
      have MM := fun w R => missing_any g v (s.tok b) w R (by rw [(s.tok_len b).1]; exact hlm) (by rw [(s.tok_len b).1, (s.tok_len b).2.1]; exact htl)
      rw [(s.tok_len b).2.2.1] at d0
      rw [(s.tok_len b).1, (s.tok_len b).2.1] at MM
      have MM3 := fun n => MM (W3.drewN n) (U3.out.drewN n)
      clear MM
      have z0 := q3.out.get 0 _ rfl
      have z1 := q3.out.get 1 _ rfl
      have y0 := q3.out.fr 0 (by show 0 < 2; decide)
      have y1 := q3.out.fr 1 (by show 1 < 2; decide)
      by_cases hx : s.len - s.tx.length < (s.tok b).lack
      · have HE : Hid (s.look b = (s.tok b, 101, s.tk)) := by unfold Hid; rw [HK.out, if_neg (by simp [hwf]), if_pos hx]
        generalize (s.tok b).lack = lk at d7 hx
        generalize s.len - s.tx.length = D at MM3 hx
        clear HK
        go_quiet ((go_at_call 42; exact Calls.quiet_of (MM3 _)))
        have U4 : Hid (Up (W3.drewN nq) g v (s.tok b)) := U3.out.drewN nq
        have M4 : Hid (Mv w (W3.drewN nq) g v v) := M3.out.drewN nq
        have q4 : Hid (StK (W3.drewN nq) G [.int .i64 0, .int .i64 0]) := q3.out.drewN nq
        have d0 : (W3.drewN nq).cell? ⟨g, 0, none⟩ = some (.int .i64 (s.tk : Int)) := d0
        have z0 := q4.out.get 0 _ rfl
        have z1 := q4.out.get 1 _ rfl
        have y0 := q4.out.fr 0 (by show 0 < 2; decide)
        have y1 := q4.out.fr 1 (by show 1 < 2; decide)
        generalize W3.drewN nq = W4 at U4 M4 q4 d0 z0 z1 y0 y1 ⊢
        go_wp2
        refine ret_faultK rfl rfl (((q4.out.set 0 _ (by show 0 < 2; decide)).set 1 _ (by show 1 < 2; decide)).cast rfl) ⟨by rw [HE.out]; rfl, by rw [HE.out]; exact (U4.out.put G 0 _ n1 hG.out).put G 1 _ n1 hG.out, (M4.out.put G 0 _ (by rw [GG.out]; exact Nat.le_refl _)).put G 1 _ (by rw [GG.out]; exact Nat.le_refl _)⟩
      · have HE : Hid (s.look b = (s.tok b, 0, 0)) := by unfold Hid; rw [HK.out, if_neg (by simp [hwf]), if_neg hx]
        generalize (s.tok b).lack = lk at d7 hx
        generalize s.len - s.tx.length = D at MM3 hx
        clear HK
        go_quiet ((go_at_call 42; exact Calls.quiet_of (MM3 _)))
        have U4 : Hid (Up (W3.drewN nq) g v (s.tok b)) := U3.out.drewN nq
        have M4 : Hid (Mv w (W3.drewN nq) g v v) := M3.out.drewN nq
        have q4 : Hid (StK (W3.drewN nq) G [.int .i64 0, .int .i64 0]) := q3.out.drewN nq
        have z0 := q4.out.get 0 _ rfl
        have z1 := q4.out.get 1 _ rfl
        have y0 := q4.out.fr 0 (by show 0 < 2; decide)
        have y1 := q4.out.fr 1 (by show 1 < 2; decide)
        generalize W3.drewN nq = W4 at U4 M4 q4 z0 z1 y0 y1 ⊢
        go_wp2
        refine ret_faultK rfl rfl (((q4.out.set 0 _ (by show 0 < 2; decide)).set 1 _ (by show 1 < 2; decide)).cast rfl) ⟨by rw [HE.out]; rfl, by rw [HE.out]; exact (U4.out.put G 0 _ n1 hG.out).put G 1 _ n1 hG.out, (M4.out.put G 0 _ (by rw [GG.out]; exact Nat.le_refl _)).put G 1 _ (by rw [GG.out]; exact Nat.le_refl _)⟩
    · have ht : Hid (s.tok b = { s with ph := 2, lack := b.toNat + 1 }) := by unfold Hid US.tok; rw [if_neg h8]
      have U3 : Hid (Up ((W1.setCell ⟨g, 4, none⟩ (.int .i64 2)).setCell ⟨g, 7, none⟩ (.int .i64 ((b.toNat : Int) + 1))) g v (s.tok b)) := ((U2.out.set 4 _ { s with ph := 2 } (by decide) rfl rfl).set 7 _ { s with ph := 2, lack := b.toNat + 1 } (by decide) rfl rfl).cast ht.out.symm
      have M3 : Hid (Mv w ((W1.setCell ⟨g, 4, none⟩ (.int .i64 2)).setCell ⟨g, 7, none⟩ (.int .i64 ((b.toNat : Int) + 1))) g v v) := (M2.out.store _ _).store _ _
      have q3 : Hid (StK ((W1.setCell ⟨g, 4, none⟩ (.int .i64 2)).setCell ⟨g, 7, none⟩ (.int .i64 ((b.toNat : Int) + 1))) G [.int .i64 0, .int .i64 0]) := (q2.out.other g 4 _ n0).other g 7 _ n0
      go_wp2_with fail
      generalize (W1.setCell ⟨g, 4, none⟩ (.int .i64 2)).setCell ⟨g, 7, none⟩ (.int .i64 ((b.toNat : Int) + 1)) = W3 at U3 M3 q3 ⊢
      clear d0 d4 d7 f4 f7 z0 z1 y0 y1 U2 M2 q2
      have d0 := U3.out.st.get 0 _ rfl
      have d7 := U3.out.st.get 7 _ rfl
      have MM := fun w R => missing_any g v (s.tok b) w R (by rw [(s.tok_len b).1]; exact hlm) (by rw [(s.tok_len b).1, (s.tok_len b).2.1]; exact htl)
      rw [(s.tok_len b).2.2.1] at d0
      rw [(s.tok_len b).1, (s.tok_len b).2.1] at MM
      have MM3 := fun n => MM (W3.drewN n) (U3.out.drewN n)
      clear MM
      have z0 := q3.out.get 0 _ rfl
      have z1 := q3.out.get 1 _ rfl
      have y0 := q3.out.fr 0 (by show 0 < 2; decide)
      have y1 := q3.out.fr 1 (by show 1 < 2; decide)
      by_cases hx : s.len - s.tx.length < (s.tok b).lack
      · have HE : Hid (s.look b = (s.tok b, 101, s.tk)) := by unfold Hid; rw [HK.out, if_neg (by simp [hwf]), if_pos hx]
        generalize (s.tok b).lack = lk at d7 hx
        generalize s.len - s.tx.length = D at MM3 hx
        clear HK
        go_quiet ((go_at_call 42; exact Calls.quiet_of (MM3 _)))
        have U4 : Hid (Up (W3.drewN nq) g v (s.tok b)) := U3.out.drewN nq
        have M4 : Hid (Mv w (W3.drewN nq) g v v) := M3.out.drewN nq
        have q4 : Hid (StK (W3.drewN nq) G [.int .i64 0, .int .i64 0]) := q3.out.drewN nq
        have d0 : (W3.drewN nq).cell? ⟨g, 0, none⟩ = some (.int .i64 (s.tk : Int)) := d0
        have z0 := q4.out.get 0 _ rfl
        have z1 := q4.out.get 1 _ rfl
        have y0 := q4.out.fr 0 (by show 0 < 2; decide)
        have y1 := q4.out.fr 1 (by show 1 < 2; decide)
        generalize W3.drewN nq = W4 at U4 M4 q4 d0 z0 z1 y0 y1 ⊢
        go_wp2
        refine ret_faultK rfl rfl (((q4.out.set 0 _ (by show 0 < 2; decide)).set 1 _ (by show 1 < 2; decide)).cast rfl) ⟨by rw [HE.out]; rfl, by rw [HE.out]; exact (U4.out.put G 0 _ n1 hG.out).put G 1 _ n1 hG.out, (M4.out.put G 0 _ (by rw [GG.out]; exact Nat.le_refl _)).put G 1 _ (by rw [GG.out]; exact Nat.le_refl _)⟩
      · have HE : Hid (s.look b = (s.tok b, 0, 0)) := by unfold Hid; rw [HK.out, if_neg (by simp [hwf]), if_neg hx]
        generalize (s.tok b).lack = lk at d7 hx
        generalize s.len - s.tx.length = D at MM3 hx
        clear HK
        go_quiet ((go_at_call 42; exact Calls.quiet_of (MM3 _)))
        have U4 : Hid (Up (W3.drewN nq) g v (s.tok b)) := U3.out.drewN nq
        have M4 : Hid (Mv w (W3.drewN nq) g v v) := M3.out.drewN nq
        have q4 : Hid (StK (W3.drewN nq) G [.int .i64 0, .int .i64 0]) := q3.out.drewN nq
        have z0 := q4.out.get 0 _ rfl
        have z1 := q4.out.get 1 _ rfl
        have y0 := q4.out.fr 0 (by show 0 < 2; decide)
        have y1 := q4.out.fr 1 (by show 1 < 2; decide)
        generalize W3.drewN nq = W4 at U4 M4 q4 z0 z1 y0 y1 ⊢
        go_wp2
        refine ret_faultK rfl rfl (((q4.out.set 0 _ (by show 0 < 2; decide)).set 1 _ (by show 1 < 2; decide)).cast rfl) ⟨by rw [HE.out]; rfl, by rw [HE.out]; exact (U4.out.put G 0 _ n1 hG.out).put G 1 _ n1 hG.out, (M4.out.put G 0 _ (by rw [GG.out]; exact Nat.le_refl _)).put G 1 _ (by rw [GG.out]; exact Nat.le_refl _)⟩

end Go.Proofs.Ytljcbibcdajhiaa
/- takeFar, walked. -/
namespace Go.Proofs.Ytljcbibcdajhiaa
open Go.RowKit

theorem cpy_succ (far n : Nat) (t : List UInt8) : cpy far (n + 1) t = cpy far n t ++ [(cpy far n t).getD ((cpy far n t).length - far) 0] := by
  induction n generalizing t with
  | zero => rfl
  | succ n ih => rw [cpy, ih]; rfl

theorem step_append_run {ops : Array Oper} {o : Oper} {a : Act} {w : World} {K : Act → World → Prop} {Q : Exit → Act → World → Prop} {E : Prop}
    (hg : o.guard = none) (s x : Operand) (t : TypeId) (hop : o.op = Op.call { callee := Callee.builtin Builtin.append, args := #[s, x], argTypes := #[t, t] }) (vs vx : Value) (hs : a.eval s = vs) (hx : a.eval x = vx) (v' : Value) (w' : World)
    (hrun : (Builtin.append_ #[t, t] o.type #[vs, vx]).run Try.prog w = .ok v' w') (hK : K (a.put o.dst v') w') :
    if Region.wanted o (yielded ops a.tmps) = true then Oper.wp Try.prog o a w K Q else E := by
  have hw : Region.wanted o (yielded ops a.tmps) = true := by simp [Region.wanted, hg]
  rw [if_pos hw]
  unfold Oper.wp
  simp [execOp, hop, resolve, invoke, builtin, hs, hx, hrun, Result.andThen]
  exact hK

theorem und45 : Try.prog.underlying 37 = some (.slice 5) := by kernel_rfl
theorem info5 : (Try.prog.info? 5).map (fun i => (i.zero, i.size, i.bytes)) = some (some (.int .u8 0), 1, 1) := by kernel_rfl

/-- A byte put to the text. -/
theorem Up.regrow {w w2 : World} {g : Nat} {v v' : Value} {s : US} {t : List UInt8} {o : Obj} {q : Nat} (h : Up w g v s) (G : ((w.alloc o).drewN q).grownBy w2 v.ownBlock) (B : Buf w2 0 v' t.length (fun j => .int .u8 (bt (ba t) j))) (hn : v'.ownBlock ≠ some g) : Up (w2.setCell ⟨g, 6, none⟩ v') g v' { s with tx := t } := by
  have eg : w2.heap[g]? = w.heap[g]? := (G.block g (by show g < (w.alloc o).heap.size; rw [World.size_alloc]; have := h.lt; omega) (Ne.symm h.ne)).trans (Below.heap_alloc w o g h.lt)
  have hz : w.heap.size ≤ w2.heap.size := by
    have : (w.alloc o).heap.size ≤ w2.heap.size := G.size
    rw [World.size_alloc] at this; omega
  exact Up.setv (h.st.same hz eg) v' t B hn
theorem Mv.regrow {w w2 : World} {g : Nat} {v v' : Value} {o : Obj} {q : Nat} (G : ((w.alloc o).drewN q).grownBy w2 v.ownBlock) (N : ∀ k, v'.ownBlock = some k → v.ownBlock = some k ∨ k = w.heap.size + 1) : Mv w w2 g v v' := by
  have hz : (w.alloc o).heap.size ≤ w2.heap.size := G.size
  rw [World.size_alloc] at hz
  refine ⟨G.os, G.tape, G.output, by omega, fun k hk hg hv => (G.block k (by show k < (w.alloc o).heap.size; rw [World.size_alloc]; omega) (Ne.symm hv)).trans (Below.heap_alloc w o k hk), fun k hk => (N k hk).imp id (fun e => by omega)⟩

/-- What an append of a byte to the text leaves. -/
theorem Up.grow {w : World} {g : Nat} {v : Value} {s : US} (h : Up w g v s) (b : UInt8) (hn : s.tx.length ≤ 2199023255551) (q : Nat) (ty : TypeId) :
    ∃ v' w', (Builtin.append_ #[37, 37] ty #[v, .slice (some ⟨w.heap.size, 0, none⟩) 1 1]).run Try.prog ((w.alloc (.cells #[.int .u8 (b.toNat : Int)] 5)).drewN q) = .ok v' w' ∧
      Up (w'.setCell ⟨g, 6, none⟩ v') g v' { s with tx := s.tx ++ [b] } ∧ Mv w w' g v v' ∧ (∀ G L, StK w G L → G ≠ g → v.ownBlock ≠ some G → StK w' G L) ∧ StK w' g (s.cells v) := by
  obtain ⟨i, hi, hz0, hz1, hz2⟩ := info_parts info5
  have e : Buf ((w.alloc (.cells #[.int .u8 (b.toNat : Int)] 5)).drewN q) 0 v s.tx.length (fun j => .int .u8 (bt (ba (s.tx ++ [b])) j)) := by
    refine (Buf.congr (h.buf.alloc (.cells #[.int .u8 (b.toNat : Int)] 5)) (fun j hj => ?_)).same (Nat.le_refl _) (fun _ _ => rfl)
    rw [bt_ba _ _ hj, bt_ba _ _ (by rw [List.length_append]; omega), List.getElem_append_left hj]
  have hlast : bt (ba (s.tx ++ [b])) s.tx.length = (b.toNat : Int) := by
    rw [bt_ba _ _ (by simp), List.getElem_append_right (Nat.le_refl _)]
    simp
  obtain ⟨v', w', hr, hb, hg, hN⟩ := run_append_buf (P := Try.prog) ((w.alloc (.cells #[.int .u8 (b.toNat : Int)] 5)).drewN q) 0 37 ty 5 i _ 1 und45 hi hz0 hz1 hz2 (by decide) rfl v s.tx.length (fun j => .int .u8 (bt (ba (s.tx ++ [b])) j)) e ⟨w.heap.size, 0, none⟩ 1 (by
      show (w.alloc (.cells #[.int .u8 (b.toNat : Int)] 5)).cell? ⟨w.heap.size, 0, none⟩ = some (.int .u8 (bt (ba (s.tx ++ [b])) s.tx.length))
      rw [hlast]; exact (World.cell?_alloc_new w _ _ 0).trans rfl) rfl rfl hn (Nat.zero_le _)
  have hN' : ∀ k, v'.ownBlock = some k → v.ownBlock = some k ∨ k = w.heap.size + 1 := fun k hk => (hN k hk).imp id (fun e => by rw [e]; show (w.alloc _).heap.size = _; rw [World.size_alloc])
  have hng : v'.ownBlock ≠ some g := fun e => by
    rcases hN' g e with e | e
    · exact h.ne e
    · have := h.lt; omega
  have hz : w.heap.size ≤ w'.heap.size := by
    have : (w.alloc (.cells #[.int .u8 (b.toNat : Int)] 5)).heap.size ≤ w'.heap.size := hg.size
    rw [World.size_alloc] at this; omega
  have ek : ∀ k, k < w.heap.size → v.ownBlock ≠ some k → w'.heap[k]? = w.heap[k]? := fun k hk hv => (hg.block k (by show k < (w.alloc _).heap.size; rw [World.size_alloc]; omega) (Ne.symm hv)).trans (Below.heap_alloc w _ k hk)
  refine ⟨v', w', hr, h.regrow hg (by rw [List.length_append]; exact hb) hng, Mv.regrow hg hN', fun G L S hG hv => S.same hz (ek G S.lt hv), h.st.same hz (ek g h.lt h.ne)⟩

end Go.Proofs.Ytljcbibcdajhiaa
