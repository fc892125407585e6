/- The reader of framed items as a machine over bytes: pure. -/
import Derived.Test.YthjpmiidbgaiaaaWwB
namespace Go.Proofs.Ythjpmiidbgaiaaa
open Go.RowKit

/-- An item: a number, or a text. -/
structure It where
  isInt : Bool
  num : Nat
  text : List UInt8
/-- A reader's state; out: the items so far. -/
structure RS where
  tk : Nat
  code : Nat
  fat : Nat
  plan : List UInt8
  most : Nat
  cl : Bool
  ph : Nat
  lack : Nat
  word : Nat
  tx : List UInt8
  out : List It

/-- A fault. -/
def RS.fl (s : RS) (c a : Nat) : RS := { s with code := c, fat := a, plan := [], tx := [] }
/-- The phase at which an item of that letter begins. -/
def phOf (c : UInt8) : Nat := if c = 116 then 1 else 0
/-- The next item begins. -/
def RS.beg (s : RS) : RS := match s.plan with
  | [] => { s with lack := 8, word := 0, tx := [], ph := 4 }
  | c :: r => { s with lack := 8, word := 0, tx := [], ph := phOf c, plan := r }
/-- An item is whole. -/
def RS.push (s : RS) (i : It) : RS := { s with out := s.out ++ [i] }
/-- A phase ends. -/
def RS.fin (s : RS) : RS :=
  if s.ph = 0 then (s.push ⟨true, s.word, []⟩).beg
  else if s.ph = 1 ∧ 0 < s.word then { s with ph := 2, lack := s.word }
  else if s.ph = 2 ∧ 0 < padN s.tx.length then { s with ph := 3, lack := padN s.tx.length }
  else (s.push ⟨false, 0, s.tx⟩).beg
/-- A byte was taken. -/
def RS.tick (s : RS) : RS := { s with tk := s.tk + 1, lack := s.lack - 1 }
def RS.adv (s : RS) : RS := if 0 < s.tick.lack then s.tick else s.tick.fin
/-- A byte of a number or of a length. -/
def RS.wput (s : RS) (b : UInt8) : RS := { s with word := s.word + b.toNat * 2 ^ (8 * (8 - s.lack)) }
def RS.tput (s : RS) (b : UInt8) : RS := { s with tx := s.tx ++ [b] }
def RS.tooLong (s : RS) : Bool := s.ph == 1 && s.lack == 1 && decide (s.most < s.word)
/-- Nothing more is taken. -/
def RS.off (s : RS) : Bool := s.cl || s.code != 0
/-- The next byte of a reader that is on. -/
def RS.take (s : RS) (b : UInt8) : RS :=
  if s.ph = 4 then s.fl 5 s.tk else
  if s.ph = 3 then (if b = 0 then s.adv else s.fl 7 s.tk) else
  if s.ph = 2 then (s.tput b).adv else
  if (s.wput b).tooLong then (s.wput b).fl 6 (s.tk - 7) else (s.wput b).adv
def RS.step (s : RS) (b : UInt8) : RS := if s.off then s else s.take b
def RS.run (s : RS) (l : List UInt8) : RS := l.foldl RS.step s

theorem RS.run_nil (s : RS) : s.run [] = s := rfl
theorem RS.run_cons (s : RS) (b : UInt8) (l : List UInt8) : s.run (b :: l) = (s.step b).run l := rfl
theorem RS.run_append (s : RS) (a b : List UInt8) : s.run (a ++ b) = (s.run a).run b := by unfold RS.run; rw [List.foldl_append]
theorem RS.run_off (s : RS) (h : s.off = true) (l : List UInt8) : s.run l = s := by
  induction l with
  | nil => rfl
  | cons b l ih => rw [RS.run_cons]; unfold RS.step; rw [if_pos h]; exact ih

/-- The reader of a plan, nothing taken. -/
def rs0 (plan : List UInt8) (most : Nat) : RS := ⟨0, 0, 0, plan, most, false, 0, 0, 0, [], []⟩
/-- Letters that a plan may have. -/
def okL (c : UInt8) : Bool := c == 105 || c == 116
/-- The place of the first letter that is none. -/
def badAt (plan : List UInt8) : Nat := (plan.takeWhile okL).length
def rsNew (plan : List UInt8) (most : Nat) : RS := if badAt plan < plan.length then (rs0 plan most).fl 30 (badAt plan) else (rs0 plan most).beg
/-- The bytes end. -/
def RS.shut (s : RS) : RS := { (if s.code = 0 ∧ s.ph ≠ 4 then s.fl 4 s.tk else s) with cl := true }

/-- What holds of a reader that is on. -/
structure RS.Inv (s : RS) : Prop where
  cl : s.cl = false
  cd : s.code = 0
  fa : s.fat = 0
  ph4 : s.ph ≤ 4
  wd : s.ph ≤ 1 → 1 ≤ s.lack ∧ s.lack ≤ 8 ∧ s.word < 2 ^ (8 * (8 - s.lack)) ∧ s.tx = [] ∧ 8 - s.lack ≤ s.tk
  wt : s.ph = 2 → 1 ≤ s.lack ∧ s.tx.length + s.lack = s.word ∧ s.word ≤ s.most
  wp : s.ph = 3 → 1 ≤ s.lack ∧ s.lack ≤ 7
  mo : s.most ≤ 9223372036854775807
  tl : s.tx.length ≤ s.tk
  ol : s.out.length ≤ s.tk
  l8 : s.ph = 4 → s.lack = 8

theorem RS.Inv.off {s : RS} (h : s.Inv) : s.off = false := by unfold RS.off; rw [h.cl, h.cd]; rfl
theorem RS.Inv.step {s : RS} (h : s.Inv) (b : UInt8) : s.step b = s.take b := by unfold RS.step; rw [h.off]; rfl

theorem RS.beg_Inv {s : RS} (cl : s.cl = false) (cd : s.code = 0) (fa : s.fat = 0) (mo : s.most ≤ 9223372036854775807) (ol : s.out.length ≤ s.tk) : s.beg.Inv := by
  obtain ⟨tk, code, fat, plan, most, c, ph, lack, word, tx, out⟩ := s
  dsimp at cl cd fa mo ol
  subst cl cd fa
  cases plan with
  | nil => exact ⟨rfl, rfl, rfl, Nat.le_refl 4, fun h => absurd h (by show ¬ 4 ≤ 1; omega), fun h => absurd h (by show ¬ 4 = 2; omega), fun h => absurd h (by show ¬ 4 = 3; omega), mo, Nat.zero_le _, ol, fun _ => rfl⟩
  | cons d p =>
    have hp : phOf d ≤ 1 := by unfold phOf; split <;> omega
    refine ⟨rfl, rfl, rfl, ?_, fun _ => ⟨by show 1 ≤ 8; omega, Nat.le_refl 8, by show 0 < 2 ^ (8 * (8 - 8)); decide, rfl, Nat.zero_le _⟩, fun h => absurd h ?_, fun h => absurd h ?_, mo, Nat.zero_le _, ol, fun _ => rfl⟩
    · show phOf d ≤ 4; omega
    · show ¬ phOf d = 2; omega
    · show ¬ phOf d = 3; omega

theorem padN_lt8 (n : Nat) : padN n < 8 := by unfold padN; omega

/-- Behind a byte, ahead of the phase's end. -/
theorem RS.fin_Inv {s : RS} (cl : s.cl = false) (cd : s.code = 0) (fa : s.fat = 0) (h1 : s.ph = 1 → s.word ≤ s.most ∧ s.tx = []) (mo : s.most ≤ 9223372036854775807) (tl : s.tx.length ≤ s.tk) (ol : s.out.length < s.tk) : s.fin.Inv := by
  unfold RS.fin
  split
  · exact RS.beg_Inv cl cd fa mo (by show (s.out ++ [_]).length ≤ s.tk; simp; omega)
  · split
    · rename_i h
      obtain ⟨e, hw⟩ := h
      refine ⟨cl, cd, fa, by show 2 ≤ 4; omega, fun h => absurd h (by show ¬ 2 ≤ 1; omega), fun _ => ⟨hw, ?_, (h1 e).1⟩, fun h => absurd h (by show ¬ 2 = 3; omega), mo, tl, by show s.out.length ≤ s.tk; omega, fun h => absurd h (by show ¬ 2 = 4; omega)⟩
      show s.tx.length + s.word = s.word
      rw [(h1 e).2]; simp
    · split
      · rename_i h
        have := padN_lt8 s.tx.length
        exact ⟨cl, cd, fa, by show 3 ≤ 4; omega, fun h => absurd h (by show ¬ 3 ≤ 1; omega), fun h => absurd h (by show ¬ 3 = 2; omega), fun _ => ⟨h.2, by show padN s.tx.length ≤ 7; omega⟩, mo, tl, by show s.out.length ≤ s.tk; omega, fun h => absurd h (by show ¬ 3 = 4; omega)⟩
      · exact RS.beg_Inv cl cd fa mo (by show (s.out ++ [_]).length ≤ s.tk; simp; omega)

theorem RS.adv_Inv {s : RS} (cl : s.cl = false) (cd : s.code = 0) (fa : s.fat = 0) (ph : s.ph ≤ 3) (hl : 1 ≤ s.lack)
    (h0 : s.ph ≤ 1 → s.lack ≤ 8 ∧ s.word < 2 ^ (8 * (9 - s.lack)) ∧ s.tx = [] ∧ 8 - s.lack ≤ s.tk) (h1 : s.ph = 1 → s.lack = 1 → s.word ≤ s.most)
    (h2 : s.ph = 2 → s.tx.length + (s.lack - 1) = s.word ∧ s.word ≤ s.most) (h3 : s.ph = 3 → s.lack ≤ 7) (mo : s.most ≤ 9223372036854775807) (tl : s.tx.length ≤ s.tk + 1) (ol : s.out.length ≤ s.tk) : s.adv.Inv := by
  unfold RS.adv
  split
  · rename_i h
    have hk : 0 < s.lack - 1 := h
    refine ⟨cl, cd, fa, by show s.ph ≤ 4; omega, fun hp => ?_, fun hp => ?_, fun hp => ?_, mo, tl, by show s.out.length ≤ s.tk + 1; omega, fun h => absurd h (by show ¬ s.ph = 4; omega)⟩
    · obtain ⟨a, b, c, d⟩ := h0 hp
      show 1 ≤ s.lack - 1 ∧ s.lack - 1 ≤ 8 ∧ s.word < 2 ^ (8 * (8 - (s.lack - 1))) ∧ s.tx = [] ∧ 8 - (s.lack - 1) ≤ s.tk + 1
      rw [show 8 - (s.lack - 1) = 9 - s.lack by omega]
      exact ⟨hk, by omega, b, c, by omega⟩
    · obtain ⟨a, b⟩ := h2 hp
      exact ⟨hk, a, b⟩
    · have := h3 hp
      exact ⟨hk, by show s.lack - 1 ≤ 7; omega⟩
  · rename_i h
    have hk : s.lack = 1 := by have : ¬ 0 < s.lack - 1 := h; omega
    refine RS.fin_Inv cl cd fa (fun hp => ⟨h1 hp hk, ?_⟩) mo tl (by show s.out.length < s.tk + 1; omega)
    exact (h0 (by have : s.ph = 1 := hp; omega)).2.2.1

theorem RS.fl_off (s : RS) (c a : Nat) (h : c ≠ 0) : (s.fl c a).off = true := by unfold RS.off RS.fl; simp [h]

/-- A byte more: a fault, or all is well. -/
theorem RS.Inv.take {s : RS} (h : s.Inv) (b : UInt8) : (s.take b).off = true ∨ (s.take b).Inv := by
  unfold RS.take
  split
  · exact .inl (RS.fl_off _ _ _ (by decide))
  split
  · rename_i hp
    split
    · right
      obtain ⟨a, c⟩ := h.wp hp
      exact RS.adv_Inv h.cl h.cd h.fa (by omega) a (fun h => absurd h (by omega)) (fun h => absurd h (by omega)) (fun h => absurd h (by omega)) (fun _ => c) h.mo (by have := h.tl; omega) h.ol
    · exact .inl (RS.fl_off _ _ _ (by decide))
  split
  · rename_i hp
    right
    obtain ⟨a, c, d⟩ := h.wt hp
    refine RS.adv_Inv h.cl h.cd h.fa (by show s.ph ≤ 3; omega) a (fun h => absurd h (by show ¬ s.ph ≤ 1; omega)) (fun h => absurd h (by show ¬ s.ph = 1; omega)) (fun _ => ⟨?_, d⟩) (fun h => absurd h (by show ¬ s.ph = 3; omega)) h.mo ?_ h.ol
    · show (s.tx ++ [b]).length + (s.lack - 1) = s.word
      simp; omega
    · show (s.tx ++ [b]).length ≤ s.tk + 1
      have := h.tl
      simp; omega
  split
  · exact .inl (RS.fl_off _ _ _ (by decide))
  · rename_i n4 n3 n2 nt
    right
    have hp : s.ph ≤ 1 := by have := h.ph4; omega
    obtain ⟨a, c, d, e, f⟩ := h.wd hp
    have hb := b.toNat_lt
    refine RS.adv_Inv h.cl h.cd h.fa (by show s.ph ≤ 3; omega) a (fun _ => ⟨c, ?_, e, f⟩) (fun hp1 hl1 => ?_) (fun h => absurd h (by show ¬ s.ph = 2; omega)) (fun h => absurd h (by show ¬ s.ph = 3; omega)) h.mo (by have := h.tl; show s.tx.length ≤ s.tk + 1; omega) h.ol
    · show s.word + b.toNat * 2 ^ (8 * (8 - s.lack)) < 2 ^ (8 * (9 - s.lack))
      rw [show 8 * (9 - s.lack) = 8 * (8 - s.lack) + 8 by omega, Nat.pow_add]
      have : b.toNat * 2 ^ (8 * (8 - s.lack)) ≤ 255 * 2 ^ (8 * (8 - s.lack)) := Nat.mul_le_mul_right _ (by omega)
      omega
    · show (s.wput b).word ≤ s.most
      have h1 : (s.wput b).ph = 1 := hp1
      have h2 : (s.wput b).lack = 1 := hl1
      unfold RS.tooLong at nt
      rw [h1, h2] at nt
      have h3 : ¬ (s.wput b).most < (s.wput b).word := by simpa using nt
      have h4 : (s.wput b).most = s.most := rfl
      omega

theorem RS.beg_push (s : RS) (i : It) : (s.push i).beg = { s.beg with out := s.out ++ [i] } := by
  obtain ⟨tk, code, fat, plan, most, cl, ph, lack, word, tx, out⟩ := s
  cases plan <;> rfl
theorem RS.push_out (s : RS) (i : It) : (s.push i).beg.out = s.out ++ [i] := by rw [RS.beg_push]
theorem RS.beg_tk (s : RS) : s.beg.tk = s.tk := by
  obtain ⟨tk, code, fat, plan, most, cl, ph, lack, word, tx, out⟩ := s
  cases plan <;> rfl
theorem RS.fin_tk (s : RS) : s.fin.tk = s.tk := by
  unfold RS.fin
  split
  · rw [RS.beg_tk]; rfl
  · split
    · rfl
    · split
      · rfl
      · rw [RS.beg_tk]; rfl
theorem RS.adv_tk (s : RS) : s.adv.tk = s.tk + 1 := by
  unfold RS.adv
  split
  · rfl
  · rw [RS.fin_tk]; rfl
theorem RS.step_tk (s : RS) (b : UInt8) : (s.step b).tk ≤ s.tk + 1 := by
  unfold RS.step RS.take
  split
  · omega
  split
  · exact Nat.le_succ _
  split
  · split
    · rw [RS.adv_tk]; exact Nat.le_refl _
    · exact Nat.le_succ _
  split
  · rw [RS.adv_tk]; exact Nat.le_refl _
  split
  · exact Nat.le_succ _
  · rw [RS.adv_tk]; exact Nat.le_refl _
theorem RS.run_tk (s : RS) (l : List UInt8) : (s.run l).tk ≤ s.tk + l.length := by
  induction l generalizing s with
  | nil => exact Nat.le_refl _
  | cons b l ih =>
    have := ih (s.step b)
    have := RS.step_tk s b
    rw [RS.run_cons, List.length_cons]
    omega
theorem RS.fin_n (s : RS) (h : s.ph = 0) : s.fin = (s.push ⟨true, s.word, []⟩).beg := if_pos h
theorem RS.fin_l (s : RS) (h : s.ph = 1) (hw : 0 < s.word) : s.fin = { s with ph := 2, lack := s.word } := by
  unfold RS.fin
  rw [if_neg (by omega), if_pos ⟨h, hw⟩]
theorem RS.fin_p (s : RS) (h : s.ph = 2) (hw : 0 < padN s.tx.length) : s.fin = { s with ph := 3, lack := padN s.tx.length } := by
  unfold RS.fin
  rw [if_neg (by omega), if_neg (by omega), if_pos ⟨h, hw⟩]
theorem RS.fin_t (s : RS) (h : s.ph ≠ 0) (h1 : s.ph = 1 → s.word = 0) (h2 : s.ph = 2 → padN s.tx.length = 0) : s.fin = (s.push ⟨false, 0, s.tx⟩).beg := by
  unfold RS.fin
  rw [if_neg h, if_neg (fun c => by have := h1 c.1; omega), if_neg (fun c => by have := h2 c.1; omega)]

theorem RS.beg_off (s : RS) : s.beg.off = s.off := by
  obtain ⟨tk, code, fat, plan, most, cl, ph, lack, word, tx, out⟩ := s
  cases plan <;> rfl
theorem RS.fin_off (s : RS) : s.fin.off = s.off := by
  unfold RS.fin
  split
  · rw [RS.beg_off]; rfl
  · split
    · rfl
    · split
      · rfl
      · rw [RS.beg_off]; rfl
theorem RS.adv_off (s : RS) : s.adv.off = s.off := by
  unfold RS.adv
  split
  · rfl
  · rw [RS.fin_off]; rfl

end Go.Proofs.Ythjpmiidbgaiaaa
