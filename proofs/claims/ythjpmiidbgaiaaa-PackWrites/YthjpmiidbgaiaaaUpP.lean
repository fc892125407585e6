/- The unpacker as a machine over bytes: pure. -/
import Derived.Test.YthjpmiidbgaiaaaWwB
namespace Go.Proofs.Ythjpmiidbgaiaaa
open Go.RowKit

/-- An unpacker's state. -/
structure US where
  tk : Nat
  code : Nat
  fat : Nat
  cl : Bool
  ph : Nat
  len : Nat
  tx : List UInt8
  lack : Nat
  near : Nat

/-- What a token that points back gives, byte by byte. -/
def cpy (far : Nat) : Nat → List UInt8 → List UInt8
  | 0, t => t
  | n + 1, t => cpy far n (t ++ [t.getD (t.length - far) 0])
/-- A fault. -/
def US.fl (s : US) (c a : Nat) : US := { s with code := c, fat := a, tx := [] }
/-- A byte was taken. -/
def US.tick (s : US) : US := { s with tk := s.tk + 1 }
def US.wh (s : US) : Bool := s.ph == 1 && s.len - s.tx.length == 0
def US.off (s : US) : Bool := s.cl || s.code != 0
/-- The length's next byte. -/
def US.lput (s : US) (b : UInt8) : US := { s with len := s.len + b.toNat * 2 ^ (8 * s.tk) }
/-- A token's first byte. -/
def US.tok (s : US) (b : UInt8) : US := if 128 ≤ b.toNat then { s with ph := 3, lack := b.toNat - 124 } else { s with ph := 2, lack := b.toNat + 1 }
def US.far (s : US) (b : UInt8) : Nat := b.toNat * 256 + s.near + 1
/-- A byte of a plain token. -/
def US.pput (s : US) (b : UInt8) : US := { s with tx := s.tx ++ [b], lack := s.lack - 1, ph := if s.lack - 1 = 0 then 1 else s.ph }
/-- The state behind a byte that is looked at, and the fault with it: its code and place. -/
def US.look (s : US) (b : UInt8) : US × Nat × Nat :=
  if s.ph = 0 then
    if s.tk < 7 then (s.lput b, 0, 0) else if 1048576 < (s.lput b).len then (s.lput b, 2, 0) else ({ s.lput b with ph := 1 }, 0, 0)
  else if s.ph = 1 then
    if s.wh then (s, 5, s.tk) else if s.len - s.tx.length < (s.tok b).lack then (s.tok b, 101, s.tk) else (s.tok b, 0, 0)
  else if s.ph = 2 then (s.pput b, 0, 0)
  else if s.ph = 3 then ({ s with near := b.toNat, ph := 4 }, 0, 0)
  else if s.tx.length < s.far b then (s, 100, s.tk - 2) else ({ s with tx := cpy (s.far b) s.lack s.tx, ph := 1 }, 0, 0)
/-- The next byte of an unpacker that is on. -/
def US.take (s : US) (b : UInt8) : US := if (s.look b).2.1 = 0 then (s.look b).1.tick else (s.look b).1.fl (s.look b).2.1 (s.look b).2.2
def US.step (s : US) (b : UInt8) : US := if s.off then s else s.take b
def US.run (s : US) (l : List UInt8) : US := l.foldl US.step s
/-- The first state. -/
def u0 : US := ⟨0, 0, 0, false, 0, 0, [], 0, 0⟩

theorem US.run_nil (s : US) : s.run [] = s := rfl
theorem US.run_cons (s : US) (b : UInt8) (l : List UInt8) : s.run (b :: l) = (s.step b).run l := rfl
theorem US.run_append (s : US) (a b : List UInt8) : s.run (a ++ b) = (s.run a).run b := by unfold US.run; rw [List.foldl_append]
theorem US.run_off (s : US) (h : s.off = true) (l : List UInt8) : s.run l = s := by
  induction l with
  | nil => rfl
  | cons b l ih => rw [US.run_cons]; unfold US.step; rw [if_pos h]; exact ih

theorem cpy_length (far n : Nat) (t : List UInt8) : (cpy far n t).length = t.length + n := by
  induction n generalizing t with
  | zero => rfl
  | succ n ih => unfold cpy; rw [ih, List.length_append]; simp; omega

/-- The number of eight bytes, least first. -/
def leN : List UInt8 → Nat
  | [] => 0
  | b :: l => b.toNat + 256 * leN l
theorem leN_append (a : List UInt8) (b : UInt8) : leN (a ++ [b]) = leN a + b.toNat * 2 ^ (8 * a.length) := by
  induction a with
  | nil => simp [leN]
  | cons x a ih =>
    rw [List.cons_append, leN, ih, leN, List.length_cons, show 8 * (a.length + 1) = 8 * a.length + 8 by omega, Nat.pow_add]
    generalize 2 ^ (8 * a.length) = q
    have : b.toNat * (q * 2 ^ 8) = 256 * (b.toNat * q) := by grind
    rw [this]; omega
theorem leN_lt (a : List UInt8) : leN a < 2 ^ (8 * a.length) := by
  induction a with
  | nil => simp [leN]
  | cons x a ih =>
    rw [leN, List.length_cons, show 8 * (a.length + 1) = 8 * a.length + 8 by omega, Nat.pow_add]
    have := x.toNat_lt
    generalize 2 ^ (8 * a.length) = q at *
    omega

/-- What holds of every state that comes of the first one. -/
structure UI (s : US) : Prop where
  ph : s.ph ≤ 4
  ln : s.ph = 0 → s.code = 0 → s.tk < 8 ∧ s.len < 2 ^ (8 * s.tk) ∧ s.tx = []
  lm : s.ph ≠ 0 → s.len ≤ 1048576
  tx : s.tx.length ≤ s.len ∨ s.ph = 0
  lk : s.code = 0 → 2 ≤ s.ph → s.lack ≤ s.len - s.tx.length ∧ 1 ≤ s.lack
  nr : s.near < 256
  lc : s.lack ≤ 131
  ft : s.fat ≤ s.tk
  tk2 : s.code = 0 → s.ph = 4 → 2 ≤ s.tk
  tk3 : s.code = 0 → s.ph = 3 → 1 ≤ s.tk
  cd : s.code = 0 → s.fat = 0
  le8 : s.len < 2 ^ 64

theorem US.tok_lack (s : US) (b : UInt8) : (s.tok b).lack ≤ 131 ∧ 1 ≤ (s.tok b).lack := by
  unfold US.tok
  have := b.toNat_lt
  split <;> dsimp only <;> omega

theorem UI.u0 : UI u0 := ⟨by decide, fun _ _ => by decide, fun h => absurd rfl h, .inr rfl, fun _ h => absurd h (by decide), by decide, by decide, by decide, fun _ h => absurd h (by decide), fun _ h => absurd h (by decide), fun _ => rfl, by decide⟩

theorem pow_step (a b k : Nat) (ha : a < 2 ^ (8 * k)) (hb : b < 256) : a + b * 2 ^ (8 * k) < 2 ^ (8 * (k + 1)) := by
  rw [show 8 * (k + 1) = 8 * k + 8 by omega, Nat.pow_add]
  generalize 2 ^ (8 * k) = q at *
  have : b * q ≤ 255 * q := Nat.mul_le_mul_right q (by omega)
  omega
theorem pow_most (a k : Nat) (ha : a < 2 ^ (8 * k)) (hk : k ≤ 8) : a < 2 ^ 64 :=
  Nat.lt_of_lt_of_le ha (Nat.pow_le_pow_right (by decide) (by omega))

theorem UI.fl {s : US} (h : UI s) (c a : Nat) (hc : c ≠ 0) (ha : a ≤ s.tk) : UI (s.fl c a) :=
  ⟨h.ph, fun _ e => absurd e hc, h.lm, .inl (Nat.zero_le _), fun e => absurd e hc, h.nr, h.lc, ha, fun e => absurd e hc, fun e => absurd e hc, fun e => absurd e hc, h.le8⟩

theorem US.tok_ph (s : US) (b : UInt8) : (s.tok b).ph = 3 ∨ (s.tok b).ph = 2 := by unfold US.tok; split <;> simp
theorem US.tok_len (s : US) (b : UInt8) : (s.tok b).len = s.len ∧ (s.tok b).tx = s.tx ∧ (s.tok b).tk = s.tk ∧ (s.tok b).near = s.near ∧ (s.tok b).code = s.code ∧ (s.tok b).fat = s.fat ∧ (s.tok b).cl = s.cl := by unfold US.tok; split <;> simp

/-- One byte more. -/
theorem UI.take {s : US} (h : UI s) (hc : s.code = 0) (b : UInt8) : UI (s.take b) := by
  have hb := b.toNat_lt
  have hf := h.cd hc
  unfold US.take US.look
  by_cases h0 : s.ph = 0
  · obtain ⟨l1, l2, l3⟩ := h.ln h0 hc
    have hl := pow_step s.len b.toNat s.tk l2 hb
    have hl8 := pow_most _ _ hl (by omega)
    rw [if_pos h0]
    by_cases h1 : s.tk < 7
    · rw [if_pos h1]
      simp only [if_true]
      exact ⟨h.ph, fun _ _ => ⟨by show s.tk + 1 < 8; omega, hl, l3⟩, fun e => absurd h0 e, .inr h0, fun _ e => absurd e (by show ¬ 2 ≤ s.ph; omega), h.nr, h.lc, by show s.fat ≤ s.tk + 1; omega, fun _ e => absurd e (by show ¬ s.ph = 4; omega), fun _ e => absurd e (by show ¬ s.ph = 3; omega), fun _ => hf, hl8⟩
    · rw [if_neg h1]
      by_cases h2 : 1048576 < (s.lput b).len
      · rw [if_pos h2]
        simp only [Nat.reduceEqDiff, if_false]
        exact ⟨h.ph, fun _ e => absurd e (by decide : (2 : Nat) ≠ 0), fun e => absurd h0 e, .inl (Nat.zero_le _), fun e => absurd e (by decide : (2 : Nat) ≠ 0), h.nr, h.lc, Nat.zero_le _, fun e => absurd e (by decide : (2 : Nat) ≠ 0), fun e => absurd e (by decide : (2 : Nat) ≠ 0), fun e => absurd e (by decide : (2 : Nat) ≠ 0), hl8⟩
      · rw [if_neg h2]
        simp only [if_true]
        exact ⟨by show 1 ≤ 4; omega, fun e => absurd e (by decide : (1 : Nat) ≠ 0), fun _ => by show (s.lput b).len ≤ 1048576; omega, .inl (by show s.tx.length ≤ _; rw [l3]; exact Nat.zero_le _), fun _ e => absurd e (by show ¬ 2 ≤ 1; omega), h.nr, h.lc, by show s.fat ≤ s.tk + 1; omega, fun _ e => absurd e (by show ¬ 1 = 4; omega), fun _ e => absurd e (by show ¬ 1 = 3; omega), fun _ => hf, hl8⟩
  · have hm := h.lm h0
    have ht : s.tx.length ≤ s.len := by rcases h.tx with e | e; exact e; exact absurd e h0
    rw [if_neg h0]
    by_cases h1 : s.ph = 1
    · rw [if_pos h1]
      by_cases h2 : s.wh = true
      · rw [if_pos h2]
        simp only [Nat.reduceEqDiff, if_false]
        exact h.fl 5 _ (by decide) (Nat.le_refl _)
      · rw [if_neg h2]
        obtain ⟨t1, t2⟩ := s.tok_lack b
        obtain ⟨e1, e2, e3, e4, e5, e6, e7⟩ := s.tok_len b
        have tp := s.tok_ph b
        by_cases h3 : s.len - s.tx.length < (s.tok b).lack
        · rw [if_pos h3]
          simp only [Nat.reduceEqDiff, if_false]
          exact ⟨by show (s.tok b).ph ≤ 4; omega, fun _ e => absurd e (by decide : (101 : Nat) ≠ 0), fun _ => by show (s.tok b).len ≤ _; rw [e1]; exact hm, .inl (Nat.zero_le _), fun e => absurd e (by decide : (101 : Nat) ≠ 0), by show (s.tok b).near < _; rw [e4]; exact h.nr, t1, by show s.tk ≤ (s.tok b).tk; omega, fun e => absurd e (by decide : (101 : Nat) ≠ 0), fun e => absurd e (by decide : (101 : Nat) ≠ 0), fun e => absurd e (by decide : (101 : Nat) ≠ 0), by show (s.tok b).len < _; rw [e1]; exact h.le8⟩
        · rw [if_neg h3]
          simp only [if_true]
          exact ⟨by show (s.tok b).ph ≤ 4; omega, fun e => absurd e (by show ¬ (s.tok b).ph = 0; omega), fun _ => by show (s.tok b).len ≤ _; rw [e1]; exact hm, .inl (by show (s.tok b).tx.length ≤ (s.tok b).len; rw [e1, e2]; exact ht), fun _ _ => ⟨by show (s.tok b).lack ≤ (s.tok b).len - (s.tok b).tx.length; rw [e1, e2]; omega, t2⟩, by show (s.tok b).near < _; rw [e4]; exact h.nr, t1, by show (s.tok b).fat ≤ (s.tok b).tk + 1; omega, fun _ e => absurd e (by show ¬ (s.tok b).ph = 4; omega), fun _ _ => by show 1 ≤ (s.tok b).tk + 1; omega, fun _ => by show (s.tok b).fat = 0; omega, by show (s.tok b).len < _; rw [e1]; exact h.le8⟩
    · rw [if_neg h1]
      obtain ⟨k1, k2⟩ := h.lk hc (by omega)
      by_cases h2 : s.ph = 2
      · rw [if_pos h2]
        simp only [if_true]
        have pl : (s.tx ++ [b]).length = s.tx.length + 1 := by simp
        by_cases h3 : s.lack - 1 = 0
        · have pe : (s.pput b).ph = 1 := by unfold US.pput; simp [h3]
          exact ⟨by show (s.pput b).ph ≤ 4; omega, fun e => absurd e (by show ¬ (s.pput b).ph = 0; omega), fun _ => hm, .inl (by show (s.tx ++ [b]).length ≤ s.len; omega), fun _ e => absurd e (by show ¬ 2 ≤ (s.pput b).ph; omega), h.nr, by show s.lack - 1 ≤ 131; have := h.lc; omega, by show s.fat ≤ s.tk + 1; omega, fun _ e => absurd e (by show ¬ (s.pput b).ph = 4; omega), fun _ e => absurd e (by show ¬ (s.pput b).ph = 3; omega), fun _ => hf, h.le8⟩
        · have pe : (s.pput b).ph = 2 := by unfold US.pput; simp [h3, h2]
          exact ⟨by show (s.pput b).ph ≤ 4; omega, fun e => absurd e (by show ¬ (s.pput b).ph = 0; omega), fun _ => hm, .inl (by show (s.tx ++ [b]).length ≤ s.len; omega), fun _ _ => ⟨by show s.lack - 1 ≤ s.len - (s.tx ++ [b]).length; omega, by show 1 ≤ s.lack - 1; omega⟩, h.nr, by show s.lack - 1 ≤ 131; have := h.lc; omega, by show s.fat ≤ s.tk + 1; omega, fun _ e => absurd e (by show ¬ (s.pput b).ph = 4; omega), fun _ e => absurd e (by show ¬ (s.pput b).ph = 3; omega), fun _ => hf, h.le8⟩
      · rw [if_neg h2]
        by_cases h3 : s.ph = 3
        · rw [if_pos h3]
          simp only [if_true]
          exact ⟨by show 4 ≤ 4; omega, fun e => absurd e (by decide : (4 : Nat) ≠ 0), fun _ => hm, .inl ht, fun _ _ => ⟨k1, k2⟩, hb, h.lc, by show s.fat ≤ s.tk + 1; omega, fun _ _ => by show 2 ≤ s.tk + 1; have := h.tk3 hc h3; omega, fun _ e => absurd e (by decide : ¬ (4 : Nat) = 3), fun _ => hf, h.le8⟩
        · rw [if_neg h3]
          by_cases h4 : s.tx.length < s.far b
          · rw [if_pos h4]
            simp only [Nat.reduceEqDiff, if_false]
            exact h.fl 100 _ (by decide) (Nat.sub_le _ _)
          · rw [if_neg h4]
            simp only [if_true]
            have cl := cpy_length (s.far b) s.lack s.tx
            exact ⟨by show 1 ≤ 4; omega, fun e => absurd e (by decide : (1 : Nat) ≠ 0), fun _ => hm, .inl (by show (cpy (s.far b) s.lack s.tx).length ≤ s.len; omega), fun _ e => absurd e (by show ¬ 2 ≤ 1; omega), h.nr, h.lc, by show s.fat ≤ s.tk + 1; omega, fun _ e => absurd e (by decide : ¬ (1 : Nat) = 4), fun _ e => absurd e (by decide : ¬ (1 : Nat) = 3), fun _ => hf, h.le8⟩

theorem UI.step {s : US} (h : UI s) (b : UInt8) : UI (s.step b) := by
  unfold US.step
  by_cases ho : s.off = true
  · rw [if_pos ho]; exact h
  · rw [if_neg ho]
    refine h.take ?_ b
    unfold US.off at ho
    simp at ho
    exact ho.2
theorem UI.run {s : US} (h : UI s) (l : List UInt8) : UI (s.run l) := by
  induction l generalizing s with
  | nil => exact h
  | cons b l ih => rw [US.run_cons]; exact ih (h.step b)

end Go.Proofs.Ythjpmiidbgaiaaa
