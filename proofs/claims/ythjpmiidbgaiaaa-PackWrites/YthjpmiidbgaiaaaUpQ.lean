/- The unpacker's machine, token by token: pure. -/
import Derived.Test.YthjpmiidbgaiaaaUpP
namespace Go.Proofs.Ythjpmiidbgaiaaa
open Go.RowKit

theorem US.step_on (s : US) (h1 : s.cl = false) (h2 : s.code = 0) (b : UInt8) : s.step b = s.take b := by
  unfold US.step US.off
  rw [h1, h2]
  rfl

theorem US.take0a (s : US) (b : UInt8) (h : s.ph = 0) (h1 : s.tk < 7) : s.take b = (s.lput b).tick := by
  unfold US.take US.look
  rw [if_pos h, if_pos h1]
  rfl
theorem US.take0b (s : US) (b : UInt8) (h : s.ph = 0) (h1 : ¬ s.tk < 7) (h2 : 1048576 < (s.lput b).len) : s.take b = (s.lput b).fl 2 0 := by
  unfold US.take US.look
  rw [if_pos h, if_neg h1, if_pos h2]
  rfl
theorem US.take0c (s : US) (b : UInt8) (h : s.ph = 0) (h1 : ¬ s.tk < 7) (h2 : ¬ 1048576 < (s.lput b).len) : s.take b = ({ s.lput b with ph := 1 } : US).tick := by
  unfold US.take US.look
  rw [if_pos h, if_neg h1, if_neg h2]
  rfl

theorem US.take1a (s : US) (b : UInt8) (h : s.ph = 1) (h1 : s.wh = true) : s.take b = s.fl 5 s.tk := by
  unfold US.take US.look
  rw [if_neg (by omega : ¬ s.ph = 0), if_pos h, if_pos h1]
  rfl
theorem US.take1b (s : US) (b : UInt8) (h : s.ph = 1) (h1 : ¬ s.wh = true) (h2 : s.len - s.tx.length < (s.tok b).lack) : s.take b = (s.tok b).fl 101 s.tk := by
  unfold US.take US.look
  rw [if_neg (by omega : ¬ s.ph = 0), if_pos h, if_neg h1, if_pos h2]
  rfl
theorem US.take1c (s : US) (b : UInt8) (h : s.ph = 1) (h1 : ¬ s.wh = true) (h2 : ¬ s.len - s.tx.length < (s.tok b).lack) : s.take b = (s.tok b).tick := by
  unfold US.take US.look
  rw [if_neg (by omega : ¬ s.ph = 0), if_pos h, if_neg h1, if_neg h2]
  rfl

theorem len_run (l : List UInt8) : ∀ (tk len : Nat), tk + l.length ≤ 7 → (⟨tk, 0, 0, false, 0, len, [], 0, 0⟩ : US).run l = ⟨tk + l.length, 0, 0, false, 0, len + leN l * 2 ^ (8 * tk), [], 0, 0⟩ := by
  induction l with
  | nil => intro tk len _; rw [US.run_nil, leN, Nat.zero_mul]; rfl
  | cons b l ih =>
    intro tk len h
    rw [List.length_cons] at h
    rw [US.run_cons, US.step_on _ rfl rfl]
    rw [US.take0a _ _ rfl (by show tk < 7; omega)]
    rw [show ((⟨tk, 0, 0, false, 0, len, [], 0, 0⟩ : US).lput b).tick = ⟨tk + 1, 0, 0, false, 0, len + b.toNat * 2 ^ (8 * tk), [], 0, 0⟩ from rfl, ih _ _ (by omega), leN, List.length_cons]
    have e : len + b.toNat * 2 ^ (8 * tk) + leN l * 2 ^ (8 * (tk + 1)) = len + (b.toNat + 256 * leN l) * 2 ^ (8 * tk) := by
      rw [show 8 * (tk + 1) = 8 * tk + 8 by omega, Nat.pow_add, Nat.add_mul]
      generalize 2 ^ (8 * tk) = q
      have : leN l * (q * 2 ^ 8) = 256 * leN l * q := by grind
      rw [this]; omega
    rw [e, show tk + 1 + l.length = tk + (l.length + 1) by omega]

theorem head_short (l : List UInt8) (h : l.length ≤ 7) : u0.run l = ⟨l.length, 0, 0, false, 0, leN l, [], 0, 0⟩ := by
  have := len_run l 0 0 (by omega)
  unfold u0
  rw [this]
  simp

theorem snoc_of (l : List UInt8) (n : Nat) (h : l.length = n + 1) : ∃ a b, l = a ++ [b] ∧ a.length = n := by
  refine ⟨l.take n, l[n]'(by omega), ?_, by simp; omega⟩
  have := List.take_append_getElem (by omega : n < l.length)
  rw [this, List.take_of_length_le (by omega)]

theorem head_eight (l : List UInt8) (h : l.length = 8) : u0.run l = if 1048576 < leN l then ⟨7, 2, 0, false, 0, leN l, [], 0, 0⟩ else ⟨8, 0, 0, false, 1, leN l, [], 0, 0⟩ := by
  obtain ⟨a, b, rfl, ha⟩ := snoc_of l 7 h
  rw [US.run_append, head_short a (by omega), US.run_cons, US.step_on _ rfl rfl, US.run_nil]
  have e : ((⟨a.length, 0, 0, false, 0, leN a, [], 0, 0⟩ : US).lput b).len = leN (a ++ [b]) := by
    show leN a + b.toNat * 2 ^ (8 * a.length) = _
    rw [leN_append]
  by_cases hb : 1048576 < leN (a ++ [b])
  · rw [if_pos hb, US.take0b _ _ rfl (by show ¬ a.length < 7; omega) (by rw [e]; exact hb)]
    show (⟨a.length, 2, 0, false, 0, leN a + b.toNat * 2 ^ (8 * a.length), [], 0, 0⟩ : US) = _
    rw [leN_append, ha]
  · rw [if_neg hb, US.take0c _ _ rfl (by show ¬ a.length < 7; omega) (by rw [e]; exact hb)]
    show (⟨a.length + 1, 0, 0, false, 1, leN a + b.toNat * 2 ^ (8 * a.length), [], 0, 0⟩ : US) = _
    rw [leN_append, ha]

theorem plain_step (tk n nr k : Nat) (tx : List UInt8) (b : UInt8) : (⟨tk, 0, 0, false, 2, n, tx, k + 1, nr⟩ : US).step b = ⟨tk + 1, 0, 0, false, if k = 0 then 1 else 2, n, tx ++ [b], k, nr⟩ := by
  rw [US.step_on _ rfl rfl]
  unfold US.take US.look
  rw [if_neg (by decide : ¬ (2 : Nat) = 0), if_neg (by decide : ¬ (2 : Nat) = 1), if_pos rfl]
  simp only [if_true]
  unfold US.pput US.tick
  simp

theorem plain_run (l : List UInt8) : ∀ (tk n nr k : Nat) (tx : List UInt8), l.length < k → (⟨tk, 0, 0, false, 2, n, tx, k, nr⟩ : US).run l = ⟨tk + l.length, 0, 0, false, 2, n, tx ++ l, k - l.length, nr⟩ := by
  induction l with
  | nil => intro tk n nr k tx h; rw [US.run_nil]; simp
  | cons b l ih =>
    intro tk n nr k tx h
    rw [List.length_cons] at h
    obtain ⟨k, rfl⟩ : ∃ j, k = j + 1 := ⟨k - 1, by omega⟩
    rw [US.run_cons, plain_step, if_neg (by omega), ih _ _ _ _ _ (by omega)]
    simp
    omega

theorem plain_all (l : List UInt8) (tk n nr : Nat) (tx : List UInt8) (h : 0 < l.length) : (⟨tk, 0, 0, false, 2, n, tx, l.length, nr⟩ : US).run l = ⟨tk + l.length, 0, 0, false, 1, n, tx ++ l, 0, nr⟩ := by
  obtain ⟨a, b, e, ha⟩ := snoc_of l (l.length - 1) (by omega)
  generalize hk : l.length = k at *
  rw [e, US.run_append, plain_run a _ _ _ _ _ (by omega), US.run_cons, US.run_nil, show k - a.length = 0 + 1 by omega, plain_step, if_pos rfl, List.append_assoc]
  congr 1
  omega

/-- A token's state. -/
def US.t (at' n : Nat) (out : List UInt8) (lk nr : Nat) : US := ⟨at', 0, 0, false, 1, n, out, lk, nr⟩

theorem t_trail (at' n lk nr : Nat) (out : List UInt8) (b : UInt8) (l : List UInt8) (h : n ≤ out.length) : (US.t at' n out lk nr).run (b :: l) = ⟨at', 5, at', false, 1, n, [], lk, nr⟩ := by
  rw [US.run_cons, US.step_on _ rfl rfl, US.take1a _ _ rfl (by unfold US.wh US.t; simp; omega)]
  exact US.run_off _ rfl l

theorem t_tok (at' n lk nr : Nat) (out : List UInt8) (b : UInt8) (h : out.length < n) : (US.t at' n out lk nr).step b = if n - out.length < ((US.t at' n out lk nr).tok b).lack then ((US.t at' n out lk nr).tok b).fl 101 at' else ((US.t at' n out lk nr).tok b).tick := by
  have hw : ¬ (US.t at' n out lk nr).wh = true := by unfold US.wh US.t; simp; omega
  rw [US.step_on _ rfl rfl]
  by_cases hh : n - out.length < ((US.t at' n out lk nr).tok b).lack
  · rw [if_pos hh, US.take1b _ _ rfl hw hh]; rfl
  · rw [if_neg hh, US.take1c _ _ rfl hw hh]

theorem t_extra (at' n lk nr : Nat) (out : List UInt8) (b : UInt8) (l : List UInt8) (h : out.length < n) (hx : n - out.length < ((US.t at' n out lk nr).tok b).lack) : ((US.t at' n out lk nr).run (b :: l)).tk = at' ∧ ((US.t at' n out lk nr).run (b :: l)).code = 101 ∧ ((US.t at' n out lk nr).run (b :: l)).fat = at' := by
  rw [US.run_cons, t_tok _ _ _ _ _ _ h, if_pos hx]
  have : (((US.t at' n out lk nr).tok b).fl 101 at').off = true := by unfold US.off US.fl; simp
  rw [US.run_off _ this l]
  exact ⟨((US.t at' n out lk nr).tok_len b).2.2.1, rfl, rfl⟩

theorem tok_low (at' n lk nr : Nat) (out : List UInt8) (b : UInt8) (h : b.toNat < 128) : (US.t at' n out lk nr).tok b = ⟨at', 0, 0, false, 2, n, out, b.toNat + 1, nr⟩ := by unfold US.tok; rw [if_neg (by omega)]; rfl
theorem tok_high (at' n lk nr : Nat) (out : List UInt8) (b : UInt8) (h : 128 ≤ b.toNat) : (US.t at' n out lk nr).tok b = ⟨at', 0, 0, false, 3, n, out, b.toNat - 124, nr⟩ := by unfold US.tok; rw [if_pos h]; rfl

theorem t_plain_short (at' n lk nr : Nat) (out : List UInt8) (b : UInt8) (l : List UInt8) (hb : b.toNat < 128) (hx : b.toNat + 1 ≤ n - out.length) (hl : l.length < b.toNat + 1) :
    (US.t at' n out lk nr).run (b :: l) = ⟨at' + 1 + l.length, 0, 0, false, 2, n, out ++ l, b.toNat + 1 - l.length, nr⟩ := by
  rw [US.run_cons, t_tok _ _ _ _ _ _ (by omega), tok_low _ _ _ _ _ _ hb, if_neg (by show ¬ n - out.length < b.toNat + 1; omega)]
  exact plain_run l (at' + 1) n nr (b.toNat + 1) out hl

theorem t_plain (at' n lk nr : Nat) (out : List UInt8) (b : UInt8) (l r : List UInt8) (hb : b.toNat < 128) (hx : b.toNat + 1 ≤ n - out.length) (hl : l.length = b.toNat + 1) :
    (US.t at' n out lk nr).run (b :: (l ++ r)) = (US.t (at' + b.toNat + 2) n (out ++ l) 0 nr).run r := by
  rw [US.run_cons, t_tok _ _ _ _ _ _ (by omega), tok_low _ _ _ _ _ _ hb, if_neg (by show ¬ n - out.length < b.toNat + 1; omega), US.run_append]
  have := plain_all l (at' + 1) n nr out (by omega)
  rw [hl] at this
  rw [show (⟨at', 0, 0, false, 2, n, out, b.toNat + 1, nr⟩ : US).tick = ⟨at' + 1, 0, 0, false, 2, n, out, b.toNat + 1, nr⟩ from rfl, this]
  rw [show at' + 1 + (b.toNat + 1) = at' + b.toNat + 2 by omega]
  rfl

theorem near_step (tk n nr k : Nat) (tx : List UInt8) (b : UInt8) : (⟨tk, 0, 0, false, 3, n, tx, k, nr⟩ : US).step b = ⟨tk + 1, 0, 0, false, 4, n, tx, k, b.toNat⟩ := by
  rw [US.step_on _ rfl rfl]
  unfold US.take US.look
  rw [if_neg (by decide : ¬ (3 : Nat) = 0), if_neg (by decide : ¬ (3 : Nat) = 1), if_neg (by decide : ¬ (3 : Nat) = 2), if_pos rfl]
  rfl
theorem far_step (tk n nr k : Nat) (tx : List UInt8) (b : UInt8) : (⟨tk, 0, 0, false, 4, n, tx, k, nr⟩ : US).step b = if tx.length < b.toNat * 256 + nr + 1 then ⟨tk, 100, tk - 2, false, 4, n, [], k, nr⟩ else ⟨tk + 1, 0, 0, false, 1, n, cpy (b.toNat * 256 + nr + 1) k tx, k, nr⟩ := by
  rw [US.step_on _ rfl rfl]
  unfold US.take US.look
  rw [if_neg (by decide : ¬ (4 : Nat) = 0), if_neg (by decide : ¬ (4 : Nat) = 1), if_neg (by decide : ¬ (4 : Nat) = 2), if_neg (by decide : ¬ (4 : Nat) = 3)]
  rw [show (⟨tk, 0, 0, false, 4, n, tx, k, nr⟩ : US).far b = b.toNat * 256 + nr + 1 from rfl]
  by_cases h : tx.length < b.toNat * 256 + nr + 1
  · rw [if_pos h, if_pos h]; rfl
  · rw [if_neg h, if_neg h]; rfl

theorem t_back_short (at' n lk nr : Nat) (out : List UInt8) (b : UInt8) (l : List UInt8) (hb : 128 ≤ b.toNat) (hx : b.toNat - 124 ≤ n - out.length) (hl : l.length < 2) :
    ((US.t at' n out lk nr).run (b :: l)).tk = at' + 1 + l.length ∧ ((US.t at' n out lk nr).run (b :: l)).code = 0 ∧ ((US.t at' n out lk nr).run (b :: l)).fat = 0 ∧ ((US.t at' n out lk nr).run (b :: l)).ph ≠ 1 := by
  rw [US.run_cons, t_tok _ _ _ _ _ _ (by omega), tok_high _ _ _ _ _ _ hb, if_neg (by show ¬ n - out.length < b.toNat - 124; omega)]
  rw [show (⟨at', 0, 0, false, 3, n, out, b.toNat - 124, nr⟩ : US).tick = ⟨at' + 1, 0, 0, false, 3, n, out, b.toNat - 124, nr⟩ from rfl]
  match l, hl with
  | [], _ => rw [US.run_nil]; exact ⟨rfl, rfl, rfl, by show (3 : Nat) ≠ 1; decide⟩
  | [x], _ => rw [US.run_cons, near_step, US.run_nil]; exact ⟨rfl, rfl, rfl, by show (4 : Nat) ≠ 1; decide⟩

theorem t_back_far (at' n lk nr : Nat) (out : List UInt8) (b x y : UInt8) (l : List UInt8) (hb : 128 ≤ b.toNat) (hx : b.toNat - 124 ≤ n - out.length) (hf : out.length < y.toNat * 256 + x.toNat + 1) :
    (US.t at' n out lk nr).run (b :: x :: y :: l) = ⟨at' + 2, 100, at', false, 4, n, [], b.toNat - 124, x.toNat⟩ := by
  rw [US.run_cons, t_tok _ _ _ _ _ _ (by omega), tok_high _ _ _ _ _ _ hb, if_neg (by show ¬ n - out.length < b.toNat - 124; omega)]
  rw [show (⟨at', 0, 0, false, 3, n, out, b.toNat - 124, nr⟩ : US).tick = ⟨at' + 1, 0, 0, false, 3, n, out, b.toNat - 124, nr⟩ from rfl, US.run_cons, near_step, US.run_cons, far_step, if_pos hf, US.run_off _ rfl l]
  rfl

theorem t_back (at' n lk nr : Nat) (out : List UInt8) (b x y : UInt8) (l : List UInt8) (hb : 128 ≤ b.toNat) (hx : b.toNat - 124 ≤ n - out.length) (hf : y.toNat * 256 + x.toNat + 1 ≤ out.length) :
    (US.t at' n out lk nr).run (b :: x :: y :: l) = (US.t (at' + 3) n (cpy (y.toNat * 256 + x.toNat + 1) (b.toNat - 124) out) (b.toNat - 124) x.toNat).run l := by
  rw [US.run_cons, t_tok _ _ _ _ _ _ (by omega), tok_high _ _ _ _ _ _ hb, if_neg (by show ¬ n - out.length < b.toNat - 124; omega)]
  rw [show (⟨at', 0, 0, false, 3, n, out, b.toNat - 124, nr⟩ : US).tick = ⟨at' + 1, 0, 0, false, 3, n, out, b.toNat - 124, nr⟩ from rfl, US.run_cons, near_step, US.run_cons, far_step, if_neg (by omega)]
  rfl

end Go.Proofs.Ythjpmiidbgaiaaa
