/- What is packed is unpacked again: pure. -/
import Derived.Test.YthjpmiidbgaiaaaPkG
import Derived.Test.YthjpmiidbgaiaaaPkI
import Derived.Test.YthjpmiidbgaiaaaUpI
namespace Go.Proofs.Ythjpmiidbgaiaaa
open Go.RowKit

theorem u8_of (n : Nat) (h : n < 256) : (UInt8.ofNat n).toNat = n := by rw [UInt8.toNat_ofNat']; omega

theorem plT_run (f : Nat) : ∀ (l : List UInt8) (a n lk nr : Nat) (out r : List UInt8), l.length ≤ f → l.length ≤ n - out.length →
    ∃ lk', (US.t a n out lk nr).run (plT f l ++ r) = (US.t (a + (plT f l).length) n (out ++ l) lk' nr).run r := by
  induction f with
  | zero =>
    intro l a n lk nr out r h _
    obtain rfl : l = [] := List.eq_nil_of_length_eq_zero (by omega)
    exact ⟨lk, by simp [plT]⟩
  | succ f ih =>
    intro l a n lk nr out r h hn
    unfold plT
    by_cases e : l.length = 0
    · obtain rfl : l = [] := List.eq_nil_of_length_eq_zero e
      exact ⟨lk, by simp⟩
    · rw [if_neg e]
      have hb := u8_of (min 128 l.length - 1) (by omega)
      have h1 : (l.take 128).length = min 128 l.length := List.length_take
      obtain ⟨lk', h2⟩ := ih (l.drop 128) (a + (min 128 l.length - 1) + 2) n 0 nr (out ++ l.take 128) r (by rw [List.length_drop]; omega) (by rw [List.length_drop, List.length_append, h1]; omega)
      refine ⟨lk', ?_⟩
      rw [List.cons_append, List.append_assoc, t_plain a n lk nr out _ (l.take 128) _ (by rw [hb]; omega) (by rw [hb]; omega) (by rw [hb, h1]; omega), hb, h2, List.append_assoc, List.take_append_drop]
      congr 2
      rw [List.length_cons, List.length_append, h1]
      omega

theorem bkT_run (far k a n lk nr : Nat) (out r : List UInt8) (hf1 : 1 ≤ far) (hf : far ≤ 65536) (hfo : far ≤ out.length) (hk4 : 4 ≤ k) (hk : k ≤ 131) (hn : k ≤ n - out.length) :
    ∃ lk' nr', (US.t a n out lk nr).run (bkT far k ++ r) = (US.t (a + 3) n (cpy far k out) lk' nr').run r := by
  have h1 := u8_of (124 + k) (by omega)
  have h2 := u8_of ((far - 1) % 256) (by omega)
  have h3 := u8_of ((far - 1) / 256) (by omega)
  have e : (UInt8.ofNat ((far - 1) / 256)).toNat * 256 + (UInt8.ofNat ((far - 1) % 256)).toNat + 1 = far := by rw [h2, h3]; omega
  have := t_back a n lk nr out (UInt8.ofNat (124 + k)) (UInt8.ofNat ((far - 1) % 256)) (UInt8.ofNat ((far - 1) / 256)) r (by omega) (by omega) (by rw [e]; exact hfo)
  rw [e, h1, show 124 + k - 124 = k by omega] at this
  exact ⟨_, _, this⟩

theorem cpy_take (s : List UInt8) (q i : Nat) (hq : q < i) : ∀ k, i + k ≤ s.length → (∀ j, j < k → s.getD (q + j) 0 = s.getD (i + j) 0) → cpy (i - q) k (s.take i) = s.take (i + k) := by
  intro k
  induction k with
  | zero => intro _ _; rfl
  | succ k ih =>
    intro h he
    rw [cpy_succ, ih (by omega) (fun j hj => he j (by omega))]
    have hl : (s.take (i + k)).length = i + k := by rw [List.length_take]; omega
    rw [hl, show i + k - (i - q) = q + k by omega]
    have h1 : (s.take (i + k)).getD (q + k) 0 = s.getD (q + k) 0 := by
      rw [List.getD_eq_getElem?_getD, List.getD_eq_getElem?_getD, List.getElem?_take_of_lt (by omega)]
    rw [h1, he k (by omega), show i + (k + 1) = i + k + 1 by omega, List.take_succ_eq_append_getElem (by omega), List.getD_eq_getElem?_getD, List.getElem?_eq_getElem (by omega)]
    rfl

theorem take_cut (s : List UInt8) (p i : Nat) (h : p ≤ i) (_ : i ≤ s.length) : s.take p ++ cutL s p i = s.take i := by
  unfold cutL
  rw [show i = p + (i - p) by omega, List.take_add]
  congr 2
  omega

theorem pkGo_run (s : List UInt8) : ∀ (f i p a lk nr : Nat), p ≤ i → i ≤ s.length → s.length - i ≤ f →
    ∃ lk' nr', (US.t a s.length (s.take p) lk nr).run (pkGo s f i p) = US.t (a + (pkGo s f i p).length) s.length s lk' nr' := by
  intro f
  have hfin : ∀ (p a lk nr : Nat), p ≤ s.length → ∃ lk' nr', (US.t a s.length (s.take p) lk nr).run (plT (s.length + 1) (cutL s p s.length)) = US.t (a + (plT (s.length + 1) (cutL s p s.length)).length) s.length s lk' nr' := by
    intro p a lk nr hp
    have hl := cutL_length s p s.length (Nat.le_refl _)
    obtain ⟨lk', h⟩ := plT_run (s.length + 1) (cutL s p s.length) a s.length lk nr (s.take p) [] (by omega) (by rw [List.length_take]; omega)
    rw [List.append_nil, take_cut s p s.length hp (Nat.le_refl _), List.take_length] at h
    exact ⟨lk', nr, h⟩
  induction f with
  | zero =>
    intro i p a lk nr h1 h2 h3
    rw [pkGo_end s 0 i p (by omega)]
    exact hfin p a lk nr (by omega)
  | succ f ih =>
    intro i p a lk nr h1 h2 h3
    by_cases hi : i < s.length
    · cases hb : findB s i with
      | none =>
        rw [pkGo_none s f i p hi hb]
        exact ih (i + 1) p a lk nr (by omega) (by omega) (by omega)
      | some q =>
        obtain ⟨hq, h4, hf, hm⟩ := findB_some hb
        rw [pkGo_some s f i p q hi hb]
        have hme := fun j hj => mch_eq s q i (min 131 (s.length - i)) 0 j (Nat.zero_le _) hj
        have hml := mch_le s q i (min 131 (s.length - i)) 0
        generalize mch s q i (min 131 (s.length - i)) 0 = K at *
        have hl := cutL_length s p i h2
        obtain ⟨lk1, e1⟩ := plT_run (s.length + 1) (cutL s p i) a s.length lk nr (s.take p) (bkT (i - q) K ++ pkGo s f (i + K) (i + K)) (by omega) (by rw [List.length_take]; omega)
        rw [take_cut s p i h1 h2] at e1
        obtain ⟨lk2, nr2, e2⟩ := bkT_run (i - q) K (a + (plT (s.length + 1) (cutL s p i)).length) s.length lk1 nr (s.take i) (pkGo s f (i + K) (i + K)) (by omega) hf (by rw [List.length_take]; omega) hm (by omega) (by rw [List.length_take]; omega)
        rw [cpy_take s q i hq K (by omega) (fun j hj => hme j (by omega))] at e2
        obtain ⟨lk3, nr3, e3⟩ := ih (i + K) (i + K) (a + (plT (s.length + 1) (cutL s p i)).length + 3) lk2 nr2 (Nat.le_refl _) (by omega) (by omega)
        refine ⟨lk3, nr3, ?_⟩
        rw [List.append_assoc, e1, e2, e3]
        congr 1
        rw [List.length_append, List.length_append]
        have : (bkT (i - q) K).length = 3 := rfl
        omega
    · rw [pkGo_end s _ i p hi]
      exact hfin p a lk nr (by omega)

theorem pk_run (s : List UInt8) (hs : s.length ≤ 1048576) : ∃ lk nr, u0.run (pk s) = US.t (pk s).length s.length s lk nr := by
  unfold pk
  have h8 := lek_len 8 s.length
  have hN := leN_lek8 s.length hs
  rw [US.run_append, head_eight _ h8, hN, if_neg (by omega)]
  obtain ⟨lk, nr, e⟩ := pkGo_run s s.length 0 0 8 0 0 (Nat.le_refl _) (Nat.zero_le _) (by omega)
  refine ⟨lk, nr, ?_⟩
  rw [List.length_append, h8]
  exact e

theorem pk_unp (s : List UInt8) (hs : s.length ≤ 1048576) : (unp (pk s)).tx = s ∧ (unp (pk s)).code = 0 ∧ (unp (pk s)).fat = 0 := by
  obtain ⟨lk, nr, e⟩ := pk_run s hs
  unfold unp
  rw [e]
  unfold US.shut
  rw [if_neg (fun h => by have := h.2; unfold US.wh US.t at this; simp at this)]
  exact ⟨rfl, rfl, rfl⟩

theorem plT_len : ∀ (f : Nat) (l : List UInt8), l.length ≤ f → (plT f l).length = l.length + (l.length + 127) / 128 := by
  intro f
  induction f with
  | zero =>
    intro l h
    obtain rfl : l = [] := List.eq_nil_of_length_eq_zero (by omega)
    rfl
  | succ f ih =>
    intro l h
    unfold plT
    by_cases e : l.length = 0
    · rw [if_pos e, e]; rfl
    · rw [if_neg e, List.length_cons, List.length_append, List.length_take, ih (l.drop 128) (by rw [List.length_drop]; omega), List.length_drop]
      omega
theorem pkGo_len (s : List UInt8) : ∀ (f i p : Nat), p ≤ i → i ≤ s.length → s.length - i ≤ f → (pkGo s f i p).length ≤ (s.length - p) + (s.length - p + 127) / 128 := by
  intro f
  have hfin : ∀ (p : Nat), p ≤ s.length → (plT (s.length + 1) (cutL s p s.length)).length ≤ (s.length - p) + (s.length - p + 127) / 128 := by
    intro p hp
    rw [plT_len _ _ (by rw [cutL_length s p s.length (Nat.le_refl _)]; omega), cutL_length s p s.length (Nat.le_refl _)]
    exact Nat.le_refl _
  induction f with
  | zero => intro i p h1 h2 h3; rw [pkGo_end s 0 i p (by omega)]; exact hfin p (by omega)
  | succ f ih =>
    intro i p h1 h2 h3
    by_cases hi : i < s.length
    · cases hb : findB s i with
      | none => rw [pkGo_none s f i p hi hb]; exact ih (i + 1) p (by omega) (by omega) (by omega)
      | some q =>
        obtain ⟨hq, h4, hf, hm⟩ := findB_some hb
        rw [pkGo_some s f i p q hi hb]
        have hml := mch_le s q i (min 131 (s.length - i)) 0
        generalize mch s q i (min 131 (s.length - i)) 0 = K at *
        have h5 := ih (i + K) (i + K) (Nat.le_refl _) (by omega) (by omega)
        rw [List.length_append, List.length_append, plT_len _ _ (by rw [cutL_length s p i h2]; omega), cutL_length s p i h2]
        have : (bkT (i - q) K).length = 3 := rfl
        omega
    · rw [pkGo_end s _ i p hi]; exact hfin p (by omega)
theorem pk_len (s : List UInt8) : 8 ≤ (pk s).length ∧ (pk s).length ≤ 8 + s.length + (s.length + 127) / 128 := by
  unfold pk
  rw [List.length_append, lek_len]
  have := pkGo_len s s.length 0 0 (Nat.le_refl _) (Nat.zero_le _) (by omega)
  omega

end Go.Proofs.Ythjpmiidbgaiaaa
