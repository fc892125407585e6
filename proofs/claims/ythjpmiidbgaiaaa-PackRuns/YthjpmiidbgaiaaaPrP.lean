/- What a run of one byte, and a text twice, are packed to: pure. -/
import Derived.Test.YthjpmiidbgaiaaaPkR
namespace Go.Proofs.Ythjpmiidbgaiaaa
open Go.RowKit

/-- The bytes of a plain segment. -/
def plc (a : Nat) : Nat := a + (a + 127) / 128
theorem plT_plc (s : List UInt8) (p i : Nat) (h : i ≤ s.length) : (plT (s.length + 1) (cutL s p i)).length = plc (i - p) := by
  rw [plT_len _ _ (by rw [cutL_length s p i h]; omega), cutL_length s p i h]
  rfl
theorem go_none (s : List UInt8) (f i p : Nat) (hi : i < s.length) (h : findB s i = none) (_ : s.length - i ≤ f + 1) : (pkGo s (f + 1) i p).length = (pkGo s f (i + 1) p).length := by rw [pkGo_none s f i p hi h]
theorem go_some (s : List UInt8) (f i p q K : Nat) (hi : i < s.length) (h : findB s i = some q) (hK : mch s q i (min 131 (s.length - i)) 0 = K) : (pkGo s (f + 1) i p).length = plc (i - p) + 3 + (pkGo s f (i + K) (i + K)).length := by
  rw [pkGo_some s f i p q hi h, hK, List.length_append, List.length_append, plT_plc s p i (by omega)]
  rfl
theorem go_end (s : List UInt8) (f i p : Nat) (hi : ¬ i < s.length) : (pkGo s f i p).length = plc (s.length - p) := by rw [pkGo_end s f i p hi, plT_plc s p s.length (Nat.le_refl _)]

theorem lastOf_ge (s k : List UInt8) (n p : Nat) (hp : p < n) (h1 : p + 4 ≤ s.length) (h2 : fourAt s p = k) : ∃ q, lastOf s k n = some q ∧ p ≤ q := by
  induction n with
  | zero => omega
  | succ n ih =>
    unfold lastOf
    by_cases hc : n + 4 ≤ s.length ∧ fourAt s n = k
    · rw [if_pos hc]; exact ⟨n, rfl, by omega⟩
    · rw [if_neg hc]
      have hne : p ≠ n := fun e => hc (by subst e; exact ⟨h1, h2⟩)
      exact ih (by omega)

theorem findB_near (s : List UInt8) (i p : Nat) (hp : p < i) (hi : i + 4 ≤ s.length) (hf : i - p ≤ 65536) (h : fourAt s p = fourAt s i) : ∃ q, findB s i = some q := by
  obtain ⟨q, hq, hpq⟩ := lastOf_ge s (fourAt s i) i p hp (by omega) h
  refine ⟨q, ?_⟩
  unfold findB
  rw [if_pos hi, hq]
  dsimp only
  rw [if_pos (by omega)]

/-- Twice the same text: its bytes. -/
theorem twice_at (s : List UInt8) (j : Nat) (h : j < s.length) : (s ++ s).getD j 0 = s.getD j 0 ∧ (s ++ s).getD (j + s.length) 0 = s.getD j 0 := by
  refine ⟨?_, ?_⟩
  · rw [List.getD_eq_getElem?_getD, List.getD_eq_getElem?_getD, List.getElem?_append_left h]
  · rw [List.getD_eq_getElem?_getD, List.getD_eq_getElem?_getD, List.getElem?_append_right (by omega), Nat.add_sub_cancel]

/-- In the second half each four bytes have stood there. -/
theorem twice_find (s : List UInt8) (i : Nat) (hL : s.length ≤ 32768) (h1 : s.length ≤ i) (h2 : i + 4 ≤ (s ++ s).length) : ∃ q, findB (s ++ s) i = some q := by
  have hl : (s ++ s).length = s.length + s.length := List.length_append
  have hs : 0 < s.length := by omega
  refine findB_near (s ++ s) i (i - s.length) (by omega) h2 (by omega) ?_
  have e : ∀ m, m < 4 → (s ++ s).getD (i - s.length + m) 0 = (s ++ s).getD (i + m) 0 := fun m hm => by
    have h3 : i - s.length + m < s.length := by omega
    rw [(twice_at s _ h3).1]
    have := (twice_at s _ h3).2
    rw [show i - s.length + m + s.length = i + m by omega] at this
    exact this.symm
  unfold fourAt
  rw [e 1 (by decide), e 2 (by decide), e 3 (by decide)]
  have := e 0 (by decide)
  rw [Nat.add_zero, Nat.add_zero] at this
  rw [this]

/-- Where no four bytes are left all is plain. -/
theorem go_rest (s : List UInt8) : ∀ (g i : Nat), s.length < i + 4 → i ≤ s.length → s.length - i ≤ g → ∀ p, (pkGo s g i p).length = plc (s.length - p) := by
  intro g
  induction g with
  | zero => intro i h1 h2 h3 p; exact go_end _ _ _ _ (by omega)
  | succ g ih =>
    intro i h1 h2 h3 p
    by_cases hi : i < s.length
    · have hb : findB s i = none := by unfold findB; rw [if_neg (by omega)]
      rw [go_none _ g i p hi hb h3]
      exact ih (i + 1) (by omega) (by omega) (by omega) p
    · exact go_end _ _ _ _ hi
/-- With all the fuel. -/
theorem all_none (s : List UInt8) (i p : Nat) (hi : i < s.length) (h : findB s i = none) : (pkGo s s.length i p).length = (pkGo s s.length (i + 1) p).length := by
  obtain ⟨f, hf⟩ : ∃ f, s.length = f + 1 := ⟨s.length - 1, by omega⟩
  rw [pkGo_fuel s s.length (f + 1) i p (by omega) (by omega), go_none s f i p hi h (by omega), pkGo_fuel s s.length f (i + 1) p (by omega) (by omega)]
theorem all_some (s : List UInt8) (i p q K : Nat) (hi : i < s.length) (h : findB s i = some q) (hK : mch s q i (min 131 (s.length - i)) 0 = K) : (pkGo s s.length i p).length = plc (i - p) + 3 + (pkGo s s.length (i + K) (i + K)).length := by
  have h4 := (findB_some h).2.2.2
  obtain ⟨f, hf⟩ : ∃ f, s.length = f + 1 := ⟨s.length - 1, by omega⟩
  rw [pkGo_fuel s s.length (f + 1) i p (by omega) (by omega), go_some s f i p q K hi h hK, pkGo_fuel s s.length f (i + K) (i + K) (by omega) (by omega)]
theorem mch_ne (s : List UInt8) (a b n : Nat) (h : mch s a b n 0 < n) : s.getD (a + mch s a b n 0) 0 ≠ s.getD (b + mch s a b n 0) 0 := by
  intro e
  have := mch_ge s a b n 0 (mch s a b n 0 + 1) (by omega) (fun j _ hj => by
    by_cases hj2 : j < mch s a b n 0
    · exact mch_eq s a b n 0 j (Nat.zero_le _) hj2
    · have : j = mch s a b n 0 := by omega
      rw [this]; exact e)
  omega

theorem four_same (s : List UInt8) (n : Nat) (h : n + 4 ≤ s.length) : fourAt (s ++ s) n = fourAt s n := by
  unfold fourAt
  rw [(twice_at s n (by omega)).1, (twice_at s (n + 1) (by omega)).1, (twice_at s (n + 2) (by omega)).1, (twice_at s (n + 3) (by omega)).1]
theorem last_same (s k : List UInt8) : ∀ n, n + 3 ≤ s.length → lastOf (s ++ s) k n = lastOf s k n := by
  intro n
  induction n with
  | zero => intro _; rfl
  | succ n ih =>
    intro h
    have hl : (s ++ s).length = s.length + s.length := List.length_append
    unfold lastOf
    rw [four_same s n (by omega), ih (by omega)]
    by_cases hc : fourAt s n = k
    · rw [if_pos ⟨by omega, hc⟩, if_pos ⟨by omega, hc⟩]
    · rw [if_neg (fun c => hc c.2), if_neg (fun c => hc c.2)]
theorem find_same (s : List UInt8) (i : Nat) (h : i + 4 ≤ s.length) : findB (s ++ s) i = findB s i := by
  have hl : (s ++ s).length = s.length + s.length := List.length_append
  unfold findB
  rw [if_pos (by omega), if_pos h, four_same s i h, last_same s _ i (by omega)]

theorem twice_tail (s : List UInt8) (hL : s.length ≤ 32768) : ∀ (f i : Nat), s.length ≤ i → i ≤ (s ++ s).length → (s ++ s).length - i ≤ f → (pkGo (s ++ s) f i i).length ≤ 3 * (((s ++ s).length - i) / 4) + 4 := by
  intro f
  induction f with
  | zero => intro i h1 h2 h3; rw [go_end _ _ _ _ (by omega)]; unfold plc; omega
  | succ f ih =>
    intro i h1 h2 h3
    by_cases h4 : i + 4 ≤ (s ++ s).length
    · obtain ⟨q, hq⟩ := twice_find s i hL h1 h4
      obtain ⟨_, _, _, hm⟩ := findB_some hq
      have hml := mch_le (s ++ s) q i (min 131 ((s ++ s).length - i)) 0
      obtain ⟨K, hK⟩ : ∃ K, mch (s ++ s) q i (min 131 ((s ++ s).length - i)) 0 = K := ⟨_, rfl⟩
      rw [hK] at hm hml
      rw [go_some _ f i i q K (by omega) hq hK]
      have := ih (i + K) (by omega) (by omega) (by omega)
      have e0 : plc (i - i) = 0 := by rw [Nat.sub_self]; rfl
      omega
    · rw [go_rest (s ++ s) (f + 1) i (by omega) h2 h3 i]
      unfold plc
      omega

theorem plc_mono (a b : Nat) (h : a ≤ b) : plc a ≤ plc b := by unfold plc; omega

/-- The same text behind itself costs little more. -/
theorem twice_main (s : List UInt8) (hL : s.length ≤ 32768) : ∀ (d i p : Nat), s.length - i = d → i ≤ s.length → p ≤ i → (pkGo (s ++ s) (s ++ s).length i p).length ≤ (pkGo s s.length i p).length + 3 * (s.length / 4) + 7 := by
  have hl : (s ++ s).length = s.length + s.length := List.length_append
  intro d
  induction d using Nat.strongRecOn with
  | _ d ih =>
    intro i p hd hi hp
    by_cases h0 : i = s.length
    · subst h0
      rw [go_end s _ _ p (Nat.lt_irrefl _)]
      by_cases h4 : s.length + 4 ≤ (s ++ s).length
      · obtain ⟨q, hq⟩ := twice_find s s.length hL (Nat.le_refl _) h4
        have hm := (findB_some hq).2.2.2
        have hml := mch_le (s ++ s) q s.length (min 131 ((s ++ s).length - s.length)) 0
        obtain ⟨K, hK⟩ : ∃ K, mch (s ++ s) q s.length (min 131 ((s ++ s).length - s.length)) 0 = K := ⟨_, rfl⟩
        rw [hK] at hm hml
        rw [all_some _ _ p q K (by omega) hq hK]
        have := twice_tail s hL (s ++ s).length (s.length + K) (by omega) (by omega) (by omega)
        omega
      · rw [go_rest (s ++ s) _ s.length (by omega) (by omega) (by omega) p]
        unfold plc
        omega
    · by_cases h4 : i + 4 ≤ s.length
      · have hfs := find_same s i h4
        cases hb : findB s i with
        | none =>
          rw [hb] at hfs
          rw [all_none s i p (by omega) hb, all_none (s ++ s) i p (by omega) hfs]
          exact ih (s.length - (i + 1)) (by omega) (i + 1) p rfl (by omega) (by omega)
        | some q =>
          rw [hb] at hfs
          obtain ⟨hq, _, _, hm⟩ := findB_some hb
          have hmS := (findB_some hfs).2.2.2
          have hml := mch_le s q i (min 131 (s.length - i)) 0
          have hmlS := mch_le (s ++ s) q i (min 131 ((s ++ s).length - i)) 0
          have heq := fun j hj => mch_eq s q i (min 131 (s.length - i)) 0 j (Nat.zero_le _) hj
          have hne := mch_ne s q i (min 131 (s.length - i))
          have hat : ∀ j, i + j < s.length → (s ++ s).getD (q + j) 0 = s.getD (q + j) 0 ∧ (s ++ s).getD (i + j) 0 = s.getD (i + j) 0 := fun j hj => ⟨(twice_at s (q + j) (by omega)).1, (twice_at s (i + j) hj).1⟩
          obtain ⟨K, hK⟩ : ∃ K, mch s q i (min 131 (s.length - i)) 0 = K := ⟨_, rfl⟩
          rw [hK] at hm hml heq hne
          by_cases hend : K < s.length - i
          · have hKS : mch (s ++ s) q i (min 131 ((s ++ s).length - i)) 0 = K := by
              refine mch_is _ _ _ _ _ (by omega) (fun j hj => ?_) (fun hlt => ?_)
              · rw [(hat j (by omega)).1, (hat j (by omega)).2]
                exact heq j hj
              · rw [(hat K (by omega)).1, (hat K (by omega)).2]
                exact hne (by omega)
            rw [all_some s i p q K (by omega) hb hK, all_some (s ++ s) i p q K (by omega) hfs hKS]
            have := ih (s.length - (i + K)) (by omega) (i + K) (i + K) rfl (by omega) (Nat.le_refl _)
            omega
          · have hKe : K = s.length - i := by omega
            obtain ⟨K2, hK2⟩ : ∃ K2, mch (s ++ s) q i (min 131 ((s ++ s).length - i)) 0 = K2 := ⟨_, rfl⟩
            have hge : K ≤ K2 := by
              rw [← hK2]
              exact mch_ge _ _ _ _ _ _ (by omega) (fun j _ hj => by rw [(hat j (by omega)).1, (hat j (by omega)).2]; exact heq j hj)
            rw [hK2] at hmS hmlS
            rw [all_some s i p q K (by omega) hb hK, all_some (s ++ s) i p q K2 (by omega) hfs hK2]
            have := twice_tail s hL (s ++ s).length (i + K2) (by omega) (by omega) (by omega)
            omega
      · have hb : findB s i = none := by unfold findB; rw [if_neg h4]
        cases hbS : findB (s ++ s) i with
        | none =>
          rw [all_none s i p (by omega) hb, all_none (s ++ s) i p (by omega) hbS]
          exact ih (s.length - (i + 1)) (by omega) (i + 1) p rfl (by omega) (by omega)
        | some q =>
          have hmS := (findB_some hbS).2.2.2
          have hmlS := mch_le (s ++ s) q i (min 131 ((s ++ s).length - i)) 0
          obtain ⟨K2, hK2⟩ : ∃ K2, mch (s ++ s) q i (min 131 ((s ++ s).length - i)) 0 = K2 := ⟨_, rfl⟩
          rw [hK2] at hmS hmlS
          rw [all_some (s ++ s) i p q K2 (by omega) hbS hK2, go_rest s _ i (by omega) hi (by omega) p]
          have := twice_tail s hL (s ++ s).length (i + K2) (by omega) (by omega) (by omega)
          have := plc_mono (i - p) (s.length - p) (by omega)
          omega
theorem pk_twice (s : List UInt8) (hL : s.length ≤ 32768) : (pk (s ++ s)).length ≤ (pk s).length + 14 + 3 * (s.length / 4) := by
  have e : ∀ u : List UInt8, (pk u).length = 8 + (pkGo u u.length 0 0).length := fun u => by
    have h : (pk u).length = (lek 8 u.length).length + (pkGo u u.length 0 0).length := List.length_append
    rw [h, lek_len]
  rw [e (s ++ s), e s]
  have := twice_main s hL s.length 0 0 (by omega) (Nat.zero_le _) (Nat.le_refl _)
  omega

theorem rep_at (n : Nat) (b : UInt8) (j : Nat) (h : j < n) : (List.replicate n b).getD j 0 = b := by
  rw [List.getD_eq_getElem?_getD, List.getElem?_replicate, if_pos h]
  rfl
theorem rep_four (n : Nat) (b : UInt8) (j : Nat) (h : j + 4 ≤ n) : fourAt (List.replicate n b) j = [b, b, b, b] := by
  unfold fourAt
  rw [rep_at n b j (by omega), rep_at n b (j + 1) (by omega), rep_at n b (j + 2) (by omega), rep_at n b (j + 3) (by omega)]
theorem rep_find (n : Nat) (b : UInt8) (i : Nat) (h1 : 1 ≤ i) (h : i + 4 ≤ n) : findB (List.replicate n b) i = some (i - 1) := by
  have hl : (List.replicate n b).length = n := List.length_replicate
  obtain ⟨j, rfl⟩ : ∃ j, i = j + 1 := ⟨i - 1, by omega⟩
  unfold findB
  rw [if_pos (by omega), rep_four n b (j + 1) h]
  have e : lastOf (List.replicate n b) [b, b, b, b] (j + 1) = some j := by
    unfold lastOf
    rw [if_pos ⟨by omega, rep_four n b j (by omega)⟩]
  rw [e]
  dsimp only
  rw [if_pos (by omega)]
  rfl
theorem rep_mch (n : Nat) (b : UInt8) (q i : Nat) (hq : q < i) (hi : i ≤ n) : mch (List.replicate n b) q i (min 131 (n - i)) 0 = min 131 (n - i) :=
  mch_is _ _ _ _ _ (Nat.le_refl _) (fun j hj => by rw [rep_at n b (q + j) (by omega), rep_at n b (i + j) (by omega)]) (fun h => absurd h (Nat.lt_irrefl _))
theorem rep_go (n : Nat) (b : UInt8) : ∀ (d i : Nat), n - i = d → 1 ≤ i → i ≤ n → (pkGo (List.replicate n b) n i i).length ≤ 3 * ((n - i) / 131) + (if n - i = 0 then 0 else 4) := by
  have hl : (List.replicate n b).length = n := List.length_replicate
  intro d
  induction d using Nat.strongRecOn with
  | _ d ih =>
    intro i hd h1 hi
    by_cases h4 : i + 4 ≤ n
    · have hf := rep_find n b i h1 h4
      have hm := rep_mch n b (i - 1) i (by omega) hi
      have ha := all_some (List.replicate n b) i i (i - 1) (min 131 (n - i)) (by omega) hf (by rw [hl]; exact hm)
      rw [hl] at ha
      rw [ha]
      have := ih (n - (i + min 131 (n - i))) (by omega) (i + min 131 (n - i)) rfl (by omega) (by omega)
      have e0 : plc (i - i) = 0 := by rw [Nat.sub_self]; rfl
      rw [e0, if_neg (show ¬ n - i = 0 by omega)]
      by_cases hz : n - (i + min 131 (n - i)) = 0
      · rw [if_pos hz] at this; omega
      · rw [if_neg hz] at this; omega
    · have := go_rest (List.replicate n b) n i (by omega) (by omega) (by omega) i
      rw [hl] at this
      rw [this]
      unfold plc
      by_cases hz : n - i = 0
      · rw [if_pos hz, hz]; decide
      · rw [if_neg hz]; omega
theorem pk_rep (n : Nat) (b : UInt8) (hn : 0 < n) : (pk (List.replicate n b)).length ≤ 14 + 3 * ((n - 1) / 131) := by
  have hl : (List.replicate n b).length = n := List.length_replicate
  unfold pk
  rw [List.length_append, lek_len, hl]
  have hb : findB (List.replicate n b) 0 = none := by
    unfold findB
    split
    · rfl
    · rfl
  have h0 := all_none (List.replicate n b) 0 0 (by omega) hb
  rw [hl] at h0
  rw [h0, Nat.zero_add]
  by_cases h4 : 1 + 4 ≤ n
  · have hf := rep_find n b 1 (Nat.le_refl _) h4
    have hm := rep_mch n b 0 1 (by omega) (by omega)
    have ha := all_some (List.replicate n b) 1 0 0 (min 131 (n - 1)) (by omega) hf (by rw [hl]; exact hm)
    rw [hl] at ha
    rw [ha]
    have := rep_go n b (n - (1 + min 131 (n - 1))) (1 + min 131 (n - 1)) rfl (by omega) (by omega)
    have e0 : plc (1 - 0) = 2 := rfl
    rw [e0]
    by_cases hz : n - (1 + min 131 (n - 1)) = 0
    · rw [if_pos hz] at this; omega
    · rw [if_neg hz] at this; omega
  · have := go_rest (List.replicate n b) n 1 (by omega) (by omega) (by omega) 0
    rw [hl] at this
    rw [this]
    unfold plc
    omega

end Go.Proofs.Ythjpmiidbgaiaaa
