/- Scan, plain: windows, what occurs, what is rewritten (own text of the verifier). -/
import Derived.Test.YtojefckhefanhabMem
namespace Go.Proofs.Ytojefckhefanhab
namespace Sc

/-- Thirty-two bytes from a place on, or what there are of them. -/
def win (l : List UInt8) (p : Nat) : List UInt8 := (l.drop p).take 32
theorem win_len (l : List UInt8) (p : Nat) : (win l p).length = min 32 (l.length - p) := by unfold win; rw [List.length_take, List.length_drop]
theorem win_full {l : List UInt8} {p : Nat} (h : (win l p).length = 32) : p + 32 ≤ l.length := by rw [win_len] at h; omega
theorem win_at {l : List UInt8} {p i : Nat} (hi : i < 32) : (win l p)[i]? = l[p + i]? := by
  unfold win
  rw [List.getElem?_take, if_pos hi, List.getElem?_drop]
theorem win_app {l x : List UInt8} {p : Nat} (h : p + 32 ≤ l.length) : win (l ++ x) p = win l p := by
  unfold win
  rw [List.drop_append_of_le_length (by omega), List.take_append_of_le_length (by rw [List.length_drop]; omega)]
theorem win_drop (l : List UInt8) (k p : Nat) : win (l.drop k) p = win l (k + p) := by unfold win; rw [List.drop_drop]

/-- A hash: thirty-two letters. -/
structure isH (L : UInt8 → Prop) (h : List UInt8) : Prop where
  len : h.length = 32
  all : ∀ b ∈ h, L b
/-- A byte that is no letter stands in the window. -/
def bad (L : UInt8 → Prop) (l : List UInt8) (p : Nat) : Prop := ∃ i b, p ≤ i ∧ i < p + 32 ∧ l[i]? = some b ∧ ¬ L b
theorem bad_app {L : UInt8 → Prop} {l : List UInt8} (x : List UInt8) {p : Nat} (h : bad L l p) : bad L (l ++ x) p := by
  obtain ⟨i, b, h1, h2, h3, h4⟩ := h
  exact ⟨i, b, h1, h2, by rw [List.getElem?_append_left (List.getElem?_eq_some_iff.1 h3).1]; exact h3, h4⟩
theorem bad_drop {L : UInt8 → Prop} {l : List UInt8} {k p : Nat} (h : bad L (l.drop k) p) : bad L l (k + p) := by
  obtain ⟨i, b, h1, h2, h3, h4⟩ := h
  rw [List.getElem?_drop] at h3
  exact ⟨k + i, b, by omega, by omega, h3, h4⟩
theorem bad_not {L : UInt8 → Prop} {l h : List UInt8} {p : Nat} (hb : bad L l p) (hh : isH L h) : win l p ≠ h := fun e => by
  obtain ⟨i, b, h1, h2, h3, h4⟩ := hb
  have h5 : (win l p)[i - p]? = some b := by rw [win_at (by omega), show p + (i - p) = i by omega]; exact h3
  rw [e] at h5
  exact h4 (hh.all b (List.mem_of_getElem? h5))

/-- The hash stands in the text. -/
def occ (h l : List UInt8) : Prop := ∃ p, win l p = h
/-- It stands there before a place. -/
def occB (h l : List UInt8) (P : Nat) : Prop := ∃ p, p < P ∧ win l p = h
/-- The windows before k are done with. -/
structure Base (L : UInt8 → Prop) (l : List UInt8) (k : Nat) : Prop where
  le : k ≤ l.length
  rest : l.length < k + 32
  done : ∀ q, q < k → q + 32 ≤ l.length ∨ bad L l q
theorem Base.nil (L : UInt8 → Prop) : Base L [] 0 := ⟨Nat.le_refl _, by simp, fun q h => by omega⟩
theorem Base.occ {L : UInt8 → Prop} {l h : List UInt8} {k : Nat} (b : Base L l k) (hh : isH L h) : occ h l ↔ occB h l k := by
  constructor
  · rintro ⟨p, e⟩
    refine ⟨p, ?_, e⟩
    have := win_full (l := l) (p := p) (by rw [e]; exact hh.len)
    have := b.rest
    omega
  · rintro ⟨p, _, e⟩; exact ⟨p, e⟩
theorem Base.more {L : UInt8 → Prop} {l h : List UInt8} {k : Nat} (b : Base L l k) (x : List UInt8) (hh : isH L h) : occB h (l ++ x) k ↔ occB h l k := by
  constructor
  · rintro ⟨p, hp, e⟩
    refine ⟨p, hp, ?_⟩
    rcases b.done p hp with h1 | h1
    · rw [← e, win_app h1]
    · exact absurd e (bad_not (bad_app x h1) hh)
  · rintro ⟨p, hp, e⟩
    refine ⟨p, hp, ?_⟩
    rw [win_app (win_full (by rw [e]; exact hh.len)), e]
theorem occB_succ {h l : List UInt8} {P : Nat} : occB h l (P + 1) ↔ occB h l P ∨ win l P = h := by
  constructor
  · rintro ⟨p, hp, e⟩
    rcases Nat.lt_or_ge p P with h1 | h1
    · exact .inl ⟨p, h1, e⟩
    · obtain rfl : p = P := by omega
      exact .inr e
  · rintro (⟨p, hp, e⟩ | e)
    · exact ⟨p, by omega, e⟩
    · exact ⟨P, by omega, e⟩

/-- The text with t where f stood, left to right. -/
def rwN (f t : List UInt8) : Nat → List UInt8 → List UInt8
  | 0, l => l
  | n + 1, l => if l.length < 32 then l else if l.take 32 = f then t ++ rwN f t n (l.drop 32) else l.take 1 ++ rwN f t n (l.drop 1)
def rw' (f t l : List UInt8) : List UInt8 := rwN f t l.length l
theorem rwN_stable (f t : List UInt8) : ∀ (n m : Nat) (l : List UInt8), l.length ≤ n → l.length ≤ m → rwN f t n l = rwN f t m l
  | 0, 0, _, _, _ => rfl
  | 0, m + 1, l, h, _ => by
    unfold rwN
    rw [if_pos (by omega)]
  | n + 1, 0, l, _, h => by
    unfold rwN
    rw [if_pos (by omega)]
  | n + 1, m + 1, l, h1, h2 => by
    unfold rwN
    by_cases h3 : l.length < 32
    · rw [if_pos h3, if_pos h3]
    · rw [if_neg h3, if_neg h3, rwN_stable f t n m (l.drop 32) (by rw [List.length_drop]; omega) (by rw [List.length_drop]; omega), rwN_stable f t n m (l.drop 1) (by rw [List.length_drop]; omega) (by rw [List.length_drop]; omega)]
theorem rw_short {f t l : List UInt8} (h : l.length < 32) : rw' f t l = l := by
  unfold rw'
  cases hl : l.length with
  | zero => rfl
  | succ n => unfold rwN; rw [if_pos (by omega)]
theorem rw_hit {f t l : List UInt8} (h : l.take 32 = f) (hl : 32 ≤ l.length) : rw' f t l = t ++ rw' f t (l.drop 32) := by
  unfold rw'
  cases hn : l.length with
  | zero => omega
  | succ n =>
    rw [rwN, if_neg (by omega), if_pos h, rwN_stable f t n (l.drop 32).length _ (by rw [List.length_drop]; omega) (Nat.le_refl _)]
theorem rw_miss {f t l : List UInt8} (h : l.take 32 ≠ f) (_hf : f.length = 32) (hl : 1 ≤ l.length) : rw' f t l = l.take 1 ++ rw' f t (l.drop 1) := by
  by_cases h32 : l.length < 32
  · rw [rw_short h32, rw_short (by rw [List.length_drop]; omega), List.take_append_drop]
  · unfold rw'
    cases hn : l.length with
    | zero => omega
    | succ n => rw [rwN, if_neg (by omega), if_neg h, rwN_stable f t n (l.drop 1).length _ (by rw [List.length_drop]; omega) (Nat.le_refl _)]

/-- The places where f stood, left to right, the text beginning at a place. -/
def plN (f : List UInt8) : Nat → Nat → List UInt8 → List Nat
  | 0, _, _ => []
  | n + 1, o, l => if l.length < 32 then [] else if l.take 32 = f then o :: plN f n (o + 32) (l.drop 32) else plN f n (o + 1) (l.drop 1)
def pl (f : List UInt8) (o : Nat) (l : List UInt8) : List Nat := plN f l.length o l
theorem plN_stable (f : List UInt8) : ∀ (n m o : Nat) (l : List UInt8), l.length ≤ n → l.length ≤ m → plN f n o l = plN f m o l
  | 0, 0, _, _, _, _ => rfl
  | 0, m + 1, o, l, h, _ => by
    unfold plN
    rw [if_pos (by omega)]
  | n + 1, 0, o, l, _, h => by
    unfold plN
    rw [if_pos (by omega)]
  | n + 1, m + 1, o, l, h1, h2 => by
    unfold plN
    by_cases h3 : l.length < 32
    · rw [if_pos h3, if_pos h3]
    · rw [if_neg h3, if_neg h3, plN_stable f n m (o + 32) (l.drop 32) (by rw [List.length_drop]; omega) (by rw [List.length_drop]; omega), plN_stable f n m (o + 1) (l.drop 1) (by rw [List.length_drop]; omega) (by rw [List.length_drop]; omega)]
theorem pl_short {f l : List UInt8} {o : Nat} (h : l.length < 32) : pl f o l = [] := by
  unfold pl
  cases hl : l.length with
  | zero => rfl
  | succ n => unfold plN; rw [if_pos (by omega)]
theorem pl_hit {f l : List UInt8} {o : Nat} (h : l.take 32 = f) (hl : 32 ≤ l.length) : pl f o l = o :: pl f (o + 32) (l.drop 32) := by
  unfold pl
  cases hn : l.length with
  | zero => omega
  | succ n => rw [plN, if_neg (by omega), if_pos h, plN_stable f n (l.drop 32).length _ _ (by rw [List.length_drop]; omega) (Nat.le_refl _)]
theorem pl_miss {f l : List UInt8} {o : Nat} (h : l.take 32 ≠ f) (_hf : f.length = 32) (hl : 1 ≤ l.length) : pl f o l = pl f (o + 1) (l.drop 1) := by
  by_cases h32 : l.length < 32
  · rw [pl_short h32, pl_short (by rw [List.length_drop]; omega)]
  · unfold pl
    cases hn : l.length with
    | zero => omega
    | succ n => rw [plN, if_neg (by omega), if_neg h, plN_stable f n (l.drop 1).length _ _ (by rw [List.length_drop]; omega) (Nat.le_refl _)]

end Sc
end Go.Proofs.Ytojefckhefanhab
