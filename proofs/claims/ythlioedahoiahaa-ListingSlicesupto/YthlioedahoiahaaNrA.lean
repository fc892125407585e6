/- The parser's machine over framed words (plain; own text of the verifier). -/
import Derived.Test.YthlioedahoiahaaNp4
namespace Go.Proofs.Ythlioedahoiahaa
open Go.RowKit

/-- The number of little-endian bytes. -/
def leN : List UInt8 → Nat
  | [] => 0
  | b :: l => b.toNat + 256 * leN l
theorem leN_snoc (l : List UInt8) (b : UInt8) : leN (l ++ [b]) = leN l + b.toNat * 2 ^ (8 * l.length) := by
  induction l with
  | nil => show b.toNat + 256 * 0 = 0 + b.toNat * 2 ^ 0; omega
  | cons a l ih =>
    show a.toNat + 256 * leN (l ++ [b]) = a.toNat + 256 * leN l + b.toNat * 2 ^ (8 * (l.length + 1))
    rw [ih, Nat.mul_add 8, Nat.pow_add, Nat.mul_add]
    have : 256 * (b.toNat * 2 ^ (8 * l.length)) = b.toNat * (2 ^ (8 * l.length) * 2 ^ (8 * 1)) := by
      rw [← Nat.mul_assoc, Nat.mul_comm 256, Nat.mul_assoc, Nat.mul_comm 256]
    omega
/-- The first k bytes of n. -/
def lek (n : Nat) : Nat → List UInt8
  | 0 => []
  | k + 1 => UInt8.ofNat (n % 256) :: lek (n / 256) k
theorem lek_len (n : Nat) : ∀ k, (lek n k).length = k := by
  intro k
  induction k generalizing n with
  | zero => rfl
  | succ k ih => show (lek (n / 256) k).length + 1 = k + 1; rw [ih]
theorem leN_lek : ∀ (k n : Nat), leN (lek n k) = n % 256 ^ k
  | 0, n => by show 0 = n % 1; omega
  | k + 1, n => by
    show (UInt8.ofNat (n % 256)).toNat + 256 * leN (lek (n / 256) k) = n % 256 ^ (k + 1)
    have e1 : (UInt8.ofNat (n % 256)).toNat = n % 256 := by
      rw [UInt8.toNat_ofNat']
      exact Nat.mod_mod _ _
    have e2 : 256 ^ (k + 1) = 256 * 256 ^ k := by rw [Nat.pow_succ, Nat.mul_comm]
    rw [leN_lek k (n / 256), e1, e2, Nat.mod_mul]
theorem leN_lek8 (n : Nat) (h : n ≤ 1048576) : leN (lek n 8) = n := by
  rw [leN_lek]
  exact Nat.mod_eq_of_lt (Nat.lt_of_le_of_lt h (by decide))
/-- A framed word. -/
def fr8 (s : List UInt8) : List UInt8 := lek s.length 8 ++ (s ++ List.replicate (padN s.length) 0)
theorem fr8_len (s : List UInt8) : (fr8 s).length = 8 + s.length + padN s.length := by
  unfold fr8
  rw [List.length_append, List.length_append, lek_len, List.length_replicate]
  omega
theorem fr8_take8 (s : List UInt8) : (fr8 s).take 8 = lek s.length 8 := by
  unfold fr8
  rw [List.take_append_of_le_length (by rw [lek_len]; exact Nat.le_refl _), List.take_of_length_le (by rw [lek_len]; exact Nat.le_refl _)]
theorem fr8_drop8 (s : List UInt8) : (fr8 s).drop 8 = s ++ List.replicate (padN s.length) 0 := by
  unfold fr8
  rw [List.drop_append_of_le_length (by rw [lek_len]; exact Nat.le_refl _), List.drop_of_length_le (by rw [lek_len]; exact Nat.le_refl _)]
  rfl

/-- In the midst of a word: l came of it. -/
def PS.mid (p : PS) (l : List UInt8) : PS := ⟨p.taken + l.length, l.length, 0, 0, p.part, p.closed, leN (l.take 8), (l.drop 8).take (leN (l.take 8)), p.c⟩
/-- Behind a whole word. -/
def PS.nxt (p : PS) (n : Nat) (c : PC) : PS := ⟨p.taken + n, 0, 0, 0, p.part, p.closed, 0, [], c⟩
/-- The word that l is the frame of. -/
def wrd (l : List UInt8) : List UInt8 := (l.drop 8).take (leN (l.take 8))

theorem ends_go {q : PS} (h : q.held + 1 ≠ 8 + q.len + padN q.len) : q.ends = ((0, 0), q.sh (q.held + 1)) := by unfold PS.ends; rw [if_pos h]
theorem ends_ok {q : PS} (h : q.held + 1 = 8 + q.len + padN q.len) (ha : (q.c.accept (NB.ba q.text)).1 = 0) : q.ends = ((0, 0), (((q.sc (q.c.accept (NB.ba q.text)).2).sh 0).sl 0).st []) := by unfold PS.ends; rw [if_neg (by omega), if_neg (by omega)]
theorem ends_bad {q : PS} (h : q.held + 1 = 8 + q.len + padN q.len) (ha : (q.c.accept (NB.ba q.text)).1 ≠ 0) : q.ends = (((q.c.accept (NB.ba q.text)).1, (q.taken : Int) - q.held), q.sc (q.c.accept (NB.ba q.text)).2) := by unfold PS.ends; rw [if_neg (by omega), if_pos ha]

/-- What a byte is put to. -/
theorem put_mid (p : PS) (l : List UInt8) (b : UInt8) (h1 : l.length = 7 → leN (l ++ [b]) ≤ 1048576) (h2 : 8 ≤ l.length → leN (l.take 8) ≤ l.length - 8 → b = 0) :
    (p.mid l).put b = ((0, 0), (⟨p.taken + l.length, l.length, 0, 0, p.part, p.closed, leN ((l ++ [b]).take 8), wrd (l ++ [b]), p.c⟩ : PS)) := by
  unfold PS.put
  by_cases h8 : l.length < 8
  · have hn : (p.mid l).nl b = leN ((l ++ [b]).take 8) := by
      unfold PS.nl PS.mid
      show leN (l.take 8) + b.toNat * 2 ^ (8 * l.length) = _
      rw [List.take_of_length_le (by omega), List.take_of_length_le (by rw [List.length_append]; show l.length + 1 ≤ 8; omega), leN_snoc]
    have h7 : ¬ ((p.mid l).held = 7 ∧ 1048576 < (p.mid l).nl b) := fun h => by
      have h3 := h1 h.1
      have h4 := h.2
      rw [hn, List.take_of_length_le (by rw [List.length_append]; show l.length + 1 ≤ 8; omega)] at h4
      omega
    rw [if_pos (show (p.mid l).held < 8 from h8), if_neg h7, hn]
    have e1 : (l.drop 8).take (leN (l.take 8)) = [] := by rw [List.drop_of_length_le (by omega)]; simp
    have e2 : wrd (l ++ [b]) = [] := by unfold wrd; rw [List.drop_of_length_le (by rw [List.length_append]; show l.length + 1 ≤ 8; omega)]; simp
    show ((0, 0), (⟨p.taken + l.length, l.length, 0, 0, p.part, p.closed, leN ((l ++ [b]).take 8), (l.drop 8).take (leN (l.take 8)), p.c⟩ : PS)) = _
    rw [e1, e2]
  · have e8 : (l ++ [b]).take 8 = l.take 8 := List.take_append_of_le_length (by omega)
    have ed : (l ++ [b]).drop 8 = l.drop 8 ++ [b] := List.drop_append_of_le_length (by omega)
    rw [if_neg (show ¬ (p.mid l).held < 8 from h8)]
    have hl : (p.mid l).text.length = min (leN (l.take 8)) (l.length - 8) := by
      show ((l.drop 8).take (leN (l.take 8))).length = _
      rw [List.length_take, List.length_drop]
    have hlen : (p.mid l).len = leN (l.take 8) := rfl
    rw [hl, hlen]
    unfold wrd
    rw [e8, ed]
    by_cases hlt : min (leN (l.take 8)) (l.length - 8) < leN (l.take 8)
    · rw [if_pos hlt]
      have e3 : (l.drop 8 ++ [b]).take (leN (l.take 8)) = (l.drop 8).take (leN (l.take 8)) ++ [b] := by
        rw [List.take_of_length_le (by rw [List.length_append, List.length_drop]; show l.length - 8 + 1 ≤ _; omega), List.take_of_length_le (by rw [List.length_drop]; omega)]
      rw [e3]
      rfl
    · rw [if_neg hlt, if_neg (by have := h2 (by omega) (by omega); simp [this])]
      rw [List.take_append_of_le_length (by rw [List.length_drop]; omega)]
      rfl

/-- A byte of a word, not the last. -/
theorem step_go (p : PS) (l : List UInt8) (b : UInt8) (hn : p.c.next ≠ 17) (ht : p.taken + l.length < 1048576) (h1 : l.length = 7 → leN (l ++ [b]) ≤ 1048576) (h2 : 8 ≤ l.length → leN (l.take 8) ≤ l.length - 8 → b = 0)
    (he : l.length + 1 ≠ 8 + leN ((l ++ [b]).take 8) + padN (leN ((l ++ [b]).take 8))) : (p.mid l).step b = p.mid (l ++ [b]) := by
  have e : (p.mid l).take b = ((0, 0), (⟨p.taken + l.length, l.length + 1, 0, 0, p.part, p.closed, leN ((l ++ [b]).take 8), wrd (l ++ [b]), p.c⟩ : PS)) := by
    unfold PS.take
    rw [if_neg (show ¬ (p.mid l).c.next = 17 from hn), if_neg (show ¬ (p.mid l).taken = 1048576 from by show ¬ p.taken + l.length = 1048576; omega), put_mid p l b h1 h2, if_neg (by show ¬ (0 : Int) ≠ 0; decide)]
    exact ends_go he
  rw [PS.step_ok (by rw [e]), e]
  show (⟨p.taken + l.length + 1, l.length + 1, 0, 0, p.part, p.closed, leN ((l ++ [b]).take 8), wrd (l ++ [b]), p.c⟩ : PS) = p.mid (l ++ [b])
  unfold PS.mid
  rw [List.length_append]
  rfl
/-- The last byte of a word. -/
theorem step_end (p : PS) (l : List UInt8) (b : UInt8) (hn : p.c.next ≠ 17) (ht : p.taken + l.length < 1048576) (h1 : l.length = 7 → leN (l ++ [b]) ≤ 1048576) (h2 : 8 ≤ l.length → leN (l.take 8) ≤ l.length - 8 → b = 0)
    (he : l.length + 1 = 8 + leN ((l ++ [b]).take 8) + padN (leN ((l ++ [b]).take 8))) :
    (p.mid l).step b = if (p.c.accept (NB.ba (wrd (l ++ [b])))).1 ≠ 0 then (⟨p.taken + l.length, l.length, (p.c.accept (NB.ba (wrd (l ++ [b])))).1, (p.taken : Int), p.part, p.closed, leN ((l ++ [b]).take 8), wrd (l ++ [b]), (p.c.accept (NB.ba (wrd (l ++ [b])))).2⟩ : PS)
      else p.nxt (l.length + 1) (p.c.accept (NB.ba (wrd (l ++ [b])))).2 := by
  have e : (p.mid l).take b = (⟨p.taken + l.length, l.length, 0, 0, p.part, p.closed, leN ((l ++ [b]).take 8), wrd (l ++ [b]), p.c⟩ : PS).ends := by
    unfold PS.take
    rw [if_neg (show ¬ (p.mid l).c.next = 17 from hn), if_neg (show ¬ (p.mid l).taken = 1048576 from by show ¬ p.taken + l.length = 1048576; omega), put_mid p l b h1 h2, if_neg (by show ¬ (0 : Int) ≠ 0; decide)]
  by_cases ha : (p.c.accept (NB.ba (wrd (l ++ [b])))).1 ≠ 0
  · rw [if_pos ha]
    rw [ends_bad he ha] at e
    rw [PS.step_bad (by rw [e]; exact ha), e]
    show (⟨p.taken + l.length, l.length, (p.c.accept (NB.ba (wrd (l ++ [b])))).1, ((p.taken + l.length : Nat) : Int) - (l.length : Nat), p.part, p.closed, leN ((l ++ [b]).take 8), wrd (l ++ [b]), (p.c.accept (NB.ba (wrd (l ++ [b])))).2⟩ : PS) = _
    have : ((p.taken + l.length : Nat) : Int) - (l.length : Nat) = p.taken := by omega
    rw [this]
  · rw [if_neg ha]
    have ha0 : (p.c.accept (NB.ba (wrd (l ++ [b])))).1 = 0 := by omega
    rw [ends_ok he ha0] at e
    rw [PS.step_ok (by rw [e]), e]
    show (⟨p.taken + l.length + 1, 0, 0, 0, p.part, p.closed, 0, [], (p.c.accept (NB.ba (wrd (l ++ [b])))).2⟩ : PS) = _
    unfold PS.nxt
    rw [Nat.add_assoc]

/-- What a beginning of a frame has. -/
theorem pre_frame {s l v : List UInt8} {b : UInt8} (hs : s.length ≤ 1048576) (h : l ++ b :: v = fr8 s) :
    (l.length = 7 → leN (l ++ [b]) ≤ 1048576) ∧ (8 ≤ l.length → leN (l.take 8) ≤ l.length - 8 → b = 0) ∧ (8 ≤ l.length + 1 → leN ((l ++ [b]).take 8) = s.length) := by
  have h8 : leN ((fr8 s).take 8) = s.length := by
    rw [fr8_take8, leN_lek8 _ hs]
  have hlb : l ++ b :: v = (l ++ [b]) ++ v := by simp
  have hk : 8 ≤ l.length + 1 → leN ((l ++ [b]).take 8) = s.length := fun hl => by
    have e : (l ++ [b] ++ v).take 8 = (l ++ [b]).take 8 := List.take_append_of_le_length (by rw [List.length_append]; exact hl)
    rw [← h8, ← h, hlb, e]
  refine ⟨fun h7 => ?_, fun hl hle => ?_, hk⟩
  · have := hk (by omega)
    rw [List.take_of_length_le (by rw [List.length_append]; show l.length + 1 ≤ 8; omega)] at this
    omega
  · have e : leN (l.take 8) = s.length := by
      have := hk (by omega)
      rw [List.take_append_of_le_length (by omega)] at this
      exact this
    have hb : (fr8 s)[l.length]? = some b := by rw [← h, List.getElem?_append_right (Nat.le_refl _), Nat.sub_self]; rfl
    have hd : (fr8 s)[l.length]? = ((fr8 s).drop 8)[l.length - 8]? := by
      rw [List.getElem?_drop, show 8 + (l.length - 8) = l.length by omega]
    have hle' : s.length ≤ l.length - 8 := by rw [← e]; exact hle
    rw [hd, fr8_drop8, List.getElem?_append_right hle', List.getElem?_replicate] at hb
    by_cases hp : l.length - 8 - s.length < padN s.length
    · rw [if_pos hp] at hb; injection hb with hb; exact hb.symm
    · rw [if_neg hp] at hb; cases hb
theorem wrd_frame {s : List UInt8} (hs : s.length ≤ 1048576) : wrd (fr8 s) = s := by
  unfold wrd
  rw [fr8_take8, leN_lek8 _ hs, fr8_drop8, List.take_append_of_le_length (Nat.le_refl _), List.take_of_length_le (Nat.le_refl _)]
theorem mid_code (p : PS) (l : List UInt8) : (p.mid l).code = 0 := rfl

/-- A beginning of a frame. -/
theorem run_pre (p : PS) (s : List UInt8) (hs : s.length ≤ 1048576) (hn : p.c.next ≠ 17) (ht : p.taken + (fr8 s).length ≤ 1048576) : ∀ (v l z : List UInt8), z ≠ [] → l ++ v ++ z = fr8 s → (p.mid l).run v = p.mid (l ++ v)
  | [], l, z, _, _ => by rw [List.append_nil]; rfl
  | b :: v, l, z, hz, h => by
    have h' : l ++ b :: (v ++ z) = fr8 s := by rw [← h]; simp
    obtain ⟨h1, h2, h3⟩ := pre_frame hs h'
    have hlen := congrArg List.length h
    simp only [List.length_append, List.length_cons, fr8_len] at hlen
    have hz1 : 1 ≤ z.length := by cases z with | nil => exact absurd rfl hz | cons _ _ => simp
    rw [fr8_len] at ht
    have hst : (p.mid l).step b = p.mid (l ++ [b]) := by
      refine step_go p l b hn (by omega) h1 h2 (fun he => ?_)
      by_cases h8 : 8 ≤ l.length + 1
      · rw [h3 h8] at he; omega
      · omega
    rw [PS.run, if_neg (fun hh => hn hh.2), hst, if_neg (by rw [mid_code]; decide)]
    have := run_pre p s hs hn (by rw [fr8_len]; exact ht) v (l ++ [b]) z hz (by rw [← h]; simp)
    rw [this]
    simp
/-- A whole frame. -/
theorem run_frame (p : PS) (s : List UInt8) (hs : s.length ≤ 1048576) (hn : p.c.next ≠ 17) (ht : p.taken + (fr8 s).length ≤ 1048576) (ha : (p.c.accept (NB.ba s)).1 = 0) (rest : List UInt8) : ∀ (v l : List UInt8), v ≠ [] → l ++ v = fr8 s → (p.mid l).run (v ++ rest) = (p.nxt (fr8 s).length (p.c.accept (NB.ba s)).2).run rest
  | [], l, hv, _ => absurd rfl hv
  | b :: v, l, _, h => by
    obtain ⟨h1, h2, h3⟩ := pre_frame hs h
    have hlen := congrArg List.length h
    simp only [List.length_append, List.length_cons, fr8_len] at hlen
    rw [fr8_len] at ht
    show (p.mid l).run (b :: (v ++ rest)) = _
    rw [PS.run, if_neg (fun hh => hn hh.2)]
    by_cases hv : v = []
    · subst hv
      have hw : wrd (l ++ [b]) = s := by rw [h]; exact wrd_frame hs
      have he : l.length + 1 = 8 + leN ((l ++ [b]).take 8) + padN (leN ((l ++ [b]).take 8)) := by
        rw [h3 (by simp at hlen; omega)]
        simp at hlen; omega
      have hst := step_end p l b hn (by omega) h1 h2 he
      rw [hw, if_neg (by omega)] at hst
      rw [hst, if_neg (by show ¬ (0 : Int) ≠ 0; decide)]
      have : l.length + 1 = (fr8 s).length := by rw [fr8_len]; simp at hlen; omega
      rw [this]
      rfl
    · have hvl : 1 ≤ v.length := by cases v with | nil => exact absurd rfl hv | cons _ _ => simp
      have hst : (p.mid l).step b = p.mid (l ++ [b]) := by
        refine step_go p l b hn (by omega) h1 h2 (fun he => ?_)
        by_cases h8 : 8 ≤ l.length + 1
        · rw [h3 h8] at he; omega
        · omega
      rw [hst, if_neg (by rw [mid_code]; decide)]
      exact run_frame p s hs hn (by rw [fr8_len]; exact ht) ha rest v (l ++ [b]) hv (by rw [← h]; simp)
end Go.Proofs.Ythlioedahoiahaa
