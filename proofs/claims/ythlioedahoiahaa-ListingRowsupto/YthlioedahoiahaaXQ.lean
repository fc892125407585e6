/- NrA NrB NrC NwA NwC NxO NxA NxB NxC NxD NxE NxJ, gathered (own text of the verifier). -/
import Derived.Test.YthlioedahoiahaaNp4
import Derived.Test.YthlioedahoiahaaNa3
import Derived.Test.YthlioedahoiahaaNa7
import Derived.Lib.Strings
import Derived.Test.YthlioedahoiahaaTvF
import Derived.Deep.QuietTactic
import Derived.BigQuiet
namespace Go.Proofs.Ythlioedahoiahaa
open Go.RowKit

/-- The number of little-endian bytes. -/
def leN : List UInt8 → Nat
  | [] => 0
  | b :: l => b.toNat + 256 * leN l
theorem leN_snoc (l : List UInt8) (b : UInt8) : leN (l ++ [b]) = leN l + b.toNat * 2 ^ (8 * l.length) := by
  induction l with
  | nil => show b.toNat + 256 * 0 = 0 + b.toNat * 2 ^ 0; omega
  | cons a l ih =>
    show a.toNat + 256 * leN (l ++ [b]) = a.toNat + 256 * leN l + b.toNat * 2 ^ (8 * (l.length + 1))
    rw [ih, Nat.mul_add 8, Nat.pow_add, Nat.mul_add]
    have : 256 * (b.toNat * 2 ^ (8 * l.length)) = b.toNat * (2 ^ (8 * l.length) * 2 ^ (8 * 1)) := by
      rw [← Nat.mul_assoc, Nat.mul_comm 256, Nat.mul_assoc, Nat.mul_comm 256]
    omega
/-- The first k bytes of n. -/
def lek (n : Nat) : Nat → List UInt8
  | 0 => []
  | k + 1 => UInt8.ofNat (n % 256) :: lek (n / 256) k
theorem lek_len (n : Nat) : ∀ k, (lek n k).length = k := by
  intro k
  induction k generalizing n with
  | zero => rfl
  | succ k ih => show (lek (n / 256) k).length + 1 = k + 1; rw [ih]
theorem leN_lek : ∀ (k n : Nat), leN (lek n k) = n % 256 ^ k
  | 0, n => by show 0 = n % 1; omega
  | k + 1, n => by
    show (UInt8.ofNat (n % 256)).toNat + 256 * leN (lek (n / 256) k) = n % 256 ^ (k + 1)
    have e1 : (UInt8.ofNat (n % 256)).toNat = n % 256 := by
      rw [UInt8.toNat_ofNat']
      exact Nat.mod_mod _ _
    have e2 : 256 ^ (k + 1) = 256 * 256 ^ k := by rw [Nat.pow_succ, Nat.mul_comm]
    rw [leN_lek k (n / 256), e1, e2, Nat.mod_mul]
theorem leN_lek8 (n : Nat) (h : n ≤ 1048576) : leN (lek n 8) = n := by
  rw [leN_lek]
  exact Nat.mod_eq_of_lt (Nat.lt_of_le_of_lt h (by decide))
/-- A framed word. -/
def fr8 (s : List UInt8) : List UInt8 := lek s.length 8 ++ (s ++ List.replicate (padN s.length) 0)
theorem fr8_len (s : List UInt8) : (fr8 s).length = 8 + s.length + padN s.length := by
  unfold fr8
  rw [List.length_append, List.length_append, lek_len, List.length_replicate]
  omega
theorem fr8_take8 (s : List UInt8) : (fr8 s).take 8 = lek s.length 8 := by
  unfold fr8
  rw [List.take_append_of_le_length (by rw [lek_len]; exact Nat.le_refl _), List.take_of_length_le (by rw [lek_len]; exact Nat.le_refl _)]
theorem fr8_drop8 (s : List UInt8) : (fr8 s).drop 8 = s ++ List.replicate (padN s.length) 0 := by
  unfold fr8
  rw [List.drop_append_of_le_length (by rw [lek_len]; exact Nat.le_refl _), List.drop_of_length_le (by rw [lek_len]; exact Nat.le_refl _)]
  rfl

/-- In the midst of a word: l came of it. -/
def PS.mid (p : PS) (l : List UInt8) : PS := ⟨p.taken + l.length, l.length, 0, 0, p.part, p.closed, leN (l.take 8), (l.drop 8).take (leN (l.take 8)), p.c⟩
/-- Behind a whole word. -/
def PS.nxt (p : PS) (n : Nat) (c : PC) : PS := ⟨p.taken + n, 0, 0, 0, p.part, p.closed, 0, [], c⟩
/-- The word that l is the frame of. -/
def wrd (l : List UInt8) : List UInt8 := (l.drop 8).take (leN (l.take 8))

theorem ends_go {q : PS} (h : q.held + 1 ≠ 8 + q.len + padN q.len) : q.ends = ((0, 0), q.sh (q.held + 1)) := by unfold PS.ends; rw [if_pos h]
theorem ends_ok {q : PS} (h : q.held + 1 = 8 + q.len + padN q.len) (ha : (q.c.accept (NB.ba q.text)).1 = 0) : q.ends = ((0, 0), (((q.sc (q.c.accept (NB.ba q.text)).2).sh 0).sl 0).st []) := by unfold PS.ends; rw [if_neg (by omega), if_neg (by omega)]
theorem ends_bad {q : PS} (h : q.held + 1 = 8 + q.len + padN q.len) (ha : (q.c.accept (NB.ba q.text)).1 ≠ 0) : q.ends = (((q.c.accept (NB.ba q.text)).1, (q.taken : Int) - q.held), q.sc (q.c.accept (NB.ba q.text)).2) := by unfold PS.ends; rw [if_neg (by omega), if_pos ha]

/-- What a byte is put to. -/
theorem put_mid (p : PS) (l : List UInt8) (b : UInt8) (h1 : l.length = 7 → leN (l ++ [b]) ≤ 1048576) (h2 : 8 ≤ l.length → leN (l.take 8) ≤ l.length - 8 → b = 0) :
    (p.mid l).put b = ((0, 0), (⟨p.taken + l.length, l.length, 0, 0, p.part, p.closed, leN ((l ++ [b]).take 8), wrd (l ++ [b]), p.c⟩ : PS)) := by
  unfold PS.put
  by_cases h8 : l.length < 8
  · have hn : (p.mid l).nl b = leN ((l ++ [b]).take 8) := by
      unfold PS.nl PS.mid
      show leN (l.take 8) + b.toNat * 2 ^ (8 * l.length) = _
      rw [List.take_of_length_le (by omega), List.take_of_length_le (by rw [List.length_append]; show l.length + 1 ≤ 8; omega), leN_snoc]
    have h7 : ¬ ((p.mid l).held = 7 ∧ 1048576 < (p.mid l).nl b) := fun h => by
      have h3 := h1 h.1
      have h4 := h.2
      rw [hn, List.take_of_length_le (by rw [List.length_append]; show l.length + 1 ≤ 8; omega)] at h4
      omega
    rw [if_pos (show (p.mid l).held < 8 from h8), if_neg h7, hn]
    have e1 : (l.drop 8).take (leN (l.take 8)) = [] := by rw [List.drop_of_length_le (by omega)]; simp
    have e2 : wrd (l ++ [b]) = [] := by unfold wrd; rw [List.drop_of_length_le (by rw [List.length_append]; show l.length + 1 ≤ 8; omega)]; simp
    show ((0, 0), (⟨p.taken + l.length, l.length, 0, 0, p.part, p.closed, leN ((l ++ [b]).take 8), (l.drop 8).take (leN (l.take 8)), p.c⟩ : PS)) = _
    rw [e1, e2]
  · have e8 : (l ++ [b]).take 8 = l.take 8 := List.take_append_of_le_length (by omega)
    have ed : (l ++ [b]).drop 8 = l.drop 8 ++ [b] := List.drop_append_of_le_length (by omega)
    rw [if_neg (show ¬ (p.mid l).held < 8 from h8)]
    have hl : (p.mid l).text.length = min (leN (l.take 8)) (l.length - 8) := by
      show ((l.drop 8).take (leN (l.take 8))).length = _
      rw [List.length_take, List.length_drop]
    have hlen : (p.mid l).len = leN (l.take 8) := rfl
    rw [hl, hlen]
    unfold wrd
    rw [e8, ed]
    by_cases hlt : min (leN (l.take 8)) (l.length - 8) < leN (l.take 8)
    · rw [if_pos hlt]
      have e3 : (l.drop 8 ++ [b]).take (leN (l.take 8)) = (l.drop 8).take (leN (l.take 8)) ++ [b] := by
        rw [List.take_of_length_le (by rw [List.length_append, List.length_drop]; show l.length - 8 + 1 ≤ _; omega), List.take_of_length_le (by rw [List.length_drop]; omega)]
      rw [e3]
      rfl
    · rw [if_neg hlt, if_neg (by have := h2 (by omega) (by omega); simp [this])]
      rw [List.take_append_of_le_length (by rw [List.length_drop]; omega)]
      rfl

/-- A byte of a word, not the last. -/
theorem step_go (p : PS) (l : List UInt8) (b : UInt8) (hn : p.c.next ≠ 17) (ht : p.taken + l.length < 1048576) (h1 : l.length = 7 → leN (l ++ [b]) ≤ 1048576) (h2 : 8 ≤ l.length → leN (l.take 8) ≤ l.length - 8 → b = 0)
    (he : l.length + 1 ≠ 8 + leN ((l ++ [b]).take 8) + padN (leN ((l ++ [b]).take 8))) : (p.mid l).step b = p.mid (l ++ [b]) := by
  have e : (p.mid l).take b = ((0, 0), (⟨p.taken + l.length, l.length + 1, 0, 0, p.part, p.closed, leN ((l ++ [b]).take 8), wrd (l ++ [b]), p.c⟩ : PS)) := by
    unfold PS.take
    rw [if_neg (show ¬ (p.mid l).c.next = 17 from hn), if_neg (show ¬ (p.mid l).taken = 1048576 from by show ¬ p.taken + l.length = 1048576; omega), put_mid p l b h1 h2, if_neg (by show ¬ (0 : Int) ≠ 0; decide)]
    exact ends_go he
  rw [PS.step_ok (by rw [e]), e]
  show (⟨p.taken + l.length + 1, l.length + 1, 0, 0, p.part, p.closed, leN ((l ++ [b]).take 8), wrd (l ++ [b]), p.c⟩ : PS) = p.mid (l ++ [b])
  unfold PS.mid
  rw [List.length_append]
  rfl
/-- The last byte of a word. -/
theorem step_end (p : PS) (l : List UInt8) (b : UInt8) (hn : p.c.next ≠ 17) (ht : p.taken + l.length < 1048576) (h1 : l.length = 7 → leN (l ++ [b]) ≤ 1048576) (h2 : 8 ≤ l.length → leN (l.take 8) ≤ l.length - 8 → b = 0)
    (he : l.length + 1 = 8 + leN ((l ++ [b]).take 8) + padN (leN ((l ++ [b]).take 8))) :
    (p.mid l).step b = if (p.c.accept (NB.ba (wrd (l ++ [b])))).1 ≠ 0 then (⟨p.taken + l.length, l.length, (p.c.accept (NB.ba (wrd (l ++ [b])))).1, (p.taken : Int), p.part, p.closed, leN ((l ++ [b]).take 8), wrd (l ++ [b]), (p.c.accept (NB.ba (wrd (l ++ [b])))).2⟩ : PS)
      else p.nxt (l.length + 1) (p.c.accept (NB.ba (wrd (l ++ [b])))).2 := by
  have e : (p.mid l).take b = (⟨p.taken + l.length, l.length, 0, 0, p.part, p.closed, leN ((l ++ [b]).take 8), wrd (l ++ [b]), p.c⟩ : PS).ends := by
    unfold PS.take
    rw [if_neg (show ¬ (p.mid l).c.next = 17 from hn), if_neg (show ¬ (p.mid l).taken = 1048576 from by show ¬ p.taken + l.length = 1048576; omega), put_mid p l b h1 h2, if_neg (by show ¬ (0 : Int) ≠ 0; decide)]
  by_cases ha : (p.c.accept (NB.ba (wrd (l ++ [b])))).1 ≠ 0
  · rw [if_pos ha]
    rw [ends_bad he ha] at e
    rw [PS.step_bad (by rw [e]; exact ha), e]
    show (⟨p.taken + l.length, l.length, (p.c.accept (NB.ba (wrd (l ++ [b])))).1, ((p.taken + l.length : Nat) : Int) - (l.length : Nat), p.part, p.closed, leN ((l ++ [b]).take 8), wrd (l ++ [b]), (p.c.accept (NB.ba (wrd (l ++ [b])))).2⟩ : PS) = _
    have : ((p.taken + l.length : Nat) : Int) - (l.length : Nat) = p.taken := by omega
    rw [this]
  · rw [if_neg ha]
    have ha0 : (p.c.accept (NB.ba (wrd (l ++ [b])))).1 = 0 := by omega
    rw [ends_ok he ha0] at e
    rw [PS.step_ok (by rw [e]), e]
    show (⟨p.taken + l.length + 1, 0, 0, 0, p.part, p.closed, 0, [], (p.c.accept (NB.ba (wrd (l ++ [b])))).2⟩ : PS) = _
    unfold PS.nxt
    rw [Nat.add_assoc]

/-- What a beginning of a frame has. -/
theorem pre_frame {s l v : List UInt8} {b : UInt8} (hs : s.length ≤ 1048576) (h : l ++ b :: v = fr8 s) :
    (l.length = 7 → leN (l ++ [b]) ≤ 1048576) ∧ (8 ≤ l.length → leN (l.take 8) ≤ l.length - 8 → b = 0) ∧ (8 ≤ l.length + 1 → leN ((l ++ [b]).take 8) = s.length) := by
  have h8 : leN ((fr8 s).take 8) = s.length := by
    rw [fr8_take8, leN_lek8 _ hs]
  have hlb : l ++ b :: v = (l ++ [b]) ++ v := by simp
  have hk : 8 ≤ l.length + 1 → leN ((l ++ [b]).take 8) = s.length := fun hl => by
    have e : (l ++ [b] ++ v).take 8 = (l ++ [b]).take 8 := List.take_append_of_le_length (by rw [List.length_append]; exact hl)
    rw [← h8, ← h, hlb, e]
  refine ⟨fun h7 => ?_, fun hl hle => ?_, hk⟩
  · have := hk (by omega)
    rw [List.take_of_length_le (by rw [List.length_append]; show l.length + 1 ≤ 8; omega)] at this
    omega
  · have e : leN (l.take 8) = s.length := by
      have := hk (by omega)
      rw [List.take_append_of_le_length (by omega)] at this
      exact this
    have hb : (fr8 s)[l.length]? = some b := by rw [← h, List.getElem?_append_right (Nat.le_refl _), Nat.sub_self]; rfl
    have hd : (fr8 s)[l.length]? = ((fr8 s).drop 8)[l.length - 8]? := by
      rw [List.getElem?_drop, show 8 + (l.length - 8) = l.length by omega]
    have hle' : s.length ≤ l.length - 8 := by rw [← e]; exact hle
    rw [hd, fr8_drop8, List.getElem?_append_right hle', List.getElem?_replicate] at hb
    by_cases hp : l.length - 8 - s.length < padN s.length
    · rw [if_pos hp] at hb; injection hb with hb; exact hb.symm
    · rw [if_neg hp] at hb; cases hb
theorem wrd_frame {s : List UInt8} (hs : s.length ≤ 1048576) : wrd (fr8 s) = s := by
  unfold wrd
  rw [fr8_take8, leN_lek8 _ hs, fr8_drop8, List.take_append_of_le_length (Nat.le_refl _), List.take_of_length_le (Nat.le_refl _)]
theorem mid_code (p : PS) (l : List UInt8) : (p.mid l).code = 0 := rfl

/-- A beginning of a frame. -/
theorem run_pre (p : PS) (s : List UInt8) (hs : s.length ≤ 1048576) (hn : p.c.next ≠ 17) (ht : p.taken + (fr8 s).length ≤ 1048576) : ∀ (v l z : List UInt8), z ≠ [] → l ++ v ++ z = fr8 s → (p.mid l).run v = p.mid (l ++ v)
  | [], l, z, _, _ => by rw [List.append_nil]; rfl
  | b :: v, l, z, hz, h => by
    have h' : l ++ b :: (v ++ z) = fr8 s := by rw [← h]; simp
    obtain ⟨h1, h2, h3⟩ := pre_frame hs h'
    have hlen := congrArg List.length h
    simp only [List.length_append, List.length_cons, fr8_len] at hlen
    have hz1 : 1 ≤ z.length := by cases z with | nil => exact absurd rfl hz | cons _ _ => simp
    rw [fr8_len] at ht
    have hst : (p.mid l).step b = p.mid (l ++ [b]) := by
      refine step_go p l b hn (by omega) h1 h2 (fun he => ?_)
      by_cases h8 : 8 ≤ l.length + 1
      · rw [h3 h8] at he; omega
      · omega
    rw [PS.run, if_neg (fun hh => hn hh.2), hst, if_neg (by rw [mid_code]; decide)]
    have := run_pre p s hs hn (by rw [fr8_len]; exact ht) v (l ++ [b]) z hz (by rw [← h]; simp)
    rw [this]
    simp
/-- A whole frame. -/
theorem run_frame (p : PS) (s : List UInt8) (hs : s.length ≤ 1048576) (hn : p.c.next ≠ 17) (ht : p.taken + (fr8 s).length ≤ 1048576) (ha : (p.c.accept (NB.ba s)).1 = 0) (rest : List UInt8) : ∀ (v l : List UInt8), v ≠ [] → l ++ v = fr8 s → (p.mid l).run (v ++ rest) = (p.nxt (fr8 s).length (p.c.accept (NB.ba s)).2).run rest
  | [], l, hv, _ => absurd rfl hv
  | b :: v, l, _, h => by
    obtain ⟨h1, h2, h3⟩ := pre_frame hs h
    have hlen := congrArg List.length h
    simp only [List.length_append, List.length_cons, fr8_len] at hlen
    rw [fr8_len] at ht
    show (p.mid l).run (b :: (v ++ rest)) = _
    rw [PS.run, if_neg (fun hh => hn hh.2)]
    by_cases hv : v = []
    · subst hv
      have hw : wrd (l ++ [b]) = s := by rw [h]; exact wrd_frame hs
      have he : l.length + 1 = 8 + leN ((l ++ [b]).take 8) + padN (leN ((l ++ [b]).take 8)) := by
        rw [h3 (by simp at hlen; omega)]
        simp at hlen; omega
      have hst := step_end p l b hn (by omega) h1 h2 he
      rw [hw, if_neg (by omega)] at hst
      rw [hst, if_neg (by show ¬ (0 : Int) ≠ 0; decide)]
      have : l.length + 1 = (fr8 s).length := by rw [fr8_len]; simp at hlen; omega
      rw [this]
      rfl
    · have hvl : 1 ≤ v.length := by cases v with | nil => exact absurd rfl hv | cons _ _ => simp
      have hst : (p.mid l).step b = p.mid (l ++ [b]) := by
        refine step_go p l b hn (by omega) h1 h2 (fun he => ?_)
        by_cases h8 : 8 ≤ l.length + 1
        · rw [h3 h8] at he; omega
        · omega
      rw [hst, if_neg (by rw [mid_code]; decide)]
      exact run_frame p s hs hn (by rw [fr8_len]; exact ht) ha rest v (l ++ [b]) hv (by rw [← h]; simp)
end Go.Proofs.Ythlioedahoiahaa
namespace Go.Proofs.Ythlioedahoiahaa
open Go.RowKit

/-- These words are accepted, one behind the other. -/
def Ac : PC → List ByteArray → PC → Prop
  | c, [], d => d = c
  | c, s :: l, d => c.next ≠ 17 ∧ (c.accept s).1 = 0 ∧ Ac (c.accept s).2 l d
theorem Ac.app : ∀ (a b : List ByteArray) (c d e : PC), Ac c a d → Ac d b e → Ac c (a ++ b) e
  | [], b, c, d, e, h, h2 => by
    have h : d = c := h
    subst h
    exact h2
  | s :: a, b, c, d, e, h, h2 => ⟨h.1, h.2.1, Ac.app a b _ d e h.2.2 h2⟩
theorem Ac.one {c d : PC} {s : ByteArray} (hn : c.next ≠ 17) (h : c.accept s = (0, d)) : Ac c [s] d := ⟨hn, by rw [h], by show d = (c.accept s).2; rw [h]⟩
/-- The node T closed on what is open. -/
def cls (c : PC) (T : Tr) : PC := match c.op with
  | [] => ⟨17, [], T⟩
  | h :: R => ⟨16, h.kid T :: R, c.root⟩

theorem acc_on {n m : Int} {S : List ON} {r : Tr} {s : ByteArray} (h : bhP n s = (m, true)) (h1 : n ≠ 1) (h3 : n ≠ 3) (h7 : n ≠ 7) (h9 : n ≠ 9) (h14 : n ≠ 14) (hs : s ≠ wExec) (hm : m ≠ 16) : (⟨n, S, r⟩ : PC).accept s = (0, ⟨m, S, r⟩) := by
  unfold PC.accept
  rw [if_neg (show ¬ n = 7 from h7), if_neg (show ¬ n = 9 from h9), if_neg (show ¬ n = 14 from h14)]
  unfold PC.fixed
  dsimp only
  rw [h, if_neg (by simp), if_neg (fun hh => h1 hh.1), if_neg h1, if_neg h3, if_neg hs, if_neg hm]
  rfl
theorem acc_open {S : List ON} {r : Tr} (hd : S.length < 32) : (⟨1, S, r⟩ : PC).accept wOpen = (0, ⟨2, ON.new :: S, r⟩) := by
  have h : bhP 1 wOpen = (2, true) := by decide +kernel
  unfold PC.accept
  dsimp only
  rw [if_neg (by decide), if_neg (by decide), if_neg (by decide)]
  unfold PC.fixed
  dsimp only
  rw [h, if_neg (by simp), if_neg (by omega), if_pos rfl]
theorem acc_kind {S : List ON} {r : Tr} {o : ON} {s : ByteArray} {m k : Int} (h : bhP 3 s = (m, true)) (hk : kdP s = k) : (⟨3, o :: S, r⟩ : PC).accept s = (0, ⟨m, ⟨k, o.e, o.t, o.nms, o.ks, o.en⟩ :: S, r⟩) := by
  unfold PC.accept
  dsimp only
  rw [if_neg (by decide), if_neg (by decide), if_neg (by decide)]
  unfold PC.fixed
  dsimp only
  rw [h, if_neg (by simp), if_neg (fun hh => absurd hh.1 (by decide)), if_neg (by decide), if_pos rfl, hk]
  rfl
theorem acc_exec {S : List ON} {r : Tr} {o : ON} : (⟨4, o :: S, r⟩ : PC).accept wExec = (0, ⟨5, ⟨o.k, true, o.t, o.nms, o.ks, o.en⟩ :: S, r⟩) := by
  have h : bhP 4 wExec = (5, true) := by decide +kernel
  unfold PC.accept
  dsimp only
  rw [if_neg (by decide), if_neg (by decide), if_neg (by decide)]
  unfold PC.fixed
  dsimp only
  rw [h, if_neg (by simp), if_neg (fun hh => absurd hh.1 (by decide)), if_neg (by decide), if_neg (by decide), if_pos rfl]
  rfl
theorem acc_text {S : List ON} {r : Tr} {o : ON} (s : ByteArray) : (⟨7, o :: S, r⟩ : PC).accept s = (0, ⟨10, ⟨o.k, o.e, s, o.nms, o.ks, o.en⟩ :: S, r⟩) := by
  unfold PC.accept
  rw [if_pos rfl]
  rfl
theorem acc_target {S : List ON} {r : Tr} {o : ON} {s : ByteArray} (h : tgt s = 0) : (⟨9, o :: S, r⟩ : PC).accept s = (0, ⟨10, ⟨o.k, o.e, s, o.nms, o.ks, o.en⟩ :: S, r⟩) := by
  unfold PC.accept
  dsimp only
  rw [if_neg (by decide), if_pos rfl, if_neg (by omega)]
  rfl
theorem acc_ename {S : List ON} {r : Tr} {o : ON} {s : ByteArray} (h : ceP o.nms.getLast? s = 0) : (⟨14, o :: S, r⟩ : PC).accept s = (0, ⟨15, ⟨o.k, o.e, o.t, o.nms, o.ks, s⟩ :: S, r⟩) := by
  unfold PC.accept
  dsimp only
  rw [if_neg (by decide), if_neg (by decide), if_pos rfl]
  rw [if_neg (by omega)]
  rfl
theorem acc_close {n : Int} {S : List ON} {r : Tr} {o : ON} (hn : n = 10 ∨ n = 11) : (⟨n, o :: S, r⟩ : PC).accept wClose = (0, cls ⟨n, S, r⟩ o.tr) := by
  have hs : wClose ≠ wExec := by decide +kernel
  have h : bhP n wClose = (16, true) := by rcases hn with rfl | rfl <;> decide +kernel
  unfold PC.accept
  rw [if_neg (show ¬ n = 7 by omega), if_neg (show ¬ n = 9 by omega), if_neg (show ¬ n = 14 by omega)]
  unfold PC.fixed
  dsimp only
  rw [h, if_neg (by simp), if_neg (fun hh => by omega), if_neg (by omega), if_neg (by omega), if_neg hs, if_pos rfl]
  unfold PC.close cls
  cases S <;> rfl

theorem cls_op (n m : Int) (S : List ON) (r : Tr) (T : Tr) : cls ⟨n, S, r⟩ T = cls ⟨m, S, r⟩ T := by
  unfold cls
  cases S <;> rfl
theorem cfP_file {e : Bool} {t : ByteArray} {n : Nat} (h : cfP 1 e t n = 0) : n = 0 := by
  unfold cfP at h
  rw [if_pos rfl] at h
  by_cases h0 : 0 < n
  · rw [if_pos h0] at h; cases h
  · omega
theorem cfP_link {e : Bool} {t : ByteArray} {n : Nat} (h : cfP 2 e t n = 0) : e = false ∧ n = 0 ∧ tgt t = 0 := by
  unfold cfP at h
  rw [if_neg (by decide), if_pos rfl] at h
  by_cases h0 : e = true ∨ 0 < n
  · rw [if_pos h0] at h; cases h
  · rw [if_neg h0] at h
    refine ⟨?_, by omega, h⟩
    cases e
    · rfl
    · exact absurd (Or.inl rfl) h0
theorem cfP_dir {e : Bool} {t : ByteArray} {n : Nat} (h : cfP 3 e t n = 0) : e = false ∧ t = ⟨#[]⟩ := by
  unfold cfP at h
  rw [if_neg (by decide), if_neg (by decide), if_pos rfl] at h
  by_cases h0 : e = true ∨ t.size ≠ 0
  · rw [if_pos h0] at h; cases h
  · refine ⟨?_, ?_⟩
    · cases e
      · rfl
      · exact absurd (Or.inl rfl) h0
    · have hz : t.size = 0 := by
        by_cases hz : t.size = 0
        · exact hz
        · exact absurd (Or.inr hz) h0
      apply ByteArray.ext
      exact Array.eq_empty_of_size_eq_zero hz
theorem wfL_nil {ks : List Tr} (h : wfL [] ks) : ks = [] := by
  cases ks with
  | nil => rfl
  | cons T ks => exact absurd (wfL_len _ _ h) (by simp)

theorem ce_of {prev : Option ByteArray} {s : ByteArray} (h1 : chk s = 0) (h2 : ∀ s', prev = some s' → cmpB s' s < 0) : ceP prev s = 0 := by
  unfold ceP
  rw [if_neg (by omega)]
  cases prev with
  | none => rfl
  | some s' =>
    have := h2 s' rfl
    show (if 0 ≤ cmpB s' s then (64 : Int) else 0) = 0
    rw [if_neg (by omega)]
mutual
/-- A well-formed tree's words are accepted. -/
theorem ac_tree : ∀ (T : Tr) (ns : List ByteArray) (b : Int) (S : List ON) (r : Tr), (vT ns b T).off = none → wfT T → S.length = ns.length → Ac ⟨1, S, r⟩ (wdT T) (cls ⟨1, S, r⟩ T)
  | .mk k e t nms ks, ns, b, S, r, h, hw, hS => by
    obtain ⟨h1, h2, _, h4⟩ := NS.vT_parts h
    rw [wfT] at hw
    rw [wdT]
    have hhd : Ac ⟨1, S, r⟩ [wOpen, wType] ⟨3, ON.new :: S, r⟩ :=
      Ac.app [wOpen] [wType] _ _ _ (Ac.one (by show (1 : Int) ≠ 17; decide) (acc_open (by omega))) (Ac.one (by show (2 : Int) ≠ 17; decide) (acc_on (by decide +kernel) (by decide) (by decide) (by decide) (by decide) (by decide) (by decide +kernel) (by decide)))
    have htl : ∀ (n : Int) (o : ON), n = 10 ∨ n = 11 → o.tr = .mk k e t nms ks → Ac ⟨n, o :: S, r⟩ [wClose] (cls ⟨1, S, r⟩ (.mk k e t nms ks)) := fun n o hn ho => by
      refine Ac.one (by show n ≠ 17; omega) ?_
      rw [acc_close hn, ho, cls_op]
    rcases NS.cfP_kind h2 with rfl | rfl | rfl
    · have hz := cfP_file h2
      obtain rfl : nms = [] := List.length_eq_zero_iff.1 hz
      obtain rfl := wfL_nil hw
      rw [if_pos rfl]
      have hk : Ac ⟨3, ON.new :: S, r⟩ [wRegular] ⟨4, ⟨1, false, ⟨#[]⟩, [], [], ⟨#[]⟩⟩ :: S, r⟩ := Ac.one (by show (3 : Int) ≠ 17; decide) (acc_kind (o := ON.new) (by decide +kernel) (by decide +kernel))
      have hc : Ac ⟨if e then 6 else 4, ⟨1, e, ⟨#[]⟩, [], [], ⟨#[]⟩⟩ :: S, r⟩ [wContents, t] ⟨10, ⟨1, e, t, [], [], ⟨#[]⟩⟩ :: S, r⟩ := by
        refine Ac.app [wContents] [t] _ ⟨7, ⟨1, e, ⟨#[]⟩, [], [], ⟨#[]⟩⟩ :: S, r⟩ _ ?_ (Ac.one (by show (7 : Int) ≠ 17; decide) (acc_text (o := ⟨1, e, ⟨#[]⟩, [], [], ⟨#[]⟩⟩) t))
        cases e
        · exact Ac.one (by show (4 : Int) ≠ 17; decide) (acc_on (by decide +kernel) (by decide) (by decide) (by decide) (by decide) (by decide) (by decide +kernel) (by decide))
        · exact Ac.one (by show (6 : Int) ≠ 17; decide) (acc_on (by decide +kernel) (by decide) (by decide) (by decide) (by decide) (by decide) (by decide +kernel) (by decide))
      have hx : Ac ⟨4, ⟨1, false, ⟨#[]⟩, [], [], ⟨#[]⟩⟩ :: S, r⟩ (if e then [wExec, wNone] else []) ⟨if e then 6 else 4, ⟨1, e, ⟨#[]⟩, [], [], ⟨#[]⟩⟩ :: S, r⟩ := by
        cases e
        · exact rfl
        · exact Ac.app [wExec] [wNone] _ ⟨5, ⟨1, true, ⟨#[]⟩, [], [], ⟨#[]⟩⟩ :: S, r⟩ _ (Ac.one (by show (4 : Int) ≠ 17; decide) (acc_exec (o := ⟨1, false, ⟨#[]⟩, [], [], ⟨#[]⟩⟩))) (Ac.one (by show (5 : Int) ≠ 17; decide) (acc_on (by decide +kernel) (by decide) (by decide) (by decide) (by decide) (by decide) (by decide +kernel) (by decide)))
      exact Ac.app _ _ _ _ _ (Ac.app _ _ _ _ _ hhd (Ac.app _ _ _ _ _ (Ac.app _ _ _ _ _ hk hx) hc)) (htl 10 _ (Or.inl rfl) rfl)
    · obtain ⟨rfl, hz, htg⟩ := cfP_link h2
      obtain rfl : nms = [] := List.length_eq_zero_iff.1 hz
      obtain rfl := wfL_nil hw
      rw [if_neg (by decide), if_pos rfl]
      have hk : Ac ⟨3, ON.new :: S, r⟩ [wSymlink] ⟨8, ⟨2, false, ⟨#[]⟩, [], [], ⟨#[]⟩⟩ :: S, r⟩ := Ac.one (by show (3 : Int) ≠ 17; decide) (acc_kind (o := ON.new) (by decide +kernel) (by decide +kernel))
      have hc : Ac ⟨8, ⟨2, false, ⟨#[]⟩, [], [], ⟨#[]⟩⟩ :: S, r⟩ [wTarget, t] ⟨10, ⟨2, false, t, [], [], ⟨#[]⟩⟩ :: S, r⟩ :=
        Ac.app [wTarget] [t] _ ⟨9, ⟨2, false, ⟨#[]⟩, [], [], ⟨#[]⟩⟩ :: S, r⟩ _ (Ac.one (by show (8 : Int) ≠ 17; decide) (acc_on (by decide +kernel) (by decide) (by decide) (by decide) (by decide) (by decide) (by decide +kernel) (by decide))) (Ac.one (by show (9 : Int) ≠ 17; decide) (acc_target (o := ⟨2, false, ⟨#[]⟩, [], [], ⟨#[]⟩⟩) htg))
      exact Ac.app _ _ _ _ _ (Ac.app _ _ _ _ _ hhd (Ac.app [wSymlink] [wTarget, t] _ _ _ hk hc)) (htl 10 _ (Or.inl rfl) rfl)
    · obtain ⟨rfl, rfl⟩ := cfP_dir h2
      rw [if_neg (by decide), if_neg (by decide)]
      have hk : Ac ⟨3, ON.new :: S, r⟩ [wDirectory] ⟨11, ⟨3, false, ⟨#[]⟩, [], [], ⟨#[]⟩⟩ :: S, r⟩ := Ac.one (by show (3 : Int) ≠ 17; decide) (acc_kind (o := ON.new) (by decide +kernel) (by decide +kernel))
      obtain ⟨en, hks⟩ := ac_kids nms ks ns (b + nbP 3 false ⟨#[]⟩) ⟨3, false, ⟨#[]⟩, [], [], ⟨#[]⟩⟩ S r h4 hw hS
      exact Ac.app _ _ _ _ _ (Ac.app _ _ _ _ _ hhd (Ac.app _ _ _ _ _ hk hks)) (htl 11 _ (Or.inr rfl) rfl)
theorem ac_kids : ∀ (nms : List ByteArray) (ks : List Tr) (ns : List ByteArray) (b : Int) (o : ON) (S : List ON) (r : Tr), (vL ns b o.nms.getLast? nms ks).off = none → wfL nms ks → S.length = ns.length → ∃ en, Ac ⟨11, o :: S, r⟩ (wdL nms ks) ⟨11, ⟨o.k, o.e, o.t, o.nms ++ nms, o.ks ++ ks, en⟩ :: S, r⟩
  | [], [], ns, b, o, S, r, h, hw, hS => by
    refine ⟨o.en, ?_⟩
    rw [wdL]
    · show (⟨11, ⟨o.k, o.e, o.t, o.nms ++ [], o.ks ++ [], o.en⟩ :: S, r⟩ : PC) = ⟨11, o :: S, r⟩
      rw [List.append_nil, List.append_nil]
    · simp
  | s :: nms, T :: ks, ns, b, o, S, r, h, hw, hS => by
    obtain ⟨p1, p2, _, p4, p5⟩ := NS.vL_parts h
    rw [wfL] at hw
    have hT := ac_tree T (ns ++ [s]) (b + ebP s) (⟨o.k, o.e, o.t, o.nms, o.ks, s⟩ :: S) r p4 hw.1 (by simp; omega)
    have hg : (o.nms ++ [s]).getLast? = some s := by simp
    obtain ⟨en, hk⟩ := ac_kids nms ks ns (b + ebP s + tbT T) ⟨o.k, o.e, o.t, o.nms ++ [s], o.ks ++ [T], s⟩ S r (by show (vL ns _ (o.nms ++ [s]).getLast? nms ks).off = none; rw [hg]; exact p5) hw.2 hS
    refine ⟨en, ?_⟩
    rw [wdL]
    have e1 : o.nms ++ s :: nms = o.nms ++ [s] ++ nms := by simp
    have e2 : o.ks ++ T :: ks = o.ks ++ [T] ++ ks := by simp
    rw [e1, e2]
    have a1 : Ac ⟨11, o :: S, r⟩ [wEntry, wOpen, wName, s, wNode] ⟨1, ⟨o.k, o.e, o.t, o.nms, o.ks, s⟩ :: S, r⟩ :=
      Ac.app [wEntry] _ _ ⟨12, o :: S, r⟩ _ (Ac.one (by show (11 : Int) ≠ 17; decide) (acc_on (by decide +kernel) (by decide) (by decide) (by decide) (by decide) (by decide) (by decide +kernel) (by decide)))
        (Ac.app [wOpen] _ _ ⟨13, o :: S, r⟩ _ (Ac.one (by show (12 : Int) ≠ 17; decide) (acc_on (by decide +kernel) (by decide) (by decide) (by decide) (by decide) (by decide) (by decide +kernel) (by decide)))
        (Ac.app [wName] _ _ ⟨14, o :: S, r⟩ _ (Ac.one (by show (13 : Int) ≠ 17; decide) (acc_on (by decide +kernel) (by decide) (by decide) (by decide) (by decide) (by decide) (by decide +kernel) (by decide)))
        (Ac.app [s] [wNode] _ ⟨15, ⟨o.k, o.e, o.t, o.nms, o.ks, s⟩ :: S, r⟩ _ (Ac.one (by show (14 : Int) ≠ 17; decide) (acc_ename (ce_of p1 p2)))
        (Ac.one (by show (15 : Int) ≠ 17; decide) (acc_on (by decide +kernel) (by decide) (by decide) (by decide) (by decide) (by decide) (by decide +kernel) (by decide))))))
    have a3 : Ac (cls ⟨1, ⟨o.k, o.e, o.t, o.nms, o.ks, s⟩ :: S, r⟩ T) [wClose] ⟨11, ⟨o.k, o.e, o.t, o.nms ++ [s], o.ks ++ [T], s⟩ :: S, r⟩ := by
      show Ac ⟨16, ⟨o.k, o.e, o.t, o.nms ++ [s], o.ks ++ [T], s⟩ :: S, r⟩ [wClose] _
      exact Ac.one (by show (16 : Int) ≠ 17; decide) (acc_on (by decide +kernel) (by decide) (by decide) (by decide) (by decide) (by decide) (by decide +kernel) (by decide))
    exact Ac.app _ _ _ _ _ (Ac.app _ _ _ _ _ (Ac.app _ _ _ _ _ a1 hT) a3) hk
  | [], _ :: _, _, _, _, _, _, _, hw, _ => by simp [wfL] at hw
  | _ :: _, [], _, _, _, _, _, _, hw, _ => by simp [wfL] at hw
end
theorem ac_arc {T : Tr} (h : (vT [] 24 T).off = none) (hw : wfT T) : Ac PC.new (wMagic :: wdT T) ⟨17, [], T⟩ :=
  Ac.app [wMagic] _ _ ⟨1, [], .mk 0 false ⟨#[]⟩ [] []⟩ _ (Ac.one (by show (0 : Int) ≠ 17; decide) (acc_on (by decide +kernel) (by decide) (by decide) (by decide) (by decide) (by decide) (by decide +kernel) (by decide))) (ac_tree T [] 24 [] _ h hw rfl)
end Go.Proofs.Ythlioedahoiahaa
namespace Go.Proofs.Ythlioedahoiahaa
open Go.RowKit

theorem lek_range (n : Nat) : lek n 8 = (List.range 8).map (fun j => UInt8.ofNat (w8 (n : Int) j).toNat) := by
  have e : List.range 8 = [0, 1, 2, 3, 4, 5, 6, 7] := rfl
  rw [e]
  have h : ∀ j, (w8 (n : Int) j).toNat = n / 2 ^ (8 * j) % 256 := fun j => by
    unfold w8
    have h1 : ((n : Int) / 2 ^ (8 * j)) = ((n / 2 ^ (8 * j) : Nat) : Int) := by push_cast; rfl
    rw [h1]
    omega
  simp only [List.map_cons, List.map_nil, h, lek]
  simp only [Nat.div_div_eq_div_mul]
  simp
theorem txt_list (s : ByteArray) : (txt s).data.toList = fr8 s.data.toList := by
  have hz : s.data.toList.length = s.size := by rw [Array.length_toList]; rfl
  rw [← txt_eq]
  have h1 : (strFn 8 (w8 (s.size : Int))).data.toList = lek s.size 8 := by
    rw [lek_range]
    unfold strFn strOfNums
    simp
  have hp := padN_lt s.size
  have h2 : (n7.extract 0 (padN s.size)).data.toList = List.replicate (padN s.size) 0 := by
    have : padN s.size = 0 ∨ padN s.size = 1 ∨ padN s.size = 2 ∨ padN s.size = 3 ∨ padN s.size = 4 ∨ padN s.size = 5 ∨ padN s.size = 6 ∨ padN s.size = 7 := by omega
    rcases this with h | h | h | h | h | h | h | h <;> rw [h] <;> decide +kernel
  unfold fr8
  rw [ByteArray.data_append, ByteArray.data_append, Array.toList_append, Array.toList_append, h1, h2, hz, List.append_assoc]

/-- At the head of a word. -/
def PS.head (p : PS) : Prop := p = p.nxt 0 p.c
theorem head_mid {p : PS} (h : p.head) : p = p.mid [] := by
  unfold PS.head at h
  conv => lhs; rw [h]
  rfl
theorem nxt_head (p : PS) (n : Nat) (c : PC) : (p.nxt n c).head := rfl
theorem new_head (b : Bool) : (PS.new b).head := rfl
theorem nxt_nxt (p : PS) (n m : Nat) (c d : PC) : (p.nxt n c).nxt m d = p.nxt (n + m) d := by unfold PS.nxt; rw [Nat.add_assoc]

theorem run_words : ∀ (ws : List ByteArray) (p : PS) (d : PC) (rest : List UInt8), p.head → Ac p.c ws d → (∀ s ∈ ws, s.size ≤ 1048576) → p.taken + fwS ws ≤ 1048576 → p.run (frm ws ++ rest) = (p.nxt (fwS ws) d).run rest
  | [], p, d, rest, hp, ha, _, _ => by
    have ha : d = p.c := ha
    subst ha
    show p.run rest = (p.nxt 0 p.c).run rest
    rw [← hp]
  | s :: ws, p, d, rest, hp, ha, hs, ht => by
    have hz : s.data.toList.length = s.size := by rw [Array.length_toList]; rfl
    have hs1 := hs s (by simp)
    have hf : (fr8 s.data.toList).length = 8 + s.size + padN s.size := by rw [fr8_len, hz]
    have ht' : p.taken + (8 + s.size + padN s.size + fwS ws) ≤ 1048576 := ht
    have hba : NB.ba s.data.toList = s := NB.ba_list s
    show p.run ((txt s).data.toList ++ frm ws ++ rest) = _
    rw [txt_list, List.append_assoc]
    conv => lhs; rw [head_mid hp]
    rw [run_frame p s.data.toList (by omega) ha.1 (by omega) (by rw [hba]; exact ha.2.1) (frm ws ++ rest) (fr8 s.data.toList) [] (by intro e; rw [e] at hf; simp at hf; omega) rfl, hba, hf]
    have := run_words ws (p.nxt (8 + s.size + padN s.size) (p.c.accept s).2) d rest (nxt_head _ _ _) ha.2.2 (fun x hx => hs x (by simp [hx])) (by show p.taken + (8 + s.size + padN s.size) + fwS ws ≤ _; omega)
    rw [this, nxt_nxt]
    rfl
/-- A beginning of accepted words. -/
theorem run_begin : ∀ (ws : List ByteArray) (p : PS) (d : PC) (k : Nat), p.head → Ac p.c ws d → (∀ s ∈ ws, s.size ≤ 1048576) → p.taken + fwS ws ≤ 1048576 → k < fwS ws → (p.run ((frm ws).take k)).code = 0 ∧ (p.run ((frm ws).take k)).c.next ≠ 17 ∧ (p.run ((frm ws).take k)).taken = p.taken + k
  | [], p, d, k, hp, ha, _, _, hk => by
    change k < 0 at hk
    omega
  | s :: ws, p, d, k, hp, ha, hs, ht, hk => by
    have hz : s.data.toList.length = s.size := by rw [Array.length_toList]; rfl
    have hs1 := hs s (by simp)
    have hf : (fr8 s.data.toList).length = 8 + s.size + padN s.size := by rw [fr8_len, hz]
    have ht' : p.taken + (8 + s.size + padN s.size + fwS ws) ≤ 1048576 := ht
    have hk' : k < 8 + s.size + padN s.size + fwS ws := hk
    have hba : NB.ba s.data.toList = s := NB.ba_list s
    show (p.run (((txt s).data.toList ++ frm ws).take k)).code = 0 ∧ _
    rw [show frm (s :: ws) = (txt s).data.toList ++ frm ws from rfl, txt_list]
    by_cases hlt : k < (fr8 s.data.toList).length
    · rw [List.take_append_of_le_length (by omega)]
      have h1 := run_pre p s.data.toList (by omega) ha.1 (by omega) ((fr8 s.data.toList).take k) [] ((fr8 s.data.toList).drop k) (by intro e; have := congrArg List.length e; rw [List.length_drop] at this; simp at this; omega) (by simp)
      rw [← head_mid hp, List.nil_append] at h1
      rw [h1]
      refine ⟨rfl, ha.1, ?_⟩
      show p.taken + ((fr8 s.data.toList).take k).length = _
      rw [List.length_take]
      omega
    · have e : (fr8 s.data.toList ++ frm ws).take k = fr8 s.data.toList ++ (frm ws).take (k - (fr8 s.data.toList).length) := by
        rw [List.take_append, List.take_of_length_le (by omega)]
      rw [e]
      have h1 := run_frame p s.data.toList (by omega) ha.1 (by omega) (by rw [hba]; exact ha.2.1) ((frm ws).take (k - (fr8 s.data.toList).length)) (fr8 s.data.toList) [] (by intro e; rw [e] at hf; simp at hf; omega) rfl
      rw [← head_mid hp, hba] at h1
      rw [h1]
      have := run_begin ws (p.nxt (fr8 s.data.toList).length (p.c.accept s).2) d (k - (fr8 s.data.toList).length) (nxt_head _ _ _) ha.2.2 (fun x hx => hs x (by simp [hx])) (by show p.taken + (fr8 s.data.toList).length + fwS ws ≤ _; omega) (by omega)
      refine ⟨this.1, this.2.1, ?_⟩
      rw [this.2.2]
      show p.taken + (fr8 s.data.toList).length + _ = _
      omega

mutual
theorem wd_size : ∀ (T : Tr), okT T → ∀ s ∈ wdT T, s.size ≤ 1048576
  | .mk k e t nms ks, h => by
    rw [okT] at h
    obtain ⟨hk, _, ht, hL⟩ := h
    have c1 : wOpen.size ≤ 1048576 := by decide
    have c2 : wType.size ≤ 1048576 := by decide
    have c3 : wRegular.size ≤ 1048576 := by decide
    have c4 : wExec.size ≤ 1048576 := by decide
    have c5 : wNone.size ≤ 1048576 := by decide
    have c6 : wContents.size ≤ 1048576 := by decide
    have c7 : wSymlink.size ≤ 1048576 := by decide
    have c8 : wTarget.size ≤ 1048576 := by decide
    have c9 : wDirectory.size ≤ 1048576 := by decide
    have c10 : wClose.size ≤ 1048576 := by decide
    intro s hs
    rw [wdT] at hs
    simp only [List.mem_append, List.mem_cons, List.not_mem_nil, or_false] at hs
    rcases hs with ((rfl | rfl) | hs) | rfl
    · exact c1
    · exact c2
    · rcases hk with rfl | rfl | rfl
      · rw [if_pos rfl] at hs
        cases e
        · simp at hs
          rcases hs with rfl | rfl | rfl
          · exact c3
          · exact c6
          · exact ht
        · simp at hs
          rcases hs with rfl | rfl | rfl | rfl | rfl
          · exact c3
          · exact c4
          · exact c5
          · exact c6
          · exact ht
      · rw [if_neg (by decide), if_pos rfl] at hs
        simp at hs
        rcases hs with rfl | rfl | rfl
        · exact c7
        · exact c8
        · exact ht
      · rw [if_neg (by decide), if_neg (by decide)] at hs
        simp only [List.mem_append, List.mem_cons, List.not_mem_nil, or_false] at hs
        rcases hs with rfl | hs
        · exact c9
        · exact wd_sizeL nms ks hL s hs
    · exact c10
theorem wd_sizeL : ∀ (nms : List ByteArray) (ks : List Tr), okL nms ks → ∀ s ∈ wdL nms ks, s.size ≤ 1048576
  | n :: nms, T :: ks, h => by
    rw [okL] at h
    have c1 : wEntry.size ≤ 1048576 := by decide
    have c2 : wOpen.size ≤ 1048576 := by decide
    have c3 : wName.size ≤ 1048576 := by decide
    have c4 : wNode.size ≤ 1048576 := by decide
    have c5 : wClose.size ≤ 1048576 := by decide
    intro s hs
    rw [wdL] at hs
    simp only [List.mem_append, List.mem_cons, List.not_mem_nil, or_false] at hs
    rcases hs with (((rfl | rfl | rfl | rfl | rfl) | hs) | rfl) | hs
    · exact c1
    · exact c2
    · exact c3
    · exact h.1
    · exact c4
    · exact wd_size T h.2.1 s hs
    · exact c5
    · exact wd_sizeL nms ks h.2.2 s hs
  | [], [], _ => by rw [wdL]; simp; simp
  | [], _ :: _, _ => by rw [wdL]; simp; simp
  | _ :: _, [], _ => by rw [wdL]; simp; simp
end

/-- A well-formed tree's archive: what holds of its words. -/
theorem arc_facts {T : Tr} (hs : smT T) (hw : wfT T) (h : (ckT T).2 = 0) : Ac PC.new (wMagic :: wdT T) ⟨17, [], T⟩ ∧ (∀ s ∈ wMagic :: wdT T, s.size ≤ 1048576) ∧ fwS (wMagic :: wdT T) ≤ 1048576 ∧ (fwS (wMagic :: wdT T) : Int) = 24 + tbT T := by
  have hoff := ckT_off h
  have ho := NS.ok_tree T [] 24 hoff hs hw
  have h1 := fw_tree T ho
  have h3 : 8 + wMagic.size + padN wMagic.size = 24 := by decide +kernel
  have h4 : fwS (wMagic :: wdT T) = 24 + fwS (wdT T) := by show 8 + wMagic.size + padN wMagic.size + fwS (wdT T) = _; omega
  have h5 := vT_bytes [] 24 T hoff
  have h6 := (vT_bd [] 24 T hoff (by decide) (by decide)).2
  refine ⟨ac_arc hoff hw, fun s hs' => ?_, by omega, by omega⟩
  rcases List.mem_cons.1 hs' with rfl | hs'
  · decide
  · exact wd_size T ho s hs'
theorem arc_len (T : Tr) : (arcT T).length = fwS (wMagic :: wdT T) := frm_len _
/-- Behind a whole archive. -/
def arcS (b : Bool) (T : Tr) : PS := ⟨(arcT T).length, 0, 0, 0, b, false, 0, [], ⟨17, [], T⟩⟩
theorem run_arc {T : Tr} (hs : smT T) (hw : wfT T) (h : (ckT T).2 = 0) (b : Bool) (rest : List UInt8) : (PS.new b).run (arcT T ++ rest) = (arcS b T).run rest := by
  obtain ⟨a1, a2, a3, _⟩ := arc_facts hs hw h
  have := run_words (wMagic :: wdT T) (PS.new b) ⟨17, [], T⟩ rest (new_head b) a1 a2 (by show 0 + fwS (wMagic :: wdT T) ≤ _; omega)
  unfold arcT
  rw [this]
  congr 1
  unfold arcS
  rw [arc_len]
  unfold PS.nxt
  show (⟨0 + _, 0, 0, 0, b, false, 0, [], _⟩ : PS) = _
  rw [Nat.zero_add]
theorem arcS_part (T : Tr) (rest : List UInt8) : (arcS true T).run rest = arcS true T := by
  cases rest with
  | nil => rfl
  | cons b l => rw [PS.run]; exact if_pos ⟨rfl, rfl⟩
theorem arcS_trail (T : Tr) (b : UInt8) (rest : List UInt8) : (arcS false T).run (b :: rest) = (arcS false T).sf 5 (arcT T).length := by
  have e : (arcS false T).take b = ((5, ((arcT T).length : Int)), arcS false T) := if_pos rfl
  have hst : (arcS false T).step b = (arcS false T).sf 5 (arcT T).length := by rw [PS.step_bad (by rw [e]; show (5 : Int) ≠ 0; decide), e]
  rw [PS.run, if_neg (fun hh => by cases hh.1), hst, if_pos (by show (5 : Int) ≠ 0; decide)]
theorem run_short {T : Tr} (hs : smT T) (hw : wfT T) (h : (ckT T).2 = 0) (b : Bool) (k : Nat) (hk : k < (arcT T).length) : ((PS.new b).run ((arcT T).take k)).code = 0 ∧ ((PS.new b).run ((arcT T).take k)).c.next ≠ 17 ∧ ((PS.new b).run ((arcT T).take k)).taken = k := by
  obtain ⟨a1, a2, a3, _⟩ := arc_facts hs hw h
  have := run_begin (wMagic :: wdT T) (PS.new b) ⟨17, [], T⟩ k (new_head b) a1 a2 (by show 0 + fwS (wMagic :: wdT T) ≤ _; omega) (by rw [← arc_len]; exact hk)
  refine ⟨this.1, this.2.1, ?_⟩
  have h3 := this.2.2
  have : (PS.new b).taken = 0 := rfl
  unfold arcT
  omega

/-- Feeding piece by piece is feeding the whole. -/
theorem run_app : ∀ (a b : List UInt8) (p : PS), p.code = 0 → p.closed = false → p.run (a ++ b) = (p.run a).feed b
  | [], b, p, hc, hl => by
    show p.run b = p.feed b
    unfold PS.feed
    rw [if_neg (by rw [hl, hc]; simp)]
  | x :: a, b, p, hc, hl => by
    show p.run (x :: (a ++ b)) = (p.run (x :: a)).feed b
    rw [PS.run, PS.run]
    by_cases h1 : p.part = true ∧ p.c.next = 17
    · rw [if_pos h1, if_pos h1]
      unfold PS.feed
      rw [if_neg (by rw [hl, hc]; simp)]
      cases b with
      | nil => rfl
      | cons y b => rw [PS.run, if_pos h1]
    · rw [if_neg h1, if_neg h1]
      by_cases h2 : (p.step x).code ≠ 0
      · rw [if_pos h2, if_pos h2]
        unfold PS.feed
        rw [if_pos (Or.inr h2)]
      · rw [if_neg h2, if_neg h2]
        have hcl : (p.step x).closed = false := by
          by_cases h0 : (p.take x).1.1 = 0
          · rw [PS.step_ok h0]; exact (p.take_keep x).2.2.1.trans hl
          · rw [PS.step_bad h0]; exact (p.take_keep x).2.2.1.trans hl
        exact run_app a b (p.step x) (by omega) hcl
end Go.Proofs.Ythlioedahoiahaa
namespace Go.Proofs.Ythlioedahoiahaa
open Go.RowKit

/-- Behind the kids of a directory. -/
def dirW (nms : List ByteArray) (ks : List Tr) : List ByteArray := [wOpen, wType, wDirectory] ++ wdL nms ks
def fileW (e : Bool) : List ByteArray := [wOpen, wType, wRegular] ++ (if e then [wExec, wNone] else [])
theorem wdL_snoc : ∀ (nms : List ByteArray) (ks : List Tr) (s : ByteArray) (T : Tr), nms.length = ks.length → wdL (nms ++ [s]) (ks ++ [T]) = wdL nms ks ++ [wEntry, wOpen, wName, s, wNode] ++ wdT T ++ [wClose]
  | [], [], s, T, _ => by
    show wdL (s :: []) (T :: []) = wdL [] [] ++ _ ++ _ ++ _
    rw [wdL, wdL]
    · simp
    · simp
  | n :: nms, K :: ks, s, T, h => by
    show wdL (n :: (nms ++ [s])) (K :: (ks ++ [T])) = _
    rw [wdL, wdL, wdL_snoc nms ks s T (by simpa using h)]
    simp
  | [], _ :: _, _, _, h => by simp at h
  | _ :: _, [], _, _, h => by simp at h
mutual
/-- A node with d nodes open above it may stand where it stands. -/
def gdT (d : Nat) : Tr → Prop
  | .mk k e t nms ks => d < 32 ∧ cfP k e t nms.length = 0 ∧ t.size ≤ 1048576 ∧ gdL d none nms ks
def gdL (d : Nat) (prev : Option ByteArray) : List ByteArray → List Tr → Prop
  | [], [] => True
  | s :: nms, T :: ks => chk s = 0 ∧ (∀ s', prev = some s' → cmpB s' s < 0) ∧ s.size ≤ 1048576 ∧ gdT (d + 1) T ∧ gdL d (some s) nms ks
  | _, _ => False
end
theorem gdL_len (d : Nat) : ∀ (nms : List ByteArray) (ks : List Tr) (prev : Option ByteArray), gdL d prev nms ks → nms.length = ks.length
  | [], [], _, _ => rfl
  | s :: nms, T :: ks, prev, h => by
    rw [gdL] at h
    have := gdL_len d nms ks _ h.2.2.2.2
    simp [this]
  | [], _ :: _, _, h => by simp [gdL] at h
  | _ :: _, [], _, h => by simp [gdL] at h
theorem gdL_snoc (d : Nat) (s : ByteArray) (T : Tr) (h1 : chk s = 0) (h3 : s.size ≤ 1048576) (h4 : gdT (d + 1) T) : ∀ (nms : List ByteArray) (ks : List Tr) (prev : Option ByteArray), gdL d prev nms ks → (∀ s', ((prev.toList ++ nms).getLast?) = some s' → cmpB s' s < 0) → gdL d prev (nms ++ [s]) (ks ++ [T])
  | [], [], prev, _, h2 => by
    show gdL d prev (s :: []) (T :: [])
    rw [gdL, gdL]
    refine ⟨h1, fun s' e => h2 s' (by rw [e]; rfl), h3, h4, trivial⟩
  | n :: nms, K :: ks, prev, h, h2 => by
    rw [gdL] at h
    show gdL d prev (n :: (nms ++ [s])) (K :: (ks ++ [T]))
    rw [gdL]
    refine ⟨h.1, h.2.1, h.2.2.1, h.2.2.2.1, gdL_snoc d s T h1 h3 h4 nms ks _ h.2.2.2.2 (fun s' e => h2 s' ?_)⟩
    rw [← e]
    cases prev <;> simp
  | [], _ :: _, _, h, _ => by simp [gdL] at h
  | _ :: _, [], _, h, _ => by simp [gdL] at h
/-- A directory of which some kids have come. -/
structure DirO (d : Nat) (o : ON) : Prop where
  k : o.k = 3
  e : o.e = false
  t : o.t = ⟨#[]⟩
  dp : d < 32
  ok : gdL d none o.nms o.ks
/-- Its next entry's name. -/
structure NamO (o : ON) (s : ByteArray) : Prop where
  ck : chk s = 0
  sz : s.size ≤ 1048576
  lt : ∀ s', o.nms.getLast? = some s' → cmpB s' s < 0
/-- The words ahead of the node that is read, with the nodes that are open above it. -/
inductive Out : List ON → List ByteArray → Prop
  | nil : Out [] [wMagic]
  | cons (h : ON) (S : List ON) (ws : List ByteArray) : Out S ws → DirO S.length h → NamO h h.en → Out (h :: S) (ws ++ dirW h.nms h.ks ++ [wEntry, wOpen, wName, h.en, wNode])
/-- The words read so far. -/
inductive Wd : PC → List ByteArray → Prop
  | n0 (r : Tr) : Wd ⟨0, [], r⟩ []
  | n1 (S : List ON) (ws : List ByteArray) (r : Tr) : Out S ws → Wd ⟨1, S, r⟩ ws
  | n2 (S : List ON) (ws : List ByteArray) (r : Tr) : Out S ws → S.length < 32 → Wd ⟨2, ⟨0, false, ⟨#[]⟩, [], [], ⟨#[]⟩⟩ :: S, r⟩ (ws ++ [wOpen])
  | n3 (S : List ON) (ws : List ByteArray) (r : Tr) : Out S ws → S.length < 32 → Wd ⟨3, ⟨0, false, ⟨#[]⟩, [], [], ⟨#[]⟩⟩ :: S, r⟩ (ws ++ [wOpen, wType])
  | n4 (S : List ON) (ws : List ByteArray) (r : Tr) : Out S ws → S.length < 32 → Wd ⟨4, ⟨1, false, ⟨#[]⟩, [], [], ⟨#[]⟩⟩ :: S, r⟩ (ws ++ [wOpen, wType, wRegular])
  | n5 (S : List ON) (ws : List ByteArray) (r : Tr) : Out S ws → S.length < 32 → Wd ⟨5, ⟨1, true, ⟨#[]⟩, [], [], ⟨#[]⟩⟩ :: S, r⟩ (ws ++ [wOpen, wType, wRegular, wExec])
  | n6 (S : List ON) (ws : List ByteArray) (r : Tr) : Out S ws → S.length < 32 → Wd ⟨6, ⟨1, true, ⟨#[]⟩, [], [], ⟨#[]⟩⟩ :: S, r⟩ (ws ++ [wOpen, wType, wRegular, wExec, wNone])
  | n7 (S : List ON) (ws : List ByteArray) (r : Tr) (e : Bool) : Out S ws → S.length < 32 → Wd ⟨7, ⟨1, e, ⟨#[]⟩, [], [], ⟨#[]⟩⟩ :: S, r⟩ (ws ++ fileW e ++ [wContents])
  | n8 (S : List ON) (ws : List ByteArray) (r : Tr) : Out S ws → S.length < 32 → Wd ⟨8, ⟨2, false, ⟨#[]⟩, [], [], ⟨#[]⟩⟩ :: S, r⟩ (ws ++ [wOpen, wType, wSymlink])
  | n9 (S : List ON) (ws : List ByteArray) (r : Tr) : Out S ws → S.length < 32 → Wd ⟨9, ⟨2, false, ⟨#[]⟩, [], [], ⟨#[]⟩⟩ :: S, r⟩ (ws ++ [wOpen, wType, wSymlink, wTarget])
  | n10f (S : List ON) (ws : List ByteArray) (r : Tr) (e : Bool) (t : ByteArray) : Out S ws → S.length < 32 → t.size ≤ 1048576 → Wd ⟨10, ⟨1, e, t, [], [], ⟨#[]⟩⟩ :: S, r⟩ (ws ++ fileW e ++ [wContents, t])
  | n10l (S : List ON) (ws : List ByteArray) (r : Tr) (t : ByteArray) : Out S ws → S.length < 32 → t.size ≤ 1048576 → tgt t = 0 → Wd ⟨10, ⟨2, false, t, [], [], ⟨#[]⟩⟩ :: S, r⟩ (ws ++ [wOpen, wType, wSymlink, wTarget, t])
  | n11 (S : List ON) (ws : List ByteArray) (r : Tr) (o : ON) : Out S ws → DirO S.length o → Wd ⟨11, o :: S, r⟩ (ws ++ dirW o.nms o.ks)
  | n12 (S : List ON) (ws : List ByteArray) (r : Tr) (o : ON) : Out S ws → DirO S.length o → Wd ⟨12, o :: S, r⟩ (ws ++ dirW o.nms o.ks ++ [wEntry])
  | n13 (S : List ON) (ws : List ByteArray) (r : Tr) (o : ON) : Out S ws → DirO S.length o → Wd ⟨13, o :: S, r⟩ (ws ++ dirW o.nms o.ks ++ [wEntry, wOpen])
  | n14 (S : List ON) (ws : List ByteArray) (r : Tr) (o : ON) : Out S ws → DirO S.length o → Wd ⟨14, o :: S, r⟩ (ws ++ dirW o.nms o.ks ++ [wEntry, wOpen, wName])
  | n15 (S : List ON) (ws : List ByteArray) (r : Tr) (o : ON) : Out S ws → DirO S.length o → NamO o o.en → Wd ⟨15, o :: S, r⟩ (ws ++ dirW o.nms o.ks ++ [wEntry, wOpen, wName, o.en])
  | n16 (S : List ON) (ws us : List ByteArray) (r : Tr) (o : ON) : Out S ws → DirO S.length o → us ++ [wClose] = ws ++ dirW o.nms o.ks → Wd ⟨16, o :: S, r⟩ us
  | n17 (T : Tr) : gdT 0 T → Wd ⟨17, [], T⟩ (wMagic :: wdT T)
theorem Wd.cast {c : PC} {a b : List ByteArray} (h : Wd c a) (e : a = b) : Wd c b := e ▸ h
/-- A node closed. -/
theorem wd_cls {n : Int} {S : List ON} {ws us : List ByteArray} {r T : Tr} (h : Out S ws) (hg : gdT S.length T) (e : us = ws ++ wdT T) : Wd (cls ⟨n, S, r⟩ T) us := by
  cases h with
  | nil => rw [e]; exact Wd.n17 T hg
  | cons h S ws h1 h2 h3 =>
    show Wd ⟨16, h.kid T :: S, r⟩ us
    have hl := gdL_len _ _ _ _ h2.ok
    refine Wd.n16 S ws us r _ h1 ⟨h2.k, h2.e, h2.t, h2.dp, ?_⟩ ?_
    · exact gdL_snoc _ _ _ h3.ck h3.sz hg _ _ _ h2.ok (fun s' e => h3.lt s' (by simpa using e))
    · show us ++ [wClose] = ws ++ ([wOpen, wType, wDirectory] ++ wdL (h.nms ++ [h.en]) (h.ks ++ [T]))
      rw [e, wdL_snoc _ _ _ _ hl]
      unfold dirW
      simp
theorem gd_file {d : Nat} {e : Bool} {t : ByteArray} (hd : d < 32) (ht : t.size ≤ 1048576) : gdT d (.mk 1 e t [] []) := by
  rw [gdT, gdL]
  exact ⟨hd, by rfl, ht, trivial⟩
theorem gd_link {d : Nat} {t : ByteArray} (hd : d < 32) (ht : t.size ≤ 1048576) (hg : tgt t = 0) : gdT d (.mk 2 false t [] []) := by
  rw [gdT, gdL]
  exact ⟨hd, by unfold cfP; simpa using hg, ht, trivial⟩
theorem gd_dir {d : Nat} {o : ON} (h : DirO d o) : gdT d o.tr := by
  obtain ⟨k, e, t, nms, ks, en⟩ := o
  obtain ⟨h1, h2, h3, h4, h5⟩ := h
  change k = 3 at h1
  change e = false at h2
  change t = ⟨#[]⟩ at h3
  subst h1 h2 h3
  show gdT d (.mk 3 false ⟨#[]⟩ nms ks)
  rw [gdT]
  exact ⟨h4, by unfold cfP; simp [ByteArray.size], by simp [ByteArray.size], h5⟩
theorem wd_dir {d : Nat} {o : ON} (h : DirO d o) : wdT o.tr = dirW o.nms o.ks ++ [wClose] := by
  obtain ⟨k, e, t, nms, ks, en⟩ := o
  have h1 : k = 3 := h.k
  subst h1
  show wdT (.mk 3 e t nms ks) = _
  rw [wdT]
  unfold dirW
  simp
theorem ce_parts {prev : Option ByteArray} {s : ByteArray} (h : ceP prev s = 0) : chk s = 0 ∧ ∀ s', prev = some s' → cmpB s' s < 0 := by
  unfold ceP at h
  by_cases h1 : chk s = 0
  · rw [if_neg (by omega)] at h
    refine ⟨h1, fun s' e => ?_⟩
    subst e
    change (if 0 ≤ cmpB s' s then (64 : Int) else 0) = 0 at h
    by_cases h2 : 0 ≤ cmpB s' s
    · rw [if_pos h2] at h; cases h
    · omega
  · rw [if_pos h1] at h; exact absurd h h1
theorem fix_bh {c : PC} {s : ByteArray} (h7 : c.next ≠ 7) (h9 : c.next ≠ 9) (h14 : c.next ≠ 14) (h : (c.accept s).1 = 0) : (bhP c.next s).2 = true := by
  unfold PC.accept at h
  rw [if_neg h7, if_neg h9, if_neg h14] at h
  unfold PC.fixed at h
  by_cases hb : (bhP c.next s).2 = false
  · rw [if_pos hb] at h; cases h
  · cases hh : (bhP c.next s).2
    · exact absurd hh hb
    · rfl
theorem fix_deep {S : List ON} {r : Tr} {s : ByteArray} (h : ((⟨1, S, r⟩ : PC).accept s).1 = 0) : S.length ≠ 32 := fun hl => by
  have hb := fix_bh (c := ⟨1, S, r⟩) (by show (1 : Int) ≠ 7; decide) (by show (1 : Int) ≠ 9; decide) (by show (1 : Int) ≠ 14; decide) h
  unfold PC.accept at h
  rw [if_neg (show ¬ (1 : Int) = 7 by decide), if_neg (show ¬ (1 : Int) = 9 by decide), if_neg (show ¬ (1 : Int) = 14 by decide)] at h
  unfold PC.fixed at h
  rw [if_neg (by rw [hb]; simp), if_pos ⟨rfl, hl⟩] at h
  cases h
/-- What may stand behind n. -/
theorem bh_at (n : Int) (s : ByteArray) (h : (bhP n s).2 = true) (n1 : n ≠ 1) : (n = 0 → s = wMagic) ∧ (n = 2 → s = wType) ∧ (n = 3 → s = wRegular ∨ s = wSymlink ∨ s = wDirectory) ∧ (n = 4 → s = wExec ∨ s = wContents) ∧ (n = 5 → s = wNone) ∧ (n = 6 → s = wContents) ∧ (n = 8 → s = wTarget) ∧ (n = 10 → s = wClose) ∧ (n = 11 → s = wClose ∨ s = wEntry) ∧ (n = 12 → s = wOpen) ∧ (n = 13 → s = wName) ∧ (n = 15 → s = wNode) ∧ (n = 16 → s = wClose) ∧ n ≠ 17 := by
  rcases bh_cases h with hh | hh | hh | hh | hh | hh | hh | hh | hh | hh | hh | hh | hh | hh | hh | hh | hh | hh <;> obtain ⟨rfl, rfl, _⟩ := hh <;> simp at n1 ⊢
theorem bh_one (s : ByteArray) (h : (bhP 1 s).2 = true) : s = wOpen := by
  rcases bh_cases h with hh | hh | hh | hh | hh | hh | hh | hh | hh | hh | hh | hh | hh | hh | hh | hh | hh | hh <;> obtain ⟨h1, rfl, _⟩ := hh <;> simp at h1 ⊢

theorem wd_accept {c : PC} {ws : List ByteArray} {s : ByteArray} (h : Wd c ws) (hs : s.size ≤ 1048576) (h0 : (c.accept s).1 = 0) (hn : c.next ≠ 17) : Wd (c.accept s).2 (ws ++ [s]) := by
  cases h with
  | n0 r =>
    have hb := (bh_at _ _ (fix_bh (c := ⟨0, [], r⟩) (by show (0 : Int) ≠ 7; decide) (by show (0 : Int) ≠ 9; decide) (by show (0 : Int) ≠ 14; decide) h0) (by show (0 : Int) ≠ 1; decide)).1 rfl
    subst hb
    rw [acc_on (by decide +kernel) (by decide) (by decide) (by decide) (by decide) (by decide) (by decide +kernel) (by decide) (m := 1)]
    exact Wd.n1 [] _ r Out.nil
  | n1 S ws r hO =>
    have hb := bh_one _ (fix_bh (c := ⟨1, S, r⟩) (by show (1 : Int) ≠ 7; decide) (by show (1 : Int) ≠ 9; decide) (by show (1 : Int) ≠ 14; decide) h0)
    have hd := fix_deep h0
    subst hb
    by_cases hlt : S.length < 32
    · rw [acc_open hlt]
      exact Wd.n2 S ws r hO hlt
    · exfalso
      cases hO with
      | nil => exact hlt (by decide)
      | cons h S ws h1 h2 h3 => have := h2.dp; simp at hd hlt; omega
  | n2 S ws r hO hd =>
    have hb := (bh_at _ _ (fix_bh (c := ⟨2, _, r⟩) (by show (2 : Int) ≠ 7; decide) (by show (2 : Int) ≠ 9; decide) (by show (2 : Int) ≠ 14; decide) h0) (by show (2 : Int) ≠ 1; decide)).2.1 rfl
    subst hb
    rw [acc_on (by decide +kernel) (by decide) (by decide) (by decide) (by decide) (by decide) (by decide +kernel) (by decide) (m := 3)]
    exact (Wd.n3 S ws r hO hd).cast (by simp)
  | n3 S ws r hO hd =>
    have hb := (bh_at _ _ (fix_bh (c := ⟨3, _, r⟩) (by show (3 : Int) ≠ 7; decide) (by show (3 : Int) ≠ 9; decide) (by show (3 : Int) ≠ 14; decide) h0) (by show (3 : Int) ≠ 1; decide)).2.2.1 rfl
    rcases hb with rfl | rfl | rfl
    · rw [acc_kind (m := 4) (k := 1) (by decide +kernel) (by decide +kernel)]
      exact (Wd.n4 S ws r hO hd).cast (by simp)
    · rw [acc_kind (m := 8) (k := 2) (by decide +kernel) (by decide +kernel)]
      exact (Wd.n8 S ws r hO hd).cast (by simp)
    · rw [acc_kind (m := 11) (k := 3) (by decide +kernel) (by decide +kernel)]
      refine (Wd.n11 S ws r _ hO ⟨rfl, rfl, rfl, hd, ?_⟩).cast ?_
      · show gdL S.length none [] []
        rw [gdL]; trivial
      · show ws ++ ([wOpen, wType, wDirectory] ++ wdL [] []) = _
        rw [wdL]
        · simp
        · simp
  | n4 S ws r hO hd =>
    have hb := (bh_at _ _ (fix_bh (c := ⟨4, _, r⟩) (by show (4 : Int) ≠ 7; decide) (by show (4 : Int) ≠ 9; decide) (by show (4 : Int) ≠ 14; decide) h0) (by show (4 : Int) ≠ 1; decide)).2.2.2.1 rfl
    rcases hb with rfl | rfl
    · rw [acc_exec]
      exact (Wd.n5 S ws r hO hd).cast (by simp)
    · rw [acc_on (by decide +kernel) (by decide) (by decide) (by decide) (by decide) (by decide) (by decide +kernel) (by decide) (m := 7)]
      exact (Wd.n7 S ws r false hO hd).cast (by simp [fileW])
  | n5 S ws r hO hd =>
    have hb := (bh_at _ _ (fix_bh (c := ⟨5, _, r⟩) (by show (5 : Int) ≠ 7; decide) (by show (5 : Int) ≠ 9; decide) (by show (5 : Int) ≠ 14; decide) h0) (by show (5 : Int) ≠ 1; decide)).2.2.2.2.1 rfl
    subst hb
    rw [acc_on (by decide +kernel) (by decide) (by decide) (by decide) (by decide) (by decide) (by decide +kernel) (by decide) (m := 6)]
    exact (Wd.n6 S ws r hO hd).cast (by simp)
  | n6 S ws r hO hd =>
    have hb := (bh_at _ _ (fix_bh (c := ⟨6, _, r⟩) (by show (6 : Int) ≠ 7; decide) (by show (6 : Int) ≠ 9; decide) (by show (6 : Int) ≠ 14; decide) h0) (by show (6 : Int) ≠ 1; decide)).2.2.2.2.2.1 rfl
    subst hb
    rw [acc_on (by decide +kernel) (by decide) (by decide) (by decide) (by decide) (by decide) (by decide +kernel) (by decide) (m := 7)]
    exact (Wd.n7 S ws r true hO hd).cast (by simp [fileW])
  | n7 S ws r e hO hd =>
    rw [acc_text]
    exact (Wd.n10f S ws r e s hO hd hs).cast (by simp)
  | n8 S ws r hO hd =>
    have hb := (bh_at _ _ (fix_bh (c := ⟨8, _, r⟩) (by show (8 : Int) ≠ 7; decide) (by show (8 : Int) ≠ 9; decide) (by show (8 : Int) ≠ 14; decide) h0) (by show (8 : Int) ≠ 1; decide)).2.2.2.2.2.2.1 rfl
    subst hb
    rw [acc_on (by decide +kernel) (by decide) (by decide) (by decide) (by decide) (by decide) (by decide +kernel) (by decide) (m := 9)]
    exact (Wd.n9 S ws r hO hd).cast (by simp)
  | n9 S ws r hO hd =>
    have ht : tgt s = 0 := by
      unfold PC.accept at h0
      rw [if_neg (show ¬ (9 : Int) = 7 by decide), if_pos (show (9 : Int) = 9 from rfl)] at h0
      by_cases ht : tgt s ≠ 0
      · rw [if_pos ht] at h0; exact absurd h0 ht
      · omega
    rw [acc_target ht]
    exact (Wd.n10l S ws r s hO hd hs ht).cast (by simp)
  | n10f S ws r e t hO hd ht =>
    have hb := (bh_at _ _ (fix_bh (c := ⟨10, _, r⟩) (by show (10 : Int) ≠ 7; decide) (by show (10 : Int) ≠ 9; decide) (by show (10 : Int) ≠ 14; decide) h0) (by show (10 : Int) ≠ 1; decide)).2.2.2.2.2.2.2.1 rfl
    subst hb
    rw [acc_close (Or.inl rfl)]
    refine wd_cls hO (gd_file hd ht) ?_
    show _ = ws ++ wdT (.mk 1 e t [] [])
    rw [wdT]
    simp [fileW]
  | n10l S ws r t hO hd ht hg =>
    have hb := (bh_at _ _ (fix_bh (c := ⟨10, _, r⟩) (by show (10 : Int) ≠ 7; decide) (by show (10 : Int) ≠ 9; decide) (by show (10 : Int) ≠ 14; decide) h0) (by show (10 : Int) ≠ 1; decide)).2.2.2.2.2.2.2.1 rfl
    subst hb
    rw [acc_close (Or.inl rfl)]
    refine wd_cls hO (gd_link hd ht hg) ?_
    show _ = ws ++ wdT (.mk 2 false t [] [])
    rw [wdT]
    simp
  | n11 S ws r o hO hD =>
    have hb := (bh_at _ _ (fix_bh (c := ⟨11, _, r⟩) (by show (11 : Int) ≠ 7; decide) (by show (11 : Int) ≠ 9; decide) (by show (11 : Int) ≠ 14; decide) h0) (by show (11 : Int) ≠ 1; decide)).2.2.2.2.2.2.2.2.1 rfl
    rcases hb with rfl | rfl
    · rw [acc_close (Or.inr rfl)]
      refine wd_cls hO (gd_dir hD) ?_
      rw [wd_dir hD]
      simp
    · rw [acc_on (by decide +kernel) (by decide) (by decide) (by decide) (by decide) (by decide) (by decide +kernel) (by decide) (m := 12)]
      exact (Wd.n12 S ws r o hO hD).cast (by simp)
  | n12 S ws r o hO hD =>
    have hb := (bh_at _ _ (fix_bh (c := ⟨12, _, r⟩) (by show (12 : Int) ≠ 7; decide) (by show (12 : Int) ≠ 9; decide) (by show (12 : Int) ≠ 14; decide) h0) (by show (12 : Int) ≠ 1; decide)).2.2.2.2.2.2.2.2.2.1 rfl
    subst hb
    rw [acc_on (by decide +kernel) (by decide) (by decide) (by decide) (by decide) (by decide) (by decide +kernel) (by decide) (m := 13)]
    exact (Wd.n13 S ws r o hO hD).cast (by simp)
  | n13 S ws r o hO hD =>
    have hb := (bh_at _ _ (fix_bh (c := ⟨13, _, r⟩) (by show (13 : Int) ≠ 7; decide) (by show (13 : Int) ≠ 9; decide) (by show (13 : Int) ≠ 14; decide) h0) (by show (13 : Int) ≠ 1; decide)).2.2.2.2.2.2.2.2.2.2.1 rfl
    subst hb
    rw [acc_on (by decide +kernel) (by decide) (by decide) (by decide) (by decide) (by decide) (by decide +kernel) (by decide) (m := 14)]
    exact (Wd.n14 S ws r o hO hD).cast (by simp)
  | n14 S ws r o hO hD =>
    have hc : ceP o.nms.getLast? s = 0 := by
      unfold PC.accept at h0
      rw [if_neg (show ¬ (14 : Int) = 7 by decide), if_neg (show ¬ (14 : Int) = 9 by decide), if_pos (show (14 : Int) = 14 from rfl)] at h0
      dsimp only at h0
      by_cases ht : ceP o.nms.getLast? s ≠ 0
      · rw [if_pos ht] at h0; exact absurd h0 ht
      · omega
    rw [acc_ename hc]
    obtain ⟨c1, c2⟩ := ce_parts hc
    exact (Wd.n15 S ws r ⟨o.k, o.e, o.t, o.nms, o.ks, s⟩ hO ⟨hD.k, hD.e, hD.t, hD.dp, hD.ok⟩ ⟨c1, hs, c2⟩).cast (by simp)
  | n15 S ws r o hO hD hN =>
    have hb := (bh_at _ _ (fix_bh (c := ⟨15, _, r⟩) (by show (15 : Int) ≠ 7; decide) (by show (15 : Int) ≠ 9; decide) (by show (15 : Int) ≠ 14; decide) h0) (by show (15 : Int) ≠ 1; decide)).2.2.2.2.2.2.2.2.2.2.2.1 rfl
    subst hb
    rw [acc_on (by decide +kernel) (by decide) (by decide) (by decide) (by decide) (by decide) (by decide +kernel) (by decide) (m := 1)]
    exact (Wd.n1 (o :: S) _ r (Out.cons o S ws hO hD hN)).cast (by simp)
  | n16 S ws us r o hO hD he =>
    have hb := (bh_at _ _ (fix_bh (c := ⟨16, _, r⟩) (by show (16 : Int) ≠ 7; decide) (by show (16 : Int) ≠ 9; decide) (by show (16 : Int) ≠ 14; decide) h0) (by show (16 : Int) ≠ 1; decide)).2.2.2.2.2.2.2.2.2.2.2.2.1 rfl
    subst hb
    rw [acc_on (by decide +kernel) (by decide) (by decide) (by decide) (by decide) (by decide) (by decide +kernel) (by decide) (m := 11)]
    exact (Wd.n11 S ws r o hO hD).cast he.symm
  | n17 T hg => exact absurd rfl hn

/-- What has come in, told by words. -/
def Rd (p : PS) (u : List UInt8) : Prop := ∃ (ws : List ByteArray) (l : List UInt8) (P : PS), Wd P.c ws ∧ p = P.mid l ∧ P.taken = (frm ws).length ∧ u = frm ws ++ l ∧ (∀ x ∈ l.drop (8 + leN (l.take 8)), x = 0) ∧ (P.c.next = 17 → l = [])
theorem lek_leN : ∀ l : List UInt8, lek (leN l) l.length = l
  | [] => rfl
  | b :: l => by
    have hb := b.toNat_lt
    show UInt8.ofNat ((b.toNat + 256 * leN l) % 256) :: lek ((b.toNat + 256 * leN l) / 256) l.length = b :: l
    have e1 : (b.toNat + 256 * leN l) % 256 = b.toNat := by omega
    have e2 : (b.toNat + 256 * leN l) / 256 = leN l := by omega
    rw [e1, e2, lek_leN l]
    simp
theorem zeros_rep {l : List UInt8} (h : ∀ x ∈ l, x = 0) : l = List.replicate l.length 0 := List.eq_replicate_iff.2 ⟨rfl, h⟩
theorem frame_of {l : List UInt8} (he : l.length = 8 + leN (l.take 8) + padN (leN (l.take 8))) (hz : ∀ x ∈ l.drop (8 + leN (l.take 8)), x = 0) : l = fr8 (wrd l) ∧ (wrd l).length = leN (l.take 8) := by
  have h8 : (l.take 8).length = 8 := by rw [List.length_take]; omega
  have hw : (wrd l).length = leN (l.take 8) := by unfold wrd; rw [List.length_take, List.length_drop]; omega
  refine ⟨?_, hw⟩
  have h1 := lek_leN (l.take 8)
  rw [h8] at h1
  have h2 : l.drop (8 + leN (l.take 8)) = List.replicate (padN (leN (l.take 8))) 0 := by
    have := zeros_rep hz
    rw [List.length_drop] at this
    rw [this]
    congr 1
    omega
  unfold fr8
  rw [hw, h1, ← h2]
  unfold wrd
  rw [← List.drop_drop, List.take_append_drop, List.take_append_drop]
theorem take_ok {p : PS} {b : UInt8} (h : (p.step b).code = 0) : (p.take b).1.1 = 0 := by
  by_cases h0 : (p.take b).1.1 = 0
  · exact h0
  · rw [PS.step_bad h0] at h
    exact absurd h h0
theorem take_parts {p : PS} {b : UInt8} (h : (p.take b).1.1 = 0) : p.c.next ≠ 17 ∧ p.taken ≠ 1048576 ∧ (p.put b).1.1 = 0 := by
  unfold PS.take at h
  by_cases h1 : p.c.next = 17
  · rw [if_pos h1] at h; cases h
  rw [if_neg h1] at h
  by_cases h2 : p.taken = 1048576
  · rw [if_pos h2] at h; cases h
  rw [if_neg h2] at h
  by_cases h3 : (p.put b).1.1 ≠ 0
  · rw [if_pos h3] at h; exact absurd h h3
  · exact ⟨h1, h2, by omega⟩
theorem put_parts {P : PS} {l : List UInt8} {b : UInt8} (h : ((P.mid l).put b).1.1 = 0) (ht : (P.mid l).text.length = min (l.length - 8) (leN (l.take 8))) : (l.length = 7 → leN (l ++ [b]) ≤ 1048576) ∧ (8 ≤ l.length → leN (l.take 8) ≤ l.length - 8 → b = 0) := by
  unfold PS.put at h
  refine ⟨fun h7 => ?_, fun h8 hle => ?_⟩
  · have hn : (P.mid l).nl b = leN (l ++ [b]) := by
      unfold PS.nl PS.mid
      show leN (l.take 8) + b.toNat * 2 ^ (8 * l.length) = _
      rw [List.take_of_length_le (by omega), leN_snoc]
    rw [if_pos (show (P.mid l).held < 8 by show l.length < 8; omega)] at h
    by_cases hg : (P.mid l).held = 7 ∧ 1048576 < (P.mid l).nl b
    · rw [if_pos hg] at h; cases h
    · rw [hn] at hg
      have : ¬ 1048576 < leN (l ++ [b]) := fun hh => hg ⟨h7, hh⟩
      omega
  · rw [if_neg (show ¬ (P.mid l).held < 8 by show ¬ l.length < 8; omega), if_neg (by rw [ht]; show ¬ min (l.length - 8) (leN (l.take 8)) < leN (l.take 8); omega)] at h
    by_cases hb : b = 0
    · exact hb
    · rw [if_pos hb] at h; cases h
theorem Rd.step {p : PS} {u : List UInt8} {b : UInt8} (hI : PI p) (h : Rd p u) (h0 : (p.step b).code = 0) : Rd (p.step b) (u ++ [b]) := by
  obtain ⟨ws, l, P, h1, rfl, h3, rfl, h5, h6⟩ := h
  obtain ⟨t1, t2, t3⟩ := take_parts (take_ok h0)
  change P.c.next ≠ 17 at t1
  have t2' : P.taken + l.length ≠ 1048576 := t2
  have htk : P.taken + l.length ≤ 1048576 := hI.tk
  have htx : (P.mid l).text.length = min (l.length - 8) (leN (l.take 8)) := by
    show ((l.drop 8).take (leN (l.take 8))).length = _
    rw [List.length_take, List.length_drop]
    omega
  obtain ⟨p1, p2⟩ := put_parts t3 htx
  have hln : 8 ≤ l.length → leN (l.take 8) ≤ 1048576 ∧ l.length < 8 + leN (l.take 8) + padN (leN (l.take 8)) := fun h8 => ⟨(hI.l8 h8).1, (hI.l8 h8).2.2⟩
  have hz : ∀ x ∈ (l ++ [b]).drop (8 + leN ((l ++ [b]).take 8)), x = 0 := by
    by_cases h8 : 8 ≤ l.length
    · rw [List.take_append_of_le_length h8]
      by_cases hle : 8 + leN (l.take 8) ≤ l.length
      · rw [List.drop_append_of_le_length hle]
        intro x hx
        rcases List.mem_append.1 hx with hx | hx
        · exact h5 x hx
        · rw [List.mem_singleton.1 hx]; exact p2 h8 (by omega)
      · rw [List.drop_of_length_le (by rw [List.length_append]; show l.length + 1 ≤ _; omega)]
        intro x hx; cases hx
    · rw [List.drop_of_length_le (by rw [List.length_append]; show l.length + 1 ≤ _; omega)]
      intro x hx; cases hx
  by_cases he : l.length + 1 = 8 + leN ((l ++ [b]).take 8) + padN (leN ((l ++ [b]).take 8))
  · have hst := step_end P l b t1 (by omega) p1 p2 he
    obtain ⟨f1, f2⟩ := frame_of (l := l ++ [b]) (by rw [List.length_append]; exact he) hz
    have hn : leN ((l ++ [b]).take 8) ≤ 1048576 := by
      by_cases h8 : 8 ≤ l.length
      · rw [List.take_append_of_le_length h8]; exact (hln h8).1
      · rw [List.take_of_length_le (by rw [List.length_append]; show l.length + 1 ≤ 8; omega)]; exact p1 (by omega)
    by_cases ha : (P.c.accept (NB.ba (wrd (l ++ [b])))).1 ≠ 0
    · rw [if_pos ha] at hst
      rw [hst] at h0
      exact absurd h0 ha
    · rw [if_neg ha] at hst
      rw [hst]
      have hs : (NB.ba (wrd (l ++ [b]))).size ≤ 1048576 := by rw [NB.ba_size, f2]; exact hn
      have hfr : frm (ws ++ [NB.ba (wrd (l ++ [b]))]) = frm ws ++ (l ++ [b]) := by
        rw [frm_app]
        show frm ws ++ ((txt _).data.toList ++ []) = _
        rw [txt_list, List.append_nil]
        congr 1
        show fr8 (NB.ba (wrd (l ++ [b]))).data.toList = _
        have : (NB.ba (wrd (l ++ [b]))).data.toList = wrd (l ++ [b]) := by simp [NB.ba]
        rw [this]
        exact f1.symm
      refine ⟨ws ++ [NB.ba (wrd (l ++ [b]))], [], P.nxt (l.length + 1) (P.c.accept (NB.ba (wrd (l ++ [b])))).2, wd_accept h1 hs (by omega) t1, head_mid (nxt_head _ _ _), ?_, ?_, fun x hx => by simp at hx, fun _ => rfl⟩
      · show P.taken + (l.length + 1) = _
        rw [hfr, List.length_append, List.length_append, h3]
        rfl
      · rw [hfr]; simp
  · have hst := step_go P l b t1 (by omega) p1 p2 he
    rw [hst]
    exact ⟨ws, l ++ [b], P, h1, rfl, h3, by simp, hz, fun hh => absurd hh t1⟩
theorem Rd.run : ∀ (v : List UInt8) (p : PS) (u : List UInt8), p.part = false → PI p → Rd p u → (p.run v).code = 0 → Rd (p.run v) (u ++ v)
  | [], p, u, _, _, h, _ => by rw [List.append_nil]; exact h
  | b :: v, p, u, hp, hI, h, h0 => by
    rw [PS.run_cons, if_neg (fun hh => by rw [hp] at hh; cases hh.1)] at h0 ⊢
    by_cases hc : (p.step b).code ≠ 0
    · rw [if_pos hc] at h0; exact absurd h0 hc
    · rw [if_neg hc] at h0 ⊢
      have hst := hI.step b (by omega)
      have hpt : (p.step b).part = false := by
        have h1 := take_ok (p := p) (b := b) (by omega)
        rw [PS.step_ok h1]
        exact (p.take_keep b).2.1.trans hp
      have := Rd.run v (p.step b) (u ++ [b]) hpt hst.1 (h.step hI (by omega)) h0
      rw [List.append_assoc] at this
      exact this
theorem Rd.new (b : Bool) : Rd (PS.new b) [] := ⟨[], [], PS.new b, Wd.n0 _, head_mid (new_head b), rfl, rfl, fun x hx => by simp at hx, fun _ => rfl⟩

theorem ebP_nn (s : ByteArray) : 0 ≤ ebP s := (ebP_bd s).1
mutual
theorem tbT_nn : ∀ T : Tr, 0 ≤ tbT T
  | .mk k e t nms ks => by
    rw [tbT]
    have := (nbP_bd k e t).1
    have := tbL_nn nms ks
    omega
theorem tbL_nn : ∀ (nms : List ByteArray) (ks : List Tr), 0 ≤ tbL nms ks
  | s :: nms, T :: ks => by
    rw [tbL]
    have := ebP_nn s
    have := tbT_nn T
    have := tbL_nn nms ks
    omega
  | [], [] => by rw [tbL] <;> simp
  | [], _ :: _ => by rw [tbL] <;> simp
  | _ :: _, [] => by rw [tbL] <;> simp
end

mutual
theorem gd_off : ∀ (T : Tr) (ns : List ByteArray) (b : Int), gdT ns.length T → 0 ≤ b → b + tbT T ≤ 1048576 → (vT ns b T).off = none
  | .mk k e t nms ks, ns, b, h, h0, hb => by
    rw [gdT] at h
    rw [tbT] at hb
    have hn := nbP_bd k e t
    have hl := tbL_nn nms ks
    rw [vT, if_neg (by omega), if_neg (by rw [h.2.1]; decide), if_neg (by omega)]
    exact gd_offL nms ks ns (b + nbP k e t) none h.2.2.2 (by omega) (by omega)
theorem gd_offL : ∀ (nms : List ByteArray) (ks : List Tr) (ns : List ByteArray) (b : Int) (prev : Option ByteArray), gdL ns.length prev nms ks → 0 ≤ b → b + tbL nms ks ≤ 1048576 → (vL ns b prev nms ks).off = none
  | s :: nms, T :: ks, ns, b, prev, h, h0, hb => by
    rw [gdL] at h
    rw [tbL] at hb
    have hl := tbL_nn nms ks
    have hT := tbT_nn T
    have he := ebP_nn s
    have hoff := gd_off T (ns ++ [s]) (b + ebP s) (by simpa using h.2.2.2.1) (by omega) (by omega)
    have hby := vT_bytes (ns ++ [s]) (b + ebP s) T hoff
    have heo : entO prev s b = 0 := by
      unfold entO
      cases prev with
      | none =>
        show entC 1 s s b = 0
        unfold entC
        rw [if_neg (by rw [h.1]; decide), if_neg (by omega), if_neg (by omega)]
      | some s' =>
        have := h.2.1 s' rfl
        show entC 2 s' s b = 0
        unfold entC
        rw [if_neg (by rw [h.1]; decide), if_neg (by omega), if_neg (by omega)]
    rw [vL, if_neg (by rw [heo]; decide), hoff]
    show (vL ns (vT (ns ++ [s]) (b + ebP s) T).bytes (some s) nms ks).off = none
    rw [hby]
    exact gd_offL nms ks ns _ (some s) h.2.2.2.2 (by omega) (by omega)
  | [], [], ns, b, prev, _, _, _ => by rw [vL]; simp
  | [], _ :: _, _, _, _, h, _, _ => by simp [gdL] at h
  | _ :: _, [], _, _, _, h, _, _ => by simp [gdL] at h
end
mutual
theorem gd_facts : ∀ (T : Tr) (d : Nat), gdT d T → okT T ∧ smT T ∧ wfT T
  | .mk k e t nms ks, d, h => by
    rw [gdT] at h
    obtain ⟨f1, f2, f3⟩ := gd_factsL nms ks d none h.2.2.2
    have hc := h.2.1
    have hlen := gdL_len _ _ _ _ h.2.2.2
    rw [okT, smT, wfT]
    refine ⟨⟨?_, fun hk => ?_, h.2.2.1, f1⟩, ⟨h.2.2.1, f2⟩, f3⟩
    · unfold cfP at hc
      by_cases k1 : k = 1
      · exact Or.inl k1
      rw [if_neg k1] at hc
      by_cases k2 : k = 2
      · exact Or.inr (Or.inl k2)
      rw [if_neg k2] at hc
      by_cases k3 : k = 3
      · exact Or.inr (Or.inr k3)
      rw [if_neg k3] at hc
      cases hc
    · have h0 : nms.length = 0 := by
        unfold cfP at hc
        by_cases k1 : k = 1
        · rw [if_pos k1] at hc
          by_cases hh : 0 < nms.length
          · rw [if_pos hh] at hc; cases hc
          · omega
        rw [if_neg k1] at hc
        by_cases k2 : k = 2
        · rw [if_pos k2] at hc
          by_cases hh : e = true ∨ 0 < nms.length
          · rw [if_pos hh] at hc; cases hc
          · omega
        rw [if_neg k2, if_neg hk] at hc
        cases hc
      exact ⟨List.length_eq_zero_iff.1 h0, List.length_eq_zero_iff.1 (by omega)⟩
theorem gd_factsL : ∀ (nms : List ByteArray) (ks : List Tr) (d : Nat) (prev : Option ByteArray), gdL d prev nms ks → okL nms ks ∧ smL nms ks ∧ wfL nms ks
  | s :: nms, T :: ks, d, prev, h => by
    rw [gdL] at h
    obtain ⟨a1, a2, a3⟩ := gd_facts T (d + 1) h.2.2.2.1
    obtain ⟨b1, b2, b3⟩ := gd_factsL nms ks d (some s) h.2.2.2.2
    rw [okL, smL, wfL]
    exact ⟨⟨h.2.2.1, a1, b1⟩, ⟨h.2.2.1, a2, b2⟩, a3, b3⟩
  | [], [], _, _, _ => by
    refine ⟨?_, ?_, ?_⟩
    · rw [okL]
      · trivial
      · simp
    · rw [smL]
      · trivial
      · simp
    · rw [wfL]; trivial
  | [], _ :: _, _, _, h => by simp [gdL] at h
  | _ :: _, [], _, _, h => by simp [gdL] at h
end
/-- Whatever is read whole is its tree's archive. -/
theorem prs_arc {l : List UInt8} (hc : (prs l).code = 0) (hn : (prs l).c.next = 17) : l = arcT (prs l).c.root ∧ smT (prs l).c.root ∧ wfT (prs l).c.root ∧ (ckT (prs l).c.root).2 = 0 := by
  have hI := (prs_inv l).1 hc
  have hR : Rd (prs l) l := by
    rw [prs_run] at hc ⊢
    have := Rd.run l (PS.new false) [] rfl (PI.new false) (Rd.new false) hc
    exact this
  obtain ⟨ws, v, P, h1, h2, h3, h4, h5, h6⟩ := hR
  have hP : P.c = (prs l).c := by rw [h2]; rfl
  have hv := h6 (by rw [hP]; exact hn)
  subst hv
  rw [List.append_nil] at h4
  rw [hP] at h1
  have hT : ∃ T, (prs l).c.root = T ∧ gdT 0 T ∧ ws = wMagic :: wdT T := by
    generalize (prs l).c = c at h1 hn
    cases h1 with
    | n17 T hg => exact ⟨T, rfl, hg, rfl⟩
    | n0 | n1 | n2 | n3 | n4 | n5 | n6 | n7 | n8 | n9 | n10f | n10l | n11 | n12 | n13 | n14 | n15 | n16 => simp at hn
  obtain ⟨T, e, hg, hw⟩ := hT
  rw [e]
  obtain ⟨f1, f2, f3⟩ := gd_facts T 0 hg
  have hlen : l.length ≤ 1048576 := by
    have h7 := hI.tk
    have h8 : (prs l).taken = P.taken + 0 := by rw [h2]; rfl
    rw [h4]
    omega
  have hl : l = arcT T := by rw [h4, hw]; rfl
  refine ⟨hl, f2, f3, ?_⟩
  have h9 := fw_tree T f1
  have h10 : fwS (wMagic :: wdT T) = 24 + fwS (wdT T) := by
    have : 8 + wMagic.size + padN wMagic.size = 24 := by decide +kernel
    show 8 + wMagic.size + padN wMagic.size + fwS (wdT T) = _
    omega
  have h11 : l.length = fwS (wMagic :: wdT T) := by rw [hl, arc_len]
  have hoff := gd_off T [] 24 hg (by decide) (by omega)
  unfold ckT
  rw [hoff]

theorem ends_fat {q : PS} (h : q.ends.1.1 ≠ 0) : q.ends.1.2 = (q.taken : Int) - q.held := by
  unfold PS.ends at h ⊢
  by_cases he : q.held + 1 ≠ 8 + q.len + padN q.len
  · rw [if_pos he] at h; exact absurd rfl h
  rw [if_neg he] at h ⊢
  by_cases ha : (q.c.accept (NB.ba q.text)).1 ≠ 0
  · rw [if_pos ha]
  · rw [if_neg ha] at h; exact absurd rfl h
theorem put_fat (p : PS) (b : UInt8) : ((p.put b).1.1 ≠ 0 → (p.put b).1.2 = (p.taken : Int) ∨ (p.put b).1.2 = (p.taken : Int) - p.held) ∧ (p.put b).2.taken = p.taken ∧ (p.put b).2.held = p.held := by
  unfold PS.put
  by_cases h1 : p.held < 8
  · rw [if_pos h1]
    by_cases h2 : p.held = 7 ∧ 1048576 < p.nl b
    · rw [if_pos h2]; exact ⟨fun _ => Or.inr rfl, rfl, rfl⟩
    · rw [if_neg h2]; exact ⟨fun _ => Or.inl (by simp_all), rfl, rfl⟩
  rw [if_neg h1]
  by_cases h3 : p.text.length < p.len
  · rw [if_pos h3]; exact ⟨fun h => absurd rfl h, rfl, rfl⟩
  rw [if_neg h3]
  by_cases h4 : b ≠ 0
  · rw [if_pos h4]; exact ⟨fun _ => Or.inl rfl, rfl, rfl⟩
  · rw [if_neg h4]; exact ⟨fun h => absurd rfl h, rfl, rfl⟩
theorem take_fat {p : PS} {b : UInt8} (h : (p.take b).1.1 ≠ 0) : (p.take b).1.2 = (p.taken : Int) ∨ (p.take b).1.2 = (p.taken : Int) - p.held := by
  unfold PS.take at h ⊢
  by_cases h1 : p.c.next = 17
  · rw [if_pos h1]; exact Or.inl rfl
  rw [if_neg h1] at h ⊢
  by_cases h2 : p.taken = 1048576
  · rw [if_pos h2]; exact Or.inl rfl
  rw [if_neg h2] at h ⊢
  obtain ⟨f1, f2, f3⟩ := put_fat p b
  by_cases h3 : (p.put b).1.1 ≠ 0
  · rw [if_pos h3]; exact f1 h3
  · rw [if_neg h3] at h ⊢
    rw [ends_fat h, f2, f3]
    exact Or.inr rfl
theorem run_fat : ∀ (l : List UInt8) (p : PS), PI p → p.code = 0 → (p.run l).code ≠ 0 → 0 ≤ (p.run l).fat ∧ (p.run l).fat ≤ p.taken + l.length
  | [], p, _, hc, h => absurd hc h
  | b :: l, p, hI, hc, h => by
    rw [PS.run_cons] at h ⊢
    have hd := hI.hd
    by_cases h1 : p.part = true ∧ p.c.next = 17
    · rw [if_pos h1] at h; exact absurd hc h
    rw [if_neg h1] at h ⊢
    by_cases h2 : (p.step b).code ≠ 0
    · rw [if_pos h2]
      by_cases h0 : (p.take b).1.1 = 0
      · rw [PS.step_ok h0] at h2; exact absurd rfl h2
      · rw [PS.step_bad h0]
        have hf := take_fat h0
        show 0 ≤ (p.take b).1.2 ∧ (p.take b).1.2 ≤ _
        rw [List.length_cons]
        rcases hf with hf | hf <;> rw [hf] <;> omega
    · rw [if_neg h2] at h ⊢
      have hst := hI.step b (by omega)
      have := run_fat l (p.step b) hst.1 (by omega) h
      rw [hst.2] at this
      rw [List.length_cons]
      omega
/-- What Parse answers: the tree of this archive, or a fault at a place within. -/
theorem prs_ans (l : List UInt8) : ((prs l).ansF = (0, 0) ∧ (prs l).ansT = (prs l).c.root ∧ l = arcT (prs l).c.root ∧ smT (prs l).c.root ∧ wfT (prs l).c.root ∧ (ckT (prs l).c.root).2 = 0 ∧ lnT (prs l).c.root) ∨ ((prs l).ansF.1 ≠ 0 ∧ 0 ≤ (prs l).ansF.2 ∧ (prs l).ansF.2 ≤ l.length ∧ (prs l).ansT = .mk 0 false ⟨#[]⟩ [] []) := by
  obtain ⟨i1, i2, i3⟩ := prs_inv l
  by_cases hc : (prs l).code = 0
  · by_cases hn : (prs l).c.next = 17
    · obtain ⟨a1, a2⟩ := fin_whole hc hn
      obtain ⟨r1, r2, r3, r4⟩ := prs_arc hc hn
      exact Or.inl ⟨a2, a1, r1, r2, r3, r4, i2.rt⟩
    · have e : (prs l).fin = ((prs l).sf 4 (prs l).taken).shut := by unfold PS.fin; rw [if_pos ⟨hc, hn⟩]
      have hc4 : (prs l).fin.code ≠ 0 := by rw [e]; show (4 : Int) ≠ 0; decide
      have e1 : (prs l).ansF = (4, ((prs l).taken : Int)) := by
        unfold PS.ansF
        rw [if_pos hc4, e]
        rfl
      have e2 : (prs l).ansT = .mk 0 false ⟨#[]⟩ [] [] := by unfold PS.ansT; rw [if_pos hc4]
      rw [e1, e2]
      exact Or.inr ⟨by show (4 : Int) ≠ 0; decide, by show (0 : Int) ≤ ((prs l).taken : Int); omega, by show ((prs l).taken : Int) ≤ _; omega, rfl⟩
  · have e : (prs l).fin = (prs l).shut := by unfold PS.fin; rw [if_neg (fun h => hc h.1)]
    have hc4 : (prs l).fin.code ≠ 0 := by rw [e]; exact hc
    have e1 : (prs l).ansF = ((prs l).code, (prs l).fat) := by unfold PS.ansF; rw [if_pos hc4, e]; rfl
    have e2 : (prs l).ansT = .mk 0 false ⟨#[]⟩ [] [] := by unfold PS.ansT; rw [if_pos hc4]
    have hf : 0 ≤ (prs l).fat ∧ (prs l).fat ≤ (0 : Nat) + l.length := by
      rw [prs_run] at hc ⊢
      exact run_fat l (PS.new false) (PI.new false) rfl hc
    rw [e1, e2]
    exact Or.inr ⟨hc, hf.1, by show (prs l).fat ≤ _; omega, rfl⟩
end Go.Proofs.Ythlioedahoiahaa
namespace Go.Proofs.Ythlioedahoiahaa
open Go.RowKit

/-- Two blocks with a node and a fault. -/
theorem two_blk (w : World) (T : Tr) (v : Value) (F1 F2 : Int) : St ((w.alloc (.cells #[.int .i64 T.k, .bool T.e, .string T.t, v] 37)).alloc (.cells #[.int .i64 F1, .int .i64 F2] 26)) w.heap.size [.int .i64 T.k, .bool T.e, .string T.t, v] ∧ St ((w.alloc (.cells #[.int .i64 T.k, .bool T.e, .string T.t, v] 37)).alloc (.cells #[.int .i64 F1, .int .i64 F2] 26)) (w.heap.size + 1) [.int .i64 F1, .int .i64 F2] ∧ Below w.heap.size w ((w.alloc (.cells #[.int .i64 T.k, .bool T.e, .string T.t, v] 37)).alloc (.cells #[.int .i64 F1, .int .i64 F2] 26)) := by
  refine ⟨(St.new w _ _).same (by simp only [World.size_alloc]; omega) (Below.heap_alloc _ _ _ (by rw [World.size_alloc]; omega)), ?_, ((Below.refl _ _).alloc (Nat.le_refl _) _).alloc (by rw [World.size_alloc]; omega) _⟩
  have := St.new (w.alloc (.cells #[.int .i64 T.k, .bool T.e, .string T.t, v] 37)) #[.int .i64 F1, .int .i64 F2] 26
  rw [World.size_alloc] at this
  exact this
theorem at_zero (w : World) : At w 1 (.agg #[.int .i64 0, .bool false, .string ⟨#[]⟩, .slice none 0 0]) (.mk 0 false ⟨#[]⟩ [] []) := ⟨none, 0, 0, rfl, rfl, rfl, Nat.le_refl _, by decide, Or.inl rfl⟩
theorem ln_zero : lnT (.mk 0 false ⟨#[]⟩ [] []) := by rw [lnT]; exact ⟨by decide, by rw [lnL]; trivial⟩

end Go.Proofs.Ythlioedahoiahaa
namespace Go.Proofs.Ythlioedahoiahaa.DW
open Go.RowKit
open NB (ba ba_size bt_ba)

theorem le_lt (l : List UInt8) : leN l < 256 ^ l.length := by
  induction l with
  | nil => exact Nat.one_pos
  | cons b l ih =>
    have hb := b.toNat_lt
    show b.toNat + 256 * leN l < 256 ^ (l.length + 1)
    rw [Nat.pow_succ]
    omega

/-- How many of the padding's bytes that are there are noughts, from the first on. -/
def zeros (z : List UInt8) : Nat := (z.takeWhile (· == 0)).length

theorem le8_lt (l : List UInt8) (h : l.length = 8) : leN l < 18446744073709551616 := by
  have := le_lt l
  rw [h] at this
  exact this

theorem le_drop (l : List UInt8) (k : Nat) (h : k < l.length) : leN (l.drop k) = (l.getD k 0).toNat + 256 * leN (l.drop (k + 1)) := by
  rw [List.drop_eq_getElem_cons h, List.getD_eq_getElem?_getD, List.getElem?_eq_getElem h]
  rfl
theorem le_drop_lt (l : List UInt8) (h8 : l.length = 8) (k : Nat) (hk : k < 8) : 256 * leN (l.drop (k + 1)) + (l.getD k 0).toNat < 18446744073709551616 := by
  have h1 := le_lt (l.drop k)
  rw [le_drop l k (by omega), List.length_drop, h8] at h1
  have h2 : 256 ^ (8 - k) ≤ 256 ^ 8 := Nat.pow_le_pow_right (by decide) (by omega)
  have h3 : (256 : Nat) ^ 8 = 18446744073709551616 := by decide
  omega

set_option maxHeartbeats 1000000 in
theorem num_any (tl : List UInt8) (at_ : Nat) (w : World) (hl : tl.length ≤ 1073741824) (ha : at_ + 8 ≤ tl.length) :
    Calls Try.prog 43 #[.string (ba tl), .int .i64 (at_ : Int)] w fun e w' => e = .returned (.int .u64 (leN ((tl.drop at_).take 8) : Int)) ∧ w' = w := by
  have hsz := ba_size tl
  have hg : ∀ (n : Nat) (h : n < (ba tl).size), (((ba tl)[n]'h).toNat : Int) = bt (ba tl) n := get_bt (ba tl)
  obtain ⟨l8, h8⟩ : ∃ l8, (tl.drop at_).take 8 = l8 := ⟨_, rfl⟩
  have hl8 : l8.length = 8 := by rw [← h8, List.length_take, List.length_drop]; omega
  have HB : Hid (∀ (k : Nat) (h : k < 8), bt (ba tl) (at_ + k) = ((l8.getD k 0).toNat : Int)) := fun k h => by
    have hk8 : k < l8.length := by omega
    subst h8
    rw [bt_ba _ _ (by omega), List.getD_eq_getElem?_getD, List.getElem?_eq_getElem hk8, List.getElem_take, List.getElem_drop]
    rfl
  rw [h8]
  clear h8
  have HL : Hid (l8.length = 8) := hl8
  have hE : Hid (leN (l8.drop 8) = 0) := by unfold Hid; rw [List.drop_of_length_le (by omega)]; rfl
  clear hl8
  go_enter Try.func43, Try.ntmps43
  go_wp2
  go_loop [5, 6] (fun n i => ∃ k : Nat, k ≤ 8 ∧ i = .int .i64 ((k : Int) - 1) ∧ n = .int .u64 (leN (l8.drop k) : Int)) (fun _ i => (intOf i + 1).toNat)
  case atStart => exact ⟨8, Nat.le_refl _, rfl, by rw [hE.out]; rfl⟩
  case round =>
    obtain ⟨k, hk, rfl, rfl⟩ := hrel
    by_cases h0 : k = 0
    · subst h0
      go_wp2
      go_ret
      exact ⟨rfl, rfl⟩
    · obtain ⟨j, rfl⟩ : ∃ j, k = j + 1 := ⟨k - 1, by omega⟩
      have hb := HB.out j (by omega)
      have hlt := le_drop_lt l8 HL.out j (by omega)
      have hd : Hid (leN (l8.drop j) = (l8.getD j 0).toNat + 256 * leN (l8.drop (j + 1))) := le_drop l8 j (by have := HL.out; omega)
      generalize hB : (l8.getD j 0).toNat = B at hb hlt hd
      generalize leN (l8.drop (j + 1)) = q at hlt hd ⊢
      clear hB
      go_wp2
      go_round
      case rel => exact ⟨j, by omega, rfl, by rw [hd.out]; exact congrArg (Value.int .u64) (by omega)⟩
      case measure => simp [intOf]


def oneV (s : List UInt8) (b c p t : Int) : Value := .tuple #[.string (ba s), .int .i64 b, .int .i64 c, .int .i64 p, .int .i64 t]
/-- What OneText answers: the rest r behind the length n. -/
def oneS (len at_ n : Nat) (r : List UInt8) : Value :=
  if zeros ((r.drop n).take (padN n)) < ((r.drop n).take (padN n)).length then oneV [] (-1) 7 ((at_ + 8 + n + zeros ((r.drop n).take (padN n)) : Nat) : Int) ((at_ + 8 + n + zeros ((r.drop n).take (padN n)) : Nat) : Int)
  else if r.length < n + padN n then oneV [] (-1) 0 0 (len : Int)
  else oneV (r.take n) ((at_ + 8 + n + padN n : Nat) : Int) 0 0 0
def oneR (tl : List UInt8) (at_ most : Nat) : Value :=
  if (tl.drop at_).length < 8 then oneV [] (-1) 0 0 (tl.length : Int)
  else if most < leN ((tl.drop at_).take 8) then oneV [] (-1) 6 (at_ : Int) ((at_ + 7 : Nat) : Int)
  else oneS tl.length at_ (leN ((tl.drop at_).take 8)) ((tl.drop at_).drop 8)

theorem zeros_lt : ∀ (z : List UInt8) (i : Nat), i < zeros z → z[i]? = some 0
  | [], i, h => by simp [zeros] at h
  | b :: z, i, h => by
    unfold zeros at h
    rw [List.takeWhile_cons] at h
    by_cases hb : (b == 0) = true
    · rw [if_pos hb, List.length_cons] at h
      cases i with
      | zero => have : b = 0 := by simpa using hb
                rw [this]; rfl
      | succ i => exact zeros_lt z i (by unfold zeros; omega)
    · rw [if_neg hb] at h; simp at h
theorem zeros_at : ∀ (z : List UInt8), zeros z < z.length → ∀ x, z[zeros z]? = some x → x ≠ 0
  | [], h, _, _ => by simp at h
  | b :: z, h, x, hx => by
    by_cases hb : (b == 0) = true
    · have e : zeros (b :: z) = zeros z + 1 := by unfold zeros; rw [List.takeWhile_cons, if_pos hb, List.length_cons]
      rw [e] at h hx
      exact zeros_at z (by simpa using h) x (by simpa using hx)
    · have e : zeros (b :: z) = 0 := by unfold zeros; rw [List.takeWhile_cons, if_neg hb]; rfl
      rw [e] at hx
      have : b = x := by simpa using hx
      subst this
      simpa using hb
theorem zeros_eq (z : List UInt8) (q : Nat) (hq : q < z.length) (h0 : ∀ j, j < q → z.getD j 0 = 0) (h1 : z.getD q 0 ≠ 0) : zeros z = q := by
  induction z generalizing q with
  | nil => simp at hq
  | cons b z ih =>
    unfold zeros at ih ⊢
    rw [List.takeWhile_cons]
    cases q with
    | zero =>
      have hb : b ≠ 0 := h1
      rw [if_neg (by simpa using hb)]
      rfl
    | succ q =>
      have hb : b = 0 := h0 0 (by omega)
      rw [if_pos (by simpa using hb), List.length_cons, ih q (by simpa using hq) (fun j hj => h0 (j + 1) (by omega)) h1]
theorem zeros_full (z : List UInt8) (h0 : ∀ j, j < z.length → z.getD j 0 = 0) : zeros z = z.length := by
  induction z with
  | nil => rfl
  | cons b z ih =>
    unfold zeros at ih ⊢
    have hb : b = 0 := h0 0 (by simp)
    rw [List.takeWhile_cons, if_pos (by simpa using hb), List.length_cons, List.length_cons, ih (fun j hj => h0 (j + 1) (by simp; omega))]

theorem rl_len (tl : List UInt8) (at_ : Nat) : ((tl.drop at_).drop 8).length = tl.length - at_ - 8 := by rw [List.length_drop, List.length_drop]
theorem ext_mid (tl : List UInt8) (at_ n : Nat) (_ : at_ + 8 + n ≤ tl.length) : (ba tl).extract (at_ + 8) (at_ + 8 + n) = ba (((tl.drop at_).drop 8).take n) := by
  rw [Go.Lib.extract_eq]
  show ba ((tl.drop (at_ + 8)).take (at_ + 8 + n - (at_ + 8))) = _
  rw [List.drop_drop, Nat.add_sub_cancel_left]

set_option maxHeartbeats 4000000 in
theorem oneT_any (tl : List UInt8) (at_ most : Nat) (w : World) (hl : tl.length ≤ 1073741824) (ha : at_ ≤ tl.length) (hm : most ≤ 9223372036854775807) :
    Calls Try.prog 28 #[.string (ba tl), .int .i64 (at_ : Int), .int .i64 (most : Int)] w fun e w' => e = .returned (oneR tl at_ most) ∧ w' = w := by
  have hsz := ba_size tl
  have hld : (tl.drop at_).length = tl.length - at_ := List.length_drop
  by_cases h8 : (tl.drop at_).length < 8
  · have HE : Hid (oneR tl at_ most = oneV [] (-1) 0 0 (tl.length : Int)) := if_pos h8
    have g1 : (tl.length : Int) - 8 < (at_ : Int) := by omega
    clear h8 hld
    go_enter Try.func28, Try.ntmps28
    go_wp2
    exact bodyPost_ret (v := oneV [] (-1) 0 0 (tl.length : Int)) (by simp [results, Try.results28, go_sem, oneV]; rfl) rfl ⟨by rw [HE.out], rfl⟩
  have ha8 : at_ + 8 ≤ tl.length := by omega
  have g1 : ¬ ((tl.length : Int) - 8 < (at_ : Int)) := by omega
  have NC := num_any tl at_ w hl ha8
  have hn64 := le8_lt ((tl.drop at_).take 8) (by rw [List.length_take]; omega)
  by_cases hmn : most < leN ((tl.drop at_).take 8)
  · have HE : Hid (oneR tl at_ most = oneV [] (-1) 6 (at_ : Int) ((at_ + 7 : Nat) : Int)) := by unfold Hid oneR; rw [if_neg h8, if_pos hmn]
    clear h8 hld
    generalize leN ((tl.drop at_).take 8) = n at NC hmn hn64
    go_enter Try.func28, Try.ntmps28
    go_wp2_with fail
    refine NC.mono ?_
    rintro e w1 ⟨rfl, rfl⟩
    clear NC
    go_wp2
    exact bodyPost_ret (v := oneV [] (-1) 6 (at_ : Int) ((at_ + 7 : Nat) : Int)) (by simp [results, Try.results28, go_sem, oneV]; rfl) rfl ⟨by rw [HE.out], rfl⟩
  have HE : Hid (oneR tl at_ most = oneS tl.length at_ (leN ((tl.drop at_).take 8)) ((tl.drop at_).drop 8)) := by unfold Hid oneR; rw [if_neg h8, if_neg hmn]
  have hrl := rl_len tl at_
  have HX : Hid (∀ n, at_ + 8 + n ≤ tl.length → (ba tl).extract (at_ + 8) (at_ + 8 + n) = ba (((tl.drop at_).drop 8).take n)) := ext_mid tl at_
  have HB : Hid (∀ (k : Nat), k < ((tl.drop at_).drop 8).length → bt (ba tl) (at_ + 8 + k) = ((((tl.drop at_).drop 8).getD k 0).toNat : Int)) := fun k h => by
    have h' : k < ((tl.drop at_).drop 8).length := h
    rw [List.getD_eq_getElem?_getD, List.getElem?_eq_getElem h', bt_ba _ _ (by omega), List.getElem_drop, List.getElem_drop]
    simp [Nat.add_assoc]
  generalize (tl.drop at_).drop 8 = r at HE hrl HX HB
  generalize leN ((tl.drop at_).take 8) = n at NC hmn hn64 HE
  clear h8 hld
  have hnm : n ≤ most := by omega
  have hp8 := padN_lt n
  have hR : (tl.length : Int) - (at_ : Int) - 8 = (r.length : Int) := by omega
  have hR2 : (tl.length : Nat) = at_ + 8 + r.length := by omega
  have HPD : (8 - (n : Int) % 8) % 8 = (padN n : Int) := by unfold padN; omega
  have hmod : 0 ≤ (n : Int) % 8 ∧ (n : Int) % 8 < 8 := by omega
  have HR2 : Hid ((tl.length : Nat) = at_ + 8 + r.length) := hR2
  have hrb : r.length ≤ 1073741824 := by omega
  have hab : at_ ≤ 1073741824 := by omega
  have hg : ∀ (n : Nat) (h : n < (ba tl).size), (((ba tl)[n]'h).toNat : Int) = bt (ba tl) n := get_bt (ba tl)
  clear hrl hR2
  by_cases hnr : n ≤ r.length
  · obtain ⟨zs, hzs⟩ : ∃ zs, (r.drop n).take (padN n) = zs := ⟨_, rfl⟩
    have hzl : zs.length = min (padN n) (r.length - n) := by rw [← hzs, List.length_take, List.length_drop]
    have HZ : Hid (∀ q, q < zs.length → bt (ba tl) (at_ + 8 + (n + q)) = ((zs.getD q 0).toNat : Int)) := fun q hq => by
      have hq2 : q < padN n ∧ q < r.length - n := by rw [hzl] at hq; omega
      rw [HB.out (n + q) (by omega), ← hzs, List.getD_eq_getElem?_getD, List.getD_eq_getElem?_getD, List.getElem?_take, if_pos hq2.1, List.getElem?_drop]
    have HS1 : Hid (zeros zs < zs.length → oneS tl.length at_ n r = oneV [] (-1) 7 ((at_ + 8 + n + zeros zs : Nat) : Int) ((at_ + 8 + n + zeros zs : Nat) : Int)) := fun h => by unfold oneS; rw [hzs, if_pos h]
    have HS2 : Hid (¬ zeros zs < zs.length → r.length < n + padN n → oneS tl.length at_ n r = oneV [] (-1) 0 0 (tl.length : Int)) := fun h h2 => by unfold oneS; rw [hzs, if_neg h, if_pos h2]
    have HS3 : Hid (¬ zeros zs < zs.length → ¬ r.length < n + padN n → oneS tl.length at_ n r = oneV (r.take n) ((at_ + 8 + n + padN n : Nat) : Int) 0 0 0) := fun h h2 => by unfold oneS; rw [hzs, if_neg h, if_neg h2]
    have hxt := HX.out n (by have := HR2.out; omega)
    have hfit : at_ + 8 + n ≤ tl.length := by have := HR2.out; omega
    have hfi : ∀ q, n + q < r.length → at_ + 8 + (n + q) < tl.length := fun q h => by have := HR2.out; omega
    have HFI : Hid (∀ q, n + q < r.length → at_ + 8 + (n + q) < tl.length) := hfi
    have HZL : Hid (zs.length = min (padN n) (r.length - n)) := hzl
    clear hzs hzl HX HB hfi
    generalize padN n = p at HPD hp8 HS2 HS3 HZL
    go_enter Try.func28, Try.ntmps28
    go_wp2_with fail
    refine NC.mono ?_
    rintro e w1 ⟨rfl, rfl⟩
    clear NC
    go_wp2
    go_loop [14] (fun i => ∃ q : Nat, q ≤ p ∧ i = .int .i64 ((n + q : Nat) : Int) ∧ Hid (∀ j, j < q → j < zs.length → zs.getD j 0 = 0)) (fun i => n + p - (intOf i).toNat)
    case atStart => exact ⟨0, Nat.zero_le _, rfl, fun j h => absurd h (by omega)⟩
    case round =>
      obtain ⟨q, hq, rfl, h0⟩ := hrel
      by_cases hlt : q < p
      · by_cases hin : n + q < r.length
        · have hqz : q < zs.length := by have := HZL.out; omega
          have HQ : Hid (q < zs.length) := hqz
          have hb := HZ.out q hqz
          have hi := HFI.out q hin
          clear hqz
          by_cases hz : zs.getD q 0 = 0
          · have HZ0 : Hid (zs.getD q 0 = 0) := hz
            rw [hz] at hb
            have hb' : bt (ba tl) (at_ + 8 + (n + q)) = 0 := hb
            clear hb hz
            go_wp2
            go_round
            case rel => exact ⟨q + 1, by omega, by go_num, fun j hj hjl => if e : j = q then by subst e; exact HZ0.out else h0.out j (by omega) hjl⟩
            case measure => simp [intOf]; omega
          · have hne : bt (ba tl) (at_ + 8 + (n + q)) ≠ 0 := by
              rw [hb]
              intro h
              exact hz (UInt8.toNat_inj.1 (by have : (zs.getD q 0).toNat = 0 := by omega
                                              rw [this]; rfl))
            have hne2 : (bt (ba tl) (at_ + 8 + (n + q)) != 0) = true := by simpa using hne
            have hne3 : (bt (ba tl) (at_ + 8 + (n + q)) == 0) = false := by simpa using hne
            have HQE : Hid (zeros zs = q) := zeros_eq zs q HQ.out (fun j hj => h0.out j hj (by have := HQ.out; omega)) hz
            clear hb hz
            go_wp2
            refine bodyPost_ret (v := oneV [] (-1) 7 ((at_ + 8 + n + q : Nat) : Int) ((at_ + 8 + n + q : Nat) : Int)) (by simp [results, Try.results28, go_sem, oneV, Int.add_assoc]; rfl) rfl ⟨by rw [HE.out, HS1.out (by rw [HQE.out]; exact HQ.out), HQE.out], rfl⟩
        · go_wp2
          go_round
          case rel => exact ⟨q + 1, by omega, by go_num, fun j hj hjl => h0.out j (by have := HZL.out; omega) hjl⟩
          case measure => simp [intOf]; omega
      · obtain rfl : q = p := by omega
        have HF : Hid (¬ zeros zs < zs.length) := by
          have h1 := zeros_full zs (fun j hj => h0.out j (by have := HZL.out; omega) hj)
          unfold Hid
          omega
        by_cases hsh : r.length < n + q
        · go_wp2
          exact bodyPost_ret (v := oneV [] (-1) 0 0 (tl.length : Int)) (by simp [results, Try.results28, go_sem, oneV]; rfl) rfl ⟨by rw [HE.out, HS2.out HF.out hsh], rfl⟩
        · go_wp2
          refine bodyPost_ret (v := oneV (r.take n) ((at_ + 8 + n + q : Nat) : Int) 0 0 0) (by simp [results, Try.results28, go_sem, oneV]) rfl ⟨by rw [HE.out, HS3.out HF.out hsh], rfl⟩
  · have HS : Hid (oneS tl.length at_ n r = oneV [] (-1) 0 0 (tl.length : Int)) := by
      unfold Hid oneS
      rw [List.drop_of_length_le (by omega), List.take_nil, if_neg (by unfold zeros; simp), if_pos (by omega)]
    generalize padN n = p at HPD hp8
    by_cases ov : n + p ≤ 9223372036854775807
    · go_enter Try.func28, Try.ntmps28
      go_wp2_with fail
      refine NC.mono ?_
      rintro e w1 ⟨rfl, rfl⟩
      clear NC
      go_wp2
      go_loop [14] (fun i => ∃ q : Nat, q ≤ p ∧ i = .int .i64 ((n + q : Nat) : Int)) (fun i => n + p - (intOf i).toNat)
      case atStart => exact ⟨0, Nat.zero_le _, rfl⟩
      case round =>
        obtain ⟨q, hq, rfl⟩ := hrel
        by_cases hlt : q < p
        · go_wp2
          go_round
          case rel => exact ⟨q + 1, by omega, by go_num⟩
          case measure => simp [intOf]; omega
        · obtain rfl : q = p := by omega
          go_wp2
          exact bodyPost_ret (v := oneV [] (-1) 0 0 (tl.length : Int)) (by simp [results, Try.results28, go_sem, oneV]; rfl) rfl ⟨by rw [HE.out, HS.out], rfl⟩
    · have hwr : wrap64 ((n : Int) + (p : Int)) = (n : Int) + (p : Int) - 18446744073709551616 := by unfold wrap64; omega
      go_enter Try.func28, Try.ntmps28
      go_wp2_with fail
      refine NC.mono ?_
      rintro e w1 ⟨rfl, rfl⟩
      clear NC
      go_wp2
      go_loop [14] (fun i => i = .int .i64 (n : Int)) (fun _ => 0)
      case atStart => rfl
      case round =>
        subst hrel
        go_wp2
        exact bodyPost_ret (v := oneV [] (-1) 0 0 (tl.length : Int)) (by simp [results, Try.results28, go_sem, oneV]; rfl) rfl ⟨by rw [HE.out, HS.out], rfl⟩


end Go.Proofs.Ythlioedahoiahaa.DW
namespace Go.Proofs.Ythlioedahoiahaa
open Go.RowKit

/-- The words accepted, one behind the other, up to the archive's end, to one that may not stand there, or to the last. -/
def goA : PC → List ByteArray → Nat → PC × Nat × Int
  | c, [], k => (c, k, if c.next = 17 then 0 else -1)
  | c, s :: W, k => if c.next = 17 then (c, k, 0) else if (c.accept s).1 ≠ 0 then ((c.accept s).2, k, (c.accept s).1) else goA (c.accept s).2 W (k + 1)
theorem goA_whole {c : PC} (h : c.next = 17) (W : List ByteArray) (k : Nat) : goA c W k = (c, k, 0) := by
  cases W with
  | nil => rw [goA, if_pos h]
  | cons s W => rw [goA, if_pos h]
theorem goA_nil {c : PC} (h : c.next ≠ 17) (k : Nat) : goA c [] k = (c, k, -1) := by rw [goA, if_neg h]
theorem goA_bad {c : PC} {s : ByteArray} (h : c.next ≠ 17) (h2 : (c.accept s).1 ≠ 0) (W : List ByteArray) (k : Nat) : goA c (s :: W) k = ((c.accept s).2, k, (c.accept s).1) := by rw [goA, if_neg h, if_pos h2]
theorem goA_go {c : PC} {s : ByteArray} (h : c.next ≠ 17) (h2 : (c.accept s).1 = 0) (W : List ByteArray) (k : Nat) : goA c (s :: W) k = goA (c.accept s).2 W (k + 1) := by rw [goA, if_neg h, if_neg (by omega)]

theorem run_mid (p : PS) (hn : p.c.next ≠ 17) : ∀ (v l : List UInt8), (∀ (l1 l2 : List UInt8) (b : UInt8), v = l1 ++ b :: l2 → (p.mid (l ++ l1)).step b = p.mid (l ++ l1 ++ [b])) → (p.mid l).run v = p.mid (l ++ v)
  | [], l, _ => by rw [List.append_nil]; rfl
  | b :: v, l, h => by
    have h1 := h [] v b rfl
    rw [List.append_nil] at h1
    rw [PS.run_cons, if_neg (fun hh => hn hh.2), h1, if_neg (by rw [mid_code]; decide)]
    have := run_mid p hn v (l ++ [b]) (fun l1 l2 x e => by
      have := h (b :: l1) l2 x (by rw [e]; rfl)
      simpa using this)
    rw [this]
    simp
/-- A beginning of a frame that is not whole. -/
theorem run_part {p : PS} (hp : p.head) (hn : p.c.next ≠ 17) {l : List UInt8} (ht : p.taken + l.length ≤ 1048576) (h1 : 8 ≤ l.length → leN (l.take 8) ≤ 1048576) (h2 : 8 ≤ l.length → ∀ i x, 8 + leN (l.take 8) ≤ i → l[i]? = some x → x = 0) (h3 : 8 ≤ l.length → l.length < 8 + leN (l.take 8) + padN (leN (l.take 8))) : p.run l = p.mid l := by
  have key := run_mid p hn l [] (fun l1 l2 b e => by
    rw [List.nil_append]
    have hlen : l.length = l1.length + 1 + l2.length := by rw [e]; simp; omega
    have h8 : 8 ≤ l1.length + 1 → (l1 ++ [b]).take 8 = l.take 8 := fun h => by
      have e2 : l = l1 ++ [b] ++ l2 := by rw [e]; simp
      rw [e2, List.take_append_of_le_length (l₁ := l1 ++ [b]) (by rw [List.length_append]; exact h)]
    refine step_go p l1 b hn (by omega) (fun h7 => ?_) (fun h => fun hle => ?_) (fun he => ?_)
    · have := h1 (by omega)
      rw [← h8 (by omega), List.take_of_length_le (by rw [List.length_append]; show l1.length + 1 ≤ 8; omega)] at this
      exact this
    · have e8 : l1.take 8 = l.take 8 := by
        rw [← h8 (by omega), List.take_append_of_le_length h]
      refine h2 (by omega) l1.length b (by rw [← e8]; omega) ?_
      rw [e, List.getElem?_append_right (Nat.le_refl _), Nat.sub_self]
      rfl
    · by_cases hh : 8 ≤ l1.length + 1
      · rw [h8 hh] at he
        have := h3 (by omega)
        omega
      · omega)
  rw [List.nil_append, ← head_mid hp] at key
  exact key
theorem run_code : ∀ (v : List UInt8) (q : PS) (b : UInt8) (z : List UInt8), q.code = 0 → (q.run v).code = 0 → (q.run v).c.next ≠ 17 → ((q.run v).step b).code ≠ 0 → q.run (v ++ b :: z) = (q.run v).step b
  | [], q, b, z, _, _, h3, h4 => by
    show q.run (b :: z) = q.step b
    have h3' : q.c.next ≠ 17 := h3
    have h4' : (q.step b).code ≠ 0 := h4
    rw [PS.run_cons, if_neg (fun hh => h3' hh.2), if_pos h4']
  | x :: v, q, b, z, h0, h1, h3, h4 => by
    show q.run (x :: (v ++ b :: z)) = _
    rw [PS.run_cons] at h1 h3 h4 ⊢
    rw [PS.run_cons]
    by_cases hp : q.part = true ∧ q.c.next = 17
    · rw [if_pos hp] at h3; exact absurd hp.2 h3
    rw [if_neg hp] at h1 h3 h4 ⊢
    rw [if_neg hp]
    by_cases hc : (q.step x).code ≠ 0
    · rw [if_pos hc] at h1; exact absurd h1 hc
    rw [if_neg hc] at h1 h3 h4 ⊢
    rw [if_neg hc]
    exact run_code v (q.step x) b z (by omega) h1 h3 h4
/-- A length that is too great. -/
theorem step_long (p : PS) (hn : p.c.next ≠ 17) (l : List UInt8) (b : UInt8) (h7 : l.length = 7) (ht : p.taken + 7 < 1048576) (h : 1048576 < leN (l ++ [b])) : ((p.mid l).step b).code = 6 ∧ ((p.mid l).step b).fat = (p.taken : Int) ∧ ((p.mid l).step b).taken = p.taken + 7 ∧ ((p.mid l).step b).held = 7 ∧ ((p.mid l).step b).c = p.c := by
  have hnl : (p.mid l).nl b = leN (l ++ [b]) := by
    unfold PS.nl PS.mid
    show leN (l.take 8) + b.toNat * 2 ^ (8 * l.length) = _
    rw [List.take_of_length_le (by omega), leN_snoc]
  have hput : (p.mid l).put b = ((6, ((p.mid l).taken : Int) - (p.mid l).held), (p.mid l).sl ((p.mid l).nl b)) := by
    unfold PS.put
    rw [if_pos (show (p.mid l).held < 8 by show l.length < 8; omega), if_pos ⟨h7, by rw [hnl]; exact h⟩]
  have e : (p.mid l).take b = ((6, ((p.mid l).taken : Int) - (p.mid l).held), (p.mid l).sl ((p.mid l).nl b)) := by
    unfold PS.take
    rw [if_neg (show ¬ (p.mid l).c.next = 17 from hn), if_neg (show ¬ (p.mid l).taken = 1048576 by show ¬ p.taken + l.length = 1048576; omega), hput, if_pos (by show (6 : Int) ≠ 0; decide)]
  have hs := PS.step_bad (p := p.mid l) (b := b) (by rw [e]; show (6 : Int) ≠ 0; decide)
  rw [hs, e]
  refine ⟨rfl, ?_, ?_, h7, rfl⟩
  · show ((p.taken + l.length : Nat) : Int) - (l.length : Nat) = _
    omega
  · show p.taken + l.length = _
    omega
/-- Padding that is none. -/
theorem step_pad (p : PS) (hn : p.c.next ≠ 17) (l : List UInt8) (b : UInt8) (h8 : 8 ≤ l.length) (ht : p.taken + l.length < 1048576) (h : leN (l.take 8) ≤ l.length - 8) (hb : b ≠ 0) : ((p.mid l).step b).code = 7 ∧ ((p.mid l).step b).fat = ((p.taken + l.length : Nat) : Int) ∧ ((p.mid l).step b).taken = p.taken + l.length ∧ ((p.mid l).step b).held = l.length ∧ ((p.mid l).step b).c = p.c := by
  have hput : (p.mid l).put b = ((7, ((p.mid l).taken : Int)), p.mid l) := by
    unfold PS.put
    rw [if_neg (show ¬ (p.mid l).held < 8 by show ¬ l.length < 8; omega), if_neg (by show ¬ ((l.drop 8).take (leN (l.take 8))).length < leN (l.take 8); rw [List.length_take, List.length_drop]; omega), if_pos hb]
  have e : (p.mid l).take b = ((7, ((p.mid l).taken : Int)), p.mid l) := by
    unfold PS.take
    rw [if_neg (show ¬ (p.mid l).c.next = 17 from hn), if_neg (show ¬ (p.mid l).taken = 1048576 by show ¬ p.taken + l.length = 1048576; omega), hput, if_pos (by show (7 : Int) ≠ 0; decide)]
  have hs := PS.step_bad (p := p.mid l) (b := b) (by rw [e]; show (7 : Int) ≠ 0; decide)
  rw [hs, e]
  exact ⟨rfl, rfl, rfl, rfl, rfl⟩

/-- What OneText tells of bytes with no whole frame at their head: the bytes taken in, the fault, how far behind the head it is. -/
inductive NoFr (v : List UInt8) : Nat → Int → Int → Prop
  | short : v.length < 8 → NoFr v v.length 0 0
  | long : 8 ≤ v.length → 1048576 < leN (v.take 8) → NoFr v 7 6 0
  | pad (n z : Nat) : 8 ≤ v.length → n = leN (v.take 8) → n ≤ 1048576 → z < padN n → 8 + n + z < v.length → (∀ i, i < z → v[8 + n + i]? = some 0) → (∀ x, v[8 + n + z]? = some x → x ≠ 0) → NoFr v (8 + n + z) 7 ((8 + n + z : Nat) : Int)
  | part (n : Nat) : 8 ≤ v.length → n = leN (v.take 8) → n ≤ 1048576 → v.length < 8 + n + padN n → (∀ i x, 8 + n ≤ i → v[i]? = some x → x = 0) → NoFr v v.length 0 0
/-- The machine there. -/
structure Stp (p q : PS) (n : Nat) (c a : Int) : Prop where
  tk : q.taken = p.taken + n
  hd : q.held = n
  cd : q.code = c
  ft : c ≠ 0 → q.fat = p.taken + a
  pc : q.c = p.c
theorem stp_of {v : List UInt8} {n : Nat} {c a : Int} (h : NoFr v n c a) {p : PS} (hp : p.head) (hn : p.c.next ≠ 17) (ht : p.taken + v.length ≤ 1048576) : Stp p (p.run v) n c a := by
  have hc0 : p.code = 0 := by rw [hp]; rfl
  cases h with
  | short h8 =>
    rw [run_part hp hn ht (fun h => by omega) (fun h => by omega) (fun h => by omega)]
    exact ⟨rfl, rfl, rfl, fun h => absurd rfl h, rfl⟩
  | long h8 hL =>
    have hv : v = v.take 7 ++ v[7] :: v.drop 8 := by
      conv => lhs; rw [← List.take_append_drop 7 v]
      congr 1
      exact List.drop_eq_getElem_cons (by omega)
    have hl7 : (v.take 7).length = 7 := by rw [List.length_take]; omega
    have h9 : v.take 7 ++ [v[7]] = v.take 8 := (List.take_succ_eq_append_getElem (by omega)).symm
    have hr : p.run (v.take 7) = p.mid (v.take 7) := run_part hp hn (by rw [hl7]; omega) (fun h => by omega) (fun h => by omega) (fun h => by omega)
    obtain ⟨s1, s2, s3, s4, s5⟩ := step_long p hn (v.take 7) v[7] hl7 (by omega) (by rw [h9]; exact hL)
    have hrun : p.run v = (p.mid (v.take 7)).step v[7] := by
      have := run_code (v.take 7) p v[7] (v.drop 8) hc0 (by rw [hr]; rfl) (by rw [hr]; exact hn) (by rw [hr, s1]; decide)
      rw [← hv, hr] at this
      exact this
    rw [hrun]
    exact ⟨s3, s4, s1, fun _ => by rw [s2]; omega, s5⟩
  | pad k z h8 hk hle hz hlt hz0 hne =>
    obtain ⟨m, hm⟩ : ∃ m, 8 + k + z = m := ⟨_, rfl⟩
    rw [hm] at hlt hne ⊢
    have hv : v = v.take m ++ v[m] :: v.drop (m + 1) := by
      conv => lhs; rw [← List.take_append_drop m v]
      congr 1
      exact List.drop_eq_getElem_cons hlt
    have hlm : (v.take m).length = m := by rw [List.length_take]; omega
    have ht8 : (v.take m).take 8 = v.take 8 := by rw [List.take_take]; congr 1; omega
    have hr : p.run (v.take m) = p.mid (v.take m) := by
      refine run_part hp hn (by rw [hlm]; omega) (fun _ => by rw [ht8, ← hk]; exact hle) (fun _ i x h1 h2 => ?_) (fun _ => by rw [ht8, hlm, ← hk]; omega)
      rw [ht8, ← hk] at h1
      rw [List.getElem?_take] at h2
      by_cases him : i < m
      · rw [if_pos him] at h2
        have := hz0 (i - (8 + k)) (by omega)
        rw [show 8 + k + (i - (8 + k)) = i by omega, h2] at this
        injection this
      · rw [if_neg him] at h2; cases h2
    obtain ⟨s1, s2, s3, s4, s5⟩ := step_pad p hn (v.take m) v[m] (by omega) (by rw [hlm]; omega) (by rw [ht8, hlm, ← hk]; omega) (hne v[m] (List.getElem?_eq_getElem hlt))
    rw [hlm] at s2 s3 s4
    have hrun : p.run v = (p.mid (v.take m)).step v[m] := by
      have := run_code (v.take m) p v[m] (v.drop (m + 1)) hc0 (by rw [hr]; rfl) (by rw [hr]; exact hn) (by rw [hr, s1]; decide)
      rw [← hv, hr] at this
      exact this
    rw [hrun]
    exact ⟨s3, s4, s1, fun _ => by rw [s2]; omega, s5⟩
  | part k h8 hk hle hlt hz =>
    rw [run_part hp hn ht (fun _ => by rw [← hk]; exact hle) (fun _ i x h1 h2 => hz i x (by rw [hk]; exact h1) h2) (fun _ => by rw [← hk]; exact hlt)]
    exact ⟨rfl, rfl, rfl, fun h => absurd rfl h, rfl⟩
end Go.Proofs.Ythlioedahoiahaa
namespace Go.Proofs.Ythlioedahoiahaa
open Go.RowKit

/-- A framed word, where it begins and where it ends. -/
abbrev FW := ByteArray × Nat × Nat
def fwC (r : FW) : List Value := [.string r.1, .int .i64 (r.2.1 : Int), .int .i64 (r.2.2 : Int)]
def fs8 (s : ByteArray) : Nat := 8 + s.size + padN s.size
def frs : List ByteArray → Nat → List FW
  | [], _ => []
  | s :: W, a => (s, a, a + fs8 s) :: frs W (a + fs8 s)
theorem frs_len : ∀ (W : List ByteArray) (a : Nat), (frs W a).length = W.length
  | [], _ => rfl
  | s :: W, a => by show (frs W _).length + 1 = W.length + 1; rw [frs_len W]
theorem frs_snoc : ∀ (W : List ByteArray) (s : ByteArray) (a : Nat), frs (W ++ [s]) a = frs W a ++ [(s, a + fwS W, a + fwS W + fs8 s)]
  | [], s, a => by show [(s, a, a + fs8 s)] = [] ++ [(s, a + 0, a + 0 + fs8 s)]; simp
  | x :: W, s, a => by
    show (x, a, a + fs8 x) :: frs (W ++ [s]) (a + fs8 x) = (x, a, a + fs8 x) :: frs W (a + fs8 x) ++ _
    have e : a + fs8 x + fwS W = a + fwS (x :: W) := by show _ = a + (8 + x.size + padN x.size + fwS W); unfold fs8; omega
    rw [frs_snoc W s, e]
    rfl
theorem frs_at : ∀ (W : List ByteArray) (a i : Nat) (s : ByteArray), W[i]? = some s → (frs W a)[i]? = some (s, a + fwS (W.take i), a + fwS (W.take (i + 1)))
  | [], _, _, _, h => by simp at h
  | x :: W, a, 0, s, h => by
    have h : x = s := by simpa using h
    subst h
    show some (x, a, a + fs8 x) = some (x, a + 0, a + (8 + x.size + padN x.size + 0))
    unfold fs8
    simp
  | x :: W, a, i + 1, s, h => by
    have := frs_at W (a + fs8 x) i s (by simpa using h)
    show (frs W (a + fs8 x))[i]? = some (s, a + (8 + x.size + padN x.size + fwS (W.take i)), a + (8 + x.size + padN x.size + fwS (W.take (i + 1))))
    rw [this]
    unfold fs8
    simp only [Nat.add_assoc]
theorem fwS_snoc (W : List ByteArray) (s : ByteArray) : fwS (W ++ [s]) = fwS W + fs8 s := by rw [fwS_app]; rfl

theorem infoFRM : (Try.prog.info? 91).map (fun i => (i.zero, i.size, i.bytes)) = some (some (.agg #[.string ⟨#[]⟩, .int .i64 0, .int .i64 0]), 3, 32) := by kernel_rfl
theorem undLFRM : Try.prog.underlying 53 = some (.slice 91) := by kernel_rfl
/-- v is a slice of these frames, which the call itself made from block B on. -/
def Frr (w : World) (B : Nat) (v : Value) (L : List FW) : Prop := w.ownsRow B 91 3 v L.length (L.flatMap fwC)
theorem Frr.shape {w : World} {B : Nat} {v : Value} {L : List FW} (h : Frr w B v L) : ∃ x c, v = .slice x L.length c := by
  rcases h.2 with ⟨hv, h0⟩ | ⟨q, cap, cur, hv, _⟩
  · exact ⟨none, 0, by rw [hv, h0]⟩
  · exact ⟨_, _, hv⟩
theorem flat_fw (L : List FW) : ∀ (i : Nat) (r : FW), L[i]? = some r → (L.flatMap fwC)[i * 3]? = some (.string r.1) ∧ (L.flatMap fwC)[i * 3 + 1]? = some (.int .i64 (r.2.1 : Int)) ∧ (L.flatMap fwC)[i * 3 + 2]? = some (.int .i64 (r.2.2 : Int)) := by
  induction L with
  | nil => intro i r h; simp at h
  | cons a L ih =>
    intro i r h
    cases i with
    | zero =>
      simp at h
      subst h
      exact ⟨rfl, rfl, rfl⟩
    | succ i =>
      have := ih i r (by simpa using h)
      have e : ∀ j, ((a :: L).flatMap fwC)[(i + 1) * 3 + j]? = (L.flatMap fwC)[i * 3 + j]? := fun j => by
        rw [List.flatMap_cons, List.getElem?_append_right (by show 3 ≤ _; omega)]
        congr 1
        show (i + 1) * 3 + j - 3 = _
        omega
      exact ⟨(e 0).trans this.1, (e 1).trans this.2.1, (e 2).trans this.2.2⟩
theorem Frr.at {w : World} {B : Nat} {v : Value} {L : List FW} (h : Frr w B v L) {i : Nat} {r : FW} (hr : L[i]? = some r) : ∃ g c, v = .slice (some ⟨g, 0, none⟩) L.length c ∧ B ≤ g ∧ g < w.heap.size ∧ w.cell? ⟨g, i * 3, none⟩ = some (.string r.1) ∧ w.cell? ⟨g, i * 3 + 1, none⟩ = some (.int .i64 (r.2.1 : Int)) ∧ w.cell? ⟨g, i * 3 + 2, none⟩ = some (.int .i64 (r.2.2 : Int)) := by
  have hi : i < L.length := (List.getElem?_eq_some_iff.1 hr).1
  obtain ⟨g, c, rfl, hb, hl⟩ := World.ownsRow.form h (by omega)
  have f := flat_fw L i r hr
  exact ⟨g, c, rfl, hb, hl, (World.ownsRow.cellAt h _ (by omega)).trans f.1, (World.ownsRow.cellAt h _ (by omega)).trans f.2.1, (World.ownsRow.cellAt h _ (by omega)).trans f.2.2⟩
/-- A frame more. -/
theorem Frr.app {w : World} {B : Nat} {v : Value} {L : List FW} (h : Frr w B v L) (r : FW) (hB : B ≤ w.heap.size) (hl : L.length ≤ 1073741824) :
    ∃ p c w', (Builtin.append_ #[53, 53] 53 #[v, .slice (some ⟨w.heap.size, 0, none⟩) 1 1]).run Try.prog (w.alloc (.cells #[.string r.1, .int .i64 (r.2.1 : Int), .int .i64 (r.2.2 : Int)] 91)) = .ok (.slice p (L.length + 1) c) w' ∧ Frr w' B (.slice p (L.length + 1) c) (L ++ [r]) ∧ Below B w w' := by
  obtain ⟨i0, hi, hz0, hz1, hz2⟩ := info_parts infoFRM
  have hown : (w.alloc (.cells #[.string r.1, .int .i64 (r.2.1 : Int), .int .i64 (r.2.2 : Int)] 91)).ownsRow B 91 3 v L.length (L.flatMap fwC) := World.ownsRow.alloc h _
  obtain ⟨g, cap, w', hr, ho, hg, hat, hlt⟩ := run_append_lies (P := Try.prog) (w.alloc (.cells #[.string r.1, .int .i64 (r.2.1 : Int), .int .i64 (r.2.2 : Int)] 91)) 53 53 B 91 i0 (.agg #[.string ⟨#[]⟩, .int .i64 0, .int .i64 0]) 3 32 undLFRM hi hz0 hz1 hz2 rfl (by decide) v L.length (L.flatMap fwC) hown ⟨w.heap.size, 0, none⟩ 1 1 (fwC r) rfl (fun j u hj => by
      rw [Addr.add_lit, Nat.zero_add]
      match j, hj with
      | 0, hj => exact (World.cell?_alloc_new w _ _ 0).trans hj
      | 1, hj => exact (World.cell?_alloc_new w _ _ 1).trans hj
      | 2, hj => exact (World.cell?_alloc_new w _ _ 2).trans hj) (by intro u hu; simp [fwC] at hu; rcases hu with rfl | rfl | rfl <;> rfl) (by decide) (by unfold maxLen; omega) (by omega) (by rw [World.size_alloc]; omega) _ rfl
  refine ⟨some ⟨g, 0, none⟩, cap, w', hr, ?_, ?_⟩
  · unfold Frr
    rw [List.length_append, List.flatMap_append]
    have : [r].flatMap fwC = fwC r := by simp
    rw [this]
    exact ho
  · exact ((Fk.of_below (ty := 91) ((Below.refl _ _).alloc (Nat.le_refl _) _) hB).trans (Fk.grown hown hg (by rw [World.size_alloc]; omega))).below

/-- What OneText answers. -/
theorem one_cases (tl : List UInt8) (at_ : Nat) (ha : at_ ≤ tl.length) :
    (∃ n c a P, DW.oneR tl at_ 1048576 = DW.oneV [] (-1) c P ((at_ + n : Nat) : Int) ∧ NoFr (tl.drop at_) n c a ∧ (c = 0 → P = 0) ∧ (c ≠ 0 → P = at_ + a)) ∨
    (∃ s : List UInt8, DW.oneR tl at_ 1048576 = DW.oneV s ((at_ + fs8 (NB.ba s) : Nat) : Int) 0 0 0 ∧ s.length ≤ 1048576 ∧ at_ + fs8 (NB.ba s) ≤ tl.length ∧ tl.drop at_ = fr8 s ++ tl.drop (at_ + fs8 (NB.ba s))) := by
  have hvl : (tl.drop at_).length = tl.length - at_ := List.length_drop
  unfold DW.oneR
  by_cases h8 : (tl.drop at_).length < 8
  · rw [if_pos h8]
    refine Or.inl ⟨(tl.drop at_).length, 0, 0, 0, ?_, NoFr.short h8, fun _ => rfl, fun h => absurd rfl h⟩
    rw [show at_ + (tl.drop at_).length = tl.length by omega]
  rw [if_neg h8]
  by_cases hL : 1048576 < leN ((tl.drop at_).take 8)
  · rw [if_pos hL]
    refine Or.inl ⟨7, 6, 0, at_, rfl, NoFr.long (by omega) hL, fun h => absurd h (by decide), fun _ => by omega⟩
  rw [if_neg hL]
  obtain ⟨n, hn⟩ : ∃ n, leN ((tl.drop at_).take 8) = n := ⟨_, rfl⟩
  rw [hn] at hL ⊢
  unfold DW.oneS
  obtain ⟨v, hv⟩ : ∃ v, tl.drop at_ = v := ⟨_, rfl⟩
  rw [hv] at hn hvl h8 ⊢
  have hzs : ((v.drop 8).drop n).take (padN n) = ((v.drop (8 + n)).take (padN n)) := by rw [List.drop_drop]
  rw [hzs]
  have hzl : ((v.drop (8 + n)).take (padN n)).length = min (padN n) (v.length - (8 + n)) := by rw [List.length_take, List.length_drop]
  by_cases hz : DW.zeros ((v.drop (8 + n)).take (padN n)) < ((v.drop (8 + n)).take (padN n)).length
  · rw [if_pos hz]
    obtain ⟨z, hzz⟩ : ∃ z, DW.zeros ((v.drop (8 + n)).take (padN n)) = z := ⟨_, rfl⟩
    rw [hzz] at hz ⊢
    refine Or.inl ⟨8 + n + z, 7, ((8 + n + z : Nat) : Int), ((at_ + 8 + n + z : Nat) : Int), ?_, NoFr.pad n z (by omega) hn.symm (by omega) (by omega) (by omega) (fun i hi => ?_) (fun x hx => ?_), fun h => absurd h (by decide), fun _ => by omega⟩
    · rw [show at_ + (8 + n + z) = at_ + 8 + n + z by omega]
    · have h1 := DW.zeros_lt _ i (by rw [hzz]; exact hi)
      rw [List.getElem?_take, if_pos (by omega), List.getElem?_drop] at h1
      exact h1
    · have h1 := DW.zeros_at _ (by rw [hzz]; exact hz) x (by rw [hzz, List.getElem?_take, if_pos (by omega), List.getElem?_drop]; exact hx)
      exact h1
  rw [if_neg hz]
  have hall : ∀ i x, 8 + n ≤ i → i < 8 + n + padN n → v[i]? = some x → x = 0 := fun i x h1 h2 h3 => by
    have hil : i < v.length := (List.getElem?_eq_some_iff.1 h3).1
    have h4 := DW.zeros_lt ((v.drop (8 + n)).take (padN n)) (i - (8 + n)) (by omega)
    rw [List.getElem?_take, if_pos (by omega), List.getElem?_drop, show 8 + n + (i - (8 + n)) = i by omega, h3] at h4
    injection h4
  by_cases hp : (v.drop 8).length < n + padN n
  · rw [if_pos hp]
    rw [List.length_drop] at hp
    refine Or.inl ⟨v.length, 0, 0, 0, ?_, NoFr.part n (by omega) hn.symm (by omega) (by omega) (fun i x h1 h2 => hall i x h1 (by have := (List.getElem?_eq_some_iff.1 h2).1; omega) h2), fun _ => rfl, fun h => absurd rfl h⟩
    rw [show at_ + v.length = tl.length by omega]
  · rw [if_neg hp]
    rw [List.length_drop] at hp
    have hsl : ((v.drop 8).take n).length = n := by rw [List.length_take, List.length_drop]; omega
    have hfs : fs8 (NB.ba ((v.drop 8).take n)) = 8 + n + padN n := by unfold fs8; rw [NB.ba_size, hsl]
    refine Or.inr ⟨(v.drop 8).take n, ?_, by rw [hsl]; omega, by rw [hfs]; omega, ?_⟩
    · rw [hfs, show at_ + (8 + n + padN n) = at_ + 8 + n + padN n by omega]
    · rw [hfs, ← List.drop_drop, hv]
      have hl8 : (v.take (8 + n + padN n)).length = 8 + n + padN n := by rw [List.length_take]; omega
      have ht8 : (v.take (8 + n + padN n)).take 8 = v.take 8 := by rw [List.take_take]; congr 1; omega
      have hf := frame_of (l := v.take (8 + n + padN n)) (by rw [hl8, ht8, hn]) (fun x hx => by
        rw [ht8, hn] at hx
        obtain ⟨i, hi⟩ := List.mem_iff_getElem?.1 hx
        rw [List.getElem?_drop, List.getElem?_take] at hi
        by_cases hii : 8 + n + i < 8 + n + padN n
        · rw [if_pos hii] at hi; exact hall _ x (by omega) hii hi
        · rw [if_neg hii] at hi; cases hi)
      have hw : wrd (v.take (8 + n + padN n)) = (v.drop 8).take n := by
        unfold wrd
        rw [ht8, hn, List.drop_take, List.take_take]
        congr 1
        omega
      rw [hw] at hf
      conv => lhs; rw [← List.take_append_drop (8 + n + padN n) v, hf.1]
end Go.Proofs.Ythlioedahoiahaa
namespace Go.Proofs.Ythlioedahoiahaa
open Go.RowKit

theorem fwS_len : ∀ W : List ByteArray, W.length ≤ fwS W
  | [] => Nat.le_refl _
  | s :: W => by have := fwS_len W; show W.length + 1 ≤ 8 + s.size + padN s.size + fwS W; omega
/-- The frames of these words, in memory. -/
def FR (w : World) (v : Value) (W : List ByteArray) : Prop := ∃ x c, v = .slice x W.length c ∧ ∀ i s, W[i]? = some s → ∃ g, x = some ⟨g, 0, none⟩ ∧ g < w.heap.size ∧ w.cell? ⟨g, i * 3, none⟩ = some (.string s) ∧ w.cell? ⟨g, i * 3 + 1, none⟩ = some (.int .i64 (fwS (W.take i) : Int)) ∧ w.cell? ⟨g, i * 3 + 2, none⟩ = some (.int .i64 (fwS (W.take (i + 1)) : Int))
theorem FR.below {w w' : World} {v : Value} {W : List ByteArray} (h : FR w v W) (b : Below w.heap.size w w') : FR w' v W := by
  obtain ⟨x, c, e, h⟩ := h
  refine ⟨x, c, e, fun i s hi => ?_⟩
  obtain ⟨g, h1, h2, h3, h4, h5⟩ := h i s hi
  exact ⟨g, h1, Nat.lt_of_lt_of_le h2 b.size, (b.cell (p := ⟨g, i * 3, none⟩) h2).trans h3, (b.cell (p := ⟨g, i * 3 + 1, none⟩) h2).trans h4, (b.cell (p := ⟨g, i * 3 + 2, none⟩) h2).trans h5⟩
theorem FR.of {w : World} {B : Nat} {v : Value} {W : List ByteArray} (h : Frr w B v (frs W 0)) : FR w v W := by
  obtain ⟨x, c, rfl⟩ := h.shape
  rw [frs_len] at h ⊢
  refine ⟨x, c, rfl, fun i s hi => ?_⟩
  have hf := frs_at W 0 i s hi
  rw [Nat.zero_add, Nat.zero_add] at hf
  obtain ⟨g, c', e, h1, h2, h3, h4, h5⟩ := Frr.at h hf
  injection e with e1 e2 e3
  exact ⟨g, e1, h2, h3, h4, h5⟩
def FrmP (tl : List UInt8) (w : World) (e : Ending) (w' : World) : Prop := ∃ (W : List ByteArray) (n : Nat) (c a P : Int) (v : Value), e = .returned (.tuple #[v, .int .i64 c, .int .i64 P, .int .i64 ((fwS W + n : Nat) : Int)]) ∧ FR w' v W ∧ (∃ u, tl = frm W ++ u ∧ NoFr u n c a) ∧ (c = 0 → P = 0) ∧ (c ≠ 0 → P = fwS W + a) ∧ (∀ s ∈ W, s.size ≤ 1048576) ∧ Below w.heap.size w w'
theorem frm_snoc (W : List ByteArray) (s : ByteArray) : frm (W ++ [s]) = frm W ++ fr8 s.data.toList := by
  rw [frm_app]
  show frm W ++ ((txt s).data.toList ++ []) = _
  rw [txt_list, List.append_nil]
theorem drop_frm {tl : List UInt8} {W : List ByteArray} {u : List UInt8} (h : tl = frm W ++ u) : tl.drop (fwS W) = u := by
  rw [h, ← frm_len, List.drop_append_of_le_length (Nat.le_refl _), List.drop_of_length_le (Nat.le_refl _)]; rfl

set_option maxHeartbeats 4000000 in
set_option maxRecDepth 8000 in
theorem frames_any (tl : List UInt8) (w : World) (hl : tl.length ≤ 1048576) : Calls Try.prog 14 #[.string (NB.ba tl)] w (FrmP tl w) := by
  have hsz := NB.ba_size tl
  go_enter Try.func14, Try.ntmps14
  go_wp2
  go_loopw [6, 7] (fun v at_ wr => ∃ W : List ByteArray, Hid (Frr wr w.heap.size v (frs W 0)) ∧ at_ = .int .i64 (fwS W : Int) ∧ fwS W ≤ tl.length ∧ Hid (tl = frm W ++ tl.drop (fwS W)) ∧ Hid (∀ s ∈ W, s.size ≤ 1048576) ∧ Hid (Below w.heap.size w wr)) (fun _ at_ _ => tl.length - (intOf at_).toNat)
  case atStart => exact ⟨[], ⟨by decide, Or.inl ⟨rfl, rfl⟩⟩, rfl, Nat.zero_le _, rfl, (fun _ h => by cases h), Below.refl _ _⟩
  case round =>
    obtain ⟨W, hF, rfl, hle, hT, hS, hB⟩ := hrel
    have OC := DW.oneT_any tl (fwS W) 1048576 wr (by omega) hle (by decide)
    rcases one_cases tl (fwS W) hle with ⟨n, c, a, P, e1, e2, e3, e4⟩ | ⟨s, e1, e2, e3, e4⟩
    · rw [e1] at OC
      unfold DW.oneV at OC
      have H2 : Hid (NoFr (tl.drop (fwS W)) n c a) := e2
      have H3 : Hid ((c = 0 → P = 0) ∧ (c ≠ 0 → P = fwS W + a)) := ⟨e3, e4⟩
      clear e1 e2 e3 e4
      obtain ⟨x, cp, hv⟩ := hF.out.shape
      have hFR : Hid (FR wr (.slice x W.length cp) W) := by
        have h := FR.of hF.out
        rw [frs_len] at hv
        rw [hv] at h
        exact h
      rw [frs_len] at hv
      subst hv
      go_wp2_with fail
      refine OC.mono ?_
      rintro e w1 ⟨rfl, rfl⟩
      clear OC
      go_wp2
      refine bodyPost_ret (v := .tuple #[.slice x W.length cp, .int .i64 c, .int .i64 P, .int .i64 ((fwS W + n : Nat) : Int)]) (by simp [results, Try.results14, go_sem]) rfl ⟨W, n, c, a, P, .slice x W.length cp, rfl, hFR.out, ⟨_, hT.out, H2.out⟩, H3.out.1, H3.out.2, hS.out, hB.out⟩
    · rw [e1] at OC
      unfold DW.oneV at OC
      have H3 : Hid (fwS W + fs8 (NB.ba s) ≤ tl.length ∧ tl.drop (fwS W) = fr8 s ++ tl.drop (fwS W + fs8 (NB.ba s)) ∧ s.length ≤ 1048576) := ⟨e3, e4, e2⟩
      clear e1 e2 e3 e4
      obtain ⟨x, cp, hv⟩ := hF.out.shape
      subst hv
      have hW1 : fwS W ≤ 1048576 := by omega
      have hn : W.length ≤ 1048576 := Nat.le_trans (fwS_len W) hW1
      obtain ⟨p2, c2, w2, hr, hF2, hB2⟩ := hF.out.app (NB.ba s, fwS W, fwS W + fs8 (NB.ba s)) hB.out.size (by rw [frs_len]; omega)
      have HF2 : Hid (Frr w2 w.heap.size (.slice p2 ((frs W 0).length + 1) c2) (frs W 0 ++ [(NB.ba s, fwS W, fwS W + fs8 (NB.ba s))])) := hF2
      have HB2 : Hid (Below w.heap.size w w2) := hB.out.trans hB2
      have hb0 : ¬ ((fwS W + fs8 (NB.ba s) : Nat) : Int) < 0 := by omega
      obtain ⟨E, hE⟩ : ∃ E, fwS W + fs8 (NB.ba s) = E := ⟨_, rfl⟩
      have HE : Hid (fwS W + fs8 (NB.ba s) = E) := hE
      rw [hE] at hb0 OC hr
      clear hF2 hB2 hE
      go_wp2_with (first | (refine OC.mono ?_; rintro e w1 ⟨rfl, rfl⟩; clear OC) | (refine wpList_app_is (by rfl) 53 53 (.tmp 28) (.tmp 33) (by rfl) _ _ _ _ (by rfl) (by rfl) hr ?_))
      go_roundw
      case rel =>
        refine ⟨W ++ [NB.ba s], ?_, ?_, ?_, ?_, ?_, HB2.out⟩
        · have e0 := frs_snoc W (NB.ba s) 0
          rw [Nat.zero_add] at e0
          rw [e0]
          exact HF2.out
        · rw [fwS_snoc, HE.out]
        · rw [fwS_snoc]; exact H3.out.1
        · rw [Hid, frm_snoc, fwS_snoc]
          have e5 : (NB.ba s).data.toList = s := by simp [NB.ba]
          rw [e5, List.append_assoc, ← H3.out.2.1]
          exact hT.out
        · intro z hz
          rcases List.mem_append.1 hz with hz | hz
          · exact hS.out z hz
          · rw [List.mem_singleton.1 hz, NB.ba_size]; exact H3.out.2.2
      case measure =>
        have := H3.out.1
        have : 8 ≤ fs8 (NB.ba s) := by unfold fs8; omega
        have := HE.out
        simp [intOf]
        omega
end Go.Proofs.Ythlioedahoiahaa
namespace Go.Proofs.Ythlioedahoiahaa
open Go.RowKit

/-- These words stand there. -/
def wdP (W : List ByteArray) : Nat → List ByteArray → Nat × Int
  | i, [] => (i, 0)
  | i, s :: l => match W[i]? with
    | none => (i, -1)
    | some x => if x = s then wdP W (i + 1) l else (i, 70)
theorem goA_end {c : PC} (h : c.next ≠ 17) {W : List ByteArray} {i : Nat} (hi : W[i]? = none) : goA c (W.drop i) i = (c, i, -1) := by
  rw [List.drop_of_length_le (List.getElem?_eq_none_iff.1 hi), goA_nil h]
theorem drop_w {W : List ByteArray} {i : Nat} {x : ByteArray} (hi : W[i]? = some x) : W.drop i = x :: W.drop (i + 1) := by
  obtain ⟨h1, h2⟩ := List.getElem?_eq_some_iff.1 hi
  rw [List.drop_eq_getElem_cons h1, h2]
theorem goA_no {c : PC} (h : c.next ≠ 17) {W : List ByteArray} {i : Nat} {x : ByteArray} (hi : W[i]? = some x) (hx : (c.accept x).1 ≠ 0) : goA c (W.drop i) i = ((c.accept x).2, i, (c.accept x).1) := by
  rw [drop_w hi, goA_bad h hx]
theorem goA_yes {c d : PC} (h : c.next ≠ 17) {W : List ByteArray} {i : Nat} {x : ByteArray} (hi : W[i]? = some x) (hx : c.accept x = (0, d)) : goA c (W.drop i) i = goA d (W.drop (i + 1)) (i + 1) := by
  rw [drop_w hi, goA_go h (by rw [hx]), hx]
/-- Where the words end, or are refused. -/
def Ends (W : List ByteArray) (c : PC) (i nxt : Nat) (code : Int) (k : Nat) : Prop := ∃ d, goA c (W.drop i) i = (d, nxt, code) ∧ d.op.length = k
/-- One word alone may stand here. -/
structure Only (c : PC) (s : ByteArray) (d : PC) : Prop where
  n : c.next ≠ 17
  y : c.accept s = (0, d)
  no : ∀ x, x ≠ s → c.accept x = (70, c)
def Chn : PC → List ByteArray → PC → Nat → Prop
  | c, [], d, _ => d = c
  | c, s :: l, d, k => ∃ e, Only c s e ∧ c.op.length = k ∧ Chn e l d k
theorem wdP_go (W : List ByteArray) (k : Nat) : ∀ (l : List ByteArray) (c d : PC) (i : Nat), Chn c l d k → i ≤ W.length → ((wdP W i l).2 = 0 → goA c (W.drop i) i = goA d (W.drop (wdP W i l).1) (wdP W i l).1 ∧ (wdP W i l).1 = i + l.length ∧ (wdP W i l).1 ≤ W.length) ∧ ((wdP W i l).2 ≠ 0 → Ends W c i (wdP W i l).1 (wdP W i l).2 k) ∧ i ≤ (wdP W i l).1
  | [], c, d, i, h, hi => by
    have h : d = c := h
    subst h
    exact ⟨fun _ => ⟨rfl, rfl, hi⟩, fun h => absurd rfl h, Nat.le_refl _⟩
  | s :: l, c, d, i, h, hi => by
    obtain ⟨e, h1, h2, h3⟩ := h
    rw [wdP]
    cases hx : W[i]? with
    | none => exact ⟨fun h => absurd (show (-1 : Int) = 0 from h) (by decide), fun _ => ⟨c, goA_end h1.n hx, h2⟩, Nat.le_refl _⟩
    | some x =>
      dsimp only
      by_cases hxs : x = s
      · subst hxs
        rw [if_pos rfl]
        have hil : i < W.length := (List.getElem?_eq_some_iff.1 hx).1
        obtain ⟨q1, q2, q3⟩ := wdP_go W k l e d (i + 1) h3 hil
        have hg := goA_yes h1.n hx h1.y
        refine ⟨fun h => ?_, fun h => ?_, by omega⟩
        · obtain ⟨r1, r2, r3⟩ := q1 h
          exact ⟨hg.trans r1, by rw [r2, List.length_cons]; omega, r3⟩
        · obtain ⟨f, r1, r2⟩ := q2 h
          exact ⟨f, hg.trans r1, r2⟩
      · rw [if_neg hxs]
        have ha := h1.no x hxs
        refine ⟨fun h => absurd (show (70 : Int) = 0 from h) (by decide), fun _ => ⟨c, ?_, h2⟩, Nat.le_refl _⟩
        rw [goA_no h1.n hx (by rw [ha]; show (70 : Int) ≠ 0; decide), ha]
theorem chk_nn (s : ByteArray) : 0 ≤ chk s := (chk_vals s).1
theorem acc_nn (c : PC) (s : ByteArray) : 0 ≤ (c.accept s).1 := by
  have ht : 0 ≤ tgt s := by unfold tgt; split <;> decide
  have hce : ∀ o : Option ByteArray, 0 ≤ ceP o s := fun o => by
    have := chk_nn s
    unfold ceP
    split
    · exact this
    · cases o with
      | none => exact Int.le_refl _
      | some s' => show 0 ≤ (if 0 ≤ cmpB s' s then (64 : Int) else 0); split <;> decide
  unfold PC.accept
  split
  · exact Int.le_refl _
  split
  · split
    · exact ht
    · exact Int.le_refl _
  split
  · cases c.op with
    | nil => exact Int.le_refl _
    | cons o R =>
      dsimp only
      split
      · exact hce _
      · exact Int.le_refl _
  unfold PC.fixed
  repeat' split
  all_goals first | exact Int.le_refl _ | exact (by decide : (0 : Int) ≤ 70) | exact (by decide : (0 : Int) ≤ 61)
theorem goA_lt : ∀ (W : List ByteArray) (c d : PC) (k n : Nat) (code : Int), goA c W k = (d, n, code) → code ≠ 0 → (code ≠ -1 → n < k + W.length) ∧ (code = -1 → n = k + W.length)
  | [], c, d, k, n, code, h, h0 => by
    rw [goA] at h
    by_cases hn : c.next = 17
    · rw [if_pos hn] at h; injection h with _ h; injection h with _ h; exact absurd h.symm h0
    · rw [if_neg hn] at h
      injection h with _ h
      injection h with h1 h2
      exact ⟨fun h => absurd h2.symm h, fun _ => by simp; omega⟩
  | s :: W, c, d, k, n, code, h, h0 => by
    rw [goA] at h
    by_cases hn : c.next = 17
    · rw [if_pos hn] at h; injection h with _ h; injection h with _ h; exact absurd h.symm h0
    rw [if_neg hn] at h
    by_cases ha : (c.accept s).1 ≠ 0
    · rw [if_pos ha] at h
      injection h with _ h
      injection h with h1 h2
      refine ⟨fun _ => by simp; omega, fun hc => ?_⟩
      exfalso
      have := acc_nn c s
      omega
    · rw [if_neg ha] at h
      have := goA_lt W _ d (k + 1) n code h h0
      rw [List.length_cons]
      exact ⟨fun hc => by have := this.1 hc; omega, fun hc => by have := this.2 hc; omega⟩

/-- No word but those of behind. -/
theorem acc_no {c : PC} {x : ByteArray} (h7 : c.next ≠ 7) (h9 : c.next ≠ 9) (h14 : c.next ≠ 14) (h : (bhP c.next x).2 = false) : c.accept x = (70, c) := by
  unfold PC.accept
  rw [if_neg h7, if_neg h9, if_neg h14]
  unfold PC.fixed
  rw [if_pos h]
theorem bh_no {n : Int} {s : ByteArray} (P : ByteArray → Prop) (h : (bhP n s).2 = true → P s) (hp : ¬ P s) : (bhP n s).2 = false := by
  cases hh : (bhP n s).2
  · rfl
  · exact absurd (h hh) hp

theorem only0 (r : Tr) : Only ⟨0, [], r⟩ wMagic ⟨1, [], r⟩ :=
  ⟨by show (0 : Int) ≠ 17; decide, acc_on (by decide +kernel) (by decide) (by decide) (by decide) (by decide) (by decide) (by decide +kernel) (by decide), fun x hx => acc_no (by show (0 : Int) ≠ 7; decide) (by show (0 : Int) ≠ 9; decide) (by show (0 : Int) ≠ 14; decide) (bh_no (· = wMagic) (fun h => (bh_at 0 x h (by decide)).1 rfl) hx)⟩
theorem only1 {S : List ON} {r : Tr} (hd : S.length < 32) : Only ⟨1, S, r⟩ wOpen ⟨2, ON.new :: S, r⟩ :=
  ⟨by show (1 : Int) ≠ 17; decide, acc_open hd, fun x hx => acc_no (by show (1 : Int) ≠ 7; decide) (by show (1 : Int) ≠ 9; decide) (by show (1 : Int) ≠ 14; decide) (bh_no (· = wOpen) (fun h => bh_one x h) hx)⟩
theorem only2 (S : List ON) (r : Tr) : Only ⟨2, S, r⟩ wType ⟨3, S, r⟩ :=
  ⟨by show (2 : Int) ≠ 17; decide, acc_on (by decide +kernel) (by decide) (by decide) (by decide) (by decide) (by decide) (by decide +kernel) (by decide), fun x hx => acc_no (by show (2 : Int) ≠ 7; decide) (by show (2 : Int) ≠ 9; decide) (by show (2 : Int) ≠ 14; decide) (bh_no (· = wType) (fun h => (bh_at 2 x h (by decide)).2.1 rfl) hx)⟩
theorem only5 (S : List ON) (r : Tr) : Only ⟨5, S, r⟩ wNone ⟨6, S, r⟩ :=
  ⟨by show (5 : Int) ≠ 17; decide, acc_on (by decide +kernel) (by decide) (by decide) (by decide) (by decide) (by decide) (by decide +kernel) (by decide), fun x hx => acc_no (by show (5 : Int) ≠ 7; decide) (by show (5 : Int) ≠ 9; decide) (by show (5 : Int) ≠ 14; decide) (bh_no (· = wNone) (fun h => (bh_at 5 x h (by decide)).2.2.2.2.1 rfl) hx)⟩
theorem only6 (S : List ON) (r : Tr) : Only ⟨6, S, r⟩ wContents ⟨7, S, r⟩ :=
  ⟨by show (6 : Int) ≠ 17; decide, acc_on (by decide +kernel) (by decide) (by decide) (by decide) (by decide) (by decide) (by decide +kernel) (by decide), fun x hx => acc_no (by show (6 : Int) ≠ 7; decide) (by show (6 : Int) ≠ 9; decide) (by show (6 : Int) ≠ 14; decide) (bh_no (· = wContents) (fun h => (bh_at 6 x h (by decide)).2.2.2.2.2.1 rfl) hx)⟩
theorem only8 (S : List ON) (r : Tr) : Only ⟨8, S, r⟩ wTarget ⟨9, S, r⟩ :=
  ⟨by show (8 : Int) ≠ 17; decide, acc_on (by decide +kernel) (by decide) (by decide) (by decide) (by decide) (by decide) (by decide +kernel) (by decide), fun x hx => acc_no (by show (8 : Int) ≠ 7; decide) (by show (8 : Int) ≠ 9; decide) (by show (8 : Int) ≠ 14; decide) (bh_no (· = wTarget) (fun h => (bh_at 8 x h (by decide)).2.2.2.2.2.2.1 rfl) hx)⟩
theorem only10 (o : ON) (S : List ON) (r : Tr) : Only ⟨10, o :: S, r⟩ wClose (cls ⟨10, S, r⟩ o.tr) :=
  ⟨by show (10 : Int) ≠ 17; decide, acc_close (Or.inl rfl), fun x hx => acc_no (by show (10 : Int) ≠ 7; decide) (by show (10 : Int) ≠ 9; decide) (by show (10 : Int) ≠ 14; decide) (bh_no (· = wClose) (fun h => (bh_at 10 x h (by decide)).2.2.2.2.2.2.2.1 rfl) hx)⟩
theorem only12 (S : List ON) (r : Tr) : Only ⟨12, S, r⟩ wOpen ⟨13, S, r⟩ :=
  ⟨by show (12 : Int) ≠ 17; decide, acc_on (by decide +kernel) (by decide) (by decide) (by decide) (by decide) (by decide) (by decide +kernel) (by decide), fun x hx => acc_no (by show (12 : Int) ≠ 7; decide) (by show (12 : Int) ≠ 9; decide) (by show (12 : Int) ≠ 14; decide) (bh_no (· = wOpen) (fun h => (bh_at 12 x h (by decide)).2.2.2.2.2.2.2.2.2.1 rfl) hx)⟩
theorem only13 (S : List ON) (r : Tr) : Only ⟨13, S, r⟩ wName ⟨14, S, r⟩ :=
  ⟨by show (13 : Int) ≠ 17; decide, acc_on (by decide +kernel) (by decide) (by decide) (by decide) (by decide) (by decide) (by decide +kernel) (by decide), fun x hx => acc_no (by show (13 : Int) ≠ 7; decide) (by show (13 : Int) ≠ 9; decide) (by show (13 : Int) ≠ 14; decide) (bh_no (· = wName) (fun h => (bh_at 13 x h (by decide)).2.2.2.2.2.2.2.2.2.2.1 rfl) hx)⟩
theorem only15 (S : List ON) (r : Tr) : Only ⟨15, S, r⟩ wNode ⟨1, S, r⟩ :=
  ⟨by show (15 : Int) ≠ 17; decide, acc_on (by decide +kernel) (by decide) (by decide) (by decide) (by decide) (by decide) (by decide +kernel) (by decide), fun x hx => acc_no (by show (15 : Int) ≠ 7; decide) (by show (15 : Int) ≠ 9; decide) (by show (15 : Int) ≠ 14; decide) (bh_no (· = wNode) (fun h => (bh_at 15 x h (by decide)).2.2.2.2.2.2.2.2.2.2.2.1 rfl) hx)⟩
theorem only16 (S : List ON) (r : Tr) : Only ⟨16, S, r⟩ wClose ⟨11, S, r⟩ :=
  ⟨by show (16 : Int) ≠ 17; decide, acc_on (by decide +kernel) (by decide) (by decide) (by decide) (by decide) (by decide) (by decide +kernel) (by decide), fun x hx => acc_no (by show (16 : Int) ≠ 7; decide) (by show (16 : Int) ≠ 9; decide) (by show (16 : Int) ≠ 14; decide) (bh_no (· = wClose) (fun h => (bh_at 16 x h (by decide)).2.2.2.2.2.2.2.2.2.2.2.2.1 rfl) hx)⟩
/-- Where no entry comes, the directory ends. -/
theorem end11 {W : List ByteArray} {o : ON} {S : List ON} {r : Tr} {i : Nat} (he : W[i]? ≠ some wEntry) : ((wdP W i [wClose]).2 = 0 → goA ⟨11, o :: S, r⟩ (W.drop i) i = goA (cls ⟨11, S, r⟩ o.tr) (W.drop (i + 1)) (i + 1) ∧ (wdP W i [wClose]).1 = i + 1 ∧ i + 1 ≤ W.length) ∧ ((wdP W i [wClose]).2 ≠ 0 → Ends W ⟨11, o :: S, r⟩ i (wdP W i [wClose]).1 (wdP W i [wClose]).2 (S.length + 1)) := by
  rw [wdP]
  have hn : (11 : Int) ≠ 17 := by decide
  cases hx : W[i]? with
  | none => exact ⟨fun h => absurd (show (-1 : Int) = 0 from h) (by decide), fun _ => ⟨⟨11, o :: S, r⟩, goA_end (c := ⟨11, o :: S, r⟩) hn hx, rfl⟩⟩
  | some x =>
    dsimp only
    have hil : i < W.length := (List.getElem?_eq_some_iff.1 hx).1
    by_cases hxs : x = wClose
    · subst hxs
      rw [if_pos rfl]
      exact ⟨fun _ => ⟨goA_yes (c := ⟨11, o :: S, r⟩) hn hx (acc_close (Or.inr rfl)), rfl, hil⟩, fun h => absurd rfl h⟩
    · rw [if_neg hxs]
      have hxe : x ≠ wEntry := fun e => he (by rw [hx, e])
      have ha : (⟨11, o :: S, r⟩ : PC).accept x = (70, ⟨11, o :: S, r⟩) := acc_no (by show (11 : Int) ≠ 7; decide) (by show (11 : Int) ≠ 9; decide) (by show (11 : Int) ≠ 14; decide) (bh_no (fun x => x = wClose ∨ x = wEntry) (fun h => (bh_at 11 x h (by decide)).2.2.2.2.2.2.2.2.1 rfl) (fun h => h.elim hxs hxe))
      refine ⟨fun h => absurd (show (70 : Int) = 0 from h) (by decide), fun _ => ⟨⟨11, o :: S, r⟩, ?_, rfl⟩⟩
      rw [goA_no (c := ⟨11, o :: S, r⟩) hn hx (by rw [ha]; show (70 : Int) ≠ 0; decide), ha]
theorem go_entry {W : List ByteArray} {S : List ON} {r : Tr} {i : Nat} (he : W[i]? = some wEntry) : goA ⟨11, S, r⟩ (W.drop i) i = goA ⟨12, S, r⟩ (W.drop (i + 1)) (i + 1) :=
  goA_yes (c := ⟨11, S, r⟩) (by show (11 : Int) ≠ 17; decide) he (acc_on (by decide +kernel) (by decide) (by decide) (by decide) (by decide) (by decide) (by decide +kernel) (by decide))
end Go.Proofs.Ythlioedahoiahaa
namespace Go.Proofs.Ythlioedahoiahaa
open Go.RowKit

/-- A row of texts in block g. -/
def WL (w : World) (g : Nat) (L : List ByteArray) : Prop := g < w.heap.size ∧ ∀ i s, L[i]? = some s → w.cell? ⟨g, i, none⟩ = some (.string s)
theorem WL.below {w w' : World} {g : Nat} {L : List ByteArray} (h : WL w g L) (b : Below w.heap.size w w') : WL w' g L := ⟨Nat.lt_of_lt_of_le h.1 b.size, fun i s hi => (b.cell (p := ⟨g, i, none⟩) h.1).trans (h.2 i s hi)⟩
theorem WL.new (w : World) (L : List ByteArray) (T : TypeId) : WL (w.alloc (.cells (L.map Value.string).toArray T)) w.heap.size L := ⟨by rw [World.size_alloc]; omega, fun i s hi => by
  rw [World.cell?_alloc_new]
  simp [hi]⟩
theorem ba_beq (a b : ByteArray) : (a.toList == b.toList) = decide (a = b) := by
  by_cases h : a = b
  · subst h; simp
  · have : a.toList ≠ b.toList := fun e => h (by
      rw [Lib.toList_data, Lib.toList_data] at e
      exact ByteArray.ext (Array.toList_inj.1 e))
    simp [this, h]
theorem wdP_some {W : List ByteArray} {i : Nat} {s x : ByteArray} {l : List ByteArray} (h : W[i]? = some x) : wdP W i (s :: l) = if x = s then wdP W (i + 1) l else (i, 70) := by rw [wdP, h]
theorem wdP_none {W : List ByteArray} {i : Nat} {s : ByteArray} {l : List ByteArray} (h : W[i]? = none) : wdP W i (s :: l) = (i, -1) := by rw [wdP, h]

set_option maxHeartbeats 4000000 in
set_option maxRecDepth 8000 in
theorem rwords_any (v : Value) (W L : List ByteArray) (i g : Nat) (w : World) (hF : FR w v W) (hL : WL w g L) (hW : W.length ≤ 1048576) (hi : i ≤ 1048576) (_ : L.length ≤ 8) :
    Calls Try.prog 40 #[v, .int .i64 (i : Int), .slice (some ⟨g, 0, none⟩) L.length L.length] w fun e w' => e = .returned (.tuple #[.int .i64 ((wdP W i L).1 : Int), .int .i64 (wdP W i L).2]) ∧ Below w.heap.size w w' := by
  obtain ⟨x, c, rfl, hX⟩ := hF
  have HX : Hid (∀ i s, W[i]? = some s → ∃ g, x = some ⟨g, 0, none⟩ ∧ g < w.heap.size ∧ w.cell? ⟨g, i * 3, none⟩ = some (.string s) ∧ w.cell? ⟨g, i * 3 + 1, none⟩ = some (.int .i64 (fwS (W.take i) : Int)) ∧ w.cell? ⟨g, i * 3 + 2, none⟩ = some (.int .i64 (fwS (W.take (i + 1)) : Int))) := hX
  have HLL : Hid (WL w g L) := hL
  clear hX hL
  obtain ⟨R, hR⟩ : ∃ R, wdP W i L = R := ⟨_, rfl⟩
  rw [hR]
  have HR : Hid (wdP W i L = R) := hR
  clear hR
  go_enter Try.func40, Try.ntmps40
  go_wp2
  go_loopw [1, 8] (fun a k wr => ∃ j : Nat, j ≤ L.length ∧ k = .int .i64 j ∧ a = .int .i64 ((i + j : Nat) : Int) ∧ Hid (wdP W (i + j) (L.drop j) = R) ∧ Hid (Below w.heap.size w wr)) (fun _ k _ => L.length - (intOf k).toNat)
  case atStart => exact ⟨0, Nat.zero_le _, rfl, rfl, HR.out, Below.refl _ _⟩
  case round =>
    obtain ⟨j, hj, rfl, rfl, hP, hB⟩ := hrel
    by_cases hlt : j < L.length
    · obtain ⟨s, hs⟩ : ∃ s, L[j]? = some s := ⟨_, List.getElem?_eq_getElem hlt⟩
      have hd : L.drop j = s :: L.drop (j + 1) := drop_w hs
      by_cases hiW : i + j < W.length
      · obtain ⟨y, hy⟩ : ∃ y, W[i + j]? = some y := ⟨_, List.getElem?_eq_getElem hiW⟩
        have hP2 : Hid ((if y = s then wdP W (i + j + 1) (L.drop (j + 1)) else (i + j, 70)) = R) := by
          have := hP.out
          rw [hd, wdP_some hy] at this
          exact this
        obtain ⟨G, hG, g1, g2, -, -⟩ := HX.out (i + j) y hy
        subst hG
        have e1 : wr.cell? ⟨G, (i + j) * 3, none⟩ = some (.string y) := (hB.out.cell (p := ⟨G, (i + j) * 3, none⟩) g1).trans g2
        have e2 : wr.cell? ⟨g, j, none⟩ = some (.string s) := (hB.out.cell (p := ⟨g, j, none⟩) HLL.out.1).trans (HLL.out.2 j s hs)
        have hiI : (i : Int) + (j : Int) < (W.length : Int) := by omega
        have hcm := ba_beq y s
        clear hy hs hd hP
        by_cases hys : y = s
        · subst hys
          have hP3 : Hid (wdP W (i + j + 1) (L.drop (j + 1)) = R) := by have := hP2.out; rw [if_pos rfl] at this; exact this
          clear hP2 hcm
          go_upto_region 6 with fail
          go_quiet (fail)
          go_wp2
          go_roundw
          case rel => exact ⟨j + 1, hlt, by go_num, by go_num, by rw [show i + (j + 1) = i + j + 1 by omega]; exact hP3.out, belR_drewN hB.out _⟩
          case measure => simp [intOf]; omega
        · have hP3 : Hid (R = (i + j, 70)) := by have := hP2.out; rw [if_neg hys] at this; exact this.symm
          have q1 : (y.toList == s.toList) = false := by rw [hcm]; simp [hys]
          have q2 : (y.toList != s.toList) = true := by simp [bne, q1]
          have q3 : y.toList ≠ s.toList := by intro h; rw [h] at q1; simp at q1
          clear hP2 hcm
          go_upto_region 6 with fail
          go_quiet (fail)
          go_wp2
          go_ret2
          exact ⟨by rw [hP3.out]; simp, belR_drewN hB.out _⟩
      · have hy : W[i + j]? = none := List.getElem?_eq_none (by omega)
        have hP3 : Hid (R = (i + j, -1)) := by
          have := hP.out
          rw [hd, wdP_none hy] at this
          exact this.symm
        have hiI : ¬ ((i : Int) + (j : Int) < (W.length : Int)) := by omega
        have hiJ : (W.length : Int) ≤ (i : Int) + (j : Int) := by omega
        clear hP hs hd hy
        go_wp2
        go_ret2
        exact ⟨by rw [hP3.out]; simp, hB.out⟩
    · obtain rfl : j = L.length := by omega
      have hP3 : Hid (R = (i + L.length, 0)) := by
        have := hP.out
        rw [List.drop_of_length_le (Nat.le_refl _), wdP] at this
        exact this.symm
      clear hP
      go_wp2
      go_ret2
      exact ⟨by rw [hP3.out]; simp, hB.out⟩

/-- A step as a value. -/
def stV (k : Int) (e : Bool) (t : ByteArray) (v : Value) (nxt code opn : Int) : Value := .agg #[.int .i64 k, .bool e, .string t, v, .int .i64 nxt, .int .i64 code, .int .i64 opn]
def stC (k : Int) (e : Bool) (t : ByteArray) (v : Value) (nxt code opn : Int) : List Value := [.int .i64 k, .bool e, .string t, v, .int .i64 nxt, .int .i64 code, .int .i64 opn]
/-- A step that is handed back in seven new cells. -/
theorem ret_step {f : Func} {tmps : Array Value} {W : World} {G : Nat} {i : Nat} {k : Int} {e : Bool} {t : ByteArray} {v : Value} {a b c : Int} {R : Ending → World → Prop} (hf : f.results = #[.cell i 122]) (ht : tmps[i]?.getD undef = .pointer (some ⟨G, 0, none⟩))
    (q : St W G (stC k e t v a b c)) (hR : R (.returned (stV k e t v a b c)) W) :
    bodyPost Try.prog f R .ret { tmps := tmps, defers := [] } W := by
  have q0 := q.get 0 _ rfl
  have q1 := q.get 1 _ rfl
  have q2 := q.get 2 _ rfl
  have q3 := q.get 3 _ rfl
  have q4 := q.get 4 _ rfl
  have q5 := q.get 5 _ rfl
  have q6 := q.get 6 _ rfl
  exact bodyPost_ret (v := stV k e t v a b c) (by simp [results, hf, go_sem, ht, q0, q1, q2, q3, q4, q5, q6, stV]) rfl hR
set_option maxHeartbeats 2000000 in
theorem stopped_any (a b c : Int) (w : World) : Calls Try.prog 41 #[.int .i64 a, .int .i64 b, .int .i64 c] w fun e w' => e = .returned (stV 0 false ⟨#[]⟩ (.slice none 0 0) a b c) ∧ Below w.heap.size w w' := by
  go_enter Try.func41, Try.ntmps41
  go_wp2
  exact ret_step rfl rfl (St.new w _ _) ⟨rfl, (Below.refl _ _).alloc (Nat.le_refl _) _⟩
end Go.Proofs.Ythlioedahoiahaa
namespace Go.Proofs.Ythlioedahoiahaa
open Go.RowKit

theorem acc_keep (c : PC) (s : ByteArray) (h : (c.accept s).1 ≠ 0) : (c.accept s).2 = c := by
  unfold PC.accept at h ⊢
  by_cases h7 : c.next = 7
  · rw [if_pos h7] at h; exact absurd rfl h
  rw [if_neg h7] at h ⊢
  by_cases h9 : c.next = 9
  · rw [if_pos h9] at h ⊢
    by_cases ht : tgt s ≠ 0
    · rw [if_pos ht]
    · rw [if_neg ht] at h; exact absurd rfl h
  rw [if_neg h9] at h ⊢
  by_cases h14 : c.next = 14
  · rw [if_pos h14] at h ⊢
    cases ho : c.op with
    | nil => rfl
    | cons o R =>
      rw [ho] at h
      dsimp only at h ⊢
      by_cases hc : ceP o.nms.getLast? s ≠ 0
      · rw [if_pos hc]
      · rw [if_neg hc] at h; exact absurd rfl h
  rw [if_neg h14] at h ⊢
  unfold PC.fixed at h ⊢
  by_cases hb : (bhP c.next s).2 = false
  · rw [if_pos hb]
  rw [if_neg hb] at h ⊢
  by_cases h1 : c.next = 1 ∧ c.op.length = 32
  · rw [if_pos h1]
  rw [if_neg h1] at h ⊢
  by_cases h2 : c.next = 1
  · rw [if_pos h2] at h; exact absurd rfl h
  rw [if_neg h2] at h ⊢
  by_cases h3 : c.next = 3
  · rw [if_pos h3] at h; exact absurd rfl h
  rw [if_neg h3] at h ⊢
  by_cases h4 : s = wExec
  · rw [if_pos h4] at h; exact absurd rfl h
  rw [if_neg h4] at h ⊢
  by_cases h5 : (bhP c.next s).1 = 16
  · rw [if_pos h5] at h; exact absurd rfl h
  · rw [if_neg h5] at h; exact absurd rfl h
/-- A frame whose word is refused. -/
theorem run_refused {p : PS} {s : ByteArray} (hp : p.head) (hn : p.c.next ≠ 17) (hs : s.size ≤ 1048576) (ht : p.taken + fs8 s ≤ 1048576) (ha : (p.c.accept s).1 ≠ 0) (rest : List UInt8) :
    (p.run (fr8 s.data.toList ++ rest)).code = (p.c.accept s).1 ∧ (p.run (fr8 s.data.toList ++ rest)).fat = (p.taken : Int) ∧ (p.run (fr8 s.data.toList ++ rest)).taken = p.taken + fs8 s - 1 ∧ (p.run (fr8 s.data.toList ++ rest)).held = fs8 s - 1 ∧ (p.run (fr8 s.data.toList ++ rest)).c = (p.c.accept s).2 := by
  have hz : s.data.toList.length = s.size := by rw [Array.length_toList]; rfl
  have hba : NB.ba s.data.toList = s := NB.ba_list s
  have hfl : (fr8 s.data.toList).length = fs8 s := by rw [fr8_len, hz]; rfl
  have h8 : 8 ≤ fs8 s := by unfold fs8; omega
  have hc0 : p.code = 0 := by rw [hp]; rfl
  obtain ⟨v, b, hv⟩ : ∃ v b, fr8 s.data.toList = v ++ [b] := by
    rcases List.eq_nil_or_concat (fr8 s.data.toList) with h | ⟨v, b, h⟩
    · rw [h] at hfl; simp at hfl; omega
    · exact ⟨v, b, by rw [h]; simp⟩
  have hvl : v.length + 1 = fs8 s := by rw [← hfl, hv, List.length_append]; rfl
  have h1 := run_pre p s.data.toList (by omega) hn (by rw [hfl]; exact ht) v [] [b] (by simp) (by rw [hv]; simp)
  rw [← head_mid hp, List.nil_append] at h1
  obtain ⟨q1, q2, q3⟩ := pre_frame (s := s.data.toList) (l := v) (v := []) (b := b) (by omega) (by rw [hv])
  have hL : leN ((v ++ [b]).take 8) = s.size := by rw [← hz]; exact q3 (by omega)
  have he : v.length + 1 = 8 + leN ((v ++ [b]).take 8) + padN (leN ((v ++ [b]).take 8)) := by rw [hL, hvl]; rfl
  have hst := step_end p v b hn (by omega) q1 q2 he
  have hw : wrd (v ++ [b]) = s.data.toList := by rw [← hv]; exact wrd_frame (by omega)
  rw [hw, hba, if_pos ha] at hst
  have hrun : p.run (fr8 s.data.toList ++ rest) = (p.mid v).step b := by
    have := run_code v p b rest hc0 (by rw [h1]; rfl) (by rw [h1]; exact hn) (by rw [h1, hst]; exact ha)
    rw [h1] at this
    rw [hv, List.append_assoc]
    exact this
  rw [hrun, hst]
  refine ⟨rfl, rfl, ?_, ?_, rfl⟩
  · show p.taken + v.length = _
    omega
  · show v.length = _
    omega
/-- A frame whose word is accepted. -/
theorem run_taken {p : PS} {s : ByteArray} (hp : p.head) (hn : p.c.next ≠ 17) (hs : s.size ≤ 1048576) (ht : p.taken + fs8 s ≤ 1048576) (ha : (p.c.accept s).1 = 0) (rest : List UInt8) : p.run (fr8 s.data.toList ++ rest) = (p.nxt (fs8 s) (p.c.accept s).2).run rest := by
  have hz : s.data.toList.length = s.size := by rw [Array.length_toList]; rfl
  have hba : NB.ba s.data.toList = s := NB.ba_list s
  have hfl : (fr8 s.data.toList).length = fs8 s := by rw [fr8_len, hz]; rfl
  have h8 : 8 ≤ fs8 s := by unfold fs8; omega
  have h1 := run_frame p s.data.toList (by omega) hn (by rw [hfl]; exact ht) (by rw [hba]; exact ha) rest (fr8 s.data.toList) [] (by intro e; rw [e] at hfl; simp at hfl; omega) rfl
  rw [← head_mid hp, hba, hfl] at h1
  exact h1
/-- Behind the end: nothing more comes in. -/
theorem run_behind {p : PS} (hp : p.head) (hn : p.c.next = 17) (rest : List UInt8) : (p.run rest).taken = p.taken ∧ (p.run rest).held = 0 ∧ (p.run rest).c = p.c ∧ (p.run rest).code = (if p.part = false ∧ rest ≠ [] then 5 else 0) ∧ (p.run rest).fat = (if p.part = false ∧ rest ≠ [] then (p.taken : Int) else 0) := by
  have hc0 : p.code = 0 := by rw [hp]; rfl
  have hf0 : p.fat = 0 := by rw [hp]; rfl
  have hh0 : p.held = 0 := by rw [hp]; rfl
  cases rest with
  | nil =>
    have e : p.run [] = p := rfl
    rw [e, if_neg (fun h => h.2 rfl), if_neg (fun h => h.2 rfl)]
    exact ⟨rfl, hh0, rfl, hc0, hf0⟩
  | cons b l =>
    rw [PS.run_cons]
    cases hpt : p.part
    · rw [if_neg (fun h => by cases h.1)]
      have e : p.take b = ((5, (p.taken : Int)), p) := if_pos hn
      have hst := PS.step_bad (p := p) (b := b) (by rw [e]; show (5 : Int) ≠ 0; decide)
      rw [if_pos (by rw [hst, e]; show (5 : Int) ≠ 0; decide), hst, e, if_pos ⟨rfl, by simp⟩, if_pos ⟨rfl, by simp⟩]
      exact ⟨rfl, hh0, rfl, rfl, rfl⟩
    · rw [if_pos ⟨rfl, hn⟩, if_neg (fun h => by cases h.1), if_neg (fun h => by cases h.1)]
      exact ⟨rfl, hh0, rfl, hc0, hf0⟩
/-- What the machine has of words and of what is no word behind them. -/
structure GoR (p q : PS) (W : List ByteArray) (u : List UInt8) (n : Nat) (c a : Int) (d : PC) (k : Nat) (code : Int) : Prop where
  pc : q.c = d
  z : code = 0 → d.next = 17 ∧ q.taken = p.taken + fwS (W.take k) ∧ q.held = 0 ∧ q.code = (if p.part = false ∧ fwS (W.take k) < fwS W + u.length then 5 else 0) ∧ q.fat = (if p.part = false ∧ fwS (W.take k) < fwS W + u.length then ((p.taken + fwS (W.take k) : Nat) : Int) else 0)
  m : code = -1 → k = W.length ∧ d.next ≠ 17 ∧ q.taken = p.taken + fwS W + n ∧ q.held = n ∧ q.code = c ∧ (c = 0 → q.fat = 0) ∧ (c ≠ 0 → q.fat = p.taken + fwS W + a)
  b : code ≠ 0 → code ≠ -1 → k < W.length ∧ d.next ≠ 17 ∧ q.code = code ∧ q.fat = ((p.taken + fwS (W.take k) : Nat) : Int) ∧ q.taken = p.taken + fwS (W.take (k + 1)) - 1 ∧ q.held = fwS (W.take (k + 1)) - 1 - fwS (W.take k)
theorem nofr_zero {u : List UInt8} {n : Nat} {c a : Int} (h : NoFr u n c a) {p : PS} (hp : p.head) (hn : p.c.next ≠ 17) (ht : p.taken + u.length ≤ 1048576) (hc : c = 0) : (p.run u).fat = 0 := by
  cases h with
  | short h8 => rw [run_part hp hn ht (fun h => by omega) (fun h => by omega) (fun h => by omega)]; rfl
  | long => cases hc
  | pad => cases hc
  | part k h8 hk hle hlt hz => rw [run_part hp hn ht (fun _ => by rw [← hk]; exact hle) (fun _ i x h1 h2 => hz i x (by rw [hk]; exact h1) h2) (fun _ => by rw [← hk]; exact hlt)]; rfl
theorem goA_shift : ∀ (W : List ByteArray) (c : PC) (k : Nat), goA c W (k + 1) = ((goA c W k).1, (goA c W k).2.1 + 1, (goA c W k).2.2)
  | [], c, k => by rw [goA, goA]
  | s :: W, c, k => by
    rw [goA, goA]
    by_cases hn : c.next = 17
    · rw [if_pos hn, if_pos hn]
    rw [if_neg hn, if_neg hn]
    by_cases ha : (c.accept s).1 ≠ 0
    · rw [if_pos ha, if_pos ha]
    · rw [if_neg ha, if_neg ha]; exact goA_shift W (c.accept s).2 (k + 1)
theorem run_goA {u : List UInt8} {n : Nat} {c a : Int} (hF : NoFr u n c a) : ∀ (W : List ByteArray) (p : PS) (d : PC) (k : Nat) (code : Int), p.head → (∀ s ∈ W, s.size ≤ 1048576) → p.taken + fwS W + u.length ≤ 1048576 → goA p.c W 0 = (d, k, code) → GoR p (p.run (frm W ++ u)) W u n c a d k code
  | [], p, d, k, code, hp, hs, ht, hg => by
    rw [goA] at hg
    injection hg with g1 g2
    injection g2 with g2 g3
    have ht' : p.taken + (0 + u.length) ≤ 1048576 := by have : fwS ([] : List ByteArray) = 0 := rfl; omega
    show GoR p (p.run u) [] u n c a d k code
    by_cases hn : p.c.next = 17
    · rw [if_pos hn] at g3
      obtain ⟨r1, r2, r3, r4, r5⟩ := run_behind hp hn u
      have hu : u ≠ [] ↔ 0 < 0 + u.length := by cases u <;> simp
      subst g1 g2 g3
      refine ⟨r3, fun _ => ⟨hn, r1, r2, ?_, ?_⟩, fun h => absurd h (by decide), fun h => absurd rfl h⟩
      · rw [r4]; show _ = (if p.part = false ∧ 0 < 0 + u.length then (5 : Int) else 0); simp only [hu]
      · rw [r5]; show _ = (if p.part = false ∧ 0 < 0 + u.length then ((p.taken + 0 : Nat) : Int) else 0); simp only [hu, Nat.add_zero]
    · rw [if_neg hn] at g3
      have hS := stp_of hF hp hn (by omega)
      subst g1 g2 g3
      exact ⟨hS.pc, fun h => absurd h (by decide), fun _ => ⟨rfl, hn, hS.tk, hS.hd, hS.cd, fun h => nofr_zero hF hp hn (by omega) h, fun h => by rw [hS.ft h]; show (p.taken : Int) + a = p.taken + ((0 : Nat) : Int) + a; omega⟩, fun _ h => absurd rfl h⟩
  | s :: W, p, d, k, code, hp, hs, ht, hg => by
    have hs1 := hs s (by simp)
    have ht1 : p.taken + (fs8 s + fwS W) + u.length ≤ 1048576 := ht
    have h8 : 8 ≤ fs8 s := by unfold fs8; omega
    have hfr : frm (s :: W) ++ u = fr8 s.data.toList ++ (frm W ++ u) := by
      show (txt s).data.toList ++ frm W ++ u = _
      rw [txt_list, List.append_assoc]
    rw [hfr]
    rw [goA] at hg
    by_cases hn : p.c.next = 17
    · rw [if_pos hn] at hg
      injection hg with g1 g2
      injection g2 with g2 g3
      obtain ⟨r1, r2, r3, r4, r5⟩ := run_behind hp hn (fr8 s.data.toList ++ (frm W ++ u))
      have hne : fr8 s.data.toList ++ (frm W ++ u) ≠ [] := fun e => by
        have := congrArg List.length e
        rw [List.length_append, fr8_len] at this
        simp at this
      have hlt : fwS (List.take 0 (s :: W)) < fwS (s :: W) + u.length := by
        show 0 < (fs8 s + fwS W) + u.length
        omega
      subst g1 g2 g3
      refine ⟨r3, fun _ => ⟨hn, r1, r2, ?_, ?_⟩, fun h => absurd h (by decide), fun h => absurd rfl h⟩
      · rw [r4]; simp only [hne, hlt, ne_eq, not_false_eq_true, and_true]
      · rw [r5]; simp only [hne, hlt, ne_eq, not_false_eq_true, and_true]; rfl
    rw [if_neg hn] at hg
    by_cases ha : (p.c.accept s).1 ≠ 0
    · rw [if_pos ha] at hg
      injection hg with g1 g2
      injection g2 with g2 g3
      obtain ⟨r1, r2, r3, r4, r5⟩ := run_refused hp hn hs1 (by omega) ha (frm W ++ u)
      have hsame := acc_keep p.c s ha
      subst g1 g2 g3
      have hnn := acc_nn p.c s
      refine ⟨r5, fun h => absurd h ha, fun h => by omega, fun _ _ => ⟨by simp, by rw [hsame]; exact hn, r1, r2, ?_, ?_⟩⟩
      · rw [r3]; rfl
      · rw [r4]; show fs8 s - 1 = fs8 s + 0 - 1 - 0; omega
    · rw [if_neg ha] at hg
      have ha0 : (p.c.accept s).1 = 0 := by omega
      rw [run_taken hp hn hs1 (by omega) ha0]
      have hsh := goA_shift W (p.c.accept s).2 0
      rw [Nat.zero_add] at hsh
      rw [hsh] at hg
      injection hg with g1 g2
      injection g2 with g2 g3
      have ih := run_goA hF W (p.nxt (fs8 s) (p.c.accept s).2) _ _ _ (nxt_head _ _ _) (fun x hx => hs x (by simp [hx])) (by show p.taken + fs8 s + fwS W + u.length ≤ _; omega) rfl
      change GoR (p.nxt (fs8 s) (p.c.accept s).2) _ W u n c a (goA (p.c.accept s).2 W 0).1 (goA (p.c.accept s).2 W 0).2.1 (goA (p.c.accept s).2 W 0).2.2 at ih
      rw [g1, g3] at ih
      obtain ⟨k', hk'⟩ : ∃ k', (goA (p.c.accept s).2 W 0).2.1 = k' := ⟨_, rfl⟩
      rw [hk'] at ih g2
      subst g2
      have hT : ∀ j, fwS (List.take (j + 1) (s :: W)) = fs8 s + fwS (W.take j) := fun j => rfl
      have hWs : fwS (s :: W) = fs8 s + fwS W := rfl
      have hpt : (p.nxt (fs8 s) (p.c.accept s).2).part = p.part := rfl
      have htk : (p.nxt (fs8 s) (p.c.accept s).2).taken = p.taken + fs8 s := rfl
      refine ⟨ih.pc, fun h => ?_, fun h => ?_, fun h1 h2 => ?_⟩
      · obtain ⟨z1, z2, z3, z4, z5⟩ := ih.z h
        rw [htk] at z2 z5
        rw [hpt] at z4 z5
        have hiff : (fwS (W.take k') < fwS W + u.length) ↔ (fs8 s + fwS (W.take k') < fs8 s + fwS W + u.length) := by omega
        rw [hT, hWs]
        simp only [hiff] at z4 z5
        refine ⟨z1, by omega, z3, z4, ?_⟩
        rw [z5]; simp only [Nat.add_assoc]
      · obtain ⟨m1, m2, m3, m4, m5, m6, m7⟩ := ih.m h
        rw [htk] at m3 m7
        rw [hWs]
        refine ⟨by rw [m1]; rfl, m2, by omega, m4, m5, m6, fun hc => ?_⟩
        have := m7 hc
        omega
      · obtain ⟨b1, b2, b3, b4, b5, b6⟩ := ih.b h1 h2
        rw [htk] at b4 b5
        rw [hT, hT]
        refine ⟨by simpa using b1, b2, b3, ?_, by omega, by omega⟩
        rw [b4, Nat.add_assoc]
end Go.Proofs.Ythlioedahoiahaa
