/- NrA NrB NrC, gathered (own text of the verifier). -/
import Derived.Test.YtcmdeiohnkbjlaaDoorNp4x
import Derived.Test.YtcmdeiohnkbjlaaDoorNa3x
namespace Go.Proofs.YtcmdeiohnkbjlaaDoor
open Go.RowKit

/-- The number of little-endian bytes. -/
def leN : List UInt8 → Nat
  | [] => 0
  | b :: l => b.toNat + 256 * leN l
theorem leN_snoc (l : List UInt8) (b : UInt8) : leN (l ++ [b]) = leN l + b.toNat * 2 ^ (8 * l.length) := by
  induction l with
  | nil => show b.toNat + 256 * 0 = 0 + b.toNat * 2 ^ 0; omega
  | cons a l ih =>
    show a.toNat + 256 * leN (l ++ [b]) = a.toNat + 256 * leN l + b.toNat * 2 ^ (8 * (l.length + 1))
    rw [ih, Nat.mul_add 8, Nat.pow_add, Nat.mul_add]
    have : 256 * (b.toNat * 2 ^ (8 * l.length)) = b.toNat * (2 ^ (8 * l.length) * 2 ^ (8 * 1)) := by
      rw [← Nat.mul_assoc, Nat.mul_comm 256, Nat.mul_assoc, Nat.mul_comm 256]
    omega
/-- The first k bytes of n. -/
def lek (n : Nat) : Nat → List UInt8
  | 0 => []
  | k + 1 => UInt8.ofNat (n % 256) :: lek (n / 256) k
theorem lek_len (n : Nat) : ∀ k, (lek n k).length = k := by
  intro k
  induction k generalizing n with
  | zero => rfl
  | succ k ih => show (lek (n / 256) k).length + 1 = k + 1; rw [ih]
theorem leN_lek : ∀ (k n : Nat), leN (lek n k) = n % 256 ^ k
  | 0, n => by show 0 = n % 1; omega
  | k + 1, n => by
    show (UInt8.ofNat (n % 256)).toNat + 256 * leN (lek (n / 256) k) = n % 256 ^ (k + 1)
    have e1 : (UInt8.ofNat (n % 256)).toNat = n % 256 := by
      rw [UInt8.toNat_ofNat']
      exact Nat.mod_mod _ _
    have e2 : 256 ^ (k + 1) = 256 * 256 ^ k := by rw [Nat.pow_succ, Nat.mul_comm]
    rw [leN_lek k (n / 256), e1, e2, Nat.mod_mul]
theorem leN_lek8 (n : Nat) (h : n ≤ 1048576) : leN (lek n 8) = n := by
  rw [leN_lek]
  exact Nat.mod_eq_of_lt (Nat.lt_of_le_of_lt h (by decide))
/-- A framed word. -/
def fr8 (s : List UInt8) : List UInt8 := lek s.length 8 ++ (s ++ List.replicate (padN s.length) 0)
theorem fr8_len (s : List UInt8) : (fr8 s).length = 8 + s.length + padN s.length := by
  unfold fr8
  rw [List.length_append, List.length_append, lek_len, List.length_replicate]
  omega
theorem fr8_take8 (s : List UInt8) : (fr8 s).take 8 = lek s.length 8 := by
  unfold fr8
  rw [List.take_append_of_le_length (by rw [lek_len]; exact Nat.le_refl _), List.take_of_length_le (by rw [lek_len]; exact Nat.le_refl _)]
theorem fr8_drop8 (s : List UInt8) : (fr8 s).drop 8 = s ++ List.replicate (padN s.length) 0 := by
  unfold fr8
  rw [List.drop_append_of_le_length (by rw [lek_len]; exact Nat.le_refl _), List.drop_of_length_le (by rw [lek_len]; exact Nat.le_refl _)]
  rfl

/-- In the midst of a word: l came of it. -/
def PS.mid (p : PS) (l : List UInt8) : PS := ⟨p.taken + l.length, l.length, 0, 0, p.part, p.closed, leN (l.take 8), (l.drop 8).take (leN (l.take 8)), p.c⟩
/-- Behind a whole word. -/
def PS.nxt (p : PS) (n : Nat) (c : PC) : PS := ⟨p.taken + n, 0, 0, 0, p.part, p.closed, 0, [], c⟩
/-- The word that l is the frame of. -/
def wrd (l : List UInt8) : List UInt8 := (l.drop 8).take (leN (l.take 8))

theorem ends_go {q : PS} (h : q.held + 1 ≠ 8 + q.len + padN q.len) : q.ends = ((0, 0), q.sh (q.held + 1)) := by unfold PS.ends; rw [if_pos h]
theorem ends_ok {q : PS} (h : q.held + 1 = 8 + q.len + padN q.len) (ha : (q.c.accept (NB.ba q.text)).1 = 0) : q.ends = ((0, 0), (((q.sc (q.c.accept (NB.ba q.text)).2).sh 0).sl 0).st []) := by unfold PS.ends; rw [if_neg (by omega), if_neg (by omega)]
theorem ends_bad {q : PS} (h : q.held + 1 = 8 + q.len + padN q.len) (ha : (q.c.accept (NB.ba q.text)).1 ≠ 0) : q.ends = (((q.c.accept (NB.ba q.text)).1, (q.taken : Int) - q.held), q.sc (q.c.accept (NB.ba q.text)).2) := by unfold PS.ends; rw [if_neg (by omega), if_pos ha]

/-- What a byte is put to. -/
theorem put_mid (p : PS) (l : List UInt8) (b : UInt8) (h1 : l.length = 7 → leN (l ++ [b]) ≤ 1048576) (h2 : 8 ≤ l.length → leN (l.take 8) ≤ l.length - 8 → b = 0) :
    (p.mid l).put b = ((0, 0), (⟨p.taken + l.length, l.length, 0, 0, p.part, p.closed, leN ((l ++ [b]).take 8), wrd (l ++ [b]), p.c⟩ : PS)) := by
  unfold PS.put
  by_cases h8 : l.length < 8
  · have hn : (p.mid l).nl b = leN ((l ++ [b]).take 8) := by
      unfold PS.nl PS.mid
      show leN (l.take 8) + b.toNat * 2 ^ (8 * l.length) = _
      rw [List.take_of_length_le (by omega), List.take_of_length_le (by rw [List.length_append]; show l.length + 1 ≤ 8; omega), leN_snoc]
    have h7 : ¬ ((p.mid l).held = 7 ∧ 1048576 < (p.mid l).nl b) := fun h => by
      have h3 := h1 h.1
      have h4 := h.2
      rw [hn, List.take_of_length_le (by rw [List.length_append]; show l.length + 1 ≤ 8; omega)] at h4
      omega
    rw [if_pos (show (p.mid l).held < 8 from h8), if_neg h7, hn]
    have e1 : (l.drop 8).take (leN (l.take 8)) = [] := by rw [List.drop_of_length_le (by omega)]; simp
    have e2 : wrd (l ++ [b]) = [] := by unfold wrd; rw [List.drop_of_length_le (by rw [List.length_append]; show l.length + 1 ≤ 8; omega)]; simp
    show ((0, 0), (⟨p.taken + l.length, l.length, 0, 0, p.part, p.closed, leN ((l ++ [b]).take 8), (l.drop 8).take (leN (l.take 8)), p.c⟩ : PS)) = _
    rw [e1, e2]
  · have e8 : (l ++ [b]).take 8 = l.take 8 := List.take_append_of_le_length (by omega)
    have ed : (l ++ [b]).drop 8 = l.drop 8 ++ [b] := List.drop_append_of_le_length (by omega)
    rw [if_neg (show ¬ (p.mid l).held < 8 from h8)]
    have hl : (p.mid l).text.length = min (leN (l.take 8)) (l.length - 8) := by
      show ((l.drop 8).take (leN (l.take 8))).length = _
      rw [List.length_take, List.length_drop]
    have hlen : (p.mid l).len = leN (l.take 8) := rfl
    rw [hl, hlen]
    unfold wrd
    rw [e8, ed]
    by_cases hlt : min (leN (l.take 8)) (l.length - 8) < leN (l.take 8)
    · rw [if_pos hlt]
      have e3 : (l.drop 8 ++ [b]).take (leN (l.take 8)) = (l.drop 8).take (leN (l.take 8)) ++ [b] := by
        rw [List.take_of_length_le (by rw [List.length_append, List.length_drop]; show l.length - 8 + 1 ≤ _; omega), List.take_of_length_le (by rw [List.length_drop]; omega)]
      rw [e3]
      rfl
    · rw [if_neg hlt, if_neg (by have := h2 (by omega) (by omega); simp [this])]
      rw [List.take_append_of_le_length (by rw [List.length_drop]; omega)]
      rfl

/-- A byte of a word, not the last. -/
theorem step_go (p : PS) (l : List UInt8) (b : UInt8) (hn : p.c.next ≠ 17) (ht : p.taken + l.length < 1048576) (h1 : l.length = 7 → leN (l ++ [b]) ≤ 1048576) (h2 : 8 ≤ l.length → leN (l.take 8) ≤ l.length - 8 → b = 0)
    (he : l.length + 1 ≠ 8 + leN ((l ++ [b]).take 8) + padN (leN ((l ++ [b]).take 8))) : (p.mid l).step b = p.mid (l ++ [b]) := by
  have e : (p.mid l).take b = ((0, 0), (⟨p.taken + l.length, l.length + 1, 0, 0, p.part, p.closed, leN ((l ++ [b]).take 8), wrd (l ++ [b]), p.c⟩ : PS)) := by
    unfold PS.take
    rw [if_neg (show ¬ (p.mid l).c.next = 17 from hn), if_neg (show ¬ (p.mid l).taken = 1048576 from by show ¬ p.taken + l.length = 1048576; omega), put_mid p l b h1 h2, if_neg (by show ¬ (0 : Int) ≠ 0; decide)]
    exact ends_go he
  rw [PS.step_ok (by rw [e]), e]
  show (⟨p.taken + l.length + 1, l.length + 1, 0, 0, p.part, p.closed, leN ((l ++ [b]).take 8), wrd (l ++ [b]), p.c⟩ : PS) = p.mid (l ++ [b])
  unfold PS.mid
  rw [List.length_append]
  rfl
/-- The last byte of a word. -/
theorem step_end (p : PS) (l : List UInt8) (b : UInt8) (hn : p.c.next ≠ 17) (ht : p.taken + l.length < 1048576) (h1 : l.length = 7 → leN (l ++ [b]) ≤ 1048576) (h2 : 8 ≤ l.length → leN (l.take 8) ≤ l.length - 8 → b = 0)
    (he : l.length + 1 = 8 + leN ((l ++ [b]).take 8) + padN (leN ((l ++ [b]).take 8))) :
    (p.mid l).step b = if (p.c.accept (NB.ba (wrd (l ++ [b])))).1 ≠ 0 then (⟨p.taken + l.length, l.length, (p.c.accept (NB.ba (wrd (l ++ [b])))).1, (p.taken : Int), p.part, p.closed, leN ((l ++ [b]).take 8), wrd (l ++ [b]), (p.c.accept (NB.ba (wrd (l ++ [b])))).2⟩ : PS)
      else p.nxt (l.length + 1) (p.c.accept (NB.ba (wrd (l ++ [b])))).2 := by
  have e : (p.mid l).take b = (⟨p.taken + l.length, l.length, 0, 0, p.part, p.closed, leN ((l ++ [b]).take 8), wrd (l ++ [b]), p.c⟩ : PS).ends := by
    unfold PS.take
    rw [if_neg (show ¬ (p.mid l).c.next = 17 from hn), if_neg (show ¬ (p.mid l).taken = 1048576 from by show ¬ p.taken + l.length = 1048576; omega), put_mid p l b h1 h2, if_neg (by show ¬ (0 : Int) ≠ 0; decide)]
  by_cases ha : (p.c.accept (NB.ba (wrd (l ++ [b])))).1 ≠ 0
  · rw [if_pos ha]
    rw [ends_bad he ha] at e
    rw [PS.step_bad (by rw [e]; exact ha), e]
    show (⟨p.taken + l.length, l.length, (p.c.accept (NB.ba (wrd (l ++ [b])))).1, ((p.taken + l.length : Nat) : Int) - (l.length : Nat), p.part, p.closed, leN ((l ++ [b]).take 8), wrd (l ++ [b]), (p.c.accept (NB.ba (wrd (l ++ [b])))).2⟩ : PS) = _
    have : ((p.taken + l.length : Nat) : Int) - (l.length : Nat) = p.taken := by omega
    rw [this]
  · rw [if_neg ha]
    have ha0 : (p.c.accept (NB.ba (wrd (l ++ [b])))).1 = 0 := by omega
    rw [ends_ok he ha0] at e
    rw [PS.step_ok (by rw [e]), e]
    show (⟨p.taken + l.length + 1, 0, 0, 0, p.part, p.closed, 0, [], (p.c.accept (NB.ba (wrd (l ++ [b])))).2⟩ : PS) = _
    unfold PS.nxt
    rw [Nat.add_assoc]

/-- What a beginning of a frame has. -/
theorem pre_frame {s l v : List UInt8} {b : UInt8} (hs : s.length ≤ 1048576) (h : l ++ b :: v = fr8 s) :
    (l.length = 7 → leN (l ++ [b]) ≤ 1048576) ∧ (8 ≤ l.length → leN (l.take 8) ≤ l.length - 8 → b = 0) ∧ (8 ≤ l.length + 1 → leN ((l ++ [b]).take 8) = s.length) := by
  have h8 : leN ((fr8 s).take 8) = s.length := by
    rw [fr8_take8, leN_lek8 _ hs]
  have hlb : l ++ b :: v = (l ++ [b]) ++ v := by simp
  have hk : 8 ≤ l.length + 1 → leN ((l ++ [b]).take 8) = s.length := fun hl => by
    have e : (l ++ [b] ++ v).take 8 = (l ++ [b]).take 8 := List.take_append_of_le_length (by rw [List.length_append]; exact hl)
    rw [← h8, ← h, hlb, e]
  refine ⟨fun h7 => ?_, fun hl hle => ?_, hk⟩
  · have := hk (by omega)
    rw [List.take_of_length_le (by rw [List.length_append]; show l.length + 1 ≤ 8; omega)] at this
    omega
  · have e : leN (l.take 8) = s.length := by
      have := hk (by omega)
      rw [List.take_append_of_le_length (by omega)] at this
      exact this
    have hb : (fr8 s)[l.length]? = some b := by rw [← h, List.getElem?_append_right (Nat.le_refl _), Nat.sub_self]; rfl
    have hd : (fr8 s)[l.length]? = ((fr8 s).drop 8)[l.length - 8]? := by
      rw [List.getElem?_drop, show 8 + (l.length - 8) = l.length by omega]
    have hle' : s.length ≤ l.length - 8 := by rw [← e]; exact hle
    rw [hd, fr8_drop8, List.getElem?_append_right hle', List.getElem?_replicate] at hb
    by_cases hp : l.length - 8 - s.length < padN s.length
    · rw [if_pos hp] at hb; injection hb with hb; exact hb.symm
    · rw [if_neg hp] at hb; cases hb
theorem wrd_frame {s : List UInt8} (hs : s.length ≤ 1048576) : wrd (fr8 s) = s := by
  unfold wrd
  rw [fr8_take8, leN_lek8 _ hs, fr8_drop8, List.take_append_of_le_length (Nat.le_refl _), List.take_of_length_le (Nat.le_refl _)]
theorem mid_code (p : PS) (l : List UInt8) : (p.mid l).code = 0 := rfl

/-- A beginning of a frame. -/
theorem run_pre (p : PS) (s : List UInt8) (hs : s.length ≤ 1048576) (hn : p.c.next ≠ 17) (ht : p.taken + (fr8 s).length ≤ 1048576) : ∀ (v l z : List UInt8), z ≠ [] → l ++ v ++ z = fr8 s → (p.mid l).run v = p.mid (l ++ v)
  | [], l, z, _, _ => by rw [List.append_nil]; rfl
  | b :: v, l, z, hz, h => by
    have h' : l ++ b :: (v ++ z) = fr8 s := by rw [← h]; simp
    obtain ⟨h1, h2, h3⟩ := pre_frame hs h'
    have hlen := congrArg List.length h
    simp only [List.length_append, List.length_cons, fr8_len] at hlen
    have hz1 : 1 ≤ z.length := by cases z with | nil => exact absurd rfl hz | cons _ _ => simp
    rw [fr8_len] at ht
    have hst : (p.mid l).step b = p.mid (l ++ [b]) := by
      refine step_go p l b hn (by omega) h1 h2 (fun he => ?_)
      by_cases h8 : 8 ≤ l.length + 1
      · rw [h3 h8] at he; omega
      · omega
    rw [PS.run, if_neg (fun hh => hn hh.2), hst, if_neg (by rw [mid_code]; decide)]
    have := run_pre p s hs hn (by rw [fr8_len]; exact ht) v (l ++ [b]) z hz (by rw [← h]; simp)
    rw [this]
    simp
/-- A whole frame. -/
theorem run_frame (p : PS) (s : List UInt8) (hs : s.length ≤ 1048576) (hn : p.c.next ≠ 17) (ht : p.taken + (fr8 s).length ≤ 1048576) (ha : (p.c.accept (NB.ba s)).1 = 0) (rest : List UInt8) : ∀ (v l : List UInt8), v ≠ [] → l ++ v = fr8 s → (p.mid l).run (v ++ rest) = (p.nxt (fr8 s).length (p.c.accept (NB.ba s)).2).run rest
  | [], l, hv, _ => absurd rfl hv
  | b :: v, l, _, h => by
    obtain ⟨h1, h2, h3⟩ := pre_frame hs h
    have hlen := congrArg List.length h
    simp only [List.length_append, List.length_cons, fr8_len] at hlen
    rw [fr8_len] at ht
    show (p.mid l).run (b :: (v ++ rest)) = _
    rw [PS.run, if_neg (fun hh => hn hh.2)]
    by_cases hv : v = []
    · subst hv
      have hw : wrd (l ++ [b]) = s := by rw [h]; exact wrd_frame hs
      have he : l.length + 1 = 8 + leN ((l ++ [b]).take 8) + padN (leN ((l ++ [b]).take 8)) := by
        rw [h3 (by simp at hlen; omega)]
        simp at hlen; omega
      have hst := step_end p l b hn (by omega) h1 h2 he
      rw [hw, if_neg (by omega)] at hst
      rw [hst, if_neg (by show ¬ (0 : Int) ≠ 0; decide)]
      have : l.length + 1 = (fr8 s).length := by rw [fr8_len]; simp at hlen; omega
      rw [this]
      rfl
    · have hvl : 1 ≤ v.length := by cases v with | nil => exact absurd rfl hv | cons _ _ => simp
      have hst : (p.mid l).step b = p.mid (l ++ [b]) := by
        refine step_go p l b hn (by omega) h1 h2 (fun he => ?_)
        by_cases h8 : 8 ≤ l.length + 1
        · rw [h3 h8] at he; omega
        · omega
      rw [hst, if_neg (by rw [mid_code]; decide)]
      exact run_frame p s hs hn (by rw [fr8_len]; exact ht) ha rest v (l ++ [b]) hv (by rw [← h]; simp)
end Go.Proofs.YtcmdeiohnkbjlaaDoor
namespace Go.Proofs.YtcmdeiohnkbjlaaDoor
open Go.RowKit

/-- These words are accepted, one behind the other. -/
def Ac : PC → List ByteArray → PC → Prop
  | c, [], d => d = c
  | c, s :: l, d => c.next ≠ 17 ∧ (c.accept s).1 = 0 ∧ Ac (c.accept s).2 l d
theorem Ac.app : ∀ (a b : List ByteArray) (c d e : PC), Ac c a d → Ac d b e → Ac c (a ++ b) e
  | [], b, c, d, e, h, h2 => by
    have h : d = c := h
    subst h
    exact h2
  | s :: a, b, c, d, e, h, h2 => ⟨h.1, h.2.1, Ac.app a b _ d e h.2.2 h2⟩
theorem Ac.one {c d : PC} {s : ByteArray} (hn : c.next ≠ 17) (h : c.accept s = (0, d)) : Ac c [s] d := ⟨hn, by rw [h], by show d = (c.accept s).2; rw [h]⟩
/-- The node T closed on what is open. -/
def cls (c : PC) (T : Tr) : PC := match c.op with
  | [] => ⟨17, [], T⟩
  | h :: R => ⟨16, h.kid T :: R, c.root⟩

theorem acc_on {n m : Int} {S : List ON} {r : Tr} {s : ByteArray} (h : bhP n s = (m, true)) (h1 : n ≠ 1) (h3 : n ≠ 3) (h7 : n ≠ 7) (h9 : n ≠ 9) (h14 : n ≠ 14) (hs : s ≠ wExec) (hm : m ≠ 16) : (⟨n, S, r⟩ : PC).accept s = (0, ⟨m, S, r⟩) := by
  unfold PC.accept
  rw [if_neg (show ¬ n = 7 from h7), if_neg (show ¬ n = 9 from h9), if_neg (show ¬ n = 14 from h14)]
  unfold PC.fixed
  dsimp only
  rw [h, if_neg (by simp), if_neg (fun hh => h1 hh.1), if_neg h1, if_neg h3, if_neg hs, if_neg hm]
  rfl
theorem acc_open {S : List ON} {r : Tr} (hd : S.length < 32) : (⟨1, S, r⟩ : PC).accept wOpen = (0, ⟨2, ON.new :: S, r⟩) := by
  have h : bhP 1 wOpen = (2, true) := by decide +kernel
  unfold PC.accept
  dsimp only
  rw [if_neg (by decide), if_neg (by decide), if_neg (by decide)]
  unfold PC.fixed
  dsimp only
  rw [h, if_neg (by simp), if_neg (by omega), if_pos rfl]
theorem acc_kind {S : List ON} {r : Tr} {o : ON} {s : ByteArray} {m k : Int} (h : bhP 3 s = (m, true)) (hk : kdP s = k) : (⟨3, o :: S, r⟩ : PC).accept s = (0, ⟨m, ⟨k, o.e, o.t, o.nms, o.ks, o.en⟩ :: S, r⟩) := by
  unfold PC.accept
  dsimp only
  rw [if_neg (by decide), if_neg (by decide), if_neg (by decide)]
  unfold PC.fixed
  dsimp only
  rw [h, if_neg (by simp), if_neg (fun hh => absurd hh.1 (by decide)), if_neg (by decide), if_pos rfl, hk]
  rfl
theorem acc_exec {S : List ON} {r : Tr} {o : ON} : (⟨4, o :: S, r⟩ : PC).accept wExec = (0, ⟨5, ⟨o.k, true, o.t, o.nms, o.ks, o.en⟩ :: S, r⟩) := by
  have h : bhP 4 wExec = (5, true) := by decide +kernel
  unfold PC.accept
  dsimp only
  rw [if_neg (by decide), if_neg (by decide), if_neg (by decide)]
  unfold PC.fixed
  dsimp only
  rw [h, if_neg (by simp), if_neg (fun hh => absurd hh.1 (by decide)), if_neg (by decide), if_neg (by decide), if_pos rfl]
  rfl
theorem acc_text {S : List ON} {r : Tr} {o : ON} (s : ByteArray) : (⟨7, o :: S, r⟩ : PC).accept s = (0, ⟨10, ⟨o.k, o.e, s, o.nms, o.ks, o.en⟩ :: S, r⟩) := by
  unfold PC.accept
  rw [if_pos rfl]
  rfl
theorem acc_target {S : List ON} {r : Tr} {o : ON} {s : ByteArray} (h : tgt s = 0) : (⟨9, o :: S, r⟩ : PC).accept s = (0, ⟨10, ⟨o.k, o.e, s, o.nms, o.ks, o.en⟩ :: S, r⟩) := by
  unfold PC.accept
  dsimp only
  rw [if_neg (by decide), if_pos rfl, if_neg (by omega)]
  rfl
theorem acc_ename {S : List ON} {r : Tr} {o : ON} {s : ByteArray} (h : ceP o.nms.getLast? s = 0) : (⟨14, o :: S, r⟩ : PC).accept s = (0, ⟨15, ⟨o.k, o.e, o.t, o.nms, o.ks, s⟩ :: S, r⟩) := by
  unfold PC.accept
  dsimp only
  rw [if_neg (by decide), if_neg (by decide), if_pos rfl]
  rw [if_neg (by omega)]
  rfl
theorem acc_close {n : Int} {S : List ON} {r : Tr} {o : ON} (hn : n = 10 ∨ n = 11) : (⟨n, o :: S, r⟩ : PC).accept wClose = (0, cls ⟨n, S, r⟩ o.tr) := by
  have hs : wClose ≠ wExec := by decide +kernel
  have h : bhP n wClose = (16, true) := by rcases hn with rfl | rfl <;> decide +kernel
  unfold PC.accept
  rw [if_neg (show ¬ n = 7 by omega), if_neg (show ¬ n = 9 by omega), if_neg (show ¬ n = 14 by omega)]
  unfold PC.fixed
  dsimp only
  rw [h, if_neg (by simp), if_neg (fun hh => by omega), if_neg (by omega), if_neg (by omega), if_neg hs, if_pos rfl]
  unfold PC.close cls
  cases S <;> rfl

theorem cls_op (n m : Int) (S : List ON) (r : Tr) (T : Tr) : cls ⟨n, S, r⟩ T = cls ⟨m, S, r⟩ T := by
  unfold cls
  cases S <;> rfl
theorem cfP_file {e : Bool} {t : ByteArray} {n : Nat} (h : cfP 1 e t n = 0) : n = 0 := by
  unfold cfP at h
  rw [if_pos rfl] at h
  by_cases h0 : 0 < n
  · rw [if_pos h0] at h; cases h
  · omega
theorem cfP_link {e : Bool} {t : ByteArray} {n : Nat} (h : cfP 2 e t n = 0) : e = false ∧ n = 0 ∧ tgt t = 0 := by
  unfold cfP at h
  rw [if_neg (by decide), if_pos rfl] at h
  by_cases h0 : e = true ∨ 0 < n
  · rw [if_pos h0] at h; cases h
  · rw [if_neg h0] at h
    refine ⟨?_, by omega, h⟩
    cases e
    · rfl
    · exact absurd (Or.inl rfl) h0
theorem cfP_dir {e : Bool} {t : ByteArray} {n : Nat} (h : cfP 3 e t n = 0) : e = false ∧ t = ⟨#[]⟩ := by
  unfold cfP at h
  rw [if_neg (by decide), if_neg (by decide), if_pos rfl] at h
  by_cases h0 : e = true ∨ t.size ≠ 0
  · rw [if_pos h0] at h; cases h
  · refine ⟨?_, ?_⟩
    · cases e
      · rfl
      · exact absurd (Or.inl rfl) h0
    · have hz : t.size = 0 := by
        by_cases hz : t.size = 0
        · exact hz
        · exact absurd (Or.inr hz) h0
      apply ByteArray.ext
      exact Array.eq_empty_of_size_eq_zero hz
theorem wfL_nil {ks : List Tr} (h : wfL [] ks) : ks = [] := by
  cases ks with
  | nil => rfl
  | cons T ks => exact absurd (wfL_len _ _ h) (by simp)

theorem ce_of {prev : Option ByteArray} {s : ByteArray} (h1 : chk s = 0) (h2 : ∀ s', prev = some s' → cmpB s' s < 0) : ceP prev s = 0 := by
  unfold ceP
  rw [if_neg (by omega)]
  cases prev with
  | none => rfl
  | some s' =>
    have := h2 s' rfl
    show (if 0 ≤ cmpB s' s then (64 : Int) else 0) = 0
    rw [if_neg (by omega)]
mutual
/-- A well-formed tree's words are accepted. -/
theorem ac_tree : ∀ (T : Tr) (ns : List ByteArray) (b : Int) (S : List ON) (r : Tr), (vT ns b T).off = none → wfT T → S.length = ns.length → Ac ⟨1, S, r⟩ (wdT T) (cls ⟨1, S, r⟩ T)
  | .mk k e t nms ks, ns, b, S, r, h, hw, hS => by
    obtain ⟨h1, h2, _, h4⟩ := NS.vT_parts h
    rw [wfT] at hw
    rw [wdT]
    have hhd : Ac ⟨1, S, r⟩ [wOpen, wType] ⟨3, ON.new :: S, r⟩ :=
      Ac.app [wOpen] [wType] _ _ _ (Ac.one (by show (1 : Int) ≠ 17; decide) (acc_open (by omega))) (Ac.one (by show (2 : Int) ≠ 17; decide) (acc_on (by decide +kernel) (by decide) (by decide) (by decide) (by decide) (by decide) (by decide +kernel) (by decide)))
    have htl : ∀ (n : Int) (o : ON), n = 10 ∨ n = 11 → o.tr = .mk k e t nms ks → Ac ⟨n, o :: S, r⟩ [wClose] (cls ⟨1, S, r⟩ (.mk k e t nms ks)) := fun n o hn ho => by
      refine Ac.one (by show n ≠ 17; omega) ?_
      rw [acc_close hn, ho, cls_op]
    rcases NS.cfP_kind h2 with rfl | rfl | rfl
    · have hz := cfP_file h2
      obtain rfl : nms = [] := List.length_eq_zero_iff.1 hz
      obtain rfl := wfL_nil hw
      rw [if_pos rfl]
      have hk : Ac ⟨3, ON.new :: S, r⟩ [wRegular] ⟨4, ⟨1, false, ⟨#[]⟩, [], [], ⟨#[]⟩⟩ :: S, r⟩ := Ac.one (by show (3 : Int) ≠ 17; decide) (acc_kind (o := ON.new) (by decide +kernel) (by decide +kernel))
      have hc : Ac ⟨if e then 6 else 4, ⟨1, e, ⟨#[]⟩, [], [], ⟨#[]⟩⟩ :: S, r⟩ [wContents, t] ⟨10, ⟨1, e, t, [], [], ⟨#[]⟩⟩ :: S, r⟩ := by
        refine Ac.app [wContents] [t] _ ⟨7, ⟨1, e, ⟨#[]⟩, [], [], ⟨#[]⟩⟩ :: S, r⟩ _ ?_ (Ac.one (by show (7 : Int) ≠ 17; decide) (acc_text (o := ⟨1, e, ⟨#[]⟩, [], [], ⟨#[]⟩⟩) t))
        cases e
        · exact Ac.one (by show (4 : Int) ≠ 17; decide) (acc_on (by decide +kernel) (by decide) (by decide) (by decide) (by decide) (by decide) (by decide +kernel) (by decide))
        · exact Ac.one (by show (6 : Int) ≠ 17; decide) (acc_on (by decide +kernel) (by decide) (by decide) (by decide) (by decide) (by decide) (by decide +kernel) (by decide))
      have hx : Ac ⟨4, ⟨1, false, ⟨#[]⟩, [], [], ⟨#[]⟩⟩ :: S, r⟩ (if e then [wExec, wNone] else []) ⟨if e then 6 else 4, ⟨1, e, ⟨#[]⟩, [], [], ⟨#[]⟩⟩ :: S, r⟩ := by
        cases e
        · exact rfl
        · exact Ac.app [wExec] [wNone] _ ⟨5, ⟨1, true, ⟨#[]⟩, [], [], ⟨#[]⟩⟩ :: S, r⟩ _ (Ac.one (by show (4 : Int) ≠ 17; decide) (acc_exec (o := ⟨1, false, ⟨#[]⟩, [], [], ⟨#[]⟩⟩))) (Ac.one (by show (5 : Int) ≠ 17; decide) (acc_on (by decide +kernel) (by decide) (by decide) (by decide) (by decide) (by decide) (by decide +kernel) (by decide)))
      exact Ac.app _ _ _ _ _ (Ac.app _ _ _ _ _ hhd (Ac.app _ _ _ _ _ (Ac.app _ _ _ _ _ hk hx) hc)) (htl 10 _ (Or.inl rfl) rfl)
    · obtain ⟨rfl, hz, htg⟩ := cfP_link h2
      obtain rfl : nms = [] := List.length_eq_zero_iff.1 hz
      obtain rfl := wfL_nil hw
      rw [if_neg (by decide), if_pos rfl]
      have hk : Ac ⟨3, ON.new :: S, r⟩ [wSymlink] ⟨8, ⟨2, false, ⟨#[]⟩, [], [], ⟨#[]⟩⟩ :: S, r⟩ := Ac.one (by show (3 : Int) ≠ 17; decide) (acc_kind (o := ON.new) (by decide +kernel) (by decide +kernel))
      have hc : Ac ⟨8, ⟨2, false, ⟨#[]⟩, [], [], ⟨#[]⟩⟩ :: S, r⟩ [wTarget, t] ⟨10, ⟨2, false, t, [], [], ⟨#[]⟩⟩ :: S, r⟩ :=
        Ac.app [wTarget] [t] _ ⟨9, ⟨2, false, ⟨#[]⟩, [], [], ⟨#[]⟩⟩ :: S, r⟩ _ (Ac.one (by show (8 : Int) ≠ 17; decide) (acc_on (by decide +kernel) (by decide) (by decide) (by decide) (by decide) (by decide) (by decide +kernel) (by decide))) (Ac.one (by show (9 : Int) ≠ 17; decide) (acc_target (o := ⟨2, false, ⟨#[]⟩, [], [], ⟨#[]⟩⟩) htg))
      exact Ac.app _ _ _ _ _ (Ac.app _ _ _ _ _ hhd (Ac.app [wSymlink] [wTarget, t] _ _ _ hk hc)) (htl 10 _ (Or.inl rfl) rfl)
    · obtain ⟨rfl, rfl⟩ := cfP_dir h2
      rw [if_neg (by decide), if_neg (by decide)]
      have hk : Ac ⟨3, ON.new :: S, r⟩ [wDirectory] ⟨11, ⟨3, false, ⟨#[]⟩, [], [], ⟨#[]⟩⟩ :: S, r⟩ := Ac.one (by show (3 : Int) ≠ 17; decide) (acc_kind (o := ON.new) (by decide +kernel) (by decide +kernel))
      obtain ⟨en, hks⟩ := ac_kids nms ks ns (b + nbP 3 false ⟨#[]⟩) ⟨3, false, ⟨#[]⟩, [], [], ⟨#[]⟩⟩ S r h4 hw hS
      exact Ac.app _ _ _ _ _ (Ac.app _ _ _ _ _ hhd (Ac.app _ _ _ _ _ hk hks)) (htl 11 _ (Or.inr rfl) rfl)
theorem ac_kids : ∀ (nms : List ByteArray) (ks : List Tr) (ns : List ByteArray) (b : Int) (o : ON) (S : List ON) (r : Tr), (vL ns b o.nms.getLast? nms ks).off = none → wfL nms ks → S.length = ns.length → ∃ en, Ac ⟨11, o :: S, r⟩ (wdL nms ks) ⟨11, ⟨o.k, o.e, o.t, o.nms ++ nms, o.ks ++ ks, en⟩ :: S, r⟩
  | [], [], ns, b, o, S, r, h, hw, hS => by
    refine ⟨o.en, ?_⟩
    rw [wdL]
    · show (⟨11, ⟨o.k, o.e, o.t, o.nms ++ [], o.ks ++ [], o.en⟩ :: S, r⟩ : PC) = ⟨11, o :: S, r⟩
      rw [List.append_nil, List.append_nil]
    · simp
  | s :: nms, T :: ks, ns, b, o, S, r, h, hw, hS => by
    obtain ⟨p1, p2, _, p4, p5⟩ := NS.vL_parts h
    rw [wfL] at hw
    have hT := ac_tree T (ns ++ [s]) (b + ebP s) (⟨o.k, o.e, o.t, o.nms, o.ks, s⟩ :: S) r p4 hw.1 (by simp; omega)
    have hg : (o.nms ++ [s]).getLast? = some s := by simp
    obtain ⟨en, hk⟩ := ac_kids nms ks ns (b + ebP s + tbT T) ⟨o.k, o.e, o.t, o.nms ++ [s], o.ks ++ [T], s⟩ S r (by show (vL ns _ (o.nms ++ [s]).getLast? nms ks).off = none; rw [hg]; exact p5) hw.2 hS
    refine ⟨en, ?_⟩
    rw [wdL]
    have e1 : o.nms ++ s :: nms = o.nms ++ [s] ++ nms := by simp
    have e2 : o.ks ++ T :: ks = o.ks ++ [T] ++ ks := by simp
    rw [e1, e2]
    have a1 : Ac ⟨11, o :: S, r⟩ [wEntry, wOpen, wName, s, wNode] ⟨1, ⟨o.k, o.e, o.t, o.nms, o.ks, s⟩ :: S, r⟩ :=
      Ac.app [wEntry] _ _ ⟨12, o :: S, r⟩ _ (Ac.one (by show (11 : Int) ≠ 17; decide) (acc_on (by decide +kernel) (by decide) (by decide) (by decide) (by decide) (by decide) (by decide +kernel) (by decide)))
        (Ac.app [wOpen] _ _ ⟨13, o :: S, r⟩ _ (Ac.one (by show (12 : Int) ≠ 17; decide) (acc_on (by decide +kernel) (by decide) (by decide) (by decide) (by decide) (by decide) (by decide +kernel) (by decide)))
        (Ac.app [wName] _ _ ⟨14, o :: S, r⟩ _ (Ac.one (by show (13 : Int) ≠ 17; decide) (acc_on (by decide +kernel) (by decide) (by decide) (by decide) (by decide) (by decide) (by decide +kernel) (by decide)))
        (Ac.app [s] [wNode] _ ⟨15, ⟨o.k, o.e, o.t, o.nms, o.ks, s⟩ :: S, r⟩ _ (Ac.one (by show (14 : Int) ≠ 17; decide) (acc_ename (ce_of p1 p2)))
        (Ac.one (by show (15 : Int) ≠ 17; decide) (acc_on (by decide +kernel) (by decide) (by decide) (by decide) (by decide) (by decide) (by decide +kernel) (by decide))))))
    have a3 : Ac (cls ⟨1, ⟨o.k, o.e, o.t, o.nms, o.ks, s⟩ :: S, r⟩ T) [wClose] ⟨11, ⟨o.k, o.e, o.t, o.nms ++ [s], o.ks ++ [T], s⟩ :: S, r⟩ := by
      show Ac ⟨16, ⟨o.k, o.e, o.t, o.nms ++ [s], o.ks ++ [T], s⟩ :: S, r⟩ [wClose] _
      exact Ac.one (by show (16 : Int) ≠ 17; decide) (acc_on (by decide +kernel) (by decide) (by decide) (by decide) (by decide) (by decide) (by decide +kernel) (by decide))
    exact Ac.app _ _ _ _ _ (Ac.app _ _ _ _ _ (Ac.app _ _ _ _ _ a1 hT) a3) hk
  | [], _ :: _, _, _, _, _, _, _, hw, _ => by simp [wfL] at hw
  | _ :: _, [], _, _, _, _, _, _, hw, _ => by simp [wfL] at hw
end
theorem ac_arc {T : Tr} (h : (vT [] 24 T).off = none) (hw : wfT T) : Ac PC.new (wMagic :: wdT T) ⟨17, [], T⟩ :=
  Ac.app [wMagic] _ _ ⟨1, [], .mk 0 false ⟨#[]⟩ [] []⟩ _ (Ac.one (by show (0 : Int) ≠ 17; decide) (acc_on (by decide +kernel) (by decide) (by decide) (by decide) (by decide) (by decide) (by decide +kernel) (by decide))) (ac_tree T [] 24 [] _ h hw rfl)
end Go.Proofs.YtcmdeiohnkbjlaaDoor
namespace Go.Proofs.YtcmdeiohnkbjlaaDoor
open Go.RowKit

theorem lek_range (n : Nat) : lek n 8 = (List.range 8).map (fun j => UInt8.ofNat (w8 (n : Int) j).toNat) := by
  have e : List.range 8 = [0, 1, 2, 3, 4, 5, 6, 7] := rfl
  rw [e]
  have h : ∀ j, (w8 (n : Int) j).toNat = n / 2 ^ (8 * j) % 256 := fun j => by
    unfold w8
    have h1 : ((n : Int) / 2 ^ (8 * j)) = ((n / 2 ^ (8 * j) : Nat) : Int) := by push_cast; rfl
    rw [h1]
    omega
  simp only [List.map_cons, List.map_nil, h, lek]
  simp only [Nat.div_div_eq_div_mul]
  simp
theorem txt_list (s : ByteArray) : (txt s).data.toList = fr8 s.data.toList := by
  have hz : s.data.toList.length = s.size := by rw [Array.length_toList]; rfl
  rw [← txt_eq]
  have h1 : (strFn 8 (w8 (s.size : Int))).data.toList = lek s.size 8 := by
    rw [lek_range]
    unfold strFn strOfNums
    simp
  have hp := padN_lt s.size
  have h2 : (n7.extract 0 (padN s.size)).data.toList = List.replicate (padN s.size) 0 := by
    have : padN s.size = 0 ∨ padN s.size = 1 ∨ padN s.size = 2 ∨ padN s.size = 3 ∨ padN s.size = 4 ∨ padN s.size = 5 ∨ padN s.size = 6 ∨ padN s.size = 7 := by omega
    rcases this with h | h | h | h | h | h | h | h <;> rw [h] <;> decide +kernel
  unfold fr8
  rw [ByteArray.data_append, ByteArray.data_append, Array.toList_append, Array.toList_append, h1, h2, hz, List.append_assoc]

/-- At the head of a word. -/
def PS.head (p : PS) : Prop := p = p.nxt 0 p.c
theorem head_mid {p : PS} (h : p.head) : p = p.mid [] := by
  unfold PS.head at h
  conv => lhs; rw [h]
  rfl
theorem nxt_head (p : PS) (n : Nat) (c : PC) : (p.nxt n c).head := rfl
theorem new_head (b : Bool) : (PS.new b).head := rfl
theorem nxt_nxt (p : PS) (n m : Nat) (c d : PC) : (p.nxt n c).nxt m d = p.nxt (n + m) d := by unfold PS.nxt; rw [Nat.add_assoc]

theorem run_words : ∀ (ws : List ByteArray) (p : PS) (d : PC) (rest : List UInt8), p.head → Ac p.c ws d → (∀ s ∈ ws, s.size ≤ 1048576) → p.taken + fwS ws ≤ 1048576 → p.run (frm ws ++ rest) = (p.nxt (fwS ws) d).run rest
  | [], p, d, rest, hp, ha, _, _ => by
    have ha : d = p.c := ha
    subst ha
    show p.run rest = (p.nxt 0 p.c).run rest
    rw [← hp]
  | s :: ws, p, d, rest, hp, ha, hs, ht => by
    have hz : s.data.toList.length = s.size := by rw [Array.length_toList]; rfl
    have hs1 := hs s (by simp)
    have hf : (fr8 s.data.toList).length = 8 + s.size + padN s.size := by rw [fr8_len, hz]
    have ht' : p.taken + (8 + s.size + padN s.size + fwS ws) ≤ 1048576 := ht
    have hba : NB.ba s.data.toList = s := NB.ba_list s
    show p.run ((txt s).data.toList ++ frm ws ++ rest) = _
    rw [txt_list, List.append_assoc]
    conv => lhs; rw [head_mid hp]
    rw [run_frame p s.data.toList (by omega) ha.1 (by omega) (by rw [hba]; exact ha.2.1) (frm ws ++ rest) (fr8 s.data.toList) [] (by intro e; rw [e] at hf; simp at hf; omega) rfl, hba, hf]
    have := run_words ws (p.nxt (8 + s.size + padN s.size) (p.c.accept s).2) d rest (nxt_head _ _ _) ha.2.2 (fun x hx => hs x (by simp [hx])) (by show p.taken + (8 + s.size + padN s.size) + fwS ws ≤ _; omega)
    rw [this, nxt_nxt]
    rfl
/-- A beginning of accepted words. -/
theorem run_begin : ∀ (ws : List ByteArray) (p : PS) (d : PC) (k : Nat), p.head → Ac p.c ws d → (∀ s ∈ ws, s.size ≤ 1048576) → p.taken + fwS ws ≤ 1048576 → k < fwS ws → (p.run ((frm ws).take k)).code = 0 ∧ (p.run ((frm ws).take k)).c.next ≠ 17 ∧ (p.run ((frm ws).take k)).taken = p.taken + k
  | [], p, d, k, hp, ha, _, _, hk => by
    change k < 0 at hk
    omega
  | s :: ws, p, d, k, hp, ha, hs, ht, hk => by
    have hz : s.data.toList.length = s.size := by rw [Array.length_toList]; rfl
    have hs1 := hs s (by simp)
    have hf : (fr8 s.data.toList).length = 8 + s.size + padN s.size := by rw [fr8_len, hz]
    have ht' : p.taken + (8 + s.size + padN s.size + fwS ws) ≤ 1048576 := ht
    have hk' : k < 8 + s.size + padN s.size + fwS ws := hk
    have hba : NB.ba s.data.toList = s := NB.ba_list s
    show (p.run (((txt s).data.toList ++ frm ws).take k)).code = 0 ∧ _
    rw [show frm (s :: ws) = (txt s).data.toList ++ frm ws from rfl, txt_list]
    by_cases hlt : k < (fr8 s.data.toList).length
    · rw [List.take_append_of_le_length (by omega)]
      have h1 := run_pre p s.data.toList (by omega) ha.1 (by omega) ((fr8 s.data.toList).take k) [] ((fr8 s.data.toList).drop k) (by intro e; have := congrArg List.length e; rw [List.length_drop] at this; simp at this; omega) (by simp)
      rw [← head_mid hp, List.nil_append] at h1
      rw [h1]
      refine ⟨rfl, ha.1, ?_⟩
      show p.taken + ((fr8 s.data.toList).take k).length = _
      rw [List.length_take]
      omega
    · have e : (fr8 s.data.toList ++ frm ws).take k = fr8 s.data.toList ++ (frm ws).take (k - (fr8 s.data.toList).length) := by
        rw [List.take_append, List.take_of_length_le (by omega)]
      rw [e]
      have h1 := run_frame p s.data.toList (by omega) ha.1 (by omega) (by rw [hba]; exact ha.2.1) ((frm ws).take (k - (fr8 s.data.toList).length)) (fr8 s.data.toList) [] (by intro e; rw [e] at hf; simp at hf; omega) rfl
      rw [← head_mid hp, hba] at h1
      rw [h1]
      have := run_begin ws (p.nxt (fr8 s.data.toList).length (p.c.accept s).2) d (k - (fr8 s.data.toList).length) (nxt_head _ _ _) ha.2.2 (fun x hx => hs x (by simp [hx])) (by show p.taken + (fr8 s.data.toList).length + fwS ws ≤ _; omega) (by omega)
      refine ⟨this.1, this.2.1, ?_⟩
      rw [this.2.2]
      show p.taken + (fr8 s.data.toList).length + _ = _
      omega

mutual
theorem wd_size : ∀ (T : Tr), okT T → ∀ s ∈ wdT T, s.size ≤ 1048576
  | .mk k e t nms ks, h => by
    rw [okT] at h
    obtain ⟨hk, _, ht, hL⟩ := h
    have c1 : wOpen.size ≤ 1048576 := by decide
    have c2 : wType.size ≤ 1048576 := by decide
    have c3 : wRegular.size ≤ 1048576 := by decide
    have c4 : wExec.size ≤ 1048576 := by decide
    have c5 : wNone.size ≤ 1048576 := by decide
    have c6 : wContents.size ≤ 1048576 := by decide
    have c7 : wSymlink.size ≤ 1048576 := by decide
    have c8 : wTarget.size ≤ 1048576 := by decide
    have c9 : wDirectory.size ≤ 1048576 := by decide
    have c10 : wClose.size ≤ 1048576 := by decide
    intro s hs
    rw [wdT] at hs
    simp only [List.mem_append, List.mem_cons, List.not_mem_nil, or_false] at hs
    rcases hs with ((rfl | rfl) | hs) | rfl
    · exact c1
    · exact c2
    · rcases hk with rfl | rfl | rfl
      · rw [if_pos rfl] at hs
        cases e
        · simp at hs
          rcases hs with rfl | rfl | rfl
          · exact c3
          · exact c6
          · exact ht
        · simp at hs
          rcases hs with rfl | rfl | rfl | rfl | rfl
          · exact c3
          · exact c4
          · exact c5
          · exact c6
          · exact ht
      · rw [if_neg (by decide), if_pos rfl] at hs
        simp at hs
        rcases hs with rfl | rfl | rfl
        · exact c7
        · exact c8
        · exact ht
      · rw [if_neg (by decide), if_neg (by decide)] at hs
        simp only [List.mem_append, List.mem_cons, List.not_mem_nil, or_false] at hs
        rcases hs with rfl | hs
        · exact c9
        · exact wd_sizeL nms ks hL s hs
    · exact c10
theorem wd_sizeL : ∀ (nms : List ByteArray) (ks : List Tr), okL nms ks → ∀ s ∈ wdL nms ks, s.size ≤ 1048576
  | n :: nms, T :: ks, h => by
    rw [okL] at h
    have c1 : wEntry.size ≤ 1048576 := by decide
    have c2 : wOpen.size ≤ 1048576 := by decide
    have c3 : wName.size ≤ 1048576 := by decide
    have c4 : wNode.size ≤ 1048576 := by decide
    have c5 : wClose.size ≤ 1048576 := by decide
    intro s hs
    rw [wdL] at hs
    simp only [List.mem_append, List.mem_cons, List.not_mem_nil, or_false] at hs
    rcases hs with (((rfl | rfl | rfl | rfl | rfl) | hs) | rfl) | hs
    · exact c1
    · exact c2
    · exact c3
    · exact h.1
    · exact c4
    · exact wd_size T h.2.1 s hs
    · exact c5
    · exact wd_sizeL nms ks h.2.2 s hs
  | [], [], _ => by rw [wdL]; simp; simp
  | [], _ :: _, _ => by rw [wdL]; simp; simp
  | _ :: _, [], _ => by rw [wdL]; simp; simp
end

/-- A well-formed tree's archive: what holds of its words. -/
theorem arc_facts {T : Tr} (hs : smT T) (hw : wfT T) (h : (ckT T).2 = 0) : Ac PC.new (wMagic :: wdT T) ⟨17, [], T⟩ ∧ (∀ s ∈ wMagic :: wdT T, s.size ≤ 1048576) ∧ fwS (wMagic :: wdT T) ≤ 1048576 ∧ (fwS (wMagic :: wdT T) : Int) = 24 + tbT T := by
  have hoff := ckT_off h
  have ho := NS.ok_tree T [] 24 hoff hs hw
  have h1 := fw_tree T ho
  have h3 : 8 + wMagic.size + padN wMagic.size = 24 := by decide +kernel
  have h4 : fwS (wMagic :: wdT T) = 24 + fwS (wdT T) := by show 8 + wMagic.size + padN wMagic.size + fwS (wdT T) = _; omega
  have h5 := vT_bytes [] 24 T hoff
  have h6 := (vT_bd [] 24 T hoff (by decide) (by decide)).2
  refine ⟨ac_arc hoff hw, fun s hs' => ?_, by omega, by omega⟩
  rcases List.mem_cons.1 hs' with rfl | hs'
  · decide
  · exact wd_size T ho s hs'
theorem arc_len (T : Tr) : (arcT T).length = fwS (wMagic :: wdT T) := frm_len _
/-- Behind a whole archive. -/
def arcS (b : Bool) (T : Tr) : PS := ⟨(arcT T).length, 0, 0, 0, b, false, 0, [], ⟨17, [], T⟩⟩
theorem run_arc {T : Tr} (hs : smT T) (hw : wfT T) (h : (ckT T).2 = 0) (b : Bool) (rest : List UInt8) : (PS.new b).run (arcT T ++ rest) = (arcS b T).run rest := by
  obtain ⟨a1, a2, a3, _⟩ := arc_facts hs hw h
  have := run_words (wMagic :: wdT T) (PS.new b) ⟨17, [], T⟩ rest (new_head b) a1 a2 (by show 0 + fwS (wMagic :: wdT T) ≤ _; omega)
  unfold arcT
  rw [this]
  congr 1
  unfold arcS
  rw [arc_len]
  unfold PS.nxt
  show (⟨0 + _, 0, 0, 0, b, false, 0, [], _⟩ : PS) = _
  rw [Nat.zero_add]
theorem arcS_part (T : Tr) (rest : List UInt8) : (arcS true T).run rest = arcS true T := by
  cases rest with
  | nil => rfl
  | cons b l => rw [PS.run]; exact if_pos ⟨rfl, rfl⟩
theorem arcS_trail (T : Tr) (b : UInt8) (rest : List UInt8) : (arcS false T).run (b :: rest) = (arcS false T).sf 5 (arcT T).length := by
  have e : (arcS false T).take b = ((5, ((arcT T).length : Int)), arcS false T) := if_pos rfl
  have hst : (arcS false T).step b = (arcS false T).sf 5 (arcT T).length := by rw [PS.step_bad (by rw [e]; show (5 : Int) ≠ 0; decide), e]
  rw [PS.run, if_neg (fun hh => by cases hh.1), hst, if_pos (by show (5 : Int) ≠ 0; decide)]
theorem run_short {T : Tr} (hs : smT T) (hw : wfT T) (h : (ckT T).2 = 0) (b : Bool) (k : Nat) (hk : k < (arcT T).length) : ((PS.new b).run ((arcT T).take k)).code = 0 ∧ ((PS.new b).run ((arcT T).take k)).c.next ≠ 17 ∧ ((PS.new b).run ((arcT T).take k)).taken = k := by
  obtain ⟨a1, a2, a3, _⟩ := arc_facts hs hw h
  have := run_begin (wMagic :: wdT T) (PS.new b) ⟨17, [], T⟩ k (new_head b) a1 a2 (by show 0 + fwS (wMagic :: wdT T) ≤ _; omega) (by rw [← arc_len]; exact hk)
  refine ⟨this.1, this.2.1, ?_⟩
  have h3 := this.2.2
  have : (PS.new b).taken = 0 := rfl
  unfold arcT
  omega

/-- Feeding piece by piece is feeding the whole. -/
theorem run_app : ∀ (a b : List UInt8) (p : PS), p.code = 0 → p.closed = false → p.run (a ++ b) = (p.run a).feed b
  | [], b, p, hc, hl => by
    show p.run b = p.feed b
    unfold PS.feed
    rw [if_neg (by rw [hl, hc]; simp)]
  | x :: a, b, p, hc, hl => by
    show p.run (x :: (a ++ b)) = (p.run (x :: a)).feed b
    rw [PS.run, PS.run]
    by_cases h1 : p.part = true ∧ p.c.next = 17
    · rw [if_pos h1, if_pos h1]
      unfold PS.feed
      rw [if_neg (by rw [hl, hc]; simp)]
      cases b with
      | nil => rfl
      | cons y b => rw [PS.run, if_pos h1]
    · rw [if_neg h1, if_neg h1]
      by_cases h2 : (p.step x).code ≠ 0
      · rw [if_pos h2, if_pos h2]
        unfold PS.feed
        rw [if_pos (Or.inr h2)]
      · rw [if_neg h2, if_neg h2]
        have hcl : (p.step x).closed = false := by
          by_cases h0 : (p.take x).1.1 = 0
          · rw [PS.step_ok h0]; exact (p.take_keep x).2.2.1.trans hl
          · rw [PS.step_bad h0]; exact (p.take_keep x).2.2.1.trans hl
        exact run_app a b (p.step x) (by omega) hcl
end Go.Proofs.YtcmdeiohnkbjlaaDoor
