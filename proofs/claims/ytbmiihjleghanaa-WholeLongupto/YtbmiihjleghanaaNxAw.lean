/- The document's frames and the parser's machine (plain; own text of the verifier). -/
import Derived.Test.YtbmiihjleghanaaNwA
namespace Go.Proofs.Ytbmiihjleghanaa
open Go.RowKit

/-- The words accepted, one behind the other, up to the archive's end, to one that may not stand there, or to the last. -/
def goA : PC → List ByteArray → Nat → PC × Nat × Int
  | c, [], k => (c, k, if c.next = 17 then 0 else -1)
  | c, s :: W, k => if c.next = 17 then (c, k, 0) else if (c.accept s).1 ≠ 0 then ((c.accept s).2, k, (c.accept s).1) else goA (c.accept s).2 W (k + 1)
theorem goA_whole {c : PC} (h : c.next = 17) (W : List ByteArray) (k : Nat) : goA c W k = (c, k, 0) := by
  cases W with
  | nil => rw [goA, if_pos h]
  | cons s W => rw [goA, if_pos h]
theorem goA_nil {c : PC} (h : c.next ≠ 17) (k : Nat) : goA c [] k = (c, k, -1) := by rw [goA, if_neg h]
theorem goA_bad {c : PC} {s : ByteArray} (h : c.next ≠ 17) (h2 : (c.accept s).1 ≠ 0) (W : List ByteArray) (k : Nat) : goA c (s :: W) k = ((c.accept s).2, k, (c.accept s).1) := by rw [goA, if_neg h, if_pos h2]
theorem goA_go {c : PC} {s : ByteArray} (h : c.next ≠ 17) (h2 : (c.accept s).1 = 0) (W : List ByteArray) (k : Nat) : goA c (s :: W) k = goA (c.accept s).2 W (k + 1) := by rw [goA, if_neg h, if_neg (by omega)]

theorem run_mid (p : PS) (hn : p.c.next ≠ 17) : ∀ (v l : List UInt8), (∀ (l1 l2 : List UInt8) (b : UInt8), v = l1 ++ b :: l2 → (p.mid (l ++ l1)).step b = p.mid (l ++ l1 ++ [b])) → (p.mid l).run v = p.mid (l ++ v)
  | [], l, _ => by rw [List.append_nil]; rfl
  | b :: v, l, h => by
    have h1 := h [] v b rfl
    rw [List.append_nil] at h1
    rw [PS.run_cons, if_neg (fun hh => hn hh.2), h1, if_neg (by rw [mid_code]; decide)]
    have := run_mid p hn v (l ++ [b]) (fun l1 l2 x e => by
      have := h (b :: l1) l2 x (by rw [e]; rfl)
      simpa using this)
    rw [this]
    simp
/-- A beginning of a frame that is not whole. -/
theorem run_part {p : PS} (hp : p.head) (hn : p.c.next ≠ 17) {l : List UInt8} (ht : p.taken + l.length ≤ 1048576) (h1 : 8 ≤ l.length → leN (l.take 8) ≤ 1048576) (h2 : 8 ≤ l.length → ∀ i x, 8 + leN (l.take 8) ≤ i → l[i]? = some x → x = 0) (h3 : 8 ≤ l.length → l.length < 8 + leN (l.take 8) + padN (leN (l.take 8))) : p.run l = p.mid l := by
  have key := run_mid p hn l [] (fun l1 l2 b e => by
    rw [List.nil_append]
    have hlen : l.length = l1.length + 1 + l2.length := by rw [e]; simp; omega
    have h8 : 8 ≤ l1.length + 1 → (l1 ++ [b]).take 8 = l.take 8 := fun h => by
      have e2 : l = l1 ++ [b] ++ l2 := by rw [e]; simp
      rw [e2, List.take_append_of_le_length (l₁ := l1 ++ [b]) (by rw [List.length_append]; exact h)]
    refine step_go p l1 b hn (by omega) (fun h7 => ?_) (fun h => fun hle => ?_) (fun he => ?_)
    · have := h1 (by omega)
      rw [← h8 (by omega), List.take_of_length_le (by rw [List.length_append]; show l1.length + 1 ≤ 8; omega)] at this
      exact this
    · have e8 : l1.take 8 = l.take 8 := by
        rw [← h8 (by omega), List.take_append_of_le_length h]
      refine h2 (by omega) l1.length b (by rw [← e8]; omega) ?_
      rw [e, List.getElem?_append_right (Nat.le_refl _), Nat.sub_self]
      rfl
    · by_cases hh : 8 ≤ l1.length + 1
      · rw [h8 hh] at he
        have := h3 (by omega)
        omega
      · omega)
  rw [List.nil_append, ← head_mid hp] at key
  exact key
theorem run_code : ∀ (v : List UInt8) (q : PS) (b : UInt8) (z : List UInt8), q.code = 0 → (q.run v).code = 0 → (q.run v).c.next ≠ 17 → ((q.run v).step b).code ≠ 0 → q.run (v ++ b :: z) = (q.run v).step b
  | [], q, b, z, _, _, h3, h4 => by
    show q.run (b :: z) = q.step b
    have h3' : q.c.next ≠ 17 := h3
    have h4' : (q.step b).code ≠ 0 := h4
    rw [PS.run_cons, if_neg (fun hh => h3' hh.2), if_pos h4']
  | x :: v, q, b, z, h0, h1, h3, h4 => by
    show q.run (x :: (v ++ b :: z)) = _
    rw [PS.run_cons] at h1 h3 h4 ⊢
    rw [PS.run_cons]
    by_cases hp : q.part = true ∧ q.c.next = 17
    · rw [if_pos hp] at h3; exact absurd hp.2 h3
    rw [if_neg hp] at h1 h3 h4 ⊢
    rw [if_neg hp]
    by_cases hc : (q.step x).code ≠ 0
    · rw [if_pos hc] at h1; exact absurd h1 hc
    rw [if_neg hc] at h1 h3 h4 ⊢
    rw [if_neg hc]
    exact run_code v (q.step x) b z (by omega) h1 h3 h4
/-- A length that is too great. -/
theorem step_long (p : PS) (hn : p.c.next ≠ 17) (l : List UInt8) (b : UInt8) (h7 : l.length = 7) (ht : p.taken + 7 < 1048576) (h : 1048576 < leN (l ++ [b])) : ((p.mid l).step b).code = 6 ∧ ((p.mid l).step b).fat = (p.taken : Int) ∧ ((p.mid l).step b).taken = p.taken + 7 ∧ ((p.mid l).step b).held = 7 ∧ ((p.mid l).step b).c = p.c := by
  have hnl : (p.mid l).nl b = leN (l ++ [b]) := by
    unfold PS.nl PS.mid
    show leN (l.take 8) + b.toNat * 2 ^ (8 * l.length) = _
    rw [List.take_of_length_le (by omega), leN_snoc]
  have hput : (p.mid l).put b = ((6, ((p.mid l).taken : Int) - (p.mid l).held), (p.mid l).sl ((p.mid l).nl b)) := by
    unfold PS.put
    rw [if_pos (show (p.mid l).held < 8 by show l.length < 8; omega), if_pos ⟨h7, by rw [hnl]; exact h⟩]
  have e : (p.mid l).take b = ((6, ((p.mid l).taken : Int) - (p.mid l).held), (p.mid l).sl ((p.mid l).nl b)) := by
    unfold PS.take
    rw [if_neg (show ¬ (p.mid l).c.next = 17 from hn), if_neg (show ¬ (p.mid l).taken = 1048576 by show ¬ p.taken + l.length = 1048576; omega), hput, if_pos (by show (6 : Int) ≠ 0; decide)]
  have hs := PS.step_bad (p := p.mid l) (b := b) (by rw [e]; show (6 : Int) ≠ 0; decide)
  rw [hs, e]
  refine ⟨rfl, ?_, ?_, h7, rfl⟩
  · show ((p.taken + l.length : Nat) : Int) - (l.length : Nat) = _
    omega
  · show p.taken + l.length = _
    omega
/-- Padding that is none. -/
theorem step_pad (p : PS) (hn : p.c.next ≠ 17) (l : List UInt8) (b : UInt8) (h8 : 8 ≤ l.length) (ht : p.taken + l.length < 1048576) (h : leN (l.take 8) ≤ l.length - 8) (hb : b ≠ 0) : ((p.mid l).step b).code = 7 ∧ ((p.mid l).step b).fat = ((p.taken + l.length : Nat) : Int) ∧ ((p.mid l).step b).taken = p.taken + l.length ∧ ((p.mid l).step b).held = l.length ∧ ((p.mid l).step b).c = p.c := by
  have hput : (p.mid l).put b = ((7, ((p.mid l).taken : Int)), p.mid l) := by
    unfold PS.put
    rw [if_neg (show ¬ (p.mid l).held < 8 by show ¬ l.length < 8; omega), if_neg (by show ¬ ((l.drop 8).take (leN (l.take 8))).length < leN (l.take 8); rw [List.length_take, List.length_drop]; omega), if_pos hb]
  have e : (p.mid l).take b = ((7, ((p.mid l).taken : Int)), p.mid l) := by
    unfold PS.take
    rw [if_neg (show ¬ (p.mid l).c.next = 17 from hn), if_neg (show ¬ (p.mid l).taken = 1048576 by show ¬ p.taken + l.length = 1048576; omega), hput, if_pos (by show (7 : Int) ≠ 0; decide)]
  have hs := PS.step_bad (p := p.mid l) (b := b) (by rw [e]; show (7 : Int) ≠ 0; decide)
  rw [hs, e]
  exact ⟨rfl, rfl, rfl, rfl, rfl⟩

/-- What OneText tells of bytes with no whole frame at their head: the bytes taken in, the fault, how far behind the head it is. -/
inductive NoFr (v : List UInt8) : Nat → Int → Int → Prop
  | short : v.length < 8 → NoFr v v.length 0 0
  | long : 8 ≤ v.length → 1048576 < leN (v.take 8) → NoFr v 7 6 0
  | pad (n z : Nat) : 8 ≤ v.length → n = leN (v.take 8) → n ≤ 1048576 → z < padN n → 8 + n + z < v.length → (∀ i, i < z → v[8 + n + i]? = some 0) → (∀ x, v[8 + n + z]? = some x → x ≠ 0) → NoFr v (8 + n + z) 7 ((8 + n + z : Nat) : Int)
  | part (n : Nat) : 8 ≤ v.length → n = leN (v.take 8) → n ≤ 1048576 → v.length < 8 + n + padN n → (∀ i x, 8 + n ≤ i → v[i]? = some x → x = 0) → NoFr v v.length 0 0
/-- The machine there. -/
structure Stp (p q : PS) (n : Nat) (c a : Int) : Prop where
  tk : q.taken = p.taken + n
  hd : q.held = n
  cd : q.code = c
  ft : c ≠ 0 → q.fat = p.taken + a
  pc : q.c = p.c
theorem stp_of {v : List UInt8} {n : Nat} {c a : Int} (h : NoFr v n c a) {p : PS} (hp : p.head) (hn : p.c.next ≠ 17) (ht : p.taken + v.length ≤ 1048576) : Stp p (p.run v) n c a := by
  have hc0 : p.code = 0 := by rw [hp]; rfl
  cases h with
  | short h8 =>
    rw [run_part hp hn ht (fun h => by omega) (fun h => by omega) (fun h => by omega)]
    exact ⟨rfl, rfl, rfl, fun h => absurd rfl h, rfl⟩
  | long h8 hL =>
    have hv : v = v.take 7 ++ v[7] :: v.drop 8 := by
      conv => lhs; rw [← List.take_append_drop 7 v]
      congr 1
      exact List.drop_eq_getElem_cons (by omega)
    have hl7 : (v.take 7).length = 7 := by rw [List.length_take]; omega
    have h9 : v.take 7 ++ [v[7]] = v.take 8 := (List.take_succ_eq_append_getElem (by omega)).symm
    have hr : p.run (v.take 7) = p.mid (v.take 7) := run_part hp hn (by rw [hl7]; omega) (fun h => by omega) (fun h => by omega) (fun h => by omega)
    obtain ⟨s1, s2, s3, s4, s5⟩ := step_long p hn (v.take 7) v[7] hl7 (by omega) (by rw [h9]; exact hL)
    have hrun : p.run v = (p.mid (v.take 7)).step v[7] := by
      have := run_code (v.take 7) p v[7] (v.drop 8) hc0 (by rw [hr]; rfl) (by rw [hr]; exact hn) (by rw [hr, s1]; decide)
      rw [← hv, hr] at this
      exact this
    rw [hrun]
    exact ⟨s3, s4, s1, fun _ => by rw [s2]; omega, s5⟩
  | pad k z h8 hk hle hz hlt hz0 hne =>
    obtain ⟨m, hm⟩ : ∃ m, 8 + k + z = m := ⟨_, rfl⟩
    rw [hm] at hlt hne ⊢
    have hv : v = v.take m ++ v[m] :: v.drop (m + 1) := by
      conv => lhs; rw [← List.take_append_drop m v]
      congr 1
      exact List.drop_eq_getElem_cons hlt
    have hlm : (v.take m).length = m := by rw [List.length_take]; omega
    have ht8 : (v.take m).take 8 = v.take 8 := by rw [List.take_take]; congr 1; omega
    have hr : p.run (v.take m) = p.mid (v.take m) := by
      refine run_part hp hn (by rw [hlm]; omega) (fun _ => by rw [ht8, ← hk]; exact hle) (fun _ i x h1 h2 => ?_) (fun _ => by rw [ht8, hlm, ← hk]; omega)
      rw [ht8, ← hk] at h1
      rw [List.getElem?_take] at h2
      by_cases him : i < m
      · rw [if_pos him] at h2
        have := hz0 (i - (8 + k)) (by omega)
        rw [show 8 + k + (i - (8 + k)) = i by omega, h2] at this
        injection this
      · rw [if_neg him] at h2; cases h2
    obtain ⟨s1, s2, s3, s4, s5⟩ := step_pad p hn (v.take m) v[m] (by omega) (by rw [hlm]; omega) (by rw [ht8, hlm, ← hk]; omega) (hne v[m] (List.getElem?_eq_getElem hlt))
    rw [hlm] at s2 s3 s4
    have hrun : p.run v = (p.mid (v.take m)).step v[m] := by
      have := run_code (v.take m) p v[m] (v.drop (m + 1)) hc0 (by rw [hr]; rfl) (by rw [hr]; exact hn) (by rw [hr, s1]; decide)
      rw [← hv, hr] at this
      exact this
    rw [hrun]
    exact ⟨s3, s4, s1, fun _ => by rw [s2]; omega, s5⟩
  | part k h8 hk hle hlt hz =>
    rw [run_part hp hn ht (fun _ => by rw [← hk]; exact hle) (fun _ i x h1 h2 => hz i x (by rw [hk]; exact h1) h2) (fun _ => by rw [← hk]; exact hlt)]
    exact ⟨rfl, rfl, rfl, fun h => absurd rfl h, rfl⟩
end Go.Proofs.Ytbmiihjleghanaa
