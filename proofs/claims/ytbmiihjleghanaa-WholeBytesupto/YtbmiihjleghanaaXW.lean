/- NxAw VlA PcA TpE, gathered (own text of the verifier). -/
import Derived.Test.YtbmiihjleghanaaNwA
import Derived.Test.YtbmiihjleghanaaNa7
import Derived.Test.YtbmiihjleghanaaTvF
import Derived.Test.YtbmiihjleghanaaTqR
import Derived.Deep.Cut
namespace Go.Proofs.Ytbmiihjleghanaa
open Go.RowKit

/-- The words accepted, one behind the other, up to the archive's end, to one that may not stand there, or to the last. -/
def goA : PC → List ByteArray → Nat → PC × Nat × Int
  | c, [], k => (c, k, if c.next = 17 then 0 else -1)
  | c, s :: W, k => if c.next = 17 then (c, k, 0) else if (c.accept s).1 ≠ 0 then ((c.accept s).2, k, (c.accept s).1) else goA (c.accept s).2 W (k + 1)
theorem goA_whole {c : PC} (h : c.next = 17) (W : List ByteArray) (k : Nat) : goA c W k = (c, k, 0) := by
  cases W with
  | nil => rw [goA, if_pos h]
  | cons s W => rw [goA, if_pos h]
theorem goA_nil {c : PC} (h : c.next ≠ 17) (k : Nat) : goA c [] k = (c, k, -1) := by rw [goA, if_neg h]
theorem goA_bad {c : PC} {s : ByteArray} (h : c.next ≠ 17) (h2 : (c.accept s).1 ≠ 0) (W : List ByteArray) (k : Nat) : goA c (s :: W) k = ((c.accept s).2, k, (c.accept s).1) := by rw [goA, if_neg h, if_pos h2]
theorem goA_go {c : PC} {s : ByteArray} (h : c.next ≠ 17) (h2 : (c.accept s).1 = 0) (W : List ByteArray) (k : Nat) : goA c (s :: W) k = goA (c.accept s).2 W (k + 1) := by rw [goA, if_neg h, if_neg (by omega)]

theorem run_mid (p : PS) (hn : p.c.next ≠ 17) : ∀ (v l : List UInt8), (∀ (l1 l2 : List UInt8) (b : UInt8), v = l1 ++ b :: l2 → (p.mid (l ++ l1)).step b = p.mid (l ++ l1 ++ [b])) → (p.mid l).run v = p.mid (l ++ v)
  | [], l, _ => by rw [List.append_nil]; rfl
  | b :: v, l, h => by
    have h1 := h [] v b rfl
    rw [List.append_nil] at h1
    rw [PS.run_cons, if_neg (fun hh => hn hh.2), h1, if_neg (by rw [mid_code]; decide)]
    have := run_mid p hn v (l ++ [b]) (fun l1 l2 x e => by
      have := h (b :: l1) l2 x (by rw [e]; rfl)
      simpa using this)
    rw [this]
    simp
/-- A beginning of a frame that is not whole. -/
theorem run_part {p : PS} (hp : p.head) (hn : p.c.next ≠ 17) {l : List UInt8} (ht : p.taken + l.length ≤ 1048576) (h1 : 8 ≤ l.length → leN (l.take 8) ≤ 1048576) (h2 : 8 ≤ l.length → ∀ i x, 8 + leN (l.take 8) ≤ i → l[i]? = some x → x = 0) (h3 : 8 ≤ l.length → l.length < 8 + leN (l.take 8) + padN (leN (l.take 8))) : p.run l = p.mid l := by
  have key := run_mid p hn l [] (fun l1 l2 b e => by
    rw [List.nil_append]
    have hlen : l.length = l1.length + 1 + l2.length := by rw [e]; simp; omega
    have h8 : 8 ≤ l1.length + 1 → (l1 ++ [b]).take 8 = l.take 8 := fun h => by
      have e2 : l = l1 ++ [b] ++ l2 := by rw [e]; simp
      rw [e2, List.take_append_of_le_length (l₁ := l1 ++ [b]) (by rw [List.length_append]; exact h)]
    refine step_go p l1 b hn (by omega) (fun h7 => ?_) (fun h => fun hle => ?_) (fun he => ?_)
    · have := h1 (by omega)
      rw [← h8 (by omega), List.take_of_length_le (by rw [List.length_append]; show l1.length + 1 ≤ 8; omega)] at this
      exact this
    · have e8 : l1.take 8 = l.take 8 := by
        rw [← h8 (by omega), List.take_append_of_le_length h]
      refine h2 (by omega) l1.length b (by rw [← e8]; omega) ?_
      rw [e, List.getElem?_append_right (Nat.le_refl _), Nat.sub_self]
      rfl
    · by_cases hh : 8 ≤ l1.length + 1
      · rw [h8 hh] at he
        have := h3 (by omega)
        omega
      · omega)
  rw [List.nil_append, ← head_mid hp] at key
  exact key
theorem run_code : ∀ (v : List UInt8) (q : PS) (b : UInt8) (z : List UInt8), q.code = 0 → (q.run v).code = 0 → (q.run v).c.next ≠ 17 → ((q.run v).step b).code ≠ 0 → q.run (v ++ b :: z) = (q.run v).step b
  | [], q, b, z, _, _, h3, h4 => by
    show q.run (b :: z) = q.step b
    have h3' : q.c.next ≠ 17 := h3
    have h4' : (q.step b).code ≠ 0 := h4
    rw [PS.run_cons, if_neg (fun hh => h3' hh.2), if_pos h4']
  | x :: v, q, b, z, h0, h1, h3, h4 => by
    show q.run (x :: (v ++ b :: z)) = _
    rw [PS.run_cons] at h1 h3 h4 ⊢
    rw [PS.run_cons]
    by_cases hp : q.part = true ∧ q.c.next = 17
    · rw [if_pos hp] at h3; exact absurd hp.2 h3
    rw [if_neg hp] at h1 h3 h4 ⊢
    rw [if_neg hp]
    by_cases hc : (q.step x).code ≠ 0
    · rw [if_pos hc] at h1; exact absurd h1 hc
    rw [if_neg hc] at h1 h3 h4 ⊢
    rw [if_neg hc]
    exact run_code v (q.step x) b z (by omega) h1 h3 h4
/-- A length that is too great. -/
theorem step_long (p : PS) (hn : p.c.next ≠ 17) (l : List UInt8) (b : UInt8) (h7 : l.length = 7) (ht : p.taken + 7 < 1048576) (h : 1048576 < leN (l ++ [b])) : ((p.mid l).step b).code = 6 ∧ ((p.mid l).step b).fat = (p.taken : Int) ∧ ((p.mid l).step b).taken = p.taken + 7 ∧ ((p.mid l).step b).held = 7 ∧ ((p.mid l).step b).c = p.c := by
  have hnl : (p.mid l).nl b = leN (l ++ [b]) := by
    unfold PS.nl PS.mid
    show leN (l.take 8) + b.toNat * 2 ^ (8 * l.length) = _
    rw [List.take_of_length_le (by omega), leN_snoc]
  have hput : (p.mid l).put b = ((6, ((p.mid l).taken : Int) - (p.mid l).held), (p.mid l).sl ((p.mid l).nl b)) := by
    unfold PS.put
    rw [if_pos (show (p.mid l).held < 8 by show l.length < 8; omega), if_pos ⟨h7, by rw [hnl]; exact h⟩]
  have e : (p.mid l).take b = ((6, ((p.mid l).taken : Int) - (p.mid l).held), (p.mid l).sl ((p.mid l).nl b)) := by
    unfold PS.take
    rw [if_neg (show ¬ (p.mid l).c.next = 17 from hn), if_neg (show ¬ (p.mid l).taken = 1048576 by show ¬ p.taken + l.length = 1048576; omega), hput, if_pos (by show (6 : Int) ≠ 0; decide)]
  have hs := PS.step_bad (p := p.mid l) (b := b) (by rw [e]; show (6 : Int) ≠ 0; decide)
  rw [hs, e]
  refine ⟨rfl, ?_, ?_, h7, rfl⟩
  · show ((p.taken + l.length : Nat) : Int) - (l.length : Nat) = _
    omega
  · show p.taken + l.length = _
    omega
/-- Padding that is none. -/
theorem step_pad (p : PS) (hn : p.c.next ≠ 17) (l : List UInt8) (b : UInt8) (h8 : 8 ≤ l.length) (ht : p.taken + l.length < 1048576) (h : leN (l.take 8) ≤ l.length - 8) (hb : b ≠ 0) : ((p.mid l).step b).code = 7 ∧ ((p.mid l).step b).fat = ((p.taken + l.length : Nat) : Int) ∧ ((p.mid l).step b).taken = p.taken + l.length ∧ ((p.mid l).step b).held = l.length ∧ ((p.mid l).step b).c = p.c := by
  have hput : (p.mid l).put b = ((7, ((p.mid l).taken : Int)), p.mid l) := by
    unfold PS.put
    rw [if_neg (show ¬ (p.mid l).held < 8 by show ¬ l.length < 8; omega), if_neg (by show ¬ ((l.drop 8).take (leN (l.take 8))).length < leN (l.take 8); rw [List.length_take, List.length_drop]; omega), if_pos hb]
  have e : (p.mid l).take b = ((7, ((p.mid l).taken : Int)), p.mid l) := by
    unfold PS.take
    rw [if_neg (show ¬ (p.mid l).c.next = 17 from hn), if_neg (show ¬ (p.mid l).taken = 1048576 by show ¬ p.taken + l.length = 1048576; omega), hput, if_pos (by show (7 : Int) ≠ 0; decide)]
  have hs := PS.step_bad (p := p.mid l) (b := b) (by rw [e]; show (7 : Int) ≠ 0; decide)
  rw [hs, e]
  exact ⟨rfl, rfl, rfl, rfl, rfl⟩

/-- What OneText tells of bytes with no whole frame at their head: the bytes taken in, the fault, how far behind the head it is. -/
inductive NoFr (v : List UInt8) : Nat → Int → Int → Prop
  | short : v.length < 8 → NoFr v v.length 0 0
  | long : 8 ≤ v.length → 1048576 < leN (v.take 8) → NoFr v 7 6 0
  | pad (n z : Nat) : 8 ≤ v.length → n = leN (v.take 8) → n ≤ 1048576 → z < padN n → 8 + n + z < v.length → (∀ i, i < z → v[8 + n + i]? = some 0) → (∀ x, v[8 + n + z]? = some x → x ≠ 0) → NoFr v (8 + n + z) 7 ((8 + n + z : Nat) : Int)
  | part (n : Nat) : 8 ≤ v.length → n = leN (v.take 8) → n ≤ 1048576 → v.length < 8 + n + padN n → (∀ i x, 8 + n ≤ i → v[i]? = some x → x = 0) → NoFr v v.length 0 0
/-- The machine there. -/
structure Stp (p q : PS) (n : Nat) (c a : Int) : Prop where
  tk : q.taken = p.taken + n
  hd : q.held = n
  cd : q.code = c
  ft : c ≠ 0 → q.fat = p.taken + a
  pc : q.c = p.c
theorem stp_of {v : List UInt8} {n : Nat} {c a : Int} (h : NoFr v n c a) {p : PS} (hp : p.head) (hn : p.c.next ≠ 17) (ht : p.taken + v.length ≤ 1048576) : Stp p (p.run v) n c a := by
  have hc0 : p.code = 0 := by rw [hp]; rfl
  cases h with
  | short h8 =>
    rw [run_part hp hn ht (fun h => by omega) (fun h => by omega) (fun h => by omega)]
    exact ⟨rfl, rfl, rfl, fun h => absurd rfl h, rfl⟩
  | long h8 hL =>
    have hv : v = v.take 7 ++ v[7] :: v.drop 8 := by
      conv => lhs; rw [← List.take_append_drop 7 v]
      congr 1
      exact List.drop_eq_getElem_cons (by omega)
    have hl7 : (v.take 7).length = 7 := by rw [List.length_take]; omega
    have h9 : v.take 7 ++ [v[7]] = v.take 8 := (List.take_succ_eq_append_getElem (by omega)).symm
    have hr : p.run (v.take 7) = p.mid (v.take 7) := run_part hp hn (by rw [hl7]; omega) (fun h => by omega) (fun h => by omega) (fun h => by omega)
    obtain ⟨s1, s2, s3, s4, s5⟩ := step_long p hn (v.take 7) v[7] hl7 (by omega) (by rw [h9]; exact hL)
    have hrun : p.run v = (p.mid (v.take 7)).step v[7] := by
      have := run_code (v.take 7) p v[7] (v.drop 8) hc0 (by rw [hr]; rfl) (by rw [hr]; exact hn) (by rw [hr, s1]; decide)
      rw [← hv, hr] at this
      exact this
    rw [hrun]
    exact ⟨s3, s4, s1, fun _ => by rw [s2]; omega, s5⟩
  | pad k z h8 hk hle hz hlt hz0 hne =>
    obtain ⟨m, hm⟩ : ∃ m, 8 + k + z = m := ⟨_, rfl⟩
    rw [hm] at hlt hne ⊢
    have hv : v = v.take m ++ v[m] :: v.drop (m + 1) := by
      conv => lhs; rw [← List.take_append_drop m v]
      congr 1
      exact List.drop_eq_getElem_cons hlt
    have hlm : (v.take m).length = m := by rw [List.length_take]; omega
    have ht8 : (v.take m).take 8 = v.take 8 := by rw [List.take_take]; congr 1; omega
    have hr : p.run (v.take m) = p.mid (v.take m) := by
      refine run_part hp hn (by rw [hlm]; omega) (fun _ => by rw [ht8, ← hk]; exact hle) (fun _ i x h1 h2 => ?_) (fun _ => by rw [ht8, hlm, ← hk]; omega)
      rw [ht8, ← hk] at h1
      rw [List.getElem?_take] at h2
      by_cases him : i < m
      · rw [if_pos him] at h2
        have := hz0 (i - (8 + k)) (by omega)
        rw [show 8 + k + (i - (8 + k)) = i by omega, h2] at this
        injection this
      · rw [if_neg him] at h2; cases h2
    obtain ⟨s1, s2, s3, s4, s5⟩ := step_pad p hn (v.take m) v[m] (by omega) (by rw [hlm]; omega) (by rw [ht8, hlm, ← hk]; omega) (hne v[m] (List.getElem?_eq_getElem hlt))
    rw [hlm] at s2 s3 s4
    have hrun : p.run v = (p.mid (v.take m)).step v[m] := by
      have := run_code (v.take m) p v[m] (v.drop (m + 1)) hc0 (by rw [hr]; rfl) (by rw [hr]; exact hn) (by rw [hr, s1]; decide)
      rw [← hv, hr] at this
      exact this
    rw [hrun]
    exact ⟨s3, s4, s1, fun _ => by rw [s2]; omega, s5⟩
  | part k h8 hk hle hlt hz =>
    rw [run_part hp hn ht (fun _ => by rw [← hk]; exact hle) (fun _ i x h1 h2 => hz i x (by rw [hk]; exact h1) h2) (fun _ => by rw [← hk]; exact hlt)]
    exact ⟨rfl, rfl, rfl, fun h => absurd rfl h, rfl⟩
end Go.Proofs.Ytbmiihjleghanaa
namespace Go.Proofs.Ytbmiihjleghanaa
open Go.RowKit

set_option maxHeartbeats 1000000 in
theorem faultL_any (g : Nat) (a b : Int) (w : World) (h2 : w.cell? ⟨g, 2, none⟩ = some (.int .i64 a)) (h3 : w.cell? ⟨g, 3, none⟩ = some (.int .i64 b)) : Calls Try.prog 15 #[.pointer (some ⟨g, 0, none⟩)] w fun e w' => e = .returned (.agg #[.int .i64 a, .int .i64 b]) ∧ Below w.heap.size w w' := by
  have bA : Hid (Below w.heap.size w (w.alloc (.cells #[.int .i64 a, .int .i64 b] 30))) := (Below.refl _ _).alloc (Nat.le_refl _) _
  have sA : Hid (St (w.alloc (.cells #[.int .i64 a, .int .i64 b] 30)) w.heap.size [.int .i64 a, .int .i64 b]) := St.new w _ _
  have hl := World.block_lt_of_cell? _ _ h2
  go_enter Try.func15, Try.ntmps15
  go_wp2
  exact ret_fault rfl rfl sA.out ⟨rfl, bA.out⟩
theorem fwS_mod : ∀ W : List ByteArray, fwS W % 8 = 0
  | [] => rfl
  | s :: W => by
    have := fwS_mod W
    show (8 + s.size + padN s.size + fwS W) % 8 = 0
    unfold padN
    omega
/-- Behind at bytes of an archive, with no word begun. -/
theorem long_at {T : Tr} (hs : smT T) (hw : wfT T) (hc : (ckT T).2 = 0) (k : Nat) (hk : k < (arcT T).length) (h0 : (prs ((arcT T).take k)).held = 0) : (prs ((arcT T).take k)).head ∧ (prs ((arcT T).take k)).c.next ≠ 17 ∧ (prs ((arcT T).take k)).taken = k ∧ k + 8 ≤ 1048576 := by
  obtain ⟨r1, r2, r3⟩ := run_short hs hw hc false k hk
  rw [← prs_run] at r1 r2 r3
  have hR : Rd (prs ((arcT T).take k)) ((arcT T).take k) := by
    have := Rd.run ((arcT T).take k) (PS.new false) [] rfl (PI.new false) (Rd.new false) (by rw [← prs_run]; exact r1)
    rw [← prs_run] at this
    exact this
  obtain ⟨ws, l, P, h1, h2, h3, h4, h5, h6⟩ := hR
  have hl : l = [] := by
    rw [h2] at h0
    exact List.length_eq_zero_iff.1 h0
  subst hl
  have hal : (arcT T).length ≤ 1048576 := by rw [arc_len]; exact (arc_facts hs hw hc).2.2.1
  refine ⟨by rw [h2]; rfl, r2, r3, ?_⟩
  have e1 : k = fwS ws := by
    rw [h2] at r3
    have : P.taken + 0 = k := r3
    rw [frm_len] at h3
    omega
  have m1 := fwS_mod ws
  have m2 := fwS_mod (wMagic :: wdT T)
  rw [← arc_len] at m2
  omega
theorem run_open : ∀ (l : List UInt8) (p : PS), p.closed = false → (p.run l).closed = false
  | [], _, h => h
  | b :: l, p, h => by
    have hst : (p.step b).closed = false := by
      by_cases h0 : (p.take b).1.1 = 0
      · rw [PS.step_ok h0]; exact (p.take_keep b).2.2.1.trans h
      · rw [PS.step_bad h0]; exact (p.take_keep b).2.2.1.trans h
    rw [PS.run_cons]
    split
    · exact h
    split
    · exact hst
    · exact run_open l _ hst
theorem prs_open (l : List UInt8) : (prs l).closed = false := by rw [prs_run]; exact run_open l _ rfl
/-- A length above the most. -/
theorem long_fault {p : PS} (hp : p.head) (hn : p.c.next ≠ 17) (ht : p.taken + 8 ≤ 1048576) (N : Nat) (hN : 1048576 < N) (hN2 : N < 18446744073709551616) (hcl : p.closed = false) : (p.feed (lek N 8)).code = 6 ∧ (p.feed (lek N 8)).fat = p.taken ∧ (p.feed (lek N 8)).taken = p.taken + 7 := by
  have hc0 : p.code = 0 := by rw [hp]; rfl
  have h8 : (lek N 8).length = 8 := lek_len N 8
  have hL : leN ((lek N 8).take 8) = N := by
    rw [List.take_of_length_le (by omega), leN_lek]
    exact Nat.mod_eq_of_lt hN2
  have hS := stp_of (NoFr.long (v := lek N 8) (by omega) (by rw [hL]; exact hN)) hp hn (by omega)
  have e : p.feed (lek N 8) = p.run (lek N 8) := by unfold PS.feed; rw [if_neg (by rw [hcl, hc0]; simp)]
  rw [e]
  exact ⟨hS.cd, by rw [hS.ft (by decide)]; omega, hS.tk⟩
theorem int_list (N : Nat) : strFn 8 (w8 (N : Int)) = NB.ba (lek N 8) := by
  have h : (strFn 8 (w8 (N : Int))).data.toList = lek N 8 := by
    rw [lek_range]
    unfold strFn strOfNums
    simp
  have := NB.ba_list (strFn 8 (w8 (N : Int)))
  rw [h] at this
  exact this.symm
theorem baL_take (a : List UInt8) (k : Nat) : (NB.ba a).extract 0 k = NB.ba (a.take k) := by
  rw [Go.Lib.extract_eq]
  show NB.ba ((a.drop 0).take (k - 0)) = _
  simp

set_option maxHeartbeats 16000000 in
set_option maxRecDepth 200000 in
theorem wlong_walk (m : Nat) (k : Int) (e : Bool) (t : ByteArray) (x : Option Addr) (n c : Nat) (T : Tr) (at_ len : Int) (w : World) (hA : At w m (.agg #[Value.int IntKind.i64 k, Value.bool e, Value.string t, Value.slice x n c]) T) (hS : smT T) (h0 : 0 ≤ len) (h1 : len < 18446744073709551616) :
    Calls Try.prog 4 #[.agg #[Value.int IntKind.i64 k, Value.bool e, Value.string t, Value.slice x n c], .int .i64 at_, .int .u64 len] w fun en w' => en = .returned (.bool true) ∧ Below w.heap.size w w' := by
  have hW := At.wf _ _ _ hA
  have HH : Hid (At w m (.agg #[Value.int IntKind.i64 k, Value.bool e, Value.string t, Value.slice x n c]) T ∧ smT T ∧ wfT T) := ⟨hA, hS, hW⟩
  clear hA hS hW
  obtain ⟨N, hN⟩ : ∃ N : Nat, len = (N : Int) := ⟨len.toNat, by omega⟩
  subst hN
  have HB : Hid (0 ≤ (N : Int) ∧ (N : Int) < 18446744073709551616) := ⟨h0, h1⟩
  clear h0 h1
  have bA : Below w.heap.size w (w.alloc (Obj.cells #[Value.int IntKind.i64 k, Value.bool e, Value.string t, Value.slice x n c] 26)) := (Below.refl _ _).alloc (Nat.le_refl _) _
  have HG : Hid ((w.alloc (Obj.cells #[Value.int IntKind.i64 k, Value.bool e, Value.string t, Value.slice x n c] 26)).heap[w.heap.size]? = some (.cells #[Value.int IntKind.i64 k, Value.bool e, Value.string t, Value.slice x n c] 26 (0, 0)) ∧ Below w.heap.size w (w.alloc (Obj.cells #[Value.int IntKind.i64 k, Value.bool e, Value.string t, Value.slice x n c] 26))) := ⟨heap_alloc_new _ _, bA⟩
  clear bA
  go_enter Try.func4, Try.ntmps4
  go_upto_region 1 with fail
  obtain ⟨G, hG⟩ : ∃ G, w.heap.size = G := ⟨_, rfl⟩
  have HGe : Hid (w.heap.size = G) := hG
  generalize w.alloc (Obj.cells #[Value.int IntKind.i64 k, Value.bool e, Value.string t, Value.slice x n c] 26) = w1 at *
  rw [hG] at HG ⊢
  clear hG
  have CW := awN w1
  go_wp2_with fail
  refine CW.mono ?_
  rintro e2 w2 ⟨rfl, b2⟩
  have HG2 : Hid (w2.heap[G]? = some (.cells #[Value.int IntKind.i64 k, Value.bool e, Value.string t, Value.slice x n c] 26 (0, 0)) ∧ Below G w w2) := ⟨(b2.block _ (heap_lt HG.out.1)).trans HG.out.1, HG.out.2.trans (b2.mono (Nat.le_of_lt (heap_lt HG.out.1)))⟩
  clear CW b2 HG
  obtain ⟨u0, u1, u2, u3, _⟩ := cell4n HG2.out.1
  have CS := nserial_any m k e t x n c T w2 (HH.out.1.below (by rw [HGe.out]; exact HG2.out.2)) HH.out.2.1 HH.out.2.2
  obtain ⟨R, hR⟩ : ∃ R, serT T = R := ⟨_, rfl⟩
  have HR : Hid (serT T = R) := hR
  rw [hR] at CS
  clear hR
  obtain ⟨X, C⟩ := R
  dsimp only at CS
  go_wp2_with fail
  refine CS.mono ?_
  rintro e3 w3 ⟨rfl, b3⟩
  have HB3 : Hid (Below G w w3) := HG2.out.2.trans (b3.mono (Nat.le_of_lt (heap_lt HG2.out.1)))
  clear CS b3 HG2 u0 u1 u2 u3
  by_cases hc : (ckT T).2 = 0
  · have hser : serT T = (NB.ba (arcT T), 0) := by unfold serT; rw [if_neg (by omega)]
    have e1 : X = NB.ba (arcT T) ∧ C = 0 := by
      have := HR.out.symm.trans hser
      injection this with h1 h2
      exact ⟨h1, h2⟩
    obtain ⟨rfl, rfl⟩ := e1
    have hz1 : (NB.ba (arcT T)).size = (arcT T).length := NB.ba_size _
    have HLA : Hid (∀ k, k < (arcT T).length → (prs ((arcT T).take k)).held = 0 → (prs ((arcT T).take k)).head ∧ (prs ((arcT T).take k)).c.next ≠ 17 ∧ (prs ((arcT T).take k)).taken = k ∧ k + 8 ≤ 1048576) := fun k hk h => long_at HH.out.2.1 HH.out.2.2 hc k hk h
    have HRS : Hid (∀ k, k < (arcT T).length → (prs ((arcT T).take k)).code = 0 ∧ (prs ((arcT T).take k)).taken = k) := fun k hk => by
      have := run_short HH.out.2.1 HH.out.2.2 hc false k hk
      rw [← prs_run] at this
      exact ⟨this.1, this.2.2⟩
    have hal : (arcT T).length ≤ 1048576 := by rw [arc_len]; exact (arc_facts HH.out.2.1 HH.out.2.2 hc).2.2.1
    clear HR hser hc
    generalize arcT T = A at *
    by_cases hN : N ≤ 1048576
    · have hNI : (N : Int) ≤ 1048576 := by omega
      have hNd : decide ((N : Int) ≤ 1048576) = true := by simp; omega
      go_wp2
      go_ret
      exact ⟨rfl, by rw [HGe.out]; exact HB3.out⟩
    · have hNI : ¬ ((N : Int) ≤ 1048576) := by omega
      have hNd : decide ((N : Int) ≤ 1048576) = false := by simp; omega
      have CN := newparser_any w3
      go_wp2_with fail
      refine CN.mono ?_
      rintro e4 w4 ⟨rfl, hw4⟩
      clear CN
      have P4 : Hid (PW w4 w3.heap.size (w3.heap.size + 1) (PS.new false) [] ∧ Below w3.heap.size w3 w4) := by
        rw [hw4]
        exact ⟨PW.new w3 false, (Below.refl _ _).alloc (Nat.le_refl _) _⟩
      clear hw4
      have HG3 : Hid (G ≤ w3.heap.size) := Nat.le_trans (Nat.le_of_eq HGe.out.symm) HB3.out.size
      have HB4 : Hid (Below G w w4) := HB3.out.trans (P4.out.2.mono HG3.out)
      obtain ⟨g, hg⟩ : ∃ g, w3.heap.size = g := ⟨_, rfl⟩
      rw [hg] at P4 HG3 ⊢
      clear hg
      by_cases hat : at_ < 0 ∨ (A.length : Int) ≤ at_
      · by_cases hn : at_ < 0
        · go_wp2
          go_ret
          exact ⟨rfl, by rw [HGe.out]; exact HB4.out⟩
        · have hge : (A.length : Int) ≤ at_ := hat.resolve_left hn
          go_wp2
          go_ret
          exact ⟨rfl, by rw [HGe.out]; exact HB4.out⟩
      · obtain ⟨K, hK⟩ : ∃ K : Nat, at_ = (K : Int) := ⟨at_.toNat, by omega⟩
        subst hK
        have hKl : K < A.length := by omega
        have hn1 : ¬ (K : Int) < 0 := by omega
        have hn2 : ¬ (A.length : Int) ≤ (K : Int) := by omega
        have hKI : (K : Int) ≤ (A.length : Int) := by omega
        have hex := baL_take A K
        have hla : Hid ((prs (A.take K)).held = 0 → (prs (A.take K)).head ∧ (prs (A.take K)).c.next ≠ 17 ∧ (prs (A.take K)).taken = K ∧ K + 8 ≤ 1048576) := HLA.out K hKl
        have hrs : Hid ((prs (A.take K)).code = 0 ∧ (prs (A.take K)).taken = K) := HRS.out K hKl
        have hLl : Hid ((A.take K).length = K) := by rw [Hid, List.length_take, Nat.min_eq_left (by omega)]
        clear HLA HRS
        generalize A.take K = L at *
        obtain ⟨c5, w5, hcv, hX, b5⟩ := BSl.conv w4 (L) g [] (by have := P4.out.1.lt; omega) (fun k hk => by cases hk)
        have CF := feed_any g (g + 1) (PS.new false) [] _ c5 (L) w5 (P4.out.1.below b5) (fun _ => PI.new false) hX (by rw [hLl.out]; omega)
        have hfd : (PS.new false).feed (L) = prs (L) := rfl
        rw [hfd, hrs.out.2, hLl.out] at CF
        rw [hLl.out] at hcv
        have h00 : ((K : Int) - ((PS.new false).taken : Int)) = (K : Int) := by show (K : Int) - ((0 : Nat) : Int) = K; omega
        rw [h00] at CF
        have HB5 : Hid (Below G w w5 ∧ Below w4.heap.size w4 w5) := ⟨HB4.out.trans (b5.mono (by have := P4.out.1.lt; have := HG3.out; omega)), b5⟩
        have hP5 : Hid (g < w4.heap.size) := by have := P4.out.1.lt; exact (by omega : g < w4.heap.size)
        have hgG : Hid (G ≤ g) := HG3.out
        clear hX b5 hat h00
        go_wp2_with fail
        refine CF.mono ?_
        rintro e6 w6 ⟨rfl, fp6, P6, F6, S6⟩
        clear CF hcv hex
        have HP6 : Hid (PW w6 g (g + 1) (prs L) fp6) := P6
        have HF6 : Hid (∀ b ∈ fp6, w5.heap.size ≤ b) := fun b hb => by
          rcases S6 b hb with h | h
          · cases h
          · exact h
        have b6 : Below g w5 w6 := F6.below (by have := hP5.out; have := HB5.out.2.size; omega) (Nat.le_refl _) (fun b hb => by cases hb)
        have HB6 : Hid (Below G w w6) := HB5.out.1.trans (b6.mono hgG.out)
        obtain ⟨-, d1, -, -, -, -, -, -, -⟩ := P6.cells
        have CH := held_any g _ w6 d1
        clear P6 F6 S6 b6
        by_cases hh : (prs L).held = 0
        · obtain ⟨q1, q2, q3, q4⟩ := hla.out hh
          rw [hh] at CH
          have CI2 := int_any (N : Int) w6 HB.out.1 (by have := HB.out.2; omega)
          rw [int_list] at CI2
          have hcl : (prs L).closed = false := prs_open L
          obtain ⟨f1, f2, f3⟩ := long_fault q1 q2 (by omega) N (by omega) (by have := HB.out; omega) hcl
          have HF : Hid (((prs L).feed (lek N 8)).code = 6 ∧ ((prs L).feed (lek N 8)).fat = (K : Int) ∧ ((prs L).feed (lek N 8)).taken = K + 7) := ⟨f1, by rw [f2, q3], by rw [f3, q3]⟩
          clear q1 q2 q3 q4 f1 f2 f3 hh
          go_wp2_with fail
          refine CH.mono ?_
          rintro e7 w7 ⟨rfl, rfl⟩
          clear CH d1
          go_wp2_with fail
          refine CI2.mono ?_
          rintro e8 w8 ⟨rfl, b8⟩
          clear CI2
          have HP8 : Hid (PW w8 g (g + 1) (prs L) fp6) := HP6.out.below b8
          have HB8 : Hid (Below G w w8) := HB6.out.trans (b8.mono (by have := HP6.out.lt; have := hgG.out; omega))
          have hlt8 := HP8.out.lt
          clear b8
          obtain ⟨c9, w9, hcv, hX, b9⟩ := BSl.conv w8 (lek N 8) g fp6 (by omega) (fun k hk => (hlt8.2.2 k hk).2)
          have CF := feed_any g (g + 1) (prs L) fp6 _ c9 (lek N 8) w9 (HP8.out.below b9) (prs_inv (L)).1 hX (by rw [lek_len]; decide)
          rw [lek_len] at hcv CF
          have HB9 : Hid (Below G w w9) := HB8.out.trans (b9.mono (by have := hgG.out; omega))
          have h69 : Hid (w9.heap.size ≥ w8.heap.size) := b9.size
          clear hX b9 hlt8
          go_wp2_with fail
          refine CF.mono ?_
          rintro ea wa ⟨rfl, fpa, Pa, Fa, Sa⟩
          clear CF hcv
          have ba : Below g w9 wa := Fa.below (by have := HP8.out.lt; have := h69.out; omega) (Nat.le_refl _) (fun b hb => by have := HF6.out b hb; have := HB5.out.2.size; have := hP5.out; omega)
          have HBa : Hid (Below G w wa) := HB9.out.trans (ba.mono hgG.out)
          obtain ⟨c0, -, c2, c3, -, -, -, -, -⟩ := Pa.cells
          rw [HF.out.1] at c2
          rw [HF.out.2.1] at c3
          rw [HF.out.2.2] at c0
          have CFa := faultL_any g _ _ wa c2 c3
          have hga := Pa.lt.1
          clear ba Pa Fa Sa
          go_wp2_with fail
          refine CFa.mono ?_
          rintro eb wb ⟨rfl, bb⟩
          clear CFa
          have CT := taken_any g _ wb ((bb.cell (p := ⟨g, 0, none⟩) (World.block_lt_of_cell? _ _ c0)).trans c0)
          have HBb : Hid (Below G w wb) := HBa.out.trans (bb.mono (Nat.le_of_lt (Nat.lt_of_le_of_lt hgG.out (World.block_lt_of_cell? _ _ c0))))
          clear bb c0 c2 c3
          go_wp2_with fail
          refine CT.mono ?_
          rintro ec wc ⟨rfl, rfl⟩
          clear CT
          go_wp2
          go_ret
          exact ⟨rfl, by rw [HGe.out]; exact HBb.out⟩
        · have hhb : ((((prs L).held : Nat) : Int) != 0) = true := by simp [hh]
          go_wp2_with fail
          refine CH.mono ?_
          rintro e7 w7 ⟨rfl, rfl⟩
          clear CH
          go_wp2
          go_ret
          exact ⟨rfl, by rw [HGe.out]; exact HB6.out⟩
  · have hser : serT T = (⟨#[]⟩, (ckT T).2) := by unfold serT; rw [if_pos hc]
    have e1 : X = ⟨#[]⟩ ∧ C = (ckT T).2 := by
      have := HR.out.symm.trans hser
      injection this with h1 h2
      exact ⟨h1, h2⟩
    obtain ⟨rfl, rfl⟩ := e1
    clear HR hser
    generalize (ckT T).2 = D at *
    have hb : (D != 0) = true := by simp [hc]
    have hb2 : (D == 0) = false := by simp [hc]
    go_wp2
    go_ret
    exact ⟨rfl, by rw [HGe.out]; exact HB3.out⟩
theorem wlong_final (m : Nat) (k : Int) (e : Bool) (t : ByteArray) (x : Option Addr) (n c : Nat) (T : Tr) (at_ len : Int) (w : World) (hA : At w m (.agg #[Value.int IntKind.i64 k, Value.bool e, Value.string t, Value.slice x n c]) T) (hS : smT T) (_ : -9223372036854775808 ≤ at_) (_ : at_ ≤ 9223372036854775807) (h0 : 0 ≤ len) (h1 : len ≤ 18446744073709551615) :
    Calls Try.prog 4 #[.agg #[Value.int IntKind.i64 k, Value.bool e, Value.string t, Value.slice x n c], .int .i64 at_, .int .u64 len] w fun en w' => en = .returned (.bool true) ∧ Below w.heap.size w w' := wlong_walk m k e t x n c T at_ len w hA hS h0 (by omega)
end Go.Proofs.Ytbmiihjleghanaa
namespace Go.Proofs.Ytbmiihjleghanaa
open Go.RowKit

theorem infoSTR : (Try.prog.info? 9).map (fun i => (i.zero, i.size, i.bytes)) = some (some (.string ⟨#[]⟩), 1, 16) := by kernel_rfl
theorem undLSTR : Try.prog.underlying 35 = some (.slice 9) := by kernel_rfl
/-- v is a slice of these texts, which the call itself made from block B on. -/
def Srr (w : World) (B : Nat) (v : Value) (L : List (List UInt8)) : Prop := w.ownsRow B 9 1 v L.length (L.map (fun s => Value.string (NB.ba s)))
theorem Srr.shape {w : World} {B : Nat} {v : Value} {L : List (List UInt8)} (h : Srr w B v L) : ∃ x c, v = .slice x L.length c := by
  rcases h.2 with ⟨hv, h0⟩ | ⟨q, cap, cur, hv, _⟩
  · exact ⟨none, 0, by rw [hv, h0]⟩
  · exact ⟨_, _, hv⟩
theorem Srr.at {w : World} {B : Nat} {v : Value} {L : List (List UInt8)} (h : Srr w B v L) {i : Nat} {s : List UInt8} (hr : L[i]? = some s) : ∃ g c, v = .slice (some ⟨g, 0, none⟩) L.length c ∧ B ≤ g ∧ g < w.heap.size ∧ w.cell? ⟨g, i, none⟩ = some (.string (NB.ba s)) := by
  have hi : i < L.length := (List.getElem?_eq_some_iff.1 hr).1
  obtain ⟨g, c, rfl, hb, hl⟩ := World.ownsRow.form h (by omega)
  refine ⟨g, c, rfl, hb, hl, (World.ownsRow.cellAt h _ (by omega)).trans ?_⟩
  rw [List.getElem?_map, hr]
  rfl
theorem Srr.app {w : World} {B : Nat} {v : Value} {L : List (List UInt8)} (h : Srr w B v L) (s : List UInt8) (hB : B ≤ w.heap.size) (hl : L.length ≤ 1073741824) :
    ∃ p c w', (Builtin.append_ #[35, 35] 35 #[v, .slice (some ⟨w.heap.size, 0, none⟩) 1 1]).run Try.prog (w.alloc (.cells #[.string (NB.ba s)] 9)) = .ok (.slice p (L.length + 1) c) w' ∧ Srr w' B (.slice p (L.length + 1) c) (L ++ [s]) ∧ Below B w w' := by
  obtain ⟨i0, hi, hz0, hz1, hz2⟩ := info_parts infoSTR
  have hown : (w.alloc (.cells #[.string (NB.ba s)] 9)).ownsRow B 9 1 v L.length (L.map (fun s => Value.string (NB.ba s))) := World.ownsRow.alloc h _
  obtain ⟨g, cap, w', hr, ho, hg, hat, hlt⟩ := run_append_lies (P := Try.prog) (w.alloc (.cells #[.string (NB.ba s)] 9)) 35 35 B 9 i0 (.string ⟨#[]⟩) 1 16 undLSTR hi hz0 hz1 hz2 rfl (by decide) v L.length (L.map (fun s => Value.string (NB.ba s))) hown ⟨w.heap.size, 0, none⟩ 1 1 [.string (NB.ba s)] rfl (fun j u hj => by
      rw [Addr.add_lit, Nat.zero_add]
      match j, hj with
      | 0, hj => exact (World.cell?_alloc_new w _ _ 0).trans hj) (by intro u hu; simp at hu; rcases hu with rfl; rfl) (by decide) (by unfold maxLen; omega) (by omega) (by rw [World.size_alloc]; omega) _ rfl
  refine ⟨some ⟨g, 0, none⟩, cap, w', hr, ?_, ?_⟩
  · unfold Srr
    rw [List.length_append, List.map_append]
    exact ho
  · exact ((Fk.of_below (ty := 9) ((Below.refl _ _).alloc (Nat.le_refl _) _) hB).trans (Fk.grown hown hg (by rw [World.size_alloc]; omega))).below
/-- A row of ints that is read. -/
def ISr (w : World) (x : Option Addr) (n : Nat) (f : Nat → Int) : Prop := ∀ i, i < n → ∃ a, x = some a ∧ w.cell? (a.add i) = some (.int .i64 (f i))
theorem ISr.below {w w' : World} {x : Option Addr} {n : Nat} {f : Nat → Int} (h : ISr w x n f) (b : Below w.heap.size w w') : ISr w' x n f := fun i hi => by
  obtain ⟨a, h1, h2⟩ := h i hi
  exact ⟨a, h1, (b.cell (World.block_lt_of_cell? _ _ h2)).trans h2⟩
def PcP (l : List UInt8) (m : Nat) (w : World) (e : Ending) (w' : World) : Prop := ∃ (x : Option Addr) (c : Nat) (L : List (List UInt8)), e = .returned (.slice x L.length c) ∧ Srr w' w.heap.size (.slice x L.length c) L ∧ L.flatten = l ∧ L.length = m + 1 ∧ Below w.heap.size w w'
theorem cutP (s : List UInt8) (p e : Nat) : (NB.ba s).extract p e = NB.ba ((s.drop p).take (e - p)) := by
  rw [Go.Lib.extract_eq]
  rfl
theorem take_cutP (s : List UInt8) (p e : Nat) (h1 : p ≤ e) : s.take p ++ (s.drop p).take (e - p) = s.take e := by
  have := List.take_add (l := s) (i := p) (j := e - p)
  rw [show p + (e - p) = e by omega] at this
  exact this.symm

set_option maxHeartbeats 8000000 in
set_option maxRecDepth 10000 in
theorem pieces_any (l : List UInt8) (x : Option Addr) (n cp : Nat) (f : Nat → Int) (w : World) (hx : ISr w x n f) (hb : l.length ≤ 1048576) (hn : n ≤ 1048576) :
    Calls Try.prog 8 #[.string (NB.ba l), .slice x n cp] w (PcP l n w) := by
  have hz : (NB.ba l).size = l.length := NB.ba_size l
  have HX : Hid (ISr w x n f) := hx
  clear hx
  go_enter Try.func8, Try.ntmps8
  go_wp2
  go_loopw [5, 6, 11] (fun v pv iv wr => ∃ (i p : Nat) (L : List (List UInt8)), iv = .int .i64 (i : Int) ∧ pv = .int .i64 (p : Int) ∧ i ≤ n ∧ p ≤ l.length ∧ Hid (Srr wr w.heap.size v L ∧ L.flatten = l.take p ∧ L.length = i ∧ Below w.heap.size w wr)) (fun _ _ iv _ => n - (intOf iv).toNat)
  case atStart => exact ⟨0, 0, [], rfl, rfl, Nat.zero_le _, Nat.zero_le _, ⟨by decide, Or.inl ⟨rfl, rfl⟩⟩, rfl, rfl, Below.refl _ _⟩
  case round =>
    obtain ⟨i, p, L, rfl, rfl, hi, hp, HS⟩ := hrel
    obtain ⟨xv, cv, hv⟩ := HS.out.1.shape
    have hLi : Hid (L.length = i) := HS.out.2.2.1
    rw [hLi.out] at hv
    subst hv
    by_cases hlt : i < n
    · obtain ⟨a, ha, hc⟩ := (HX.out.below HS.out.2.2.2) i hlt
      subst ha
      obtain ⟨d, hd⟩ : ∃ d : Nat, l.length = p + d := ⟨l.length - p, by omega⟩
      have hdI : (l.length : Int) - (p : Int) = (d : Int) := by omega
      by_cases hbad : f i < 0 ∨ (d : Int) < f i
      · have hE : (p : Int) + (d : Int) = (l.length : Int) := by omega
        clear hd
        by_cases hneg : f i < 0
        · skip
          have hex := cutP l p l.length
          obtain ⟨p2, c2, w2, hap, hS2, hB2⟩ := HS.out.1.app ((l.drop p).take (l.length - p)) HS.out.2.2.2.size (by rw [hLi.out]; omega)
          rw [hLi.out] at hap
          have H2 : Hid (Srr w2 w.heap.size (.slice p2 (i + 1) c2) (L ++ [(l.drop p).take (l.length - p)]) ∧ (L ++ [(l.drop p).take (l.length - p)]).flatten = l.take l.length ∧ (L ++ [(l.drop p).take (l.length - p)]).length = i + 1 ∧ Below w.heap.size w w2) := by
            refine ⟨by rw [← hLi.out]; exact hS2, ?_, by rw [List.length_append, hLi.out]; rfl, HS.out.2.2.2.trans hB2⟩
            rw [List.flatten_append, HS.out.2.1]
            show _ ++ ((l.drop p).take (l.length - p) ++ []) = _
            rw [List.append_nil, take_cutP l p l.length (by omega)]
          clear hS2 hB2
          generalize (l.drop p).take (l.length - p) = sx at *
          go_wp2_with (first | (refine wpList_app_is (by rfl) 35 35 (.tmp 29) (.tmp 36) (by rfl) _ _ _ _ (by rfl) (by rfl) hap ?_))
          go_roundw
          case rel => exact ⟨i + 1, l.length, L ++ [sx], by go_num, by first | go_num | rfl, by omega, by omega, H2.out⟩
          case measure => simp [intOf]; omega
        · have hbig : (d : Int) < f i := hbad.resolve_left hneg
          have hex := cutP l p l.length
          obtain ⟨p2, c2, w2, hap, hS2, hB2⟩ := HS.out.1.app ((l.drop p).take (l.length - p)) HS.out.2.2.2.size (by rw [hLi.out]; omega)
          rw [hLi.out] at hap
          have H2 : Hid (Srr w2 w.heap.size (.slice p2 (i + 1) c2) (L ++ [(l.drop p).take (l.length - p)]) ∧ (L ++ [(l.drop p).take (l.length - p)]).flatten = l.take l.length ∧ (L ++ [(l.drop p).take (l.length - p)]).length = i + 1 ∧ Below w.heap.size w w2) := by
            refine ⟨by rw [← hLi.out]; exact hS2, ?_, by rw [List.length_append, hLi.out]; rfl, HS.out.2.2.2.trans hB2⟩
            rw [List.flatten_append, HS.out.2.1]
            show _ ++ ((l.drop p).take (l.length - p) ++ []) = _
            rw [List.append_nil, take_cutP l p l.length (by omega)]
          clear hS2 hB2
          generalize (l.drop p).take (l.length - p) = sx at *
          go_wp2_with (first | (refine wpList_app_is (by rfl) 35 35 (.tmp 29) (.tmp 36) (by rfl) _ _ _ _ (by rfl) (by rfl) hap ?_))
          go_roundw
          case rel => exact ⟨i + 1, l.length, L ++ [sx], by go_num, by first | go_num | rfl, by omega, by omega, H2.out⟩
          case measure => simp [intOf]; omega
      · obtain ⟨q, hq⟩ : ∃ q : Nat, f i = (q : Int) := ⟨(f i).toNat, by omega⟩
        rw [hq] at hc hbad
        obtain ⟨e, he⟩ : ∃ e : Nat, e = p + q := ⟨_, rfl⟩
        have hE : (p : Int) + (q : Int) = (e : Int) := by omega
        have hn1 : ¬ (q : Int) < 0 := by omega
        have hn2 : ¬ (d : Int) < (q : Int) := by omega
        have hpe : p ≤ e := by omega
        have hel : e ≤ l.length := by omega
        clear hbad he hq hd
        have hex := cutP l p e
        obtain ⟨p2, c2, w2, hap, hS2, hB2⟩ := HS.out.1.app ((l.drop p).take (e - p)) HS.out.2.2.2.size (by rw [hLi.out]; omega)
        rw [hLi.out] at hap
        have H2 : Hid (Srr w2 w.heap.size (.slice p2 (i + 1) c2) (L ++ [(l.drop p).take (e - p)]) ∧ (L ++ [(l.drop p).take (e - p)]).flatten = l.take e ∧ (L ++ [(l.drop p).take (e - p)]).length = i + 1 ∧ Below w.heap.size w w2) := by
          refine ⟨by rw [← hLi.out]; exact hS2, ?_, by rw [List.length_append, hLi.out]; rfl, HS.out.2.2.2.trans hB2⟩
          rw [List.flatten_append, HS.out.2.1]
          show _ ++ ((l.drop p).take (e - p) ++ []) = _
          rw [List.append_nil, take_cutP l p e (by omega)]
        clear hS2 hB2
        generalize (l.drop p).take (e - p) = sx at *
        go_wp2_with (first | (refine wpList_app_is (by rfl) 35 35 (.tmp 29) (.tmp 36) (by rfl) _ _ _ _ (by rfl) (by rfl) hap ?_))
        go_roundw
        case rel => exact ⟨i + 1, e, L ++ [sx], by go_num, by first | go_num | rfl, by omega, by omega, H2.out⟩
        case measure => simp [intOf]; omega
    · obtain rfl : i = n := by omega
      have hex := cutP l p l.length
      obtain ⟨p2, c2, w2, hap, hS2, hB2⟩ := HS.out.1.app ((l.drop p).take (l.length - p)) HS.out.2.2.2.size (by rw [hLi.out]; omega)
      rw [hLi.out] at hap
      have H2 : Hid (Srr w2 w.heap.size (.slice p2 (L.length + 1) c2) (L ++ [(l.drop p).take (l.length - p)]) ∧ Below w.heap.size w w2) := ⟨hS2, HS.out.2.2.2.trans hB2⟩
      have HF : Hid ((L ++ [(l.drop p).take (l.length - p)]).flatten = l ∧ (L ++ [(l.drop p).take (l.length - p)]).length = i + 1) := by
        refine ⟨?_, by rw [List.length_append, hLi.out]; rfl⟩
        rw [List.flatten_append, HS.out.2.1]
        show _ ++ ((l.drop p).take (l.length - p) ++ []) = l
        rw [List.append_nil, take_cutP l p l.length hp, List.take_length]
      clear hS2 hB2
      generalize (l.drop p).take (l.length - p) = sx at *
      go_wp2_with (first | (refine wpList_app_is (by rfl) 35 35 (.tmp 42) (.tmp 46) (by rfl) _ _ _ _ (by rfl) (by rfl) hap ?_))
      go_ret
      refine ⟨p2, c2, L ++ [sx], ?_, ?_, HF.out.1, HF.out.2, H2.out.2⟩
      · rw [HF.out.2]; rfl
      · have := H2.out.1
        rw [hLi.out] at this
        rw [HF.out.2]
        exact this
end Go.Proofs.Ytbmiihjleghanaa
namespace Go.Proofs.Ytbmiihjleghanaa
open Go.RowKit

set_option maxHeartbeats 8000000 in
theorem topeq_any (m : Nat) : EqAt 11 m := by
  induction m with
  | zero => intro u v S T w h; exact h.elim
  | succ m IH =>
    rintro u v ⟨k, e, t, ns, ks⟩ ⟨k', e', t', ns', ks'⟩ w ⟨x, n, c, rfl, l1, l2, l3, l4, hx⟩ ⟨y, n', c', rfl, l1', l2', l3', l4', hy⟩
    have BW : ∀ o1 o2, Below w.heap.size w ((w.alloc o1).alloc o2) := fun o1 o2 => ((Below.refl _ _).alloc (Nat.le_refl _) o1).alloc (by rw [World.size_alloc]; omega) o2
    have EX : Hid (Ents w m x n ns ks) := At.ents hx
    have EY : Hid (Ents w m y n' ns' ks') := At.ents hy
    have LL : Hid (ns.length = n ∧ ks.length = n ∧ ns'.length = n' ∧ ks'.length = n') := ⟨l1, l2, l1', l2'⟩
    have HQ : Hid (Tr.mk k e t ns ks = Tr.mk k' e' t' ns' ks' ↔ k = k' ∧ e = e' ∧ t = t' ∧ ns = ns' ∧ ks = ks') := by unfold Hid; simp
    clear hx hy l1 l2 l1' l2'
    by_cases h1 : k = k' ∧ e = e' ∧ t = t' ∧ n = n'
    · obtain ⟨rfl, rfl, rfl, rfl⟩ := h1
      have HQ1 : Hid (Tr.mk k e t ns ks = Tr.mk k e t ns' ks' ↔ ns = ns' ∧ ks = ks') := HQ.out.trans ⟨fun h => h.2.2.2, fun h => ⟨rfl, rfl, rfl, h⟩⟩
      clear HQ
      have q1 : (k != k) = false := by simp
      have q2 : (e != e) = false := by simp
      have q3 : (t.toList == t.toList) = true := by simp
      have q4 : ((n : Int) != (n : Int)) = false := by simp
      go_enter Try.func11, Try.ntmps11
      go_wp2
      have B0 := BW (Obj.cells #[.int .i64 k, .bool e, .string t, .slice x n c] 26) (Obj.cells #[.int .i64 k, .bool e, .string t, .slice y n c'] 26)
      have hs0 : (w.alloc (Obj.cells #[.int .i64 k, .bool e, .string t, .slice x n c] 26)).heap.size = w.heap.size + 1 := World.size_alloc _ _
      have hs1 : ((w.alloc (Obj.cells #[.int .i64 k, .bool e, .string t, .slice x n c] 26)).alloc (Obj.cells #[.int .i64 k, .bool e, .string t, .slice y n c'] 26)).heap.size = w.heap.size + 1 + 1 := by rw [World.size_alloc, hs0]
      have C1 : ((w.alloc (Obj.cells #[.int .i64 k, .bool e, .string t, .slice x n c] 26)).alloc (Obj.cells #[.int .i64 k, .bool e, .string t, .slice y n c'] 26)).cell? ⟨w.heap.size, 3, none⟩ = some (.slice x n c) := by
        rw [World.cell?_alloc_old _ _ _ (by rw [hs0]; show w.heap.size ≠ _; omega), World.cell?_alloc_new]; rfl
      have C2 : ((w.alloc (Obj.cells #[.int .i64 k, .bool e, .string t, .slice x n c] 26)).alloc (Obj.cells #[.int .i64 k, .bool e, .string t, .slice y n c'] 26)).cell? ⟨w.heap.size + 1, 3, none⟩ = some (.slice y n c') := by
        rw [← hs0, World.cell?_alloc_new]; rfl
      obtain ⟨G, hG⟩ : ∃ G, w.heap.size = G := ⟨_, rfl⟩
      have HG : Hid (w.heap.size = G) := hG
      clear hs0
      generalize (w.alloc (Obj.cells #[.int .i64 k, .bool e, .string t, .slice x n c] 26)).alloc (Obj.cells #[.int .i64 k, .bool e, .string t, .slice y n c'] 26) = w0 at *
      rw [hG] at C1 C2 hs1 ⊢
      have B0' : Hid (Below w.heap.size w w0) := B0
      clear hG BW B0
      go_loopw [37] (fun xi wr => ∃ i : Nat, i ≤ n ∧ xi = .int .i64 i ∧ Hid (∀ j, j < i → ns[j]? = ns'[j]? ∧ ks[j]? = ks'[j]?) ∧ Hid (Below w0.heap.size w0 wr)) (fun i _ => n - (intOf i).toNat)
      case atStart => exact ⟨0, Nat.zero_le _, rfl, fun j hj => absurd hj (by omega), Below.refl _ _⟩
      case round =>
        obtain ⟨i, hi, rfl, hl, hB⟩ := hrel
        have D1 : wr.cell? ⟨G, 3, none⟩ = some (.slice x n c) := by rw [hB.out.cell (p := ⟨G, 3, none⟩) (by show G < _; omega)]; exact C1
        have D2 : wr.cell? ⟨G + 1, 3, none⟩ = some (.slice y n c') := by rw [hB.out.cell (p := ⟨G + 1, 3, none⟩) (by show G + 1 < _; omega)]; exact C2
        by_cases hlt : i < n
        · obtain ⟨l1, l2, l3, l4⟩ := LL.out
          obtain ⟨s, hs⟩ : ∃ s, ns[i]? = some s := ⟨_, List.getElem?_eq_getElem (by omega)⟩
          obtain ⟨s', hs'⟩ : ∃ s, ns'[i]? = some s := ⟨_, List.getElem?_eq_getElem (by omega)⟩
          obtain ⟨S, hS⟩ : ∃ s, ks[i]? = some s := ⟨_, List.getElem?_eq_getElem (by omega)⟩
          obtain ⟨T, hT⟩ : ∃ s, ks'[i]? = some s := ⟨_, List.getElem?_eq_getElem (by omega)⟩
          have BR : Below w.heap.size w wr := B0'.out.trans (hB.out.mono B0'.out.size)
          obtain ⟨g, o, a, b, d, f, p, q, rfl, hg, c0, c1, c2, c3, c4, hA⟩ := EX.out.below BR i s S hlt hs hS
          obtain ⟨g', o', a', b', d', f', p', q', rfl, hg', c0', c1', c2', c3', c4', hA'⟩ := EY.out.below BR i s' T hlt hs' hT
          have HA : Hid (At wr m (.agg #[.int .i64 a, .bool b, .string d, .slice f p q]) S) := hA
          have HA' : Hid (At wr m (.agg #[.int .i64 a', .bool b', .string d', .slice f' p' q']) T) := hA'
          have HE : Hid (ns[i]? = some s ∧ ns'[i]? = some s' ∧ ks[i]? = some S ∧ ks'[i]? = some T) := ⟨hs, hs', hS, hT⟩
          clear hA hA' hs hs' hS hT l1 l2 l3 l4 BR
          cases hst : (s.toList == s'.toList)
          · have hne : Hid (¬ s = s') := fun h => by rw [h] at hst; simp at hst
            have hsn : (s.toList != s'.toList) = true := by simp [bne, hst]
            have hsp : s.toList ≠ s'.toList := by intro h; rw [h] at hst; simp at hst
            go_upto_region 6 with fail
            go_quiet (fail)
            go_wp2
            go_ret
            refine ⟨⟨_, rfl, (fun h => by cases h), fun h => ?_⟩, ?_⟩
            · obtain ⟨e1, e2, _, _⟩ := HE.out
              rw [(HQ1.out.1 h).1, e2] at e1
              exact absurd (Option.some.inj e1).symm hne.out
            · exact belR_drewN (B0'.out.trans (hB.out.mono B0'.out.size)) _
          · have heq : Hid (s = s') := by
              rw [beq_iff_eq, Lib.toList_data, Lib.toList_data] at hst
              apply ByteArray.ext; exact Array.toList_inj.1 hst
            have hsn : (s.toList != s'.toList) = false := by simp [bne, hst]
            go_upto_region 6 with fail
            have B3 : Below wr.heap.size wr wr := Below.refl _ _
            have HA3 : Hid (At wr m (.agg #[.int .i64 a, .bool b, .string d, .slice f p q]) S) := HA
            have HA3' : Hid (At wr m (.agg #[.int .i64 a', .bool b', .string d', .slice f' p' q']) T) := HA'
            have hB3 : Hid (Below w0.heap.size w0 wr) := hB
            have d1 : wr.cell? ⟨G, 3, none⟩ = some (.slice (some ⟨g, o, none⟩) n c) := D1
            have d2 : wr.cell? ⟨G + 1, 3, none⟩ = some (.slice (some ⟨g', o', none⟩) n c') := D2
            have x0 : wr.cell? ⟨g, o + i * 5, none⟩ = some (.string s) := c0
            have x0' : wr.cell? ⟨g', o' + i * 5, none⟩ = some (.string s') := c0'
            have x1 : wr.cell? ⟨g, o + i * 5 + 1, none⟩ = some (.int .i64 a) := c1
            have x2 : wr.cell? ⟨g, o + i * 5 + 2, none⟩ = some (.bool b) := c2
            have x3 : wr.cell? ⟨g, o + i * 5 + 3, none⟩ = some (.string d) := c3
            have x4 : wr.cell? ⟨g, o + i * 5 + 4, none⟩ = some (.slice f p q) := c4
            have x1' : wr.cell? ⟨g', o' + i * 5 + 1, none⟩ = some (.int .i64 a') := c1'
            have x2' : wr.cell? ⟨g', o' + i * 5 + 2, none⟩ = some (.bool b') := c2'
            have x3' : wr.cell? ⟨g', o' + i * 5 + 3, none⟩ = some (.string d') := c3'
            have x4' : wr.cell? ⟨g', o' + i * 5 + 4, none⟩ = some (.slice f' p' q') := c4'
            have z1 : g < wr.heap.size := hg
            have z2 : g' < wr.heap.size := hg'
            have z3 : G + 1 < wr.heap.size := by have := hB3.out.size; omega
            clear B3 HA HA' D1 D2 c0 c1 c2 c3 c4 c0' c1' c2' c3' c4' hg hg' C1 C2 hs1 q1 q2 q3 q4
            have z4 : G < wr.heap.size := by omega
            have b3 : Below wr.heap.size wr wr := Below.refl _ _
            have hD : Below wr.heap.size wr wr.drew := b3.drew
            go_region_held3 (fun W => W.cell? ⟨G, 3, none⟩ = some (.slice (some ⟨g, o, none⟩) n c) ∧ W.cell? ⟨G + 1, 3, none⟩ = some (.slice (some ⟨g', o', none⟩) n c') ∧ W.cell? ⟨g, o + i * 5, none⟩ = some (.string s) ∧ W.cell? ⟨g', o' + i * 5, none⟩ = some (.string s') ∧ W.cell? ⟨g, o + i * 5 + 1, none⟩ = some (.int .i64 a) ∧ W.cell? ⟨g, o + i * 5 + 2, none⟩ = some (.bool b) ∧ W.cell? ⟨g, o + i * 5 + 3, none⟩ = some (.string d) ∧ W.cell? ⟨g, o + i * 5 + 4, none⟩ = some (.slice f p q) ∧ W.cell? ⟨g', o' + i * 5 + 1, none⟩ = some (.int .i64 a') ∧ W.cell? ⟨g', o' + i * 5 + 2, none⟩ = some (.bool b') ∧ W.cell? ⟨g', o' + i * 5 + 3, none⟩ = some (.string d') ∧ W.cell? ⟨g', o' + i * 5 + 4, none⟩ = some (.slice f' p' q') ∧ Below wr.heap.size wr W)
              (first
                | (go_split_ands
                   refine ⟨?_, ?_, ?_, ?_, ?_, ?_, ?_, ?_, ?_, ?_, ?_, ?_, ?_⟩
                   all_goals first
                     | assumption
                     | (rw [World.cell?_drew]; assumption)
                     | (exact Below.drew (by assumption))
                     | (refine (b5.cell ?_).trans ?_ <;> first | assumption | (rw [World.cell?_drew]; assumption) | (show _ < wr.heap.size; omega))
                     | (exact hD.trans (b5.mono hD.size))))
              (first
                | (go_at_call 11
                   refine (IH _ _ S T wr.drew (HA3.out.below hD) (HA3'.out.below hD)).mono ?_
                   rintro e5 w5 ⟨⟨r, rfl, hr⟩, b5⟩))
            have B5 : Hid (Below w0.heap.size w0 w5) := hB3.out.trans ((hD.trans (b5.mono hD.size)).mono hB3.out.size)
            cases r
            · have HR1 : Hid (¬ S = T) := fun h => by have := hr.2 h; cases this
              clear hr
              go_wp2
              go_ret
              refine ⟨⟨_, rfl, (fun h => by cases h), fun h => ?_⟩, B0'.out.trans (B5.out.mono B0'.out.size)⟩
              obtain ⟨_, _, e3, e4⟩ := HE.out
              rw [(HQ1.out.1 h).2, e4] at e3
              exact absurd (Option.some.inj e3).symm HR1.out
            · have HR1 : Hid (S = T) := hr.1 rfl
              clear hr
              go_wp2
              go_roundw
              case rel => exact ⟨i + 1, by omega, by go_num, fun j hj => by
                by_cases e : j = i
                · obtain ⟨e1, e2, e3, e4⟩ := HE.out
                  rw [e, e1, e2, e3, e4, heq.out, HR1.out]; exact ⟨rfl, rfl⟩
                · exact hl.out j (by omega), B5⟩
              case measure => simp [intOf]; omega
        · go_wp2
          go_ret
          obtain rfl : i = n := by omega
          refine ⟨⟨_, rfl, (fun _ => HQ1.out.2 ?_), fun _ => rfl⟩, B0'.out.trans (hB.out.mono B0'.out.size)⟩
          obtain ⟨l1, l2, l3, l4⟩ := LL.out
          refine ⟨List.ext_getElem? (fun j => ?_), List.ext_getElem? (fun j => ?_)⟩
          · by_cases e : j < i
            · exact (hl.out j e).1
            · rw [List.getElem?_eq_none (by omega), List.getElem?_eq_none (by omega)]
          · by_cases e : j < i
            · exact (hl.out j e).2
            · rw [List.getElem?_eq_none (by omega), List.getElem?_eq_none (by omega)]
    · have hne : Hid (¬ Tr.mk k e t ns ks = Tr.mk k' e' t' ns' ks') := fun h => h1 (by
        obtain ⟨a, b, c, d, _⟩ := HQ.out.1 h
        obtain ⟨l1, _, l3, _⟩ := LL.out
        exact ⟨a, b, c, by rw [← l1, ← l3, d]⟩)
      have H1 : Hid (¬ (k = k' ∧ e = e' ∧ t = t' ∧ n = n')) := h1
      clear h1 HQ EX EY LL
      by_cases hk : k = k'
      · subst hk
        have q1 : (k != k) = false := by simp
        by_cases he : e = e'
        · subst he
          have q2 : (e != e) = false := by simp
          by_cases ht : t = t'
          · subst ht
            have q3 : (t.toList == t.toList) = true := by simp
            have q4 : ((n : Int) != (n' : Int)) = true := by rw [bne_iff_ne]; exact fun h => H1.out ⟨rfl, rfl, rfl, by omega⟩
            clear H1
            go_enter Try.func11, Try.ntmps11
            go_wp2
            go_ret
            exact ⟨⟨_, rfl, (fun h => by cases h), fun h => absurd h hne.out⟩, BW _ _⟩
          · have h4 : (t.toList == t'.toList) = false := by
              rw [beq_eq_false_iff_ne]; intro h
              rw [Lib.toList_data, Lib.toList_data] at h
              exact ht (by apply ByteArray.ext; exact Array.toList_inj.1 h)
            clear H1 ht
            go_enter Try.func11, Try.ntmps11
            go_wp2
            go_ret
            exact ⟨⟨_, rfl, (fun h => by cases h), fun h => absurd h hne.out⟩, BW _ _⟩
        · clear H1
          cases e <;> cases e'
          · exact absurd rfl he
          · clear he
            go_enter Try.func11, Try.ntmps11
            go_wp2
            go_ret
            exact ⟨⟨_, rfl, (fun h => by cases h), fun h => absurd h hne.out⟩, BW _ _⟩
          · clear he
            go_enter Try.func11, Try.ntmps11
            go_wp2
            go_ret
            exact ⟨⟨_, rfl, (fun h => by cases h), fun h => absurd h hne.out⟩, BW _ _⟩
          · exact absurd rfl he
      · have h2 : (k != k') = true := by rw [bne_iff_ne]; exact hk
        clear H1 hk
        go_enter Try.func11, Try.ntmps11
        go_wp2
        go_ret
        exact ⟨⟨_, rfl, (fun h => by cases h), fun h => absurd h hne.out⟩, BW _ _⟩

end Go.Proofs.Ytbmiihjleghanaa
