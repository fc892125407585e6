/- Gathered: PkR PqA PqW. -/
import Derived.Test.YtljcbibcdajhiaaQc
import Derived.Test.YtljcbibcdajhiaaQe
import Derived.Test.YtljcbibcdajhiaaQh
import Derived.Test.YtljcbibcdajhiaaQk
import Derived.Test.YtljcbibcdajhiaaTvD
/- What is packed is unpacked again: pure. -/
namespace Go.Proofs.Ytljcbibcdajhiaa
open Go.RowKit

theorem u8_of (n : Nat) (h : n < 256) : (UInt8.ofNat n).toNat = n := by rw [UInt8.toNat_ofNat']; omega

theorem plT_run (f : Nat) : ∀ (l : List UInt8) (a n lk nr : Nat) (out r : List UInt8), l.length ≤ f → l.length ≤ n - out.length →
    ∃ lk', (US.t a n out lk nr).run (plT f l ++ r) = (US.t (a + (plT f l).length) n (out ++ l) lk' nr).run r := by
  induction f with
  | zero =>
    intro l a n lk nr out r h _
    obtain rfl : l = [] := List.eq_nil_of_length_eq_zero (by omega)
    exact ⟨lk, by simp [plT]⟩
  | succ f ih =>
    intro l a n lk nr out r h hn
    unfold plT
    by_cases e : l.length = 0
    · obtain rfl : l = [] := List.eq_nil_of_length_eq_zero e
      exact ⟨lk, by simp⟩
    · rw [if_neg e]
      have hb := u8_of (min 128 l.length - 1) (by omega)
      have h1 : (l.take 128).length = min 128 l.length := List.length_take
      obtain ⟨lk', h2⟩ := ih (l.drop 128) (a + (min 128 l.length - 1) + 2) n 0 nr (out ++ l.take 128) r (by rw [List.length_drop]; omega) (by rw [List.length_drop, List.length_append, h1]; omega)
      refine ⟨lk', ?_⟩
      rw [List.cons_append, List.append_assoc, t_plain a n lk nr out _ (l.take 128) _ (by rw [hb]; omega) (by rw [hb]; omega) (by rw [hb, h1]; omega), hb, h2, List.append_assoc, List.take_append_drop]
      congr 2
      rw [List.length_cons, List.length_append, h1]
      omega

theorem bkT_run (far k a n lk nr : Nat) (out r : List UInt8) (hf1 : 1 ≤ far) (hf : far ≤ 65536) (hfo : far ≤ out.length) (hk4 : 4 ≤ k) (hk : k ≤ 131) (hn : k ≤ n - out.length) :
    ∃ lk' nr', (US.t a n out lk nr).run (bkT far k ++ r) = (US.t (a + 3) n (cpy far k out) lk' nr').run r := by
  have h1 := u8_of (124 + k) (by omega)
  have h2 := u8_of ((far - 1) % 256) (by omega)
  have h3 := u8_of ((far - 1) / 256) (by omega)
  have e : (UInt8.ofNat ((far - 1) / 256)).toNat * 256 + (UInt8.ofNat ((far - 1) % 256)).toNat + 1 = far := by rw [h2, h3]; omega
  have := t_back a n lk nr out (UInt8.ofNat (124 + k)) (UInt8.ofNat ((far - 1) % 256)) (UInt8.ofNat ((far - 1) / 256)) r (by omega) (by omega) (by rw [e]; exact hfo)
  rw [e, h1, show 124 + k - 124 = k by omega] at this
  exact ⟨_, _, this⟩

theorem cpy_take (s : List UInt8) (q i : Nat) (hq : q < i) : ∀ k, i + k ≤ s.length → (∀ j, j < k → s.getD (q + j) 0 = s.getD (i + j) 0) → cpy (i - q) k (s.take i) = s.take (i + k) := by
  intro k
  induction k with
  | zero => intro _ _; rfl
  | succ k ih =>
    intro h he
    rw [cpy_succ, ih (by omega) (fun j hj => he j (by omega))]
    have hl : (s.take (i + k)).length = i + k := by rw [List.length_take]; omega
    rw [hl, show i + k - (i - q) = q + k by omega]
    have h1 : (s.take (i + k)).getD (q + k) 0 = s.getD (q + k) 0 := by
      rw [List.getD_eq_getElem?_getD, List.getD_eq_getElem?_getD, List.getElem?_take_of_lt (by omega)]
    rw [h1, he k (by omega), show i + (k + 1) = i + k + 1 by omega, List.take_succ_eq_append_getElem (by omega), List.getD_eq_getElem?_getD, List.getElem?_eq_getElem (by omega)]
    rfl

theorem take_cut (s : List UInt8) (p i : Nat) (h : p ≤ i) (_ : i ≤ s.length) : s.take p ++ cutL s p i = s.take i := by
  unfold cutL
  rw [show i = p + (i - p) by omega, List.take_add]
  congr 2
  omega

theorem pkGo_run (s : List UInt8) : ∀ (f i p a lk nr : Nat), p ≤ i → i ≤ s.length → s.length - i ≤ f →
    ∃ lk' nr', (US.t a s.length (s.take p) lk nr).run (pkGo s f i p) = US.t (a + (pkGo s f i p).length) s.length s lk' nr' := by
  intro f
  have hfin : ∀ (p a lk nr : Nat), p ≤ s.length → ∃ lk' nr', (US.t a s.length (s.take p) lk nr).run (plT (s.length + 1) (cutL s p s.length)) = US.t (a + (plT (s.length + 1) (cutL s p s.length)).length) s.length s lk' nr' := by
    intro p a lk nr hp
    have hl := cutL_length s p s.length (Nat.le_refl _)
    obtain ⟨lk', h⟩ := plT_run (s.length + 1) (cutL s p s.length) a s.length lk nr (s.take p) [] (by omega) (by rw [List.length_take]; omega)
    rw [List.append_nil, take_cut s p s.length hp (Nat.le_refl _), List.take_length] at h
    exact ⟨lk', nr, h⟩
  induction f with
  | zero =>
    intro i p a lk nr h1 h2 h3
    rw [pkGo_end s 0 i p (by omega)]
    exact hfin p a lk nr (by omega)
  | succ f ih =>
    intro i p a lk nr h1 h2 h3
    by_cases hi : i < s.length
    · cases hb : findB s i with
      | none =>
        rw [pkGo_none s f i p hi hb]
        exact ih (i + 1) p a lk nr (by omega) (by omega) (by omega)
      | some q =>
        obtain ⟨hq, h4, hf, hm⟩ := findB_some hb
        rw [pkGo_some s f i p q hi hb]
        have hme := fun j hj => mch_eq s q i (min 131 (s.length - i)) 0 j (Nat.zero_le _) hj
        have hml := mch_le s q i (min 131 (s.length - i)) 0
        generalize mch s q i (min 131 (s.length - i)) 0 = K at *
        have hl := cutL_length s p i h2
        obtain ⟨lk1, e1⟩ := plT_run (s.length + 1) (cutL s p i) a s.length lk nr (s.take p) (bkT (i - q) K ++ pkGo s f (i + K) (i + K)) (by omega) (by rw [List.length_take]; omega)
        rw [take_cut s p i h1 h2] at e1
        obtain ⟨lk2, nr2, e2⟩ := bkT_run (i - q) K (a + (plT (s.length + 1) (cutL s p i)).length) s.length lk1 nr (s.take i) (pkGo s f (i + K) (i + K)) (by omega) hf (by rw [List.length_take]; omega) hm (by omega) (by rw [List.length_take]; omega)
        rw [cpy_take s q i hq K (by omega) (fun j hj => hme j (by omega))] at e2
        obtain ⟨lk3, nr3, e3⟩ := ih (i + K) (i + K) (a + (plT (s.length + 1) (cutL s p i)).length + 3) lk2 nr2 (Nat.le_refl _) (by omega) (by omega)
        refine ⟨lk3, nr3, ?_⟩
        rw [List.append_assoc, e1, e2, e3]
        congr 1
        rw [List.length_append, List.length_append]
        have : (bkT (i - q) K).length = 3 := rfl
        omega
    · rw [pkGo_end s _ i p hi]
      exact hfin p a lk nr (by omega)

theorem pk_run (s : List UInt8) (hs : s.length ≤ 1048576) : ∃ lk nr, u0.run (pk s) = US.t (pk s).length s.length s lk nr := by
  unfold pk
  have h8 := lek_lenK 8 s.length
  have hN := leN_lek8K s.length hs
  rw [US.run_append, head_eight _ h8, hN, if_neg (by omega)]
  obtain ⟨lk, nr, e⟩ := pkGo_run s s.length 0 0 8 0 0 (Nat.le_refl _) (Nat.zero_le _) (by omega)
  refine ⟨lk, nr, ?_⟩
  rw [List.length_append, h8]
  exact e

theorem pk_unp (s : List UInt8) (hs : s.length ≤ 1048576) : (unp (pk s)).tx = s ∧ (unp (pk s)).code = 0 ∧ (unp (pk s)).fat = 0 := by
  obtain ⟨lk, nr, e⟩ := pk_run s hs
  unfold unp
  rw [e]
  unfold US.shut
  rw [if_neg (fun h => by have := h.2; unfold US.wh US.t at this; simp at this)]
  exact ⟨rfl, rfl, rfl⟩

theorem plT_len : ∀ (f : Nat) (l : List UInt8), l.length ≤ f → (plT f l).length = l.length + (l.length + 127) / 128 := by
  intro f
  induction f with
  | zero =>
    intro l h
    obtain rfl : l = [] := List.eq_nil_of_length_eq_zero (by omega)
    rfl
  | succ f ih =>
    intro l h
    unfold plT
    by_cases e : l.length = 0
    · rw [if_pos e, e]; rfl
    · rw [if_neg e, List.length_cons, List.length_append, List.length_take, ih (l.drop 128) (by rw [List.length_drop]; omega), List.length_drop]
      omega
theorem pkGo_len (s : List UInt8) : ∀ (f i p : Nat), p ≤ i → i ≤ s.length → s.length - i ≤ f → (pkGo s f i p).length ≤ (s.length - p) + (s.length - p + 127) / 128 := by
  intro f
  have hfin : ∀ (p : Nat), p ≤ s.length → (plT (s.length + 1) (cutL s p s.length)).length ≤ (s.length - p) + (s.length - p + 127) / 128 := by
    intro p hp
    rw [plT_len _ _ (by rw [cutL_length s p s.length (Nat.le_refl _)]; omega), cutL_length s p s.length (Nat.le_refl _)]
    exact Nat.le_refl _
  induction f with
  | zero => intro i p h1 h2 h3; rw [pkGo_end s 0 i p (by omega)]; exact hfin p (by omega)
  | succ f ih =>
    intro i p h1 h2 h3
    by_cases hi : i < s.length
    · cases hb : findB s i with
      | none => rw [pkGo_none s f i p hi hb]; exact ih (i + 1) p (by omega) (by omega) (by omega)
      | some q =>
        obtain ⟨hq, h4, hf, hm⟩ := findB_some hb
        rw [pkGo_some s f i p q hi hb]
        have hml := mch_le s q i (min 131 (s.length - i)) 0
        generalize mch s q i (min 131 (s.length - i)) 0 = K at *
        have h5 := ih (i + K) (i + K) (Nat.le_refl _) (by omega) (by omega)
        rw [List.length_append, List.length_append, plT_len _ _ (by rw [cutL_length s p i h2]; omega), cutL_length s p i h2]
        have : (bkT (i - q) K).length = 3 := rfl
        omega
    · rw [pkGo_end s _ i p hi]; exact hfin p (by omega)
theorem pk_len (s : List UInt8) : 8 ≤ (pk s).length ∧ (pk s).length ≤ 8 + s.length + (s.length + 127) / 128 := by
  unfold pk
  rw [List.length_append, lek_lenK]
  have := pkGo_len s s.length 0 0 (Nat.le_refl _) (Nat.zero_le _) (by omega)
  omega

end Go.Proofs.Ytljcbibcdajhiaa
/- WholePacked, walked (own text of the verifier). -/
namespace Go.Proofs.Ytljcbibcdajhiaa
open Go.RowKit

theorem arc_le3 {T : Tr} (hs : smT T) (hw : wfT T) (h : (ckT T).2 = 0) : (arcT T).length ≤ 1048576 := by
  rw [arc_len]; exact (arc_facts hs hw h).2.2.1
theorem prs_arcT {T : Tr} (hs : smT T) (hw : wfT T) (h : (ckT T).2 = 0) : prs (arcT T) = arcS false T := by
  have e := run_arc hs hw h false []
  rw [List.append_nil] at e
  rw [prs_run]
  exact e
theorem ans_arcT {T : Tr} (hs : smT T) (hw : wfT T) (h : (ckT T).2 = 0) : (prs (arcT T)).ansT = T ∧ (prs (arcT T)).ansF = (0, 0) ∧ lnT T := by
  have hl := (prs_inv (arcT T)).2.1.rt
  rw [prs_arcT hs hw h] at hl ⊢
  obtain ⟨a1, a2⟩ := fin_whole (p := arcS false T) rfl rfl
  exact ⟨a1, a2, hl⟩
theorem len_flat : ∀ (L : List (List UInt8)) (i : Nat) (s : List UInt8), L[i]? = some s → s.length ≤ L.flatten.length
  | [], _, _, h => by simp at h
  | a :: L, 0, s, h => by
    have h : a = s := by simpa using h
    subst h
    rw [List.flatten_cons, List.length_append]
    omega
  | a :: L, i + 1, s, h => by
    have := len_flat L i s (by simpa using h)
    rw [List.flatten_cons, List.length_append]
    omega
theorem run_tk_all (l : List UInt8) : ∀ s : US, s.cl = false → s.code = 0 → (s.run l).code = 0 → (s.run l).tk = s.tk + l.length := by
  induction l with
  | nil => intro s _ _ _; rfl
  | cons b l ih =>
    intro s h1 h2 h3
    rw [US.run_cons] at h3 ⊢
    have hs := US.step_on s h1 h2 b
    by_cases hc : (s.look b).2.1 = 0
    · have e : s.step b = (s.look b).1.tick := by rw [hs]; unfold US.take; rw [if_pos hc]
      have := ih (s.step b) ((s.step_cl b).trans h1) (by rw [e]; show (s.look b).1.code = 0; rw [s.look_code]; exact h2) h3
      rw [this, e, List.length_cons]
      show (s.look b).1.tk + 1 + l.length = _
      rw [s.look_tk]; omega
    · exfalso
      have e : s.step b = (s.look b).1.fl (s.look b).2.1 (s.look b).2.2 := by rw [hs]; unfold US.take; rw [if_neg hc]
      rw [e, US.run_off _ (by unfold US.off US.fl; simp [hc])] at h3
      exact hc h3
/-- A beginning of what is packed: no fault, and all of it is taken. -/
theorem pk_part (s : List UInt8) (hs : s.length ≤ 1048576) (a b : List UInt8) (h : a ++ b = pk s) : (u0.run a).code = 0 ∧ (u0.run a).tk = a.length := by
  obtain ⟨lk, nr, e⟩ := pk_run s hs
  have h1 : (u0.run a).code = 0 := by
    by_cases hc : (u0.run a).code = 0
    · exact hc
    · exfalso
      rw [← h, US.run_append, US.run_off _ (by unfold US.off; simp [hc])] at e
      exact hc (by rw [e]; rfl)
  refine ⟨h1, ?_⟩
  have := run_tk_all a u0 rfl rfl h1
  rw [this]
  show 0 + a.length = _
  omega
theorem two_blkW (w : World) (T : Tr) (v : Value) (F1 F2 : Int) : St ((w.alloc (.cells #[.int .i64 T.k, .bool T.e, .string T.t, v] 25)).alloc (.cells #[.int .i64 F1, .int .i64 F2] 39)) w.heap.size [.int .i64 T.k, .bool T.e, .string T.t, v] ∧ St ((w.alloc (.cells #[.int .i64 T.k, .bool T.e, .string T.t, v] 25)).alloc (.cells #[.int .i64 F1, .int .i64 F2] 39)) (w.heap.size + 1) [.int .i64 F1, .int .i64 F2] ∧ Below w.heap.size w ((w.alloc (.cells #[.int .i64 T.k, .bool T.e, .string T.t, v] 25)).alloc (.cells #[.int .i64 F1, .int .i64 F2] 39)) := by
  refine ⟨(St.new w _ _).same (by simp only [World.size_alloc]; omega) (Below.heap_alloc _ _ _ (by rw [World.size_alloc]; omega)), ?_, ((Below.refl _ _).alloc (Nat.le_refl _) _).alloc (by rw [World.size_alloc]; omega) _⟩
  have := St.new (w.alloc (.cells #[.int .i64 T.k, .bool T.e, .string T.t, v] 25)) #[.int .i64 F1, .int .i64 F2] 39
  rw [World.size_alloc] at this
  exact this

theorem arc_pos (T : Tr) : (arcT T).length ≠ 0 := by
  rw [arc_len]
  show 8 + wMagic.size + padN wMagic.size + fwS (wdT T) ≠ 0
  omega
theorem NB_ba (l : List UInt8) : NB.ba l = ba l := rfl

end Go.Proofs.Ytljcbibcdajhiaa
/- WholePacked, walked (own text of the verifier). -/
namespace Go.Proofs.Ytljcbibcdajhiaa
open Go.RowKit

theorem ser_facts2 (T : Tr) : ((serT T).2 ≠ 0 ∧ (serT T).1 = ⟨#[]⟩) ∨ ((ckT T).2 = 0 ∧ (serT T).2 = 0 ∧ (serT T).1 = NB.ba (arcT T)) := by
  by_cases h : (ckT T).2 = 0
  · refine .inr ?_
    have e : serT T = (NB.ba (arcT T), 0) := by unfold serT; rw [if_neg (by simpa using h)]
    rw [e]
    exact ⟨h, rfl, rfl⟩
  · refine .inl ?_
    have e : serT T = (⟨#[]⟩, (ckT T).2) := by unfold serT; rw [if_pos h]
    rw [e]
    exact ⟨h, rfl⟩

/-- Between two pieces. -/
structure QL (w7 wr : World) (g : Nat) (v : Value) (l : List UInt8) : Prop where
  up : Up wr g v (u0.run l)
  vb : ∀ k, v.ownBlock = some k → w7.heap.size ≤ k
  os : wr.os = w7.os
  tape : wr.tape = w7.tape
  output : wr.output = w7.output
  sz : w7.heap.size ≤ wr.heap.size
  kp : ∀ k, k < w7.heap.size → k ≠ g → wr.heap[k]? = w7.heap[k]?

set_option maxRecDepth 100000 in
set_option maxHeartbeats 16000000 in
theorem packed_walk (m : Nat) (k : Int) (e : Bool) (t : ByteArray) (x : Option Addr) (n c : Nat) (T : Tr) (y : Option Addr) (ny cy : Nat) (f : Nat → Int) (w : World) (hA : At w m (.agg #[Value.int IntKind.i64 k, Value.bool e, Value.string t, Value.slice x n c]) T) (hS : smT T) (hy : ISr w y ny f) (hny : ny ≤ 1048576) :
    Calls Try.prog 3 #[.agg #[Value.int IntKind.i64 k, Value.bool e, Value.string t, Value.slice x n c], .slice y ny cy] w fun en w' => en = .returned (.bool true) ∧ Below w.heap.size w w' := by
  have hW := At.wf _ _ _ hA
  have HH : Hid (At w m (.agg #[Value.int IntKind.i64 k, Value.bool e, Value.string t, Value.slice x n c]) T ∧ smT T ∧ wfT T) := ⟨hA, hS, hW⟩
  have HY : Hid (ISr w y ny f) := hy
  clear hA hS hW hy
  have bA : Below w.heap.size w (w.alloc (Obj.cells #[Value.int IntKind.i64 k, Value.bool e, Value.string t, Value.slice x n c] 25)) := (Below.refl _ _).alloc (Nat.le_refl _) _
  have HG : Hid ((w.alloc (Obj.cells #[Value.int IntKind.i64 k, Value.bool e, Value.string t, Value.slice x n c] 25)).heap[w.heap.size]? = some (.cells #[Value.int IntKind.i64 k, Value.bool e, Value.string t, Value.slice x n c] 25 (0, 0)) ∧ Below w.heap.size w (w.alloc (Obj.cells #[Value.int IntKind.i64 k, Value.bool e, Value.string t, Value.slice x n c] 25))) := ⟨heap_alloc_new _ _, bA⟩
  clear bA
  go_enter Try.func3, Try.ntmps3
  go_upto_region 1 with fail
  obtain ⟨G, hG⟩ : ∃ G, w.heap.size = G := ⟨_, rfl⟩
  have HGe : Hid (w.heap.size = G) := hG
  generalize w.alloc (Obj.cells #[Value.int IntKind.i64 k, Value.bool e, Value.string t, Value.slice x n c] 25) = w1 at *
  rw [hG] at HG ⊢
  clear hG
  have HW1 : Hid (Below G w w1 ∧ G < w1.heap.size) := ⟨HG.out.2, heap_lt HG.out.1⟩
  have HA1 : Hid (At w1 m (.agg #[Value.int IntKind.i64 k, Value.bool e, Value.string t, Value.slice x n c]) T ∧ ISr w1 y ny f) := ⟨HH.out.1.below (by rw [HGe.out]; exact HG.out.2), HY.out.below (by rw [HGe.out]; exact HG.out.2)⟩
  have CW := awN w1
  go_wp2_with fail
  refine CW.mono ?_
  rintro e2 w2 ⟨rfl, b2⟩
  have HG2 : Hid (w2.heap[G]? = some (.cells #[Value.int IntKind.i64 k, Value.bool e, Value.string t, Value.slice x n c] 25 (0, 0)) ∧ Below w1.heap.size w1 w2) := ⟨(b2.block _ (heap_lt HG.out.1)).trans HG.out.1, b2⟩
  clear CW b2 HG
  obtain ⟨u0, u1, u2, u3, _⟩ := cell4n HG2.out.1
  have CS := nserial_any m k e t x n c T w2 (HA1.out.1.below HG2.out.2) HH.out.2.1 HH.out.2.2
  have hser := ser_facts2 T
  generalize serT T = R at CS hser
  obtain ⟨X, C⟩ := R
  dsimp only at CS hser
  have HSER : Hid ((C ≠ 0 ∧ X = ⟨#[]⟩) ∨ ((ckT T).2 = 0 ∧ C = 0 ∧ X = NB.ba (arcT T))) := hser
  clear hser
  go_wp2_with fail
  refine CS.mono ?_
  rintro e3 w3 ⟨rfl, b3⟩
  have B3 : Hid (Below w1.heap.size w1 w3) := HG2.out.2.trans (b3.mono HG2.out.2.size)
  have HWB : Hid (∀ W, Below w1.heap.size w1 W → Below w.heap.size w W) := fun W b => by rw [HGe.out]; exact HW1.out.1.trans (b.mono (by have := HW1.out.2; omega))
  have HG3 : Hid (w3.heap[G]? = some (.cells #[Value.int IntKind.i64 k, Value.bool e, Value.string t, Value.slice x n c] 25 (0, 0))) := (b3.block _ (heap_lt HG2.out.1)).trans HG2.out.1
  clear CS b3 HG2 u0 u1 u2 u3
  rcases HSER.out with ⟨c1, c2⟩ | ⟨hck, rfl, rfl⟩
  · have q2 : X.toList.isEmpty = true := by rw [c2]; decide +kernel
    have HC1 : Hid ((C != 0) = true) := bne_iff_ne.2 c1
    clear c2
    go_wp2
    go_ret
    exact ⟨rfl, HWB.out _ B3.out⟩
  have hl := arc_le3 HH.out.2.1 HH.out.2.2 hck
  have HCK : Hid ((ckT T).2 = 0) := hck
  have hla : (NB.ba (arcT T)).size = (arcT T).length := NB.ba_size _
  have hb1 := pk_len (arcT T)
  have CP := pack_any (arcT T) w3 hl
  clear hck HSER
  go_wp2_with fail
  refine (show Calls Try.prog 6 #[.string (NB.ba (arcT T))] w3 _ from CP.mono ?_)
  rintro e4 w4 ⟨rfl, b4⟩
  have B4 : Hid (Below w1.heap.size w1 w4) := B3.out.trans (b4.mono B3.out.size)
  have HG4 : Hid (w4.heap[G]? = some (.cells #[Value.int IntKind.i64 k, Value.bool e, Value.string t, Value.slice x n c] 25 (0, 0))) := (b4.block _ (heap_lt HG3.out)).trans HG3.out
  clear CP b4 B3 HG3
  go_wp2_with fail
  refine (newU_any w4).mono ?_
  rintro e5 w5 ⟨rfl, U5, b5⟩
  have B5 : Hid (Below w1.heap.size w1 w5) := B4.out.trans (b5.mono B4.out.size)
  have HG5 : Hid (w5.heap[G]? = some (.cells #[Value.int IntKind.i64 k, Value.bool e, Value.string t, Value.slice x n c] 25 (0, 0))) := (b5.block _ (heap_lt HG4.out)).trans HG4.out
  obtain ⟨g, hg⟩ : ∃ g, w4.heap.size = g := ⟨_, rfl⟩
  have HGg : Hid (w1.heap.size ≤ g ∧ G < g) := by rw [← hg]; exact ⟨B4.out.size, heap_lt HG4.out⟩
  rw [hg] at U5 ⊢
  have HU5 : Hid (Up w5 g (.slice none 0 0) u0) := U5
  have hpz : (ba (pk (arcT T))).size = (pk (arcT T)).length := ba_size _
  clear b5 U5 hg B4 HG4
  have hbp : (pk (arcT T)).length ≤ 2097152 := by omega
  have CPc := pieces_any (pk (arcT T)) y ny cy f w5 (HA1.out.2.below B5.out) hbp hny
  go_wp2_with fail
  refine (show Calls Try.prog 8 #[.string (ba (pk (arcT T))), .slice y ny cy] w5 _ from CPc).mono ?_
  rintro e6 w6 ⟨px, pc, L, rfl, hSr, hfl, hLl, b6⟩
  clear CPc
  have H6 : Hid (Srr w6 w5.heap.size (.slice px L.length pc) L ∧ L.flatten = pk (arcT T) ∧ g < w5.heap.size) := ⟨hSr, hfl, HU5.out.lt⟩
  have H6b : Hid (Below w1.heap.size w1 w6 ∧ w5.heap.size ≤ w6.heap.size ∧ (pk (arcT T)).length ≤ 2097152 ∧ (arcT T).length ≤ 1048576) := ⟨B5.out.trans (b6.mono B5.out.size), b6.size, hbp, hl⟩
  have HG6 : Hid (w6.heap[G]? = some (.cells #[Value.int IntKind.i64 k, Value.bool e, Value.string t, Value.slice x n c] 25 (0, 0))) := (b6.block _ (heap_lt HG5.out)).trans HG5.out
  have HL0 : Hid (QL w6 w6 g (.slice none 0 0) []) := ⟨HU5.out.below b6, (fun k hk => by cases hk), rfl, rfl, rfl, Nat.le_refl _, fun _ _ _ => rfl⟩
  have hLb : L.length ≤ 1048577 := by omega
  clear hSr hfl hLl b6 HU5 B5 HG5
  go_wp2
  go_loopw [58] (fun iv wr => ∃ (i : Nat) (v : Value), iv = .int .i64 (i : Int) ∧ i ≤ L.length ∧ Hid (QL w6 wr g v (L.take i).flatten)) (fun iv _ => L.length - (intOf iv).toNat)
  case atStart => exact ⟨0, _, rfl, Nat.zero_le _, HL0.out⟩
  case round =>
    obtain ⟨i, v, rfl, hi, HL⟩ := hrel
    clear HL0
    by_cases hlt : i < L.length
    · obtain ⟨s, hs⟩ : ∃ s, L[i]? = some s := ⟨_, List.getElem?_eq_getElem hlt⟩
      obtain ⟨gq, c', hv, hq1, hq2, hc0⟩ := H6.out.1.at hs
      have hc : wr.cell? ⟨gq, i, none⟩ = some (.string (ba s)) := (World.cell?_of_block (w := w6) (w' := wr) (a := ⟨gq, i, none⟩) (HL.out.kp gq hq2 (by have := H6.out.2.2; omega))).trans hc0
      have hpx : px = some ⟨gq, 0, none⟩ := by injection hv
      subst hpx
      have hzs : (ba s).size = s.length := ba_size s
      have happ : (L.take (i + 1)).flatten = (L.take i).flatten ++ s := by
        have h1 := List.take_succ_eq_append_getElem hlt
        have h2 : L[i] = s := (List.getElem?_eq_some_iff.1 hs).2
        rw [h1, h2, List.flatten_append, show [s].flatten = s by simp]
      have hp0 := pk_part (arcT T) H6b.out.2.2.2 (L.take i).flatten (L.drop i).flatten (by rw [← List.flatten_append, List.take_append_drop]; exact H6.out.2.1)
      have hp1 := pk_part (arcT T) H6b.out.2.2.2 (L.take (i + 1)).flatten (L.drop (i + 1)).flatten (by rw [← List.flatten_append, List.take_append_drop]; exact H6.out.2.1)
      have hln : (L.take (i + 1)).flatten.length + (L.drop (i + 1)).flatten.length = (pk (arcT T)).length := by
        rw [← List.length_append, ← List.flatten_append, List.take_append_drop, H6.out.2.1]
      have hl1 : (L.take (i + 1)).flatten.length = (L.take i).flatten.length + s.length := by rw [happ, List.length_append]
      obtain ⟨c7, w8, hcv, hX, b8⟩ := BSlK.conv wr s g v HL.out.up.lt (fun k hk => (HL.out.up.buf.lt k hk).2)
      have CF := feed_anyK g v (u0.run (L.take i).flatten) _ c7 s w8 (HL.out.up.below b8) (UI.run UI.u0 _) hX (by rw [hp0.2]; have := H6b.out.2.2.1; omega)
      rw [← US.run_append, ← happ, hp0.2, hp1.2, hl1, Nat.add_sub_cancel_left] at CF
      have H8 : Hid (Below wr.heap.size wr w8) := b8
      clear hX b8 hv hs hp0 hp1 hln hl1 happ hc0
      go_wp2_with fail
      refine CF.mono ?_
      rintro ea wa ⟨rfl, va, Ua, Ma⟩
      clear CF hcv
      have HN : Hid (QL w6 wa g va (L.take (i + 1)).flatten) := by
        have h0 := HL.out
        have h8 := H8.out
        have hz := h0.sz
        have hz8 := h8.size
        have hv0 : ∀ k, k < w6.heap.size → v.ownBlock ≠ some k := fun k hk e => by have := h0.vb k e; omega
        exact ⟨Ua, fun k hk => by rcases Ma.new k hk with h | h; exact h0.vb k h; omega, Ma.os.trans (h8.os.trans h0.os), Ma.tape.trans (h8.tape.trans h0.tape), Ma.output.trans (h8.output.trans h0.output), by have := Ma.size; omega, fun k hk hg => (Ma.block k (by omega) hg (hv0 k hk)).trans ((h8.block k (by omega)).trans (h0.kp k hk hg))⟩
      clear Ua Ma H8 HL
      go_wp2
      go_roundw
      case rel => exact ⟨i + 1, va, by go_num, by omega, HN.out⟩
      case measure => simp [intOf]; omega
    · obtain rfl : i = L.length := by omega
      have HP : Hid (QL w6 wr g v (pk (arcT T))) := by
        have h := HL.out
        rw [List.take_length, H6.out.2.1] at h
        exact h
      clear HL hlt hi hLb
      have CC := uclose_any g v (u0.run (pk (arcT T))) wr HP.out.up (UI.run UI.u0 _)
      have hun := pk_unp (arcT T) H6b.out.2.2.2
      unfold unp at hun
      rw [hun.1, hun.2.1, hun.2.2] at CC
      go_wp2_with fail
      refine CC.mono ?_
      rintro e9 w9 ⟨rfl, v9, U9, M9⟩
      clear CC hun
      go_wp2_with fail
      have HB10 : Hid (Below w1.heap.size w1 (w9.alloc (Obj.cells #[Value.int IntKind.i64 0, Value.int IntKind.i64 0] 39)) ∧ (∀ j, j < w1.heap.size → (w9.alloc (Obj.cells #[Value.int IntKind.i64 0, Value.int IntKind.i64 0] 39)).heap[j]? = w6.heap[j]?) ∧ St (w9.alloc (Obj.cells #[Value.int IntKind.i64 0, Value.int IntKind.i64 0] 39)) w9.heap.size [.int .i64 0, .int .i64 0]) := by
        have h0 := HP.out
        have hz := H6b.out.1.size
        have hg := HGg.out
        have b6 : Below w1.heap.size w6 wr := ⟨h0.os, h0.tape, h0.output, h0.sz, fun k hk => h0.kp k (by omega) (by omega)⟩
        have b9 : Below w1.heap.size wr w9 := M9.keeps _ (by have := h0.sz; omega) hg.1 (fun k hk => by have := h0.vb k hk; omega)
        have b := H6b.out.1.trans (b6.trans b9)
        exact ⟨b.alloc b.size _, fun j hj => ((b6.trans b9).alloc b.size _).block j hj, St.new w9 #[.int .i64 0, .int .i64 0] 39⟩
      clear HP U9 M9 H6
      obtain ⟨D, hD⟩ : ∃ D, w9.heap.size = D := ⟨_, rfl⟩
      rw [hD] at HB10 ⊢
      clear hD
      generalize w9.alloc (Obj.cells #[Value.int IntKind.i64 0, Value.int IntKind.i64 0] 39) = w10 at *
      have HLN := ans_arcT HH.out.2.1 HH.out.2.2 HCK.out
      have CA := parse_any (arcT T) w10 (by have := H6b.out.2.2.2; omega)
      unfold PaP at CA
      rw [HLN.1, HLN.2.1] at CA
      dsimp only at CA
      refine (show Calls Try.prog 11 #[.string (ba (arcT T))] w10 _ from CA).mono ?_
      rintro e11 w11 ⟨⟨v11, fr, rfl, hT, _⟩, b11⟩
      clear CA
      obtain ⟨xx, nn, cc, rfl⟩ : ∃ x n c, v11 = .slice x n c := by obtain ⟨x, c, h⟩ := hT.shape; exact ⟨x, _, c, h⟩
      obtain ⟨s12, t12, b12⟩ := two_blkW w11 T (.slice xx nn cc) 0 0
      obtain ⟨M, hM⟩ := TrV.at T _ fr (TrV.same _ _ _ hT (fun b hb => b12.block b (TrV.lt _ _ _ hT b hb).2)) HLN.2.2
      go_wp2_with fail
      have HB12 : Hid (Below w11.heap.size w11 ((w11.alloc (.cells #[.int .i64 T.k, .bool T.e, .string T.t, .slice xx nn cc] 25)).alloc (.cells #[.int .i64 0, .int .i64 0] 39))) := b12
      have HS12 : Hid (St ((w11.alloc (.cells #[.int .i64 T.k, .bool T.e, .string T.t, .slice xx nn cc] 25)).alloc (.cells #[.int .i64 0, .int .i64 0] 39)) w11.heap.size [.int .i64 T.k, .bool T.e, .string T.t, .slice xx nn cc] ∧ St ((w11.alloc (.cells #[.int .i64 T.k, .bool T.e, .string T.t, .slice xx nn cc] 25)).alloc (.cells #[.int .i64 0, .int .i64 0] 39)) (w11.heap.size + 1) [.int .i64 0, .int .i64 0]) := ⟨s12, t12⟩
      have HM12 : Hid (At ((w11.alloc (.cells #[.int .i64 T.k, .bool T.e, .string T.t, .slice xx nn cc] 25)).alloc (.cells #[.int .i64 0, .int .i64 0] 39)) M (.agg #[.int .i64 T.k, .bool T.e, .string T.t, .slice xx nn cc]) T) := hM
      have H11 : Hid (Below w10.heap.size w10 w11) := b11
      clear b11 b12 s12 t12 hM hT HLN
      obtain ⟨E, hE⟩ : ∃ E, w11.heap.size = E := ⟨_, rfl⟩
      rw [hE] at HB12 HS12 ⊢
      have HEe : Hid (w11.heap.size = E) := hE
      clear hE
      generalize (w11.alloc (Obj.cells #[Value.int IntKind.i64 T.k, Value.bool T.e, Value.string T.t, Value.slice xx nn cc] 25)).alloc (Obj.cells #[Value.int IntKind.i64 0, Value.int IntKind.i64 0] 39) = w12 at *
      have H10 : Hid (Below w10.heap.size w10 w12) := H11.out.trans (HB12.out.mono (by have := H11.out.size; have := HEe.out; omega))
      have HW12 : Hid (Below w1.heap.size w1 w12) := HB10.out.1.trans (H10.out.mono HB10.out.1.size)
      have hGlt : G < w1.heap.size := HW1.out.2
      have hsz : (NB.ba (arcT T)).size = (arcT T).length := NB.ba_size _
      have hsp : (ba (pk (arcT T))).size = (pk (arcT T)).length := ba_size _
      have hpos := arc_pos T
      have hbp := H6b.out.2.2.1
      have hal := H6b.out.2.2.2
      have CS := pshare_pos (arcT T).length (pk (arcT T)).length w12 (by omega) (by omega)
      rw [if_neg hpos, if_neg hpos] at CS
      have HQ : Hid (∀ w : World, (binOp .quo 44 (.float .f64 (floatOfInt .f64 ((pk (arcT T)).length : Int))) (.float .f64 (floatOfInt .f64 ((arcT T).length : Int)))).run Try.prog w = .ok (.float .f64 (shW (pk (arcT T)).length (arcT T).length)) w) := fun w => by
        have h := quo_of ((pk (arcT T)).length : Int) ((arcT T).length : Int) (by omega) (by omega) (by omega) (by omega)
        rw [fl_of _ (by omega) (by omega), fl_of _ (by omega) (by omega)]
        exact run_float_arith w .quo 44 .f64 _ _ _ h
      have HFC : Hid ((FloatKind.f64.format.order (shW (pk (arcT T)).length (arcT T).length) (shW (pk (arcT T)).length (arcT T).length) == some .eq) = true) := fcmp_self _ _ (shW_le _ _ (by omega) (by omega) hpos) rfl
      clear hpos hbp hal
      refine CS.mono ?_
      rintro e13 w13 ⟨rfl, rfl⟩
      clear CS
      have hg0 : w13.heap[G]? = some (.cells #[Value.int IntKind.i64 k, Value.bool e, Value.string t, Value.slice x n c] 25 (0, 0)) := (H10.out.block G (by have := HB10.out.1.size; omega)).trans ((HB10.out.2.1 G hGlt).trans HG6.out)
      obtain ⟨u0, u1, u2, u3, _⟩ := cell4n hg0
      have hd := HB10.out.2.2.same H10.out.size (H10.out.block _ HB10.out.2.2.lt)
      have d0 := hd.get 0 _ rfl
      have d1 := hd.get 1 _ rfl
      have f0 := HS12.out.2.get 0 _ rfl
      have f1 := HS12.out.2.get 1 _ rfl
      have n0 := HS12.out.1.get 0 _ rfl
      have n1 := HS12.out.1.get 1 _ rfl
      have n2 := HS12.out.1.get 2 _ rfl
      have n3 := HS12.out.1.get 3 _ rfl
      have hq := HQ.out
      have hfc := HFC.out
      have CE : Calls Try.prog 13 #[.agg #[.int .i64 T.k, .bool T.e, .string T.t, .slice xx nn cc], .agg #[Value.int IntKind.i64 k, Value.bool e, Value.string t, Value.slice x n c]] w13 fun en w' => en = .returned (.bool true) ∧ Below w13.heap.size w13 w' :=
        (topeq_any (max M m) _ _ T T w13 (HM12.out.upto (Nat.le_max_left _ _)) ((HA1.out.1.below HW12.out).upto (Nat.le_max_right _ _))).mono fun en w' q => by
          obtain ⟨⟨r, hr, hi⟩, b⟩ := q
          exact ⟨by rw [hr, hi.2 rfl], b⟩
      go_wp2_with fail
      refine CE.mono ?_
      rintro e14 w14 ⟨rfl, b14⟩
      clear CE
      go_wp2_with fail
      go_ret
      exact ⟨rfl, HWB.out _ (HW12.out.trans (b14.mono HW12.out.size))⟩

end Go.Proofs.Ytljcbibcdajhiaa
