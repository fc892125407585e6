/- reach, walked (own text of the verifier). -/
import Derived.Test.YtnggbemnblcnaaaDoorTyB
namespace Go.Proofs.YtnggbemnblcnaaaDoor
open Go.RowKit

/-- A row of texts. -/
def Tns (w : World) (x : Option Addr) (L : List ByteArray) : Prop := ∀ i s, L[i]? = some s → ∃ g o, x = some ⟨g, o, none⟩ ∧ g < w.heap.size ∧ w.cell? ⟨g, o + i, none⟩ = some (.string s)
theorem Tns.below {w w' : World} {x : Option Addr} {L : List ByteArray} (h : Tns w x L) (b : Below w.heap.size w w') : Tns w' x L := fun i s hs => by
  obtain ⟨g, o, h1, h2, h3⟩ := h i s hs
  exact ⟨g, o, h1, Nat.lt_of_lt_of_le h2 b.size, by rw [b.cell (p := ⟨g, o + i, none⟩) h2]; exact h3⟩

/-- A node in memory at a place. -/
def NP (w : World) (m g o : Nat) (T : Tr) : Prop := g < w.heap.size ∧ ∃ (x : Option Addr) (n c : Nat), w.cell? ⟨g, o, none⟩ = some (.int .i64 T.k) ∧ w.cell? ⟨g, o + 1, none⟩ = some (.bool T.e) ∧ w.cell? ⟨g, o + 2, none⟩ = some (.string T.t) ∧ w.cell? ⟨g, o + 3, none⟩ = some (.slice x n c) ∧ At w m (.agg #[.int .i64 T.k, .bool T.e, .string T.t, .slice x n c]) T

/-- Where the names lead in memory. -/
inductive Rch (w : World) : Nat → Nat → List ByteArray → Nat → Nat → Prop
  | nil (g o : Nat) : Rch w g o [] g o
  | snoc {g o g1 o1 q z n c i : Nat} {l : List ByteArray} {s : ByteArray} : Rch w g o l g1 o1 → w.cell? ⟨g1, o1 + 3, none⟩ = some (.slice (some ⟨q, z, none⟩) n c) → i < n → w.cell? ⟨q, z + i * 5, none⟩ = some (.string s) → Rch w g o (l ++ [s]) q (z + i * 5 + 1)

theorem At.nms {w : World} {m n c : Nat} {k : Int} {e : Bool} {t : ByteArray} {x : Option Addr} {T : Tr} (h : At w m (.agg #[.int .i64 k, .bool e, .string t, .slice x n c]) T) : T.k = k ∧ T.nms.length = n ∧ T.ks.length = n ∧ n ≤ 1954687338211 ∧ Nms w x T.nms ∧ ∀ i s K, T.nms[i]? = some s → T.ks[i]? = some K → ∃ q z m', x = some ⟨q, z, none⟩ ∧ q < w.heap.size ∧ w.cell? ⟨q, z + i * 5, none⟩ = some (.string s) ∧ NP w m' q (z + i * 5 + 1) K := by
  cases m with
  | zero => exact h.elim
  | succ m =>
    obtain ⟨k', e', t', ns, ks⟩ := T
    obtain ⟨x', n', c', h1, h2, h3, h4, h5, h6⟩ := h
    obtain ⟨rfl, rfl, rfl, rfl, rfl, rfl⟩ : k = k' ∧ e = e' ∧ t = t' ∧ x = x' ∧ n = n' ∧ c = c' := by
      injection h1 with h1; simp at h1; simpa using h1
    refine ⟨rfl, h2, h3, h5, fun j s hs => ?_, fun i s K hs hK => ?_⟩
    · change ns[j]? = some s at hs
      have hj : j < ns.length := (List.getElem?_eq_some_iff.1 hs).1
      rcases h6 with h6 | ⟨g, o, h7, h8, h9⟩
      · omega
      · obtain ⟨a, b, d, f, p, q, c0, c1, c2, c3, c4, hA⟩ := h9 j s _ hs (List.getElem?_eq_getElem (by omega))
        exact ⟨g, o, a, b, d, f, p, q, h7, h8, c0, c1, c2, c3, c4⟩
    · change ns[i]? = some s at hs
      change ks[i]? = some K at hK
      have hj : i < ns.length := (List.getElem?_eq_some_iff.1 hs).1
      rcases h6 with h6 | ⟨g, o, h7, h8, h9⟩
      · omega
      · obtain ⟨a, b, d, f, p, q, c0, c1, c2, c3, c4, hA⟩ := h9 i s K hs hK
        obtain ⟨k2, e2, t2, ns2, ks2⟩ := K
        have hA' := hA
        cases m with
        | zero => exact hA.elim
        | succ m =>
          obtain ⟨x2, n2, c2', g1, _⟩ := hA'
          obtain ⟨rfl, rfl, rfl, _⟩ : a = k2 ∧ b = e2 ∧ d = t2 ∧ True := by
            injection g1 with g1; simp at g1; exact ⟨g1.1, g1.2.1, g1.2.2.1, trivial⟩
          exact ⟨g, o, m + 1, h7, h8, c0, h8, f, p, q, c1, c2, c3, c4, hA⟩

theorem Tr.up {T : Tr} (h : ascT T) : Up T.nms ∧ ascL T.ks := by obtain ⟨k, e, t, ns, ks⟩ := T; rw [ascT] at h; exact h

/-- What reach answers. -/
def RchP (w : World) (g o : Nat) (L : List ByteArray) (T : Tr) (e : Ending) (w' : World) : Prop := (∃ pv, e = .returned (.tuple #[pv, .int .i64 (rch L T).1]) ∧ ((rch L T).1 ≠ 0 → pv = .pointer none) ∧ ((rch L T).1 = 0 → ∃ g' o' m', pv = .pointer (some ⟨g', o', none⟩) ∧ NP w m' g' o' (rch L T).2 ∧ ascT (rch L T).2 ∧ Rch w g o L g' o')) ∧ Below w.heap.size w w'
theorem RchP.bad {w w' : World} {g o : Nat} {L : List ByteArray} {T T1 : Tr} {v : Int} (h : rch L T = (v, T1)) (hv : v ≠ 0) (b : Below w.heap.size w w') : RchP w g o L T (.returned (.tuple #[.pointer none, .int .i64 v])) w' := by
  refine ⟨⟨_, by rw [h], fun _ => rfl, fun h' => ?_⟩, b⟩
  rw [h] at h'; exact absurd h' hv
theorem RchP.ok {w w' : World} {g o g1 o1 m1 : Nat} {L : List ByteArray} {T T1 : Tr} (h : rch L T = (0, T1)) (h1 : NP w m1 g1 o1 T1) (h2 : ascT T1) (h3 : Rch w g o L g1 o1) (b : Below w.heap.size w w') : RchP w g o L T (.returned (.tuple #[.pointer (some ⟨g1, o1, none⟩), .int .i64 0])) w' := by
  refine ⟨⟨_, by rw [h], fun h' => ?_, fun _ => ⟨g1, o1, m1, rfl, ?_, ?_, h3⟩⟩, b⟩
  · rw [h] at h'; exact absurd rfl h'
  · rw [h]; exact h1
  · rw [h]; exact h2

set_option maxHeartbeats 8000000 in
theorem reach_any (m g o c : Nat) (T : Tr) (x : Option Addr) (L : List ByteArray) (w : World) (H : NP w m g o T) (A : ascT T) (N : Tns w x L) (hl : L.length ≤ 1000000) :
    Calls Tryd.prog 27 #[.pointer (some ⟨g, o, none⟩), .slice x L.length c] w (RchP w g o L T) := by
  have HH : Hid (NP w m g o T) := H
  have HA : Hid (ascT T) := A
  have HN : Hid (Tns w x L) := N
  clear H A N
  obtain ⟨n, hn⟩ : ∃ n, L.length = n := ⟨_, rfl⟩
  have HL : Hid (L.length = n) := hn
  rw [hn]
  rw [hn] at hl
  clear hn
  go_enter Tryd.func27, Tryd.ntmps27
  go_wp2
  go_loopw [0, 12] (fun x0 xi wr => ∃ k : Nat, k ≤ n ∧ xi = .int .i64 k ∧ Hid (Below w.heap.size w wr) ∧ ∃ g1 o1, x0 = .pointer (some ⟨g1, o1, none⟩) ∧ ∃ T1 m1, Hid (NP w m1 g1 o1 T1 ∧ ascT T1 ∧ rch (L.drop k) T1 = rch L T ∧ Rch w g o (L.take k) g1 o1)) (fun _ i _ => n - (intOf i).toNat)
  case atStart => exact ⟨0, Nat.zero_le _, rfl, Below.refl _ _, g, o, rfl, T, m, HH.out, HA.out, rfl, by rw [List.take_zero]; exact Rch.nil g o⟩
  case round =>
    obtain ⟨k, hk, rfl, hB, g1, o1, rfl, T1, m1, HI⟩ := hrel
    by_cases hlt : k < n
    · obtain ⟨s, hs⟩ : ∃ s, L[k]? = some s := ⟨_, List.getElem?_eq_getElem (by rw [HL.out]; exact hlt)⟩
      obtain ⟨gx, ox, rfl, hgx, cx⟩ := HN.out.below hB.out k s hs
      have HD : Hid (L.drop k = s :: L.drop (k + 1) ∧ L.take (k + 1) = L.take k ++ [s]) := ⟨by rw [List.drop_eq_getElem_cons (by rw [HL.out]; exact hlt)]; rw [List.getElem?_eq_getElem (by rw [HL.out]; exact hlt)] at hs; rw [Option.some.inj hs], by rw [List.take_add_one, hs]; rfl⟩
      clear hs
      obtain ⟨hg1, x1, n1, c1, d0, d1, d2, d3, hAt⟩ := HI.out.1
      have e0 : wr.cell? ⟨g1, o1, none⟩ = some (.int .i64 T1.k) := by rw [hB.out.cell (p := ⟨g1, o1, none⟩) hg1]; exact d0
      have e3 : wr.cell? ⟨g1, o1 + 3, none⟩ = some (.slice x1 n1 c1) := by rw [hB.out.cell (p := ⟨g1, o1 + 3, none⟩) hg1]; exact d3
      have HC : Hid (w.cell? ⟨g1, o1 + 3, none⟩ = some (.slice x1 n1 c1)) := d3
      have HT : Hid (At w m1 (.agg #[.int .i64 T1.k, .bool T1.e, .string T1.t, .slice x1 n1 c1]) T1) := hAt
      clear d0 d1 d2 d3 hAt
      have hg1' : g1 < wr.heap.size := Nat.lt_of_lt_of_le hg1 hB.out.size
      clear hg1
      obtain ⟨kd, hkd⟩ : ∃ kd, T1.k = kd := ⟨_, rfl⟩
      rw [hkd] at e0
      have HK : Hid (T1.k = kd) := hkd
      clear hkd
      by_cases h3 : kd = 3
      · subst h3
        obtain ⟨_, j2, j3, j4, j5, j6⟩ := HT.out.nms
        have U := Tr.up HI.out.2.1
        have J6 : Hid (∀ i s K, T1.nms[i]? = some s → T1.ks[i]? = some K → ∃ q z m', x1 = some ⟨q, z, none⟩ ∧ q < w.heap.size ∧ w.cell? ⟨q, z + i * 5, none⟩ = some (.string s) ∧ NP w m' q (z + i * 5 + 1) K) := j6
        have J2 : Hid (T1.nms.length = n1 ∧ T1.ks.length = n1) := ⟨j2, j3⟩
        have J5 : Hid (Nms wr x1 T1.nms ∧ Mono T1.nms s) := ⟨j5.below hB.out, U.1.mono s⟩
        have HU : Hid (Up T1.nms ∧ ascL T1.ks) := U
        clear j2 j3 j5 j6 U
        go_wp2_with fail
        refine (find_any x1 n1 c1 T1.nms s wr J2.out.1 j4 J5.out.1 J5.out.2).mono ?_
        rintro e w2 ⟨⟨i, r, rfl, h1, h2⟩, b2⟩
        have HS : Hid (BS T1.nms s i) := h1
        have B2 : Hid (Below w.heap.size w w2) := hB.out.trans (b2.mono hB.out.size)
        have f3 : w2.cell? ⟨g1, o1 + 3, none⟩ = some (.slice x1 n1 c1) := by rw [b2.cell (p := ⟨g1, o1 + 3, none⟩) hg1']; exact e3
        have hg2 : g1 < w2.heap.size := Nat.lt_of_lt_of_le hg1' b2.size
        clear h1 b2 e0 e3 hg1' hB J5 cx hgx
        cases r
        · have HR : Hid (rch L T = (3, T1)) := by
            show rch L T = (3, T1)
            rw [← HI.out.2.2.1, HD.out.1, rch, if_neg (by rw [HK.out]; decide), HS.out.no HU.out.1 (fun hc => by have := h2.2 ⟨by rw [← J2.out.1]; exact hc.1, hc.2⟩; cases this) T1.ks]
          clear h2
          go_wp2
          go_ret2
          exact RchP.bad HR.out (by decide) B2.out
        · obtain ⟨hi, hc⟩ := h2.1 rfl
          clear h2
          obtain ⟨K, hK⟩ : ∃ K, T1.ks[i]? = some K := ⟨_, List.getElem?_eq_getElem (by rw [J2.out.2]; exact hi)⟩
          have hs1 : T1.nms[i]? = some s := by
            have hi' : i < T1.nms.length := by rw [J2.out.1]; exact hi
            rw [List.getElem?_eq_getElem hi', ← cmpB_eq hc, nmA_of (List.getElem?_eq_getElem hi')]
          obtain ⟨q, z, m', rfl, hq, cq, hNP⟩ := J6.out i s K hs1 hK
          have HR : Hid (rch (L.drop (k + 1)) K = rch L T) := by
            show rch (L.drop (k + 1)) K = rch L T
            rw [← HI.out.2.2.1, HD.out.1, rch, if_neg (by rw [HK.out]; decide), HS.out.yes (by rw [J2.out.1]; exact hi) hc T1.ks K hK]
          have HX : Hid (NP w m' q (z + i * 5 + 1) K ∧ ascT K ∧ w.cell? ⟨q, z + i * 5, none⟩ = some (.string s)) := ⟨hNP, ascL_at _ _ _ HU.out.2 hK, cq⟩
          clear hNP cq hs1 hK hc hq
          go_wp2
          go_roundw
          case rel => exact ⟨k + 1, by omega, by go_num, B2, q, z + i * 5 + 1, rfl, K, m', HX.out.1, HX.out.2.1, HR.out, by rw [HD.out.2]; exact HI.out.2.2.2.snoc HC.out hi HX.out.2.2⟩
          case measure => simp [intOf]; omega
      · have HR : Hid (rch L T = (65, T1)) := by
          show rch L T = (65, T1)
          rw [← HI.out.2.2.1, HD.out.1, rch, if_pos (by rw [HK.out]; exact h3)]
        go_wp2_with fail
        go_ret2
        exact RchP.bad HR.out (by decide) hB.out
    · obtain rfl : k = n := by omega
      have HR : Hid (rch L T = (0, T1) ∧ L.take k = L) := by
        have e1 : L.drop k = [] := List.drop_of_length_le (by rw [HL.out]; exact Nat.le_refl _)
        exact ⟨by rw [← HI.out.2.2.1, e1, rch], List.take_of_length_le (by rw [HL.out]; exact Nat.le_refl _)⟩
      go_wp2
      go_ret2
      exact RchP.ok HR.out.1 HI.out.1 HI.out.2.1 (by have := HI.out.2.2.2; rw [HR.out.2] at this; exact this) hB.out
end Go.Proofs.YtnggbemnblcnaaaDoor
