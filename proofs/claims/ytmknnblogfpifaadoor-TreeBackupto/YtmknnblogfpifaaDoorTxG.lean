/- tree.Build, walked (own text of the verifier). -/
import Derived.Test.YtmknnblogfpifaaDoorTxF
import Derived.Test.YtmknnblogfpifaaDoorTxP
namespace Go.Proofs.YtmknnblogfpifaaDoor
open Go.RowKit

/-- The first row that can't be, counted from i. -/
def bAt : List RW → List OE × Int → Nat → Option Nat
  | [], _, _ => none
  | r :: L, s, i => match addR spN r s.1 s.2 with
    | none => some i
    | some s' => bAt L s' (i + 1)
/-- Build's fault. -/
def bF (L : List RW) : Int × Int := if L = [] then (50, 0) else match bAt L ([], 24) 0 with
  | none => (0, 0)
  | some i => (64, (i : Int))
theorem bAt_app (A : List RW) (r : RW) (B : List RW) (s s' : List OE × Int) (i : Nat) (h : runR spN A s = some s') : bAt (A ++ r :: B) s i = (match addR spN r s'.1 s'.2 with | none => some (i + A.length) | some t => bAt B t (i + A.length + 1)) := by
  induction A generalizing s i with
  | nil =>
    have h : s = s' := Option.some.inj h
    subst h
    rfl
  | cons a A ih =>
    rw [runR] at h
    rw [List.cons_append, bAt]
    cases ha : addR spN a s.1 s.2 with
    | none => rw [ha] at h; cases h
    | some t =>
      rw [ha] at h
      have h : runR spN A t = some s' := h
      dsimp only
      rw [ih t (i + 1) h, List.length_cons, show i + 1 + A.length = i + (A.length + 1) by omega]
theorem bAt_all (A : List RW) (s s' : List OE × Int) (i : Nat) (h : runR spN A s = some s') : bAt A s i = none := by
  induction A generalizing s i with
  | nil => rfl
  | cons a A ih =>
    rw [runR] at h
    rw [bAt]
    cases ha : addR spN a s.1 s.2 with
    | none => rw [ha] at h; cases h
    | some t =>
      rw [ha] at h
      exact ih t (i + 1) h
theorem runR_snoc (A : List RW) (r : RW) (s s' : List OE × Int) (h : runR spN A s = some s') : runR spN (A ++ [r]) s = addR spN r s'.1 s'.2 := by
  rw [runR_app, h]
  show (addR spN r s'.1 s'.2).bind (runR spN []) = _
  cases addR spN r s'.1 s'.2 <;> rfl
theorem addR_le {r : RW} {S S' : List OE} {b b' : Int} (hb : 0 ≤ b) (h : addR spN r S b = some (S', b')) : 0 ≤ b' ∧ b' ≤ 1048576 ∧ S' ≠ [] := by
  have h1 := nb_bd r.2.1 r.2.2.1 r.2.2.2
  unfold addR at h
  cases hsp : spN r.1 with
  | none => rw [hsp] at h; cases h
  | some ns =>
    rw [hsp] at h
    dsimp only at h
    split at h
    · cases h
    · split at h
      · split at h
        · cases h; exact ⟨by omega, by omega, by simp⟩
        · cases h
      · cases h
      · cases h
      · rename_i s _
        have h2 := eb_bd s
        split at h
        · cases h
        · split at h
          · cases h
          · split at h
            · cases h
            · split at h
              · cases h
              · split at h
                · cases h
                · split at h
                  · cases h; exact ⟨by omega, by omega, by simp⟩
                  · cases h
theorem rows_open (S : List OE) : S.length ≤ (rowsS S).length := by
  induction S with
  | nil => exact Nat.zero_le _
  | cons o S ih => rw [rowsS, List.length_append, List.length_cons, List.length_cons]; omega
/-- Rows in memory. -/
def RIs (w : World) (x : Option Addr) (L : List RW) : Prop := ∀ i r, L[i]? = some r → ∃ g o, x = some ⟨g, o, none⟩ ∧ g < w.heap.size ∧ w.cell? ⟨g, o + i * 4, none⟩ = some (.string r.1) ∧ w.cell? ⟨g, o + i * 4 + 1, none⟩ = some (.int .i64 r.2.1) ∧ w.cell? ⟨g, o + i * 4 + 2, none⟩ = some (.bool r.2.2.1) ∧ w.cell? ⟨g, o + i * 4 + 3, none⟩ = some (.string r.2.2.2)
theorem RIs.below {w w' : World} {x : Option Addr} {L : List RW} {B : Nat} (h : RIs w x L) (b : Below B w w') (hB : w.heap.size ≤ B) : RIs w' x L := fun i r hr => by
  obtain ⟨g, o, h1, h2, c0, c1, c2, c3⟩ := h i r hr
  exact ⟨g, o, h1, Nat.lt_of_lt_of_le h2 b.size, (b.cell (p := ⟨g, o + i * 4, none⟩) (Nat.lt_of_lt_of_le h2 hB)).trans c0, (b.cell (p := ⟨g, o + i * 4 + 1, none⟩) (Nat.lt_of_lt_of_le h2 hB)).trans c1, (b.cell (p := ⟨g, o + i * 4 + 2, none⟩) (Nat.lt_of_lt_of_le h2 hB)).trans c2, (b.cell (p := ⟨g, o + i * 4 + 3, none⟩) (Nat.lt_of_lt_of_le h2 hB)).trans c3⟩
theorem RIs.take {w : World} {x : Option Addr} {L : List RW} (h : RIs w x L) (n : Nat) : RIs w x (L.take n) := fun i r hr => h i r (by
  rw [List.getElem?_take] at hr
  split at hr
  · exact hr
  · cases hr)
/-- All texts of the rows are small. -/
def smR (L : List RW) : Prop := ∀ r ∈ L, r.1.size ≤ 1048576 ∧ r.2.2.2.size ≤ 1048576
/-- What Build answers and leaves. -/
def BldP (L : List RW) (w : World) (en : Ending) (w' : World) : Prop :=
  ∃ (k : Int) (e : Bool) (t : ByteArray) (x : Option Addr) (n c : Nat), en = .returned (.tuple #[.agg #[.int .i64 k, .bool e, .string t, .slice x n c], .agg #[.int .i64 (bF L).1, .int .i64 (bF L).2]]) ∧
    ((bF L).1 = 0 → ∃ S b o fp, runR spN L ([], 24) = some (S, b) ∧ clo 1 S = [o] ∧ k = o.k ∧ e = o.e ∧ t = o.t ∧ TrV w' w.heap.size o.tr (.slice x n c) fp)
theorem Ff.toBelow {g : Nat} {fp : List Nat} {a b : World} {n : Nat} (h : Ff g fp a b) (h1 : n ≤ g) (h2 : ∀ x ∈ fp, n ≤ x) (hn : n ≤ a.heap.size) : Below n a b :=
  ⟨h.os, h.tape, h.output, h.size, fun k hk => h.keep k (by omega) (by omega) (fun hm => by have := h2 k hm; omega)⟩
theorem word_frS : frS [⟨#[100, 101, 112, 111, 116, 45, 97, 114, 99, 104, 105, 118, 101, 45, 49]⟩] = 24 := by decide +kernel

theorem own_up {w : World} {B B' : Nat} {e : TypeId} {q : Nat} {v : Value} {n : Nat} {xs : List Value} (h : w.ownsRow B e q v n xs) (hB : B' ≤ B) : w.ownsRow B' e q v n xs := by
  obtain ⟨h1, h2 | ⟨g, cap, cur, hv, hb, r⟩⟩ := h
  · exact ⟨h1, .inl h2⟩
  · exact ⟨h1, .inr ⟨g, cap, cur, hv, by omega, r⟩⟩
mutual
theorem TrV.mono {w : World} {B B' : Nat} (hB : B' ≤ B) : ∀ (T : Tr) (v : Value) (fp : List Nat), TrV w B T v fp → TrV w B' T v fp
  | .mk k e t nms ks, v, fp, h => by
    rw [TrV] at h ⊢
    obtain ⟨cs, fq, h1, h2, rfl⟩ := h
    exact ⟨cs, fq, own_up h1 hB, KidV.mono hB nms ks cs fq h2, rfl⟩
theorem KidV.mono {w : World} {B B' : Nat} (hB : B' ≤ B) : ∀ (nms : List ByteArray) (ks : List Tr) (cs : List Value) (fq : List Nat), KidV w B nms ks cs fq → KidV w B' nms ks cs fq
  | [], [], cs, fq, h => by rw [KidV] at h ⊢; exact h
  | s :: nms, T :: ks, cs, fq, h => by
    rw [KidV] at h ⊢
    obtain ⟨v, cs', fp, fq', rfl, h2, h3, rfl⟩ := h
    exact ⟨v, cs', fp, fq', rfl, TrV.mono hB T v fp h2, KidV.mono hB nms ks cs' fq' h3, rfl⟩
  | [], _ :: _, cs, fq, h => by simp [KidV] at h
  | _ :: _, [], cs, fq, h => by simp [KidV] at h
end
/-- Six cells stored into two blocks. -/
theorem six {W : World} {n : Nat} {a0 a1 a2 a3 p0 p1 b0 b1 b2 b3 q0 q1 : Value} {T T' : TypeId} (h0 : W.heap[n]? = some (.cells #[a0, a1, a2, a3] T (0, 0))) (h1 : W.heap[n + 1]? = some (.cells #[p0, p1] T' (0, 0))) (W' : World) (hW : W' = (((((W.setCell ⟨n, 0, none⟩ b0).setCell ⟨n, 1, none⟩ b1).setCell ⟨n, 2, none⟩ b2).setCell ⟨n, 3, none⟩ b3).setCell ⟨n + 1, 0, none⟩ q0).setCell ⟨n + 1, 1, none⟩ q1) :
    W'.cell? ⟨n, 0, none⟩ = some b0 ∧ W'.cell? ⟨n, 1, none⟩ = some b1 ∧ W'.cell? ⟨n, 2, none⟩ = some b2 ∧ W'.cell? ⟨n, 3, none⟩ = some b3 ∧ W'.cell? ⟨n + 1, 0, none⟩ = some q0 ∧ W'.cell? ⟨n + 1, 1, none⟩ = some q1 ∧ Below n W W' ∧ ∀ k, k ≠ n → k ≠ n + 1 → W'.heap[k]? = W.heap[k]? := by
  have e0 : W'.heap[n]? = some (.cells #[b0, b1, b2, b3] T (0, 0)) := by
    rw [hW]
    simp [World.setCell, Array.getElem?_modify, h0]
  have e1 : W'.heap[n + 1]? = some (.cells #[q0, q1] T' (0, 0)) := by
    rw [hW]
    simp [World.setCell, Array.getElem?_modify, h1]
  have hB : Below n W W' := by
    rw [hW]
    exact ((((((Below.refl n W).setCell (p := ⟨n, 0, none⟩) (Nat.le_refl _) _).setCell (p := ⟨n, 1, none⟩) (Nat.le_refl _) _).setCell (p := ⟨n, 2, none⟩) (Nat.le_refl _) _).setCell (p := ⟨n, 3, none⟩) (Nat.le_refl _) _).setCell (p := ⟨n + 1, 0, none⟩) (Nat.le_succ _) _).setCell (p := ⟨n + 1, 1, none⟩) (Nat.le_succ _) _
  refine ⟨by rw [Lib.cell_of_heap e0]; rfl, by rw [Lib.cell_of_heap e0]; rfl, by rw [Lib.cell_of_heap e0]; rfl, by rw [Lib.cell_of_heap e0]; rfl, by rw [Lib.cell_of_heap e1]; rfl, by rw [Lib.cell_of_heap e1]; rfl, hB, fun k h2 h3 => ?_⟩
  rw [hW]
  exact (Below.heap_setCell _ ⟨n + 1, 1, none⟩ _ k h3).trans ((Below.heap_setCell _ ⟨n + 1, 0, none⟩ _ k h3).trans ((Below.heap_setCell _ ⟨n, 3, none⟩ _ k h2).trans ((Below.heap_setCell _ ⟨n, 2, none⟩ _ k h2).trans ((Below.heap_setCell _ ⟨n, 1, none⟩ _ k h2).trans (Below.heap_setCell _ ⟨n, 0, none⟩ _ k h2)))))

set_option maxHeartbeats 16000000 in
set_option maxRecDepth 20000 in
theorem build_any (L : List RW) (x : Option Addr) (c : Nat) (w : World) (hX : RIs w x L) (hn : L.length ≤ 1048576) (hsm : smR L) :
    Calls Tryd.prog 10 #[.slice x L.length c] w fun en w' => BldP L w en w' ∧ Below w.heap.size w w' := by
  by_cases hL : L = []
  · have hb : bF L = (50, 0) := by unfold bF; rw [if_pos hL]
    have HB : Hid (bF L = (50, 0)) := hb
    have hl0 : L.length = 0 := by rw [hL]; rfl
    rw [hl0]
    clear hb hX hsm
    go_enter Tryd.func10, Tryd.ntmps10
    go_wp2
    have q0 := fun i => World.cell?_alloc_new w #[.int .i64 0, .bool false, .string ⟨#[]⟩, .slice none 0 0] 25 i
    have q1 := fun i => World.cell?_alloc_new (w.alloc (.cells #[.int .i64 0, .bool false, .string ⟨#[]⟩, .slice none 0 0] 25)) #[.int .i64 50, .int .i64 0] 34 i
    have q2 : ∀ i, ((w.alloc (.cells #[.int .i64 0, .bool false, .string ⟨#[]⟩, .slice none 0 0] 25)).alloc (.cells #[.int .i64 50, .int .i64 0] 34)).cell? ⟨w.heap.size, i, none⟩ = (w.alloc (.cells #[.int .i64 0, .bool false, .string ⟨#[]⟩, .slice none 0 0] 25)).cell? ⟨w.heap.size, i, none⟩ := fun i => World.cell?_of_block (Below.heap_alloc _ _ _ (by show w.heap.size < _; rw [World.size_alloc]; omega))
    rw [World.size_alloc] at q1
    have r0 := (q2 0).trans (q0 0)
    have r1 := (q2 1).trans (q0 1)
    have r2 := (q2 2).trans (q0 2)
    have r3 := (q2 3).trans (q0 3)
    have e0 := q1 0
    have e1 := q1 1
    have HBL : Hid (Below w.heap.size w ((w.alloc (.cells #[.int .i64 0, .bool false, .string ⟨#[]⟩, .slice none 0 0] 25)).alloc (.cells #[.int .i64 50, .int .i64 0] 34))) := ((Below.refl _ _).alloc (Nat.le_refl _) _).alloc (by rw [World.size_alloc]; omega) _
    clear q0 q1 q2
    generalize (w.alloc (.cells #[.int .i64 0, .bool false, .string ⟨#[]⟩, .slice none 0 0] 25)).alloc (.cells #[.int .i64 50, .int .i64 0] 34) = W at r0 r1 r2 r3 e0 e1 HBL ⊢
    refine bodyPost_ret (v := .tuple #[.agg #[.int .i64 0, .bool false, .string ⟨#[]⟩, .slice none 0 0], .agg #[.int .i64 50, .int .i64 0]]) (by simp [results, Tryd.results10, go_sem, r0, r1, r2, r3, e0, e1]) rfl ⟨⟨0, false, ⟨#[]⟩, none, 0, 0, by rw [HB.out], fun h => by rw [HB.out] at h; cases h⟩, HBL.out⟩
  · have hpos : 0 < L.length := List.length_pos_iff.2 hL
    have hne : ((L.length : Int) == 0) = false := by rw [beq_eq_false_iff_ne]; omega
    have HX : Hid (RIs w x L) := hX
    have HSM : Hid (smR L) := hsm
    have HL : Hid (L ≠ []) := hL
    clear hX hsm hL
    go_enter Tryd.func10, Tryd.ntmps10
    go_wp2_with fail
    have C0 := tframed_any (some ⟨w.heap.size + 1 + 1, 0, none⟩) 1 [⟨#[100, 101, 112, 111, 116, 45, 97, 114, 99, 104, 105, 118, 101, 45, 49]⟩] (((w.alloc (.cells #[.int .i64 0, .bool false, .string ⟨#[]⟩, .slice none 0 0] 25)).alloc (.cells #[.int .i64 0, .int .i64 0] 34)).alloc (.cells #[.string ⟨#[100, 101, 112, 111, 116, 45, 97, 114, 99, 104, 105, 118, 101, 45, 49]⟩] 9)) (by
      have h := StrL.lit ((w.alloc (.cells #[.int .i64 0, .bool false, .string ⟨#[]⟩, .slice none 0 0] 25)).alloc (.cells #[.int .i64 0, .int .i64 0] 34)) #[.string ⟨#[100, 101, 112, 111, 116, 45, 97, 114, 99, 104, 105, 118, 101, 45, 49]⟩] 9 [⟨#[100, 101, 112, 111, 116, 45, 97, 114, 99, 104, 105, 118, 101, 45, 49]⟩] rfl
      rw [World.size_alloc, World.size_alloc] at h
      exact h) (by decide) (by intro s hs; simp at hs; subst hs; decide)
    rw [word_frS] at C0
    refine C0.mono ?_
    rintro en w3 ⟨rfl, hw3⟩
    have q0 := fun i => World.cell?_alloc_new w #[.int .i64 0, .bool false, .string ⟨#[]⟩, .slice none 0 0] 25 i
    have q1 := fun i => World.cell?_alloc_new (w.alloc (.cells #[.int .i64 0, .bool false, .string ⟨#[]⟩, .slice none 0 0] 25)) #[.int .i64 0, .int .i64 0] 34 i
    have hz3 : w.heap.size + 2 < w3.heap.size := by rw [hw3, World.size_alloc, World.size_alloc, World.size_alloc]; omega
    have s0 : w3.heap[w.heap.size]? = (w.alloc (.cells #[.int .i64 0, .bool false, .string ⟨#[]⟩, .slice none 0 0] 25)).heap[w.heap.size]? := by
      rw [hw3]
      exact (Below.heap_alloc _ _ _ (by rw [World.size_alloc, World.size_alloc]; omega)).trans (Below.heap_alloc _ _ _ (by rw [World.size_alloc]; omega))
    have s1 : w3.heap[w.heap.size + 1]? = ((w.alloc (.cells #[.int .i64 0, .bool false, .string ⟨#[]⟩, .slice none 0 0] 25)).alloc (.cells #[.int .i64 0, .int .i64 0] 34)).heap[w.heap.size + 1]? := by
      rw [hw3]
      exact Below.heap_alloc _ _ _ (by rw [World.size_alloc, World.size_alloc]; omega)
    have u0 : w3.heap[w.heap.size]? = some (.cells #[.int .i64 0, .bool false, .string ⟨#[]⟩, .slice none 0 0] 25 (0, 0)) := s0.trans Array.getElem?_push_size
    have u1 : w3.heap[w.heap.size + 1]? = some (.cells #[.int .i64 0, .int .i64 0] 34 (0, 0)) := s1.trans (by
      have h : ((w.alloc (.cells #[.int .i64 0, .bool false, .string ⟨#[]⟩, .slice none 0 0] 25)).alloc (.cells #[.int .i64 0, .int .i64 0] 34)).heap[(w.alloc (.cells #[.int .i64 0, .bool false, .string ⟨#[]⟩, .slice none 0 0] 25)).heap.size]? = some (.cells #[.int .i64 0, .int .i64 0] 34 (0, 0)) := Array.getElem?_push_size
      rw [World.size_alloc] at h
      exact h)
    have B3 : Below w.heap.size w w3 := by
      rw [hw3]
      exact (((Below.refl _ _).alloc (Nat.le_refl _) _).alloc (by rw [World.size_alloc]; omega) _).alloc (by rw [World.size_alloc, World.size_alloc]; omega) _
    clear hw3 q0 q1 s0 s1 C0
    go_wp2_with fail
    have HB4 : Hid (Bst (w3.alloc (.cells #[.slice none 0 0, .int .i64 24] 65)) w3.heap.size (w3.heap.size + 1) [] 24 (.slice none 0 0) []) := ⟨Array.getElem?_push_size, Opn.nil _ _, by omega, by rw [World.size_alloc]; omega⟩
    have B4 : Below w3.heap.size w3 (w3.alloc (.cells #[.slice none 0 0, .int .i64 24] 65)) := (Below.refl _ _).alloc (Nat.le_refl _) _
    have v0 := (B4.block w.heap.size (by omega)).trans u0
    have v1 := (B4.block (w.heap.size + 1) (by omega)).trans u1
    have HW4 : Hid (Below w.heap.size w (w3.alloc (.cells #[.slice none 0 0, .int .i64 24] 65))) := B3.trans (B4.mono (by omega))
    have hz4 : w3.heap.size < (w3.alloc (.cells #[.slice none 0 0, .int .i64 24] 65)).heap.size := by rw [World.size_alloc]; omega
    generalize w3.alloc (.cells #[.slice none 0 0, .int .i64 24] 65) = W4 at HB4 B4 v0 v1 HW4 hz4 ⊢
    generalize hg : w3.heap.size = g at HB4 B4 hz3 hz4 ⊢
    have HV0 : Hid (W4.heap[w.heap.size]? = some (.cells #[.int .i64 0, .bool false, .string ⟨#[]⟩, .slice none 0 0] 25 (0, 0))) := v0
    have HV1 : Hid (W4.heap[w.heap.size + 1]? = some (.cells #[.int .i64 0, .int .i64 0] 34 (0, 0))) := v1
    have HR0 : Hid (runR spN (L.take 0) ([], 24) = some ([], 24)) := rfl
    have HF0 : Hid (Ff g [] W4 W4) := Ff.refl _ _ _
    clear v0 v1 u0 u1 B3 B4 hg
    go_loopg [5, 6, 17] L.length (fun gk u5 u6 iv wr => ∃ (i : Nat) (S : List OE) (b : Int) (v : Value) (fp : List Nat), gk + i = L.length ∧ iv = .int .i64 (i : Int) ∧ Hid (runR spN (L.take i) ([], 24) = some (S, b)) ∧ Hid (Bst wr g (g + 1) S b v fp) ∧ Hid (Ff g [] W4 wr) ∧ Hid (∀ y ∈ fp, W4.heap.size ≤ y) ∧ Hid (((S = [] ∧ b = 24) ∨ (lenS S ∧ okS S b)) ∧ (rowsS S).length = i ∧ 0 ≤ b ∧ b ≤ 1048576))
    case atStart => exact ⟨0, [], 24, .slice none 0 0, [], rfl, rfl, HR0, HB4, HF0, (fun y hy => absurd hy (by simp)), ⟨Or.inl ⟨rfl, rfl⟩, rfl, by decide, by decide⟩⟩
    case round =>
      obtain ⟨i, S, b, v, fp, hgk, rfl, hR, hB, hF, hfp, hK⟩ := hrel
      clear HR0 HB4 HF0
      have hlen : lenS S := by
        rcases hK.out.1 with h | h
        · rw [h.1]; intro o ho; cases ho
        · exact h.1
      have hSl := rows_open S
      have HN : Hid (wr.heap[w.heap.size]? = some (.cells #[.int .i64 0, .bool false, .string ⟨#[]⟩, .slice none 0 0] 25 (0, 0))) := (hF.out.keep _ (by omega) (by omega) (by simp)).trans HV0.out
      have HN1 : Hid (wr.heap[w.heap.size + 1]? = some (.cells #[.int .i64 0, .int .i64 0] 34 (0, 0))) := (hF.out.keep _ (by omega) (by omega) (by simp)).trans HV1.out
      have HBW : Hid (Below w.heap.size w wr) := HW4.out.trans (hF.out.toBelow (by omega) (by simp) (by omega))
      by_cases hi : i < L.length
      · have hi' : (i : Int) < (L.length : Int) := by omega
        obtain ⟨r, hr⟩ : ∃ r, L[i]? = some r := ⟨_, List.getElem?_eq_getElem hi⟩
        obtain ⟨gr, og, hxr, hgr, c0, c1, c2, c3⟩ := (HX.out.below HBW.out (Nat.le_refl _)) i r hr
        subst hxr
        have hsmr := HSM.out r (List.mem_of_getElem? hr)
        have hst : L.take (i + 1) = L.take i ++ [r] := by
          rw [List.take_succ_eq_append_getElem hi]
          congr 1
          have := hr
          rw [List.getElem?_eq_getElem hi] at this
          rw [Option.some.inj this]
        have hsp : L = L.take i ++ r :: L.drop (i + 1) := by
          have := hr
          rw [List.getElem?_eq_getElem hi] at this
          rw [← Option.some.inj this]
          simp
        have HRN : Hid (runR spN (L.take (i + 1)) ([], 24) = addR spN r S b) := by unfold Hid; rw [hst]; exact runR_snoc _ r _ _ hR.out
        have HFA : Hid (addR spN r S b = none → bF L = (64, (i : Int))) := fun h => by
          unfold bF
          rw [if_neg HL.out]
          have h9 := bAt_app (L.take i) r (L.drop (i + 1)) ([], 24) (S, b) 0 hR.out
          rw [← hsp] at h9
          dsimp only at h9
          rw [h] at h9
          rw [h9, List.length_take, show 0 + min i L.length = i by omega]
        obtain ⟨pr, kr, er, tr⟩ := r
        dsimp only at c0 c1 c2 c3 hsmr
        have BB : Below wr.heap.size wr (wr.alloc (.cells #[.string pr, .int .i64 kr, .bool er, .string tr] 39)) := (Below.refl _ _).alloc (Nat.le_refl _) _
        have C := add_any g (g + 1) S b v fp pr tr kr er _ (hB.out.below BB) hlen (by rw [hK.out.2.1]; omega) (by rw [hK.out.2.1] at hSl; omega) hK.out.2.2.1 hK.out.2.2.2 hsmr.1 hsmr.2
        have hFB : Ff g [] W4 (wr.alloc (.cells #[.string pr, .int .i64 kr, .bool er, .string tr] 39)) := hF.out.below BB
        have hBB : Below w.heap.size w (wr.alloc (.cells #[.string pr, .int .i64 kr, .bool er, .string tr] 39)) := HBW.out.trans (BB.mono HBW.out.size)
        clear hst hsp hr hB
        go_wp2_with fail
        refine C.mono ?_
        rintro en w5 ⟨AP, F5⟩
        have hF5 : Hid (Ff g [] W4 w5) := hFB.trans F5 (fun y hy => Or.inr (hfp.out y hy))
        have HBW5 : Hid (Below w.heap.size w w5) := HW4.out.trans (hF5.out.toBelow (by omega) (by simp) (by omega))
        have HN5 : w5.heap[w.heap.size]? = some (.cells #[.int .i64 0, .bool false, .string ⟨#[]⟩, .slice none 0 0] 25 (0, 0)) := (hF5.out.keep _ (by omega) (by omega) (by simp)).trans HV0.out
        have HN6 : w5.heap[w.heap.size + 1]? = some (.cells #[.int .i64 0, .int .i64 0] 34 (0, 0)) := (hF5.out.keep _ (by omega) (by omega) (by simp)).trans HV1.out
        clear C hFB hBB BB c0 c1 c2 c3 HN HN1
        unfold AddP at AP
        cases had : addR spN (pr, kr, er, tr) S b with
        | none =>
          rw [had] at AP
          obtain rfl := AP
          have HFF : Hid (bF L = (64, (i : Int))) := HFA.out had
          have d0 : w5.cell? ⟨w.heap.size, 0, none⟩ = some (.int .i64 0) := by rw [Lib.cell_of_heap HN5]; rfl
          have d1 : w5.cell? ⟨w.heap.size, 1, none⟩ = some (.bool false) := by rw [Lib.cell_of_heap HN5]; rfl
          have d2 : w5.cell? ⟨w.heap.size, 2, none⟩ = some (.string ⟨#[]⟩) := by rw [Lib.cell_of_heap HN5]; rfl
          have d3 : w5.cell? ⟨w.heap.size, 3, none⟩ = some (.slice none 0 0) := by rw [Lib.cell_of_heap HN5]; rfl
          have g0 := Lib.frozen_of_heap HN5 0
          have g1 := Lib.frozen_of_heap HN5 1
          have g2 := Lib.frozen_of_heap HN5 2
          have g3 := Lib.frozen_of_heap HN5 3
          have p0 : w5.cell? ⟨w.heap.size + 1, 0, none⟩ = some (.int .i64 0) := by rw [Lib.cell_of_heap HN6]; rfl
          have p1 : w5.cell? ⟨w.heap.size + 1, 1, none⟩ = some (.int .i64 0) := by rw [Lib.cell_of_heap HN6]; rfl
          have k0 := Lib.frozen_of_heap HN6 0
          have k1 := Lib.frozen_of_heap HN6 1
          have SX := fun W' h => six (b0 := .int .i64 0) (b1 := .bool false) (b2 := .string ⟨#[]⟩) (b3 := .slice none 0 0) (q0 := .int .i64 64) (q1 := .int .i64 (i : Int)) HN5 HN6 W' h
          clear HN5 HN6 F5 hF5
          go_wp2
          obtain ⟨r0, r1, r2, r3, e0, e1, BX6, -⟩ := SX _ rfl
          have HBL : Hid (Below w.heap.size w ((((((w5.setCell ⟨w.heap.size, 0, none⟩ (.int .i64 0)).setCell ⟨w.heap.size, 1, none⟩ (.bool false)).setCell ⟨w.heap.size, 2, none⟩ (.string ⟨#[]⟩)).setCell ⟨w.heap.size, 3, none⟩ (.slice none 0 0)).setCell ⟨w.heap.size + 1, 0, none⟩ (.int .i64 64)).setCell ⟨w.heap.size + 1, 1, none⟩ (.int .i64 (i : Int)))) := HBW5.out.trans BX6
          clear SX BX6 d0 d1 d2 d3 g0 g1 g2 g3 p0 p1 k0 k1
          generalize (((((w5.setCell ⟨w.heap.size, 0, none⟩ (.int .i64 0)).setCell ⟨w.heap.size, 1, none⟩ (.bool false)).setCell ⟨w.heap.size, 2, none⟩ (.string ⟨#[]⟩)).setCell ⟨w.heap.size, 3, none⟩ (.slice none 0 0)).setCell ⟨w.heap.size + 1, 0, none⟩ (.int .i64 64)).setCell ⟨w.heap.size + 1, 1, none⟩ (.int .i64 (i : Int)) = W at r0 r1 r2 r3 e0 e1 HBL ⊢
          refine bodyPost_ret (v := .tuple #[.agg #[.int .i64 0, .bool false, .string ⟨#[]⟩, .slice none 0 0], .agg #[.int .i64 64, .int .i64 (i : Int)]]) (by simp [results, Tryd.results10, go_sem, r0, r1, r2, r3, e0, e1]) rfl ⟨⟨0, false, ⟨#[]⟩, none, 0, 0, by rw [HFF.out], fun h => by rw [HFF.out] at h; cases h⟩, HBL.out⟩
        | some sb =>
          obtain ⟨S', b'⟩ := sb
          rw [had] at AP
          obtain ⟨rfl, v', fp', hB', hfp'⟩ := AP
          have hk := hK.out
          have hkeep := addR_keeps spN_right had hk.1
          have hle := addR_le hk.2.2.1 had
          have HK2 : Hid (((S' = [] ∧ b' = 24) ∨ (lenS S' ∧ okS S' b')) ∧ (rowsS S').length = i + 1 ∧ 0 ≤ b' ∧ b' ≤ 1048576) := ⟨Or.inr ⟨hkeep.1, hkeep.2.1⟩, by rw [hkeep.2.2, List.length_append, hk.2.1]; rfl, hle.1, hle.2.1⟩
          have HR2 : Hid (runR spN (L.take (i + 1)) ([], 24) = some (S', b')) := by unfold Hid; rw [HRN.out, had]
          have HFP2 : Hid (∀ y ∈ fp', W4.heap.size ≤ y) := fun y hy => by
            rcases hfp' y hy with h | h
            · exact hfp.out y h
            · rw [World.size_alloc] at h
              have := hF.out.size
              omega
          have HB2 : Hid (Bst w5 g (g + 1) S' b' v' fp') := hB'
          clear hk hkeep hle hB' hfp' had HRN HFA F5 HN5 HN6
          go_wp2
          go_roundg (gk - 1)
          case measure => omega
          case rel => exact ⟨i + 1, S', b', v', fp', by omega, by go_num, HR2, HB2, hF5, HFP2, HK2⟩
      · have hi' : ¬ (i : Int) < (L.length : Int) := by omega
        have hRL : runR spN L ([], 24) = some (S, b) := by have h := hR.out; rw [List.take_of_length_le (by omega)] at h; exact h
        have HRL : Hid (runR spN L ([], 24) = some (S, b)) := hRL
        have HFF : Hid (bF L = (0, 0)) := by unfold Hid bF; rw [if_neg HL.out, bAt_all L _ _ 0 hRL]
        have C := closeTo_any g (g + 1) 1 (Nat.le_refl _) (by omega) S b v fp wr hB.out hlen (by rw [hK.out.2.1]; omega) (by rw [hK.out.2.1] at hSl; omega)
        have hpS : 1 ≤ S.length := by
          have h1 := hK.out.2.1
          cases S with
          | nil => have h2 : (rowsS []).length = 0 := rfl; omega
          | cons o S => simp
        have hcl := clo_len 1 (Nat.le_refl _) S hpS
        obtain ⟨o, ho⟩ := List.length_eq_one_iff.1 hcl
        rw [ho] at C
        clear hRL hcl
        go_wp2_with fail
        refine C.mono ?_
        rintro en w5 ⟨rfl, ⟨v5, fp5, B5, hf5⟩, F5⟩
        have hF5 : Hid (Ff g [] W4 w5) := hF.out.trans F5 (fun y hy => Or.inr (hfp.out y hy))
        have HBW5 : Hid (Below w.heap.size w w5) := HW4.out.trans (hF5.out.toBelow (by omega) (by simp) (by omega))
        have HN5 : w5.heap[w.heap.size]? = some (.cells #[.int .i64 0, .bool false, .string ⟨#[]⟩, .slice none 0 0] 25 (0, 0)) := (hF5.out.keep _ (by omega) (by omega) (by simp)).trans HV0.out
        have HN6 : w5.heap[w.heap.size + 1]? = some (.cells #[.int .i64 0, .int .i64 0] 34 (0, 0)) := (hF5.out.keep _ (by omega) (by omega) (by simp)).trans HV1.out
        obtain ⟨q, co, u, fk, hv, hco, hqf, hcell, hTr, hfk⟩ := B5.op.get 0 o rfl
        subst hv
        have a5 : w5.cell? ⟨g, 0, none⟩ = some (.slice (some ⟨q, 0, none⟩) 1 co) := by rw [Lib.cell_of_heap B5.hg]; rfl
        obtain ⟨xk, ck, rfl⟩ := hTr.shape
        have n1 : w5.cell? ⟨q, 1, none⟩ = some (.int .i64 o.k) := hcell 1 (by decide)
        have n2 : w5.cell? ⟨q, 2, none⟩ = some (.bool o.e) := hcell 2 (by decide)
        have n3 : w5.cell? ⟨q, 3, none⟩ = some (.string o.t) := hcell 3 (by decide)
        have n4 : w5.cell? ⟨q, 4, none⟩ = some (.slice xk o.tr.nms.length ck) := hcell 4 (by decide)
        have d0 : w5.cell? ⟨w.heap.size, 0, none⟩ = some (.int .i64 0) := by rw [Lib.cell_of_heap HN5]; rfl
        have d1 : w5.cell? ⟨w.heap.size, 1, none⟩ = some (.bool false) := by rw [Lib.cell_of_heap HN5]; rfl
        have d2 : w5.cell? ⟨w.heap.size, 2, none⟩ = some (.string ⟨#[]⟩) := by rw [Lib.cell_of_heap HN5]; rfl
        have d3 : w5.cell? ⟨w.heap.size, 3, none⟩ = some (.slice none 0 0) := by rw [Lib.cell_of_heap HN5]; rfl
        have g0 := Lib.frozen_of_heap HN5 0
        have g1 := Lib.frozen_of_heap HN5 1
        have g2 := Lib.frozen_of_heap HN5 2
        have g3 := Lib.frozen_of_heap HN5 3
        have p0 : w5.cell? ⟨w.heap.size + 1, 0, none⟩ = some (.int .i64 0) := by rw [Lib.cell_of_heap HN6]; rfl
        have p1 : w5.cell? ⟨w.heap.size + 1, 1, none⟩ = some (.int .i64 0) := by rw [Lib.cell_of_heap HN6]; rfl
        have k0 := Lib.frozen_of_heap HN6 0
        have k1 := Lib.frozen_of_heap HN6 1
        have SX := fun W' h => six (b0 := .int .i64 o.k) (b1 := .bool o.e) (b2 := .string o.t) (b3 := .slice xk o.tr.nms.length ck) (q0 := .int .i64 0) (q1 := .int .i64 0) HN5 HN6 W' h
        have hfkg := fun y hy => (B5.op.lt y (hfk y hy)).1
        have hql := (B5.op.lt q hqf).1
        have HTR : Hid (TrV w5 (g + 1) o.tr (.slice xk o.tr.nms.length ck) fk) := hTr
        have HO : Hid (clo 1 S = [o]) := ho
        have qn0 : q ≠ w.heap.size := by omega
        have qn1 : q ≠ w.heap.size + 1 := by omega
        have gn0 : g ≠ w.heap.size := by omega
        have gn1 : g ≠ w.heap.size + 1 := by omega
        generalize hnn : o.tr.nms.length = nn at n4 SX HTR
        clear HN5 HN6 F5 hF5 C hcell hTr hf5 hco hnn ho B5 hfk
        go_wp2
        obtain ⟨r0, r1, r2, r3, e0, e1, BX6, KX6⟩ := SX _ rfl
        have HBL : Hid (Below w.heap.size w ((((((w5.setCell ⟨w.heap.size, 0, none⟩ (.int .i64 o.k)).setCell ⟨w.heap.size, 1, none⟩ (.bool o.e)).setCell ⟨w.heap.size, 2, none⟩ (.string o.t)).setCell ⟨w.heap.size, 3, none⟩ (.slice xk nn ck)).setCell ⟨w.heap.size + 1, 0, none⟩ (.int .i64 0)).setCell ⟨w.heap.size + 1, 1, none⟩ (.int .i64 0))) := HBW5.out.trans BX6
        have HT6 : Hid (TrV ((((((w5.setCell ⟨w.heap.size, 0, none⟩ (.int .i64 o.k)).setCell ⟨w.heap.size, 1, none⟩ (.bool o.e)).setCell ⟨w.heap.size, 2, none⟩ (.string o.t)).setCell ⟨w.heap.size, 3, none⟩ (.slice xk nn ck)).setCell ⟨w.heap.size + 1, 0, none⟩ (.int .i64 0)).setCell ⟨w.heap.size + 1, 1, none⟩ (.int .i64 0)) w.heap.size o.tr (.slice xk nn ck) fk) := TrV.mono (B := g + 1) (by omega) _ _ _ (TrV.same _ _ _ HTR.out (fun y hy => KX6 y (by have := hfkg y hy; omega) (by have := hfkg y hy; omega)))
        clear SX BX6 KX6 d0 d1 d2 d3 g0 g1 g2 g3 p0 p1 k0 k1 HTR
        generalize (((((w5.setCell ⟨w.heap.size, 0, none⟩ (.int .i64 o.k)).setCell ⟨w.heap.size, 1, none⟩ (.bool o.e)).setCell ⟨w.heap.size, 2, none⟩ (.string o.t)).setCell ⟨w.heap.size, 3, none⟩ (.slice xk nn ck)).setCell ⟨w.heap.size + 1, 0, none⟩ (.int .i64 0)).setCell ⟨w.heap.size + 1, 1, none⟩ (.int .i64 0) = W at r0 r1 r2 r3 e0 e1 HBL HT6 ⊢
        refine bodyPost_ret (v := .tuple #[.agg #[.int .i64 o.k, .bool o.e, .string o.t, .slice xk nn ck], .agg #[.int .i64 0, .int .i64 0]]) (by simp [results, Tryd.results10, go_sem, r0, r1, r2, r3, e0, e1]) rfl ⟨⟨o.k, o.e, o.t, xk, nn, ck, by rw [HFF.out], fun _ => ⟨S, b, o, fk, HRL.out, HO.out, rfl, rfl, rfl, HT6.out⟩⟩, HBL.out⟩

end Go.Proofs.YtmknnblogfpifaaDoor
