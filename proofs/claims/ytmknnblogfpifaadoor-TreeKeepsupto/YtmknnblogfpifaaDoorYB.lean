/- TyG TyH TyI TyJ TyL, gathered (own text of the verifier; made by joint.py). -/
import Derived.Test.YtmknnblogfpifaaDoorYA
import Derived.Lib.SliceRun
import Derived.Deep.RegionLaw
namespace Go.Proofs.YtmknnblogfpifaaDoor
open Go.RowKit

theorem entV_len (s : ByteArray) (T : Tr) (v : Value) : (entV s T v).length = 5 := rfl
/-- One kid, and what holds when it is another. -/
theorem KidV.rep {w : World} {B : Nat} : ∀ (nms : List ByteArray) (ks : List Tr) (cs : List Value) (fq : List Nat), KidV w B nms ks cs fq → ∀ (i : Nat) (s : ByteArray) (K0 : Tr), nms[i]? = some s → ks[i]? = some K0 →
    ∃ u fk cs1 cs2 fa fb, cs = cs1 ++ entV s K0 u ++ cs2 ∧ cs1.length = i * 5 ∧ fq = fa ++ (fk ++ fb) ∧ TrV w B K0 u fk ∧
      ∀ (w2 : World) (K : Tr) (u' : Value) (fk' : List Nat), TrV w2 B K u' fk' → (∀ b ∈ fa ++ fb, w2.heap[b]? = w.heap[b]?) → KidV w2 B nms (ks.set i K) (cs1 ++ entV s K u' ++ cs2) (fa ++ (fk' ++ fb))
  | [], _, cs, fq, _, i, s, K0, h, _ => by simp at h
  | _ :: _, [], cs, fq, _, i, s, K0, _, h => by simp at h
  | a :: nms, T :: ks, cs, fq, h, 0, s, K0, hs, hK => by
    simp at hs hK
    subst hs hK
    rw [KidV] at h
    obtain ⟨v, cs', fp, fq', rfl, h2, h3, rfl⟩ := h
    refine ⟨v, fp, [], cs', [], fq', rfl, rfl, rfl, h2, fun w2 K u' fk' hV hb => ?_⟩
    rw [List.set_cons_zero, KidV]
    exact ⟨u', cs', fk', fq', rfl, hV, KidV.same _ _ _ _ h3 (fun b hm => hb b (by simpa using hm)), rfl⟩
  | a :: nms, T :: ks, cs, fq, h, i + 1, s, K0, hs, hK => by
    rw [KidV] at h
    obtain ⟨v, cs', fp, fq', rfl, h2, h3, rfl⟩ := h
    obtain ⟨u, fk, cs1, cs2, fa, fb, rfl, e2, rfl, e4, e5⟩ := KidV.rep nms ks cs' fq' h3 i s K0 (by simpa using hs) (by simpa using hK)
    refine ⟨u, fk, entV a T v ++ cs1, cs2, fp ++ fa, fb, by simp, by rw [List.length_append, e2, entV_len]; omega, by simp, e4, fun w2 K u' fk' hV hb => ?_⟩
    rw [List.set_cons_succ, KidV]
    refine ⟨v, cs1 ++ entV s K u' ++ cs2, fp, fa ++ (fk' ++ fb), by simp, TrV.same _ _ _ h2 (fun b hm => hb b (by simp [hm])), e5 w2 K u' fk' hV (fun b hm => hb b ?_), by simp⟩
    rcases List.mem_append.1 hm with hm | hm
    · simp [hm]
    · simp [hm]

/-- The tree with another one where the names lead. -/
def repT : List ByteArray → Tr → Tr → Tr
  | [], _, K => K
  | s :: l, .mk k e t nms ks, K => match nms.findIdx? (fun n => decide (n = s)) with
    | none => .mk k e t nms ks
    | some i => match ks[i]? with
      | none => .mk k e t nms ks
      | some K0 => .mk k e t nms (ks.set i (repT l K0 K))

/-- A node at a place, its kids in rows of their own. -/
def TN (w : World) (B g o : Nat) (T : Tr) (v : Value) (fp : List Nat) : Prop := w.cell? ⟨g, o, none⟩ = some (.int .i64 T.k) ∧ w.cell? ⟨g, o + 1, none⟩ = some (.bool T.e) ∧ w.cell? ⟨g, o + 2, none⟩ = some (.string T.t) ∧ w.cell? ⟨g, o + 3, none⟩ = some v ∧ TrV w B T v fp ∧ fp.Nodup ∧ g ∉ fp

theorem Rch.head {w : World} {g o g' o' : Nat} {L : List ByteArray} (h : Rch w g o L g' o') : (L = [] ∧ g' = g ∧ o' = o) ∨ ∃ s l q z n c i, L = s :: l ∧ w.cell? ⟨g, o + 3, none⟩ = some (.slice (some ⟨q, z, none⟩) n c) ∧ i < n ∧ w.cell? ⟨q, z + i * 5, none⟩ = some (.string s) ∧ Rch w q (z + i * 5 + 1) l g' o' := by
  induction h with
  | nil => exact .inl ⟨rfl, rfl, rfl⟩
  | @snoc g1 o1 q z n c i l s h1 h2 h3 h4 ih =>
    rcases ih with ⟨rfl, rfl, rfl⟩ | ⟨s', l', q', z', n', c', i', rfl, e2, e3, e4, e5⟩
    · exact .inr ⟨s, [], q, z, n, c, i, rfl, h2, h3, h4, Rch.nil _ _⟩
    · exact .inr ⟨s', l' ++ [s], q', z', n', c', i', rfl, e2, e3, e4, e5.snoc h2 h3 h4⟩

theorem cell_lt {w : World} {g o : Nat} {v : Value} (h : w.cell? ⟨g, o, none⟩ = some v) : g < w.heap.size := World.block_lt_of_cell? _ _ h
theorem cell_same {w w2 : World} {g o : Nat} (h : w2.heap[g]? = w.heap[g]?) : w2.cell? ⟨g, o, none⟩ = w.cell? ⟨g, o, none⟩ := World.cell?_of_block (w := w) (w' := w2) (a := ⟨g, o, none⟩) h

/-- One level down, and back up when the kid is another. -/
theorem TN.level {w : World} {B g o : Nat} {T : Tr} {v : Value} {fp : List Nat} (h : TN w B g o T v fp) (i : Nat) (s : ByteArray) (K0 : Tr) (hs : T.nms[i]? = some s) (hK : T.ks[i]? = some K0) :
    ∃ q cap u0 fk0, v = .slice (some ⟨q, 0, none⟩) T.nms.length cap ∧ w.cell? ⟨q, i * 5, none⟩ = some (.string s) ∧ TN w B q (i * 5 + 1) K0 u0 fk0 ∧ q ∈ fp ∧ (∀ b ∈ fk0, b ∈ fp) ∧
      ∀ (w2 : World) (K : Tr) (v2 : Value) (fk2 : List Nat), TN w2 B q (i * 5 + 1) K v2 fk2 → (∀ b ∈ fk2, b ∈ fk0 ∨ w.heap.size ≤ b) → (∀ b, b < w.heap.size → b ∉ fk0 → b ≠ q → w2.heap[b]? = w.heap[b]?) → (w2.heap[q]? = w.heap[q]? ∨ ((w2.heap[q]? = (w.setCell ⟨q, i * 5 + 4, none⟩ v2).heap[q]?) ∧ K.k = K0.k ∧ K.e = K0.e ∧ K.t = K0.t)) →
        ∃ fp2, TN w2 B g o (.mk T.k T.e T.t T.nms (T.ks.set i K)) v fp2 ∧ ∀ b ∈ fp2, b ∈ fp ∨ w.heap.size ≤ b := by
  obtain ⟨k, e, t, nms, ks⟩ := T
  obtain ⟨c0, c1, c2, c3, hV, hn, hg⟩ := h
  change nms[i]? = some s at hs
  change ks[i]? = some K0 at hK
  have hi : i < nms.length := (List.getElem?_eq_some_iff.1 hs).1
  rw [TrV] at hV
  obtain ⟨cs, fq, h1, h2, rfl⟩ := hV
  obtain ⟨u, fk, cs1, cs2, fa, fb, rfl, e2, rfl, e4, e5⟩ := KidV.rep nms ks cs fq h2 i s K0 hs hK
  rcases h1.2 with ⟨_, h0⟩ | ⟨q, cap, cur, rfl, hb, hq, hnc, hcm, hsz, htk⟩
  · omega
  have hcell : ∀ j, j < 5 → w.cell? ⟨q, i * 5 + j, none⟩ = (entV s K0 u)[j]? := fun j hj => by
    rw [World.ownsRow.cellAt h1 (i * 5 + j) (by omega)]
    rw [List.append_assoc, List.getElem?_append_right (by omega), e2, List.getElem?_append_left (by rw [entV_len]; omega)]
    congr 1; omega
  have hbl : blkL (Value.slice (some ⟨q, 0, none⟩) nms.length cap) = [q] := rfl
  rw [hbl] at hn hg ⊢
  have hqn : q ∉ fa ++ (fk ++ fb) := (List.nodup_cons.1 hn).1
  have hn2 : (fa ++ (fk ++ fb)).Nodup := (List.nodup_cons.1 hn).2
  have hqf : q ∉ fk := fun hm => hqn (by simp [hm])
  have hgq : g ≠ q := fun hh => hg (by rw [hh]; simp)
  have hgk : g ∉ fk := fun hm => hg (by simp [hm])
  have hfk : fk.Nodup := (List.nodup_append.1 (List.nodup_append.1 hn2).2.1).1
  refine ⟨q, cap, u, fk, rfl, hcell 0 (by omega), ⟨hcell 1 (by omega), hcell 2 (by omega), hcell 3 (by omega), hcell 4 (by omega), e4, hfk, hqf⟩, by simp, fun b hb => by simp [hb], fun w2 K v2 fk2 hT hk2 hfr hqq => ?_⟩
  obtain ⟨d0, d1, d2, d3, dV, dn, dq⟩ := hT
  have hab : ∀ b ∈ fa ++ fb, w2.heap[b]? = w.heap[b]? := fun b hm => by
    have hb1 : b ∈ fa ++ (fk ++ fb) := by
      rcases List.mem_append.1 hm with hm | hm
      · simp [hm]
      · simp [hm]
    have hlt := (KidV.lt _ _ _ _ h2 b hb1).2
    refine hfr b hlt (fun hbk => ?_) (fun hbq => hqn (by rw [← hbq]; exact hb1))
    rcases List.mem_append.1 hm with hm | hm
    · exact (List.nodup_append.1 hn2).2.2 b hm b (by simp [hbk]) rfl
    · exact (List.nodup_append.1 (List.nodup_append.1 hn2).2.1).2.2 b hbk b hm rfl
  have hKV := e5 w2 K v2 fk2 dV hab
  have hrow : w2.ownsRow B 54 5 (.slice (some ⟨q, 0, none⟩) nms.length cap) nms.length (cs1 ++ entV s K v2 ++ cs2) := by
    rcases hqq with hqq | ⟨hqq, f1, f2, f3⟩
    · have hw := own_same (w' := w2) h1 (fun x hx => by rw [hbl] at hx; simp at hx; rw [hx]; exact hqq)
      have g1 : Value.int .i64 K0.k = .int .i64 K.k := by have := hcell 1 (by omega); rw [← cell_same hqq, d0] at this; exact (Option.some.inj this).symm
      have g2 : Value.bool K0.e = .bool K.e := by have := hcell 2 (by omega); rw [← cell_same hqq, show i * 5 + 2 = i * 5 + 1 + 1 from rfl, d1] at this; exact (Option.some.inj this).symm
      have g3 : Value.string K0.t = .string K.t := by have := hcell 3 (by omega); rw [← cell_same hqq, show i * 5 + 3 = i * 5 + 1 + 2 from rfl, d2] at this; exact (Option.some.inj this).symm
      have g4 : u = v2 := by have := hcell 4 (by omega); rw [← cell_same hqq, show i * 5 + 4 = i * 5 + 1 + 3 from rfl, d3] at this; exact (Option.some.inj this).symm
      have : entV s K v2 = entV s K0 u := by unfold entV; rw [g1, g2, g3, g4]
      rw [this]; exact hw
    · have hst := (World.ownsRow.stored h1 (i * 5 + 4) v2).1
      have key : (cs1 ++ entV s K0 u ++ cs2).set (i * 5 + 4) v2 = cs1 ++ entV s K v2 ++ cs2 := by
        rw [List.append_assoc, List.set_append_right _ _ (by omega), e2, show i * 5 + 4 - i * 5 = 4 by omega, List.append_assoc]
        unfold entV; rw [f1, f2, f3]; rfl
      rw [key] at hst
      exact own_same hst (fun x hx => by rw [hbl] at hx; simp at hx; rw [hx]; exact hqq)
  have hgs : w2.heap[g]? = w.heap[g]? := hfr g (cell_lt c0) hgk hgq
  have hks : ∀ b ∈ fa ++ fb, b ∉ fk2 := fun b hm hb2 => by
    have hb1 : b ∈ fa ++ (fk ++ fb) := by
      rcases List.mem_append.1 hm with hm | hm
      · simp [hm]
      · simp [hm]
    have hlt := (KidV.lt _ _ _ _ h2 b hb1).2
    rcases hk2 b hb2 with hbk | hbk
    · rcases List.mem_append.1 hm with hm | hm
      · exact (List.nodup_append.1 hn2).2.2 b hm b (by simp [hbk]) rfl
      · exact (List.nodup_append.1 (List.nodup_append.1 hn2).2.1).2.2 b hbk b hm rfl
    · omega
  have hqlt : q < w.heap.size := heap_lt hq
  refine ⟨q :: (fa ++ (fk2 ++ fb)), ⟨(cell_same hgs).trans c0, (cell_same hgs).trans c1, (cell_same hgs).trans c2, (cell_same hgs).trans c3, ?_, ?_, ?_⟩, fun b hb => ?_⟩
  · rw [TrV]
    exact ⟨_, _, hrow, hKV, rfl⟩
  · refine List.nodup_cons.2 ⟨fun hm => ?_, List.nodup_append.2 ⟨(List.nodup_append.1 hn2).1, List.nodup_append.2 ⟨dn, (List.nodup_append.1 (List.nodup_append.1 hn2).2.1).2.1, fun x hx y hy hxy => hks y (by simp [hy]) (by rw [← hxy]; exact hx)⟩, fun x hx y hy hxy => ?_⟩⟩
    · rcases List.mem_append.1 hm with hm | hm
      · exact hqn (by simp [hm])
      · rcases List.mem_append.1 hm with hm | hm
        · exact dq hm
        · exact hqn (by simp [hm])
    · rcases List.mem_append.1 hy with hy | hy
      · exact hks x (by simp [hx]) (by rw [hxy]; exact hy)
      · exact (List.nodup_append.1 hn2).2.2 x hx y (by simp [hy]) hxy
  · intro hm
    rcases List.mem_cons.1 hm with hm | hm
    · exact hgq hm
    · rcases List.mem_append.1 hm with hm | hm
      · exact hg (by simp [hm])
      · rcases List.mem_append.1 hm with hm | hm
        · rcases hk2 g hm with hm | hm
          · exact hgk hm
          · have := cell_lt c0; omega
        · exact hg (by simp [hm])
  · rcases List.mem_cons.1 hb with hb | hb
    · exact .inl (by simp [hb])
    · rcases List.mem_append.1 hb with hb | hb
      · exact .inl (by simp [hb])
      · rcases List.mem_append.1 hb with hb | hb
        · rcases hk2 b hb with hb | hb
          · exact .inl (by simp [hb])
          · exact .inr hb
        · exact .inl (by simp [hb])

theorem KidV.lenE {w : World} {B : Nat} : ∀ (nms : List ByteArray) (ks : List Tr) (cs : List Value) (fq : List Nat), KidV w B nms ks cs fq → nms.length = ks.length
  | [], [], _, _, _ => rfl
  | s :: nms, T :: ks, cs, fq, h => by
    rw [KidV] at h
    obtain ⟨v, cs', fp, fq', _, _, h3, _⟩ := h
    simp [KidV.lenE nms ks cs' fq' h3]
  | [], _ :: _, cs, fq, h => by simp [KidV] at h
  | _ :: _, [], cs, fq, h => by simp [KidV] at h
theorem TrV.lenE {w : World} {B : Nat} {T : Tr} {v : Value} {fp : List Nat} (h : TrV w B T v fp) : T.nms.length = T.ks.length := by
  obtain ⟨k, e, t, nms, ks⟩ := T
  rw [TrV] at h
  obtain ⟨cs, fq, _, h2, _⟩ := h
  exact KidV.lenE _ _ _ _ h2
theorem Up.find {ns : List ByteArray} (U : Up ns) {i : Nat} {s : ByteArray} (h : ns[i]? = some s) : ns.findIdx? (fun n => decide (n = s)) = some i := by
  obtain ⟨hi, he⟩ := List.getElem?_eq_some_iff.1 h
  rw [List.findIdx?_eq_some_iff_getElem]
  refine ⟨hi, by simp [he], fun j hj hp => ?_⟩
  have hp' : ns[j] = s := by simpa using hp
  have := U.at hj hi
  rw [nmA_of (List.getElem?_eq_getElem (by omega : j < ns.length)), nmA_of h, hp', cmpB_refl] at this
  omega
theorem Up.sub {ns : List ByteArray} (U : Up ns) {i : Nat} {s : ByteArray} (h : ns[i]? = some s) {ks : List Tr} {K : Tr} (hK : ks[i]? = some K) : sub s ns ks = some K := by
  obtain ⟨hi, he⟩ := List.getElem?_eq_some_iff.1 h
  refine sub_at s ns ks i K (fun j hj hp => ?_) h hK
  have := U.at hj hi
  rw [hp, nmA_of h, cmpB_refl] at this
  omega
theorem repT_at {k : Int} {e : Bool} {t : ByteArray} {nms : List ByteArray} {ks : List Tr} (U : Up nms) {i : Nat} {s : ByteArray} {K0 : Tr} (h : nms[i]? = some s) (hK : ks[i]? = some K0) (l : List ByteArray) (K : Tr) : repT (s :: l) (.mk k e t nms ks) K = .mk k e t nms (ks.set i (repT l K0 K)) := by
  rw [repT, U.find h]
  simp only [hK]

/-- What holds where the names lead, and back at the root when it is changed there. -/
def Foc (w : World) (B g o : Nat) (T : Tr) (fp : List Nat) (L : List ByteArray) (g' o' : Nat) : Prop := ∃ T' v' fp', TN w B g' o' T' v' fp' ∧ (∀ b ∈ fp', b ∈ fp) ∧ ((L = [] ∧ g' = g ∧ o' = o ∧ T' = T) ∨ g' ∈ fp) ∧ ((rch L T).1 = 0 → (rch L T).2 = T') ∧
  ∀ (w2 : World) (K : Tr) (u : Value) (fk : List Nat), K.k = T'.k → K.e = T'.e → K.t = T'.t → TrV w2 B K u fk → fk.Nodup → (∀ b ∈ fk, b ∈ fp' ∨ w.heap.size ≤ b) → (∀ b, b < w.heap.size → b ∉ fp' → b ≠ g' → w2.heap[b]? = w.heap[b]?) → w2.heap[g']? = (w.setCell ⟨g', o' + 3, none⟩ u).heap[g']? →
    ∃ v2 fp2, TN w2 B g o (repT L T K) v2 fp2 ∧ ∀ b ∈ fp2, b ∈ fp ∨ w.heap.size ≤ b

theorem TN.set {w w2 : World} {B g o : Nat} {T K : Tr} {v u : Value} {fp fk : List Nat} (h : TN w B g o T v fp) (k1 : K.k = T.k) (k2 : K.e = T.e) (k3 : K.t = T.t) (hV : TrV w2 B K u fk) (hn : fk.Nodup) (hf : ∀ b ∈ fk, b ∈ fp ∨ w.heap.size ≤ b) (hw : w2.heap[g]? = (w.setCell ⟨g, o + 3, none⟩ u).heap[g]?) : TN w2 B g o K u fk := by
  obtain ⟨c0, c1, c2, c3, _, _, hg⟩ := h
  have hs : ∀ j, w2.cell? ⟨g, j, none⟩ = (w.setCell ⟨g, o + 3, none⟩ u).cell? ⟨g, j, none⟩ := fun j => cell_same hw
  refine ⟨?_, ?_, ?_, ?_, hV, hn, fun hm => ?_⟩
  · rw [hs, World.cell?_setCell_other (w := w) (a := ⟨g, o + 3, none⟩) (b := ⟨g, o, none⟩) (h := fun h => by injection h with h1 h2; omega), k1]; exact c0
  · rw [hs, World.cell?_setCell_other (w := w) (a := ⟨g, o + 3, none⟩) (b := ⟨g, o + 1, none⟩) (h := fun h => by injection h with h1 h2; omega), k2]; exact c1
  · rw [hs, World.cell?_setCell_other (w := w) (a := ⟨g, o + 3, none⟩) (b := ⟨g, o + 2, none⟩) (h := fun h => by injection h with h1 h2; omega), k3]; exact c2
  · rw [hs]; exact World.cell?_setCell_same _ _ _ c3
  · rcases hf g hm with hm | hm
    · exact hg hm
    · have := cell_lt c0; omega

theorem TN.focus {w : World} {B : Nat} : ∀ (L : List ByteArray) (g o : Nat) (T : Tr) (v : Value) (fp : List Nat) (g' o' : Nat), TN w B g o T v fp → ascT T → Rch w g o L g' o' → Foc w B g o T fp L g' o'
  | [], g, o, T, v, fp, g', o', h, hA, hR => by
    rcases hR.head with ⟨_, rfl, rfl⟩ | ⟨s, l, q, z, n, c, i, e1, _⟩
    · exact ⟨T, v, fp, h, fun b hb => hb, .inl ⟨rfl, rfl, rfl, rfl⟩, fun _ => rfl, fun w2 K u fk k1 k2 k3 hV hn hf _ hw => ⟨u, fk, h.set k1 k2 k3 hV hn hf hw, hf⟩⟩
    · cases e1
  | s :: l, g, o, T, v, fp, g', o', h, hA, hR => by
    rcases hR.head with ⟨e1, _⟩ | ⟨s', l', q', z, n, c, i, e1, e2, e3, e4, e5⟩
    · cases e1
    obtain ⟨rfl, rfl⟩ : s = s' ∧ l = l' := by simpa using e1
    have hc3 := h.2.2.2.1
    have hV := h.2.2.2.2.1
    obtain ⟨x, c', hx⟩ := hV.shape
    have hv : v = .slice (some ⟨q', z, none⟩) n c := by rw [hc3] at e2; exact Option.some.inj e2
    have hn : n = T.nms.length := by rw [hv] at hx; injection hx
    obtain ⟨s0, hs0⟩ : ∃ s0, T.nms[i]? = some s0 := ⟨_, List.getElem?_eq_getElem (by omega)⟩
    obtain ⟨K0, hK0⟩ : ∃ K0, T.ks[i]? = some K0 := ⟨_, List.getElem?_eq_getElem (by rw [← hV.lenE]; omega)⟩
    obtain ⟨q, cap, u0, fk0, hvq, hcell, hTN, hqf, hsub, hback⟩ := h.level i s0 K0 hs0 hK0
    obtain ⟨rfl, rfl⟩ : q' = q ∧ z = 0 := by
      rw [hv] at hvq
      injection hvq with h1
      injection h1 with h1
      injection h1 with h1 h2
      exact ⟨h1, h2⟩
    have hss : s0 = s := by
      rw [Nat.zero_add, hcell] at e4
      simpa using e4
    subst hss
    obtain ⟨U1, U2⟩ := Tr.up hA
    rw [Nat.zero_add] at e5
    obtain ⟨T', v', fp', f1, f2, f3, f4, f5⟩ := TN.focus l q' (i * 5 + 1) K0 u0 fk0 g' o' hTN (ascL_at _ _ _ U2 hK0) e5
    have hg'fp : g' ∈ fp := by
      rcases f3 with ⟨_, rfl, _, _⟩ | f3
      · exact hqf
      · exact hsub _ f3
    refine ⟨T', v', fp', f1, fun b hb => hsub b (f2 b hb), .inr hg'fp, fun hr => ?_, fun w2 K u fk k1 k2 k3 hV2 hn2 hf hfr hw => ?_⟩
    · rw [rch] at hr ⊢
      by_cases hk : T.k ≠ 3
      · rw [if_pos hk] at hr; cases hr
      · rw [if_neg hk, U1.sub hs0 hK0] at hr ⊢
        exact f4 hr
    · obtain ⟨v2, fp2, hT2, hsub2⟩ := f5 w2 K u fk k1 k2 k3 hV2 hn2 hf hfr hw
      have hqlt : q' < w.heap.size := cell_lt hcell
      obtain ⟨fp3, hT3, hsub3⟩ := hback w2 (repT l K0 K) v2 fp2 hT2 hsub2 (fun b hb h1 h2 => hfr b hb (fun hm => h1 (f2 b hm)) (fun hm => by
        rcases f3 with ⟨_, e, _, _⟩ | f3
        · exact h2 (hm.trans e)
        · exact h1 (by rw [hm]; exact f3))) (by
        rcases f3 with ⟨rfl, rfl, rfl, rfl⟩ | f3
        · right
          have hvu : v2 = u := by
            have a1 := hT2.2.2.2.1
            have a2 := (hTN.set k1 k2 k3 hV2 hn2 (fun b hb => (hf b hb).imp (fun h => f2 b h) id) hw).2.2.2.1
            rw [a1] at a2; exact Option.some.inj a2
          rw [hvu]
          exact ⟨hw, k1, k2, k3⟩
        · left
          exact hfr q' hqlt (fun hm => hTN.2.2.2.2.2.2 (f2 q' hm)) (fun hm => hTN.2.2.2.2.2.2 (by rw [hm]; exact f3)))
      obtain ⟨k, e, t, nms, ks⟩ := T
      refine ⟨v, fp3, ?_, hsub3⟩
      rw [repT_at (k := k) (e := e) (t := t) (nms := nms) (ks := ks) U1 hs0 hK0]
      exact hT3

theorem zeroET (w : World) : (zeroValue 54).run Tryd.prog w = .ok (.agg #[.string ⟨#[]⟩, .int .i64 0, .bool false, .string ⟨#[]⟩, .slice none 0 0]) w := by
  obtain ⟨i0, hi, hz0, hz1, hz2⟩ := info_parts infoET
  simp [zeroValue, typeInfo, hi, hz0]
theorem zcE : (Builtin.zeroCells #[.string ⟨#[]⟩, .int .i64 0, .bool false, .string ⟨#[]⟩, .slice none 0 0] 1).toList = zEnt := by kernel_rfl
theorem run_clear5 (w : World) (ty : TypeId) (b o c : Nat) (hc : ∀ j, j < 5 → (w.cell? ⟨b, o + j, none⟩).isSome = true) (hf : ∀ j, j < 5 → w.frozen? ⟨b, o + j, none⟩ = false) :
    (Builtin.clear_ #[23] ty #[.slice (some ⟨b, o, none⟩) 1 c]).run Tryd.prog w = .ok (.tuple #[]) (w.setCells b o zEnt) := by
  have hst := run_storeCells_cells (P := Tryd.prog) b o zEnt 0 w (by simpa [zEnt] using hc) (by simpa [zEnt] using hf) (by simp [zEnt, Value.oneCell'])
  simp only [Nat.add_zero] at hst
  simp [Builtin.clear_, run_underlying undLET, Value.cells]
  rw [zcE, hst]
  rfl

/-- A row of entries' cells are of one cell each. -/
theorem KidV.one {w : World} {B : Nat} : ∀ (nms : List ByteArray) (ks : List Tr) (cs : List Value) (fq : List Nat), KidV w B nms ks cs fq → ∀ u ∈ cs, u.oneCell' = true
  | [], [], cs, fq, h, u, hu => by rw [KidV] at h; rw [h.1] at hu; cases hu
  | s :: nms, T :: ks, cs, fq, h, u, hu => by
    rw [KidV] at h
    obtain ⟨v, cs', fp, fq', rfl, h2, h3, _⟩ := h
    rcases List.mem_append.1 hu with hu | hu
    · obtain ⟨x, c, rfl⟩ := h2.shape
      simp [entV] at hu
      rcases hu with rfl | rfl | rfl | rfl | rfl <;> rfl
    · exact KidV.one nms ks cs' fq' h3 u hu
  | [], _ :: _, cs, fq, h, u, hu => by simp [KidV] at h
  | _ :: _, [], cs, fq, h, u, hu => by simp [KidV] at h

set_option maxHeartbeats 4000000 in
set_option maxRecDepth 100000 in
theorem delete_any (B q n cap i : Nat) (cs : List Value) (w : World) (h : w.ownsRow B 54 5 (.slice (some ⟨q, 0, none⟩) n cap) n cs) (h1 : ∀ u ∈ cs, u.oneCell' = true) (hi : i < n) (hn : n ≤ 1954687338211) :
    Calls Tryd.prog 32 #[.slice (some ⟨q, 0, none⟩) n cap, .int .i64 i, .int .i64 (i + 1)] w fun e w' => e = .returned (.slice (some ⟨q, 0, none⟩) (n - 1) cap) ∧ w' = (w.drew.setCells q (i * 5) (cs.drop ((i + 1) * 5))).setCells q ((n - 1) * 5) zEnt := by
  obtain ⟨cur, hb, hq, hnc, hcm, hsz, htk⟩ : ∃ cur, B ≤ q ∧ w.heap[q]? = some (.cells cur 54 (0, 0)) ∧ n ≤ cap ∧ cap ≤ maxLen ∧ cur.size = cap * 5 ∧ cur.toList.take (n * 5) = cs := by
    rcases h.2 with ⟨h0, _⟩ | ⟨g, cap', cur, h0, r⟩
    · cases h0
    · injection h0 with e1 e2 e3
      injection e1 with e1
      injection e1 with e1
      subst e1 e3
      exact ⟨cur, r⟩
  have hlen : cs.length = n * 5 := h.1
  have hcap : cap ≤ 9223372036854775807 := hcm
  obtain ⟨i0, hi0, hz0, hz1, hz2⟩ := info_parts infoET
  obtain ⟨news, hnews⟩ : ∃ news, news = cs.drop ((i + 1) * 5) := ⟨_, rfl⟩
  have s1 : Hid (news.length = (n - (i + 1)) * 5) := by
    show news.length = _
    rw [hnews, List.length_drop, hlen]; omega
  have s2 : Hid (∀ u ∈ news, u.oneCell' = true) := fun u hu => by rw [hnews] at hu; exact h1 u (List.mem_of_mem_drop hu)
  have hcells : ∀ j, j < cap * 5 → (w.drew.cell? ⟨q, j, none⟩).isSome = true ∧ w.drew.frozen? ⟨q, j, none⟩ = false := fun j hj => by
    have hq' : w.drew.heap[q]? = some (.cells cur 54 (0, 0)) := hq
    refine ⟨?_, by unfold World.frozen?; rw [hq']; simp⟩
    rw [Lib.cell_of_heap hq', Array.getElem?_eq_getElem (by omega)]; rfl
  obtain ⟨A, hA, hsrc⟩ : ∃ A : Addr, (if cap = i + 1 then some (⟨q, 0, none⟩ : Addr) else some ⟨q, (i + 1) * 5, none⟩) = some A ∧ Hid (∀ t u, news[t]? = some u → w.drew.cell? (A.add t) = some u) := by
    by_cases hc : cap = i + 1
    · refine ⟨⟨q, 0, none⟩, by simp [hc], fun t u hu => ?_⟩
      have h0 : news.length = 0 := by rw [s1.out]; omega
      rw [List.length_eq_zero_iff.1 h0] at hu
      simp at hu
    · refine ⟨⟨q, (i + 1) * 5, none⟩, by simp [hc], fun t u hu => ?_⟩
      have hq' : w.drew.heap[q]? = some (.cells cur 54 (0, 0)) := hq
      have ht : t < news.length := (List.getElem?_eq_some_iff.1 hu).1
      rw [s1.out] at ht
      rw [hnews, List.getElem?_drop, ← htk, List.getElem?_take_of_lt (by omega), Array.getElem?_toList] at hu
      rw [Addr.add_lit, Lib.cell_of_heap hq']
      exact hu
  have s3 : Hid (∀ t, t < news.length → (w.drew.cell? ⟨q, 0 + i * 5 + t, none⟩).isSome = true ∧ w.drew.frozen? ⟨q, 0 + i * 5 + t, none⟩ = false) := fun t ht => by
    rw [s1.out] at ht
    exact hcells _ (by omega)
  obtain ⟨W1, hW1⟩ : ∃ W1, W1 = w.drew.setCells q (0 + i * 5) news := ⟨_, rfl⟩
  have hW : Hid (W1 = w.drew.setCells q (0 + i * 5) news) := hW1
  have HN : Hid (news = cs.drop ((i + 1) * 5)) := hnews
  have hic : i ≤ cap := by omega
  have hjc : i + 1 ≤ cap := by omega
  have hcl : ∀ ty, (Builtin.clear_ #[23] ty #[.slice (some ⟨q, (n - 1) * 5, none⟩) 1 (cap - (n - 1))]).run Tryd.prog W1 = .ok (.tuple #[]) (W1.setCells q ((n - 1) * 5) zEnt) := fun ty => by
    refine run_clear5 W1 ty q _ _ (fun j hj => ?_) (fun j hj => ?_)
    · rw [hW1]
      by_cases hin : 0 + i * 5 ≤ (n - 1) * 5 + j ∧ (n - 1) * 5 + j < 0 + i * 5 + news.length
      · have := World.cell?_setCells_in q news (0 + i * 5) w.drew (fun t ht => (s3.out t ht).1) ((n - 1) * 5 + j - (0 + i * 5)) (by omega)
        rw [show 0 + i * 5 + ((n - 1) * 5 + j - (0 + i * 5)) = (n - 1) * 5 + j by omega] at this
        rw [this]; rfl
      · rw [World.cell?_setCells_out q news _ w.drew ⟨q, (n - 1) * 5 + j, none⟩ (fun _ _ => by show (n - 1) * 5 + j < 0 + i * 5 ∨ 0 + i * 5 + news.length ≤ (n - 1) * 5 + j; omega)]
        exact (hcells _ (by omega)).1
    · rw [hW1, World.frozen?_setCells]; exact (hcells _ (by omega)).2
  have e1 : i + (n - (i + 1)) = n - 1 := by omega
  have e2 : n - (n - 1) = 1 := by omega
  have e3 : ¬ cap = n - 1 := by omega
  clear hnews hW1 hcells hq htk hsz hlen h h1
  go_enter Tryd.func32, Tryd.ntmps32
  go_wp2_with fail
  have j1 : (i : Int) + 1 ≤ (n : Int) := by omega
  have j2 : (0 : Int) ≤ (i : Int) + 1 := by omega
  go_region_law (refine step_append_room rfl (.tmp 22) (.tmp 25) 23 rfl 54 i0 5 undLET hi0 hz1 q 0 i cap (by simp [Act.eval, Act.put]) A (n - (i + 1)) (cap - (i + 1)) news (by simp [Act.eval, Act.put]) s1.out hsrc.out s2.out (by omega) s3.out ?_; rw [← hW.out])
  go_wp2_with fail
  go_ret
  exact ⟨rfl, by rw [hW.out, HN.out, Nat.zero_add]⟩

theorem setCells_block (q : Nat) (ty : TypeId) : ∀ (vs : List Value) (o : Nat) (w : World) (C : Array Value), w.heap[q]? = some (.cells C ty (0, 0)) → o + vs.length ≤ C.size → ∃ C' : Array Value, (w.setCells q o vs).heap[q]? = some (.cells C' ty (0, 0)) ∧ C'.toList = C.toList.take o ++ vs ++ C.toList.drop (o + vs.length)
  | [], o, w, C, h, ho => ⟨C, h, by simp⟩
  | v :: vs, o, w, C, h, ho => by
    simp at ho
    have h1 := Go.Joins.block_setCell (i := o) h v
    obtain ⟨C', h2, h3⟩ := setCells_block q ty vs (o + 1) (w.setCell ⟨q, o, none⟩ v) (C.setIfInBounds o v) h1 (by rw [Array.size_setIfInBounds]; omega)
    refine ⟨C', h2, ?_⟩
    rw [h3, Array.toList_setIfInBounds]
    have hlt : o < C.toList.length := by rw [Array.length_toList]; omega
    rw [List.take_set, List.drop_set_of_lt (by omega), List.take_add_one, List.getElem?_eq_getElem hlt]
    simp
    rw [show o + 1 + vs.length = o + (vs.length + 1) by omega]
    have e0 : (List.take o C.toList).length = o := by rw [List.length_take]; omega
    rw [List.set_append_right _ _ (by omega), e0, Nat.sub_self]
    simp

theorem own_heapC {w : World} {B q n cap : Nat} {cs : List Value} (h : w.ownsRow B 54 5 (.slice (some ⟨q, 0, none⟩) n cap) n cs) : ∃ cur, B ≤ q ∧ w.heap[q]? = some (.cells cur 54 (0, 0)) ∧ n ≤ cap ∧ cap ≤ maxLen ∧ cur.size = cap * 5 ∧ cur.toList.take (n * 5) = cs := by
  rcases h.2 with ⟨h0, _⟩ | ⟨g, cap', cur, h0, r⟩
  · cases h0
  · injection h0 with e1 e2 e3
    injection e1 with e1
    injection e1 with e1
    subst e1 e3
    exact ⟨cur, r⟩

/-- The row behind Delete. -/
theorem own_delete {w : World} {B q n cap i : Nat} {cs : List Value} (h : w.ownsRow B 54 5 (.slice (some ⟨q, 0, none⟩) n cap) n cs) (hi : i < n) :
    ((w.drew.setCells q (i * 5) (cs.drop ((i + 1) * 5))).setCells q ((n - 1) * 5) zEnt).ownsRow B 54 5 (.slice (some ⟨q, 0, none⟩) (n - 1) cap) (n - 1) (cs.take (i * 5) ++ cs.drop ((i + 1) * 5)) := by
  obtain ⟨cur, hb, hq, hnc, hcm, hsz, htk⟩ := own_heapC h
  have hlen : cs.length = n * 5 := h.1
  have hq' : w.drew.heap[q]? = some (.cells cur 54 (0, 0)) := hq
  have hcl : cur.toList.length = cap * 5 := by rw [Array.length_toList]; exact hsz
  obtain ⟨C1, g1, g2⟩ := setCells_block q 54 (cs.drop ((i + 1) * 5)) (i * 5) w.drew cur hq' (by rw [List.length_drop]; omega)
  have l1 : C1.size = cap * 5 := by
    have := congrArg List.length g2
    rw [List.length_append, List.length_append, List.length_take, List.length_drop, List.length_drop, Array.length_toList, hcl, hlen] at this
    omega
  obtain ⟨C2, g3, g4⟩ := setCells_block q 54 zEnt ((n - 1) * 5) _ C1 g1 (by rw [show zEnt.length = 5 from rfl]; omega)
  generalize (w.drew.setCells q (i * 5) (cs.drop ((i + 1) * 5))).setCells q ((n - 1) * 5) zEnt = W at g3 ⊢
  have lz : zEnt.length = 5 := rfl
  generalize zEnt = Z at g4 lz
  have l2 : C2.size = cap * 5 := by
    have := congrArg List.length g4
    rw [List.length_append, List.length_append, List.length_take, List.length_drop, Array.length_toList, Array.length_toList, lz] at this
    omega
  refine ⟨by rw [List.length_append, List.length_take, List.length_drop]; omega, .inr ⟨q, cap, C2, rfl, hb, g3, by omega, hcm, l2, ?_⟩⟩
  have hl3 : (C1.toList.take ((n - 1) * 5)).length = (n - 1) * 5 := by rw [List.length_take, Array.length_toList]; omega
  rw [g4, List.append_assoc, List.take_append_of_le_length (by rw [hl3]; exact Nat.le_refl _), List.take_of_length_le (by rw [hl3]; exact Nat.le_refl _), g2]
  have hl4 : (cur.toList.take (i * 5) ++ cs.drop ((i + 1) * 5)).length = (n - 1) * 5 := by rw [List.length_append, List.length_take, List.length_drop, hcl]; omega
  rw [List.take_append_of_le_length (by rw [hl4]; exact Nat.le_refl _), List.take_of_length_le (by rw [hl4]; exact Nat.le_refl _)]
  congr 1
  rw [← htk, List.take_take, Nat.min_eq_left (by omega)]

theorem KidV.del {w : World} {B : Nat} : ∀ (nms : List ByteArray) (ks : List Tr) (cs : List Value) (fq : List Nat), KidV w B nms ks cs fq → ∀ i, i < nms.length →
    ∃ fq', KidV w B (nms.eraseIdx i) (ks.eraseIdx i) (cs.take (i * 5) ++ cs.drop ((i + 1) * 5)) fq' ∧ fq'.Sublist fq
  | [], _, cs, fq, _, i, h => by simp at h
  | _ :: _, [], cs, fq, h, i, _ => by simp [KidV] at h
  | a :: nms, T :: ks, cs, fq, h, 0, _ => by
    rw [KidV] at h
    obtain ⟨v, cs', fp, fq', rfl, h2, h3, rfl⟩ := h
    refine ⟨fq', ?_, List.sublist_append_right _ _⟩
    rw [List.eraseIdx_cons_zero, List.eraseIdx_cons_zero]
    have e : (entV a T v ++ cs').take (0 * 5) ++ (entV a T v ++ cs').drop ((0 + 1) * 5) = cs' := by simp [entV]
    rw [e]; exact h3
  | a :: nms, T :: ks, cs, fq, h, i + 1, hi => by
    rw [KidV] at h
    obtain ⟨v, cs', fp, fq', rfl, h2, h3, rfl⟩ := h
    obtain ⟨fr, h4, h5⟩ := KidV.del nms ks cs' fq' h3 i (by simpa using hi)
    refine ⟨fp ++ fr, ?_, List.Sublist.append (List.Sublist.refl _) h5⟩
    rw [List.eraseIdx_cons_succ, List.eraseIdx_cons_succ, KidV]
    refine ⟨v, _, fp, fr, ?_, h2, h4, rfl⟩
    rw [List.take_append, List.drop_append, List.take_of_length_le (by rw [entV_len]; omega), List.drop_of_length_le (by rw [entV_len]; omega), entV_len, show (i + 1) * 5 - 5 = i * 5 by omega, show (i + 1 + 1) * 5 - 5 = (i + 1) * 5 by omega]
    simp

/-- A directory without its kid i. -/
def delK (T : Tr) (i : Nat) : Tr := .mk T.k T.e T.t (T.nms.eraseIdx i) (T.ks.eraseIdx i)
/-- What Delete leaves is the directory without that kid. -/
theorem TrV.del {w : World} {B q cap : Nat} {T : Tr} {fp : List Nat} {i : Nat} (h : TrV w B T (.slice (some ⟨q, 0, none⟩) T.nms.length cap) fp) (hn : fp.Nodup) (hi : i < T.nms.length) :
    ∃ cs, w.ownsRow B 54 5 (.slice (some ⟨q, 0, none⟩) T.nms.length cap) T.nms.length cs ∧ (∀ u ∈ cs, u.oneCell' = true) ∧
      ∃ fp', TrV ((w.drew.setCells q (i * 5) (cs.drop ((i + 1) * 5))).setCells q ((T.nms.length - 1) * 5) zEnt) B (delK T i) (.slice (some ⟨q, 0, none⟩) (T.nms.length - 1) cap) fp' ∧ fp'.Nodup ∧ ∀ b ∈ fp', b ∈ fp := by
  obtain ⟨k, e, t, nms, ks⟩ := T
  rw [TrV] at h
  obtain ⟨cs, fq, h1, h2, rfl⟩ := h
  change i < nms.length at hi
  obtain ⟨fq', h3, h4⟩ := KidV.del nms ks cs fq h2 i hi
  have hq : q ∉ fq := (List.nodup_cons.1 hn).1
  refine ⟨cs, h1, KidV.one _ _ _ _ h2, q :: fq', ?_, ?_, ?_⟩
  · show TrV _ B (.mk k e t (nms.eraseIdx i) (ks.eraseIdx i)) (.slice (some ⟨q, 0, none⟩) (nms.length - 1) cap) (q :: fq')
    rw [TrV]
    have hl : (nms.eraseIdx i).length = nms.length - 1 := by rw [List.length_eraseIdx, if_pos hi]
    refine ⟨cs.take (i * 5) ++ cs.drop ((i + 1) * 5), fq', by rw [hl]; exact own_delete h1 hi, ?_, rfl⟩
    refine KidV.same _ _ _ _ h3 (fun b hb => ?_)
    have hbq : b ≠ q := fun he => hq (by rw [← he]; exact h4.subset hb)
    exact (heapE_setCells q _ _ b hbq _).trans (heapE_setCells q _ _ b hbq _)
  · exact List.nodup_cons.2 ⟨fun hm => hq (h4.subset hm), ((List.nodup_cons.1 hn).2).sublist h4⟩
  · intro b hb
    rcases List.mem_cons.1 hb with rfl | hb
    · exact List.mem_cons_self
    · exact List.mem_cons_of_mem _ (h4.subset hb)

mutual
theorem TrV.cells {w : World} {B : Nat} : ∀ (T : Tr) (v : Value) (fp : List Nat), TrV w B T v fp → ∀ b ∈ fp, ∃ C, w.heap[b]? = some (.cells C 54 (0, 0))
  | .mk k e t nms ks, v, fp, h, b, hb => by
    rw [TrV] at h
    obtain ⟨cs, fq, h1, h2, rfl⟩ := h
    rcases List.mem_append.1 hb with hb | hb
    · rcases h1.2 with ⟨rfl, _⟩ | ⟨g, cap, cur, rfl, _, hg, _⟩
      · simp [blkL, Value.ownBlock] at hb
      · simp [blkL, Value.ownBlock] at hb
        subst hb
        exact ⟨cur, hg⟩
    · exact KidV.cells nms ks cs fq h2 b hb
theorem KidV.cells {w : World} {B : Nat} : ∀ (nms : List ByteArray) (ks : List Tr) (cs : List Value) (fq : List Nat), KidV w B nms ks cs fq → ∀ b ∈ fq, ∃ C, w.heap[b]? = some (.cells C 54 (0, 0))
  | [], [], cs, fq, h, b, hb => by rw [KidV] at h; rw [h.2] at hb; cases hb
  | s :: nms, T :: ks, cs, fq, h, b, hb => by
    rw [KidV] at h
    obtain ⟨v, cs', fp, fq', _, h2, h3, rfl⟩ := h
    rcases List.mem_append.1 hb with hb | hb
    · exact TrV.cells T v fp h2 b hb
    · exact KidV.cells nms ks cs' fq' h3 b hb
  | [], _ :: _, cs, fq, h, b, hb => by simp [KidV] at h
  | _ :: _, [], cs, fq, h, b, hb => by simp [KidV] at h
end
theorem TrV.unfrozen {w : World} {B : Nat} {T : Tr} {v : Value} {fp : List Nat} (h : TrV w B T v fp) (b i : Nat) (hb : b ∈ fp) : w.frozen? ⟨b, i, none⟩ = false := by
  obtain ⟨C, hC⟩ := TrV.cells T v fp h b hb
  unfold World.frozen?; rw [hC]; simp

/-- Names none of which is s. -/
theorem BS.none {ns : List ByteArray} {s : ByteArray} {i : Nat} (B : BS ns s i) (U : Up ns) (hc : ¬ (i < ns.length ∧ cmpB (nmA ns i) s = 0)) : ns.findIdx? (fun n => decide (n = s)) = Option.none := by
  rw [List.findIdx?_eq_none_iff]
  intro x hx
  obtain ⟨j, hj, rfl⟩ := List.getElem_of_mem hx
  simp only [decide_eq_false_iff_not]
  intro he
  have he' : nmA ns j = s := by rw [nmA_of (List.getElem?_eq_getElem hj)]; exact he
  by_cases h1 : j < i
  · have := B.lo j h1; rw [he', cmpB_refl] at this; omega
  · by_cases h2 : j = i
    · exact hc ⟨by omega, by rw [← h2, he', cmpB_refl]⟩
    · have := U.at (a := i) (b := j) (by omega) hj
      have h3 := B.hi i (Nat.le_refl _) (by omega)
      rw [he'] at this; omega
end Go.Proofs.YtmknnblogfpifaaDoor
