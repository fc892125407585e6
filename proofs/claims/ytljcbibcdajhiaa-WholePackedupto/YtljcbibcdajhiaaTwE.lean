/- The builder in memory: what is open lies in a row of entries. -/
import Derived.Test.YtljcbibcdajhiaaTwD
namespace Go.Proofs.Ytljcbibcdajhiaa
open Go.RowKit

theorem KidV.unsnoc {w : World} {B : Nat} : ∀ (nms : List ByteArray) (ks : List Tr) (cs : List Value) (fq : List Nat) (s : ByteArray) (T : Tr), nms.length = ks.length → KidV w B (nms ++ [s]) (ks ++ [T]) cs fq → ∃ cs' u fq' fp, cs = cs' ++ entV s T u ∧ TrV w B T u fp ∧ KidV w B nms ks cs' fq' ∧ fq = fq' ++ fp
  | [], [], cs, fq, s, T, _, h => by
    have h : KidV w B (s :: []) (T :: []) cs fq := h
    rw [KidV] at h
    obtain ⟨v, cs', fp, fq', rfl, h2, h3, rfl⟩ := h
    rw [KidV] at h3
    obtain ⟨rfl, rfl⟩ := h3
    exact ⟨[], v, [], fp, by simp, h2, by rw [KidV]; exact ⟨rfl, rfl⟩, by simp⟩
  | a :: nms, K :: ks, cs, fq, s, T, hl, h => by
    have h : KidV w B (a :: (nms ++ [s])) (K :: (ks ++ [T])) cs fq := h
    rw [KidV] at h
    obtain ⟨v, cs', fp, fq', rfl, h2, h3, rfl⟩ := h
    obtain ⟨c1, u, f1, f2, rfl, h4, h5, rfl⟩ := KidV.unsnoc nms ks cs' fq' s T (by simpa using hl) h3
    exact ⟨entV a K v ++ c1, u, fp ++ f1, f2, by simp, h4, by rw [KidV]; exact ⟨v, c1, fp, f1, rfl, h2, h5, rfl⟩, by simp⟩
  | [], _ :: _, _, _, _, _, hl, _ => by simp at hl
  | _ :: _, [], _, _, _, _, hl, _ => by simp at hl
theorem KidV.len {w : World} {B : Nat} : ∀ (nms : List ByteArray) (ks : List Tr) (cs : List Value) (fq : List Nat), KidV w B nms ks cs fq → cs.length = nms.length * 5 ∧ nms.length = ks.length
  | [], [], cs, fq, h => by rw [KidV] at h; rw [h.1]; simp
  | a :: nms, K :: ks, cs, fq, h => by
    rw [KidV] at h
    obtain ⟨v, cs', fp, fq', rfl, h2, h3, rfl⟩ := h
    have := KidV.len nms ks cs' fq' h3
    rw [List.length_append]
    show 5 + _ = _ ∧ _
    simp
    omega
  | [], _ :: _, _, _, h => by simp [KidV] at h
  | _ :: _, [], _, _, h => by simp [KidV] at h

/-- v is the slice of what is open, S: the last first; in rows from B on. -/
def Opn (w : World) (B : Nat) (S : List OE) (v : Value) (fp : List Nat) : Prop := TrV w B (.mk 0 false ⟨#[]⟩ (S.reverse.map OE.nm) (S.reverse.map OE.tr)) v fp ∧ fp.Nodup
theorem oe_k (o : OE) : o.tr.k = o.k := rfl
theorem Opn.shape {w : World} {B : Nat} {S : List OE} {v : Value} {fp : List Nat} (h : Opn w B S v fp) : ∃ x c, v = .slice x S.length c := by
  obtain ⟨x, c, hv⟩ := h.1.shape
  refine ⟨x, c, ?_⟩
  have e : (Tr.mk 0 false ⟨#[]⟩ (S.reverse.map OE.nm) (S.reverse.map OE.tr)).nms.length = S.length := by show (S.reverse.map OE.nm).length = _; simp
  rw [hv, e]
theorem Opn.nil (w : World) (B : Nat) : Opn w B [] (.slice none 0 0) [] := by
  refine ⟨?_, by simp⟩
  show TrV w B (.mk 0 false ⟨#[]⟩ [] []) _ _
  rw [TrV]
  exact ⟨[], [], World.ownsRow_nil _ _ _ _, by rw [KidV]; exact ⟨rfl, rfl⟩, rfl⟩
theorem Opn.same {w w' : World} {B : Nat} {S : List OE} {v : Value} {fp : List Nat} (h : Opn w B S v fp) (e : ∀ b ∈ fp, w'.heap[b]? = w.heap[b]?) : Opn w' B S v fp := ⟨TrV.same _ _ _ h.1 e, h.2⟩
theorem Opn.lt {w : World} {B : Nat} {S : List OE} {v : Value} {fp : List Nat} (h : Opn w B S v fp) : ∀ b ∈ fp, B ≤ b ∧ b < w.heap.size := TrV.lt _ _ _ h.1
/-- The last two of what is open: where their cells lie, and what is the rest. -/
theorem Opn.two {w : World} {B : Nat} {o h : OE} {R : List OE} {v : Value} {fp : List Nat} (H : Opn w B (o :: h :: R) v fp) : ∃ g cap cs uh uo fq fh fo, v = .slice (some ⟨g, 0, none⟩) (R.length + 2) cap ∧ R.length + 2 ≤ cap ∧
    w.ownsRow B 83 5 v (R.length + 2) (cs ++ (entV h.nm h.tr uh ++ entV o.nm o.tr uo)) ∧ cs.length = R.length * 5 ∧ KidV w B (R.reverse.map OE.nm) (R.reverse.map OE.tr) cs fq ∧ TrV w B h.tr uh fh ∧ TrV w B o.tr uo fo ∧ fp = [g] ++ (fq ++ fh ++ fo) := by
  obtain ⟨H1, H2⟩ := H
  rw [TrV] at H1
  obtain ⟨cs, fq, h1, h2, rfl⟩ := H1
  have e1 : (o :: h :: R).reverse.map OE.nm = (R.reverse.map OE.nm ++ [h.nm]) ++ [o.nm] := by simp
  have e2 : (o :: h :: R).reverse.map OE.tr = (R.reverse.map OE.tr ++ [h.tr]) ++ [o.tr] := by simp
  rw [e1, e2] at h2
  obtain ⟨cs1, uo, fq1, fo, rfl, ho, h3, rfl⟩ := KidV.unsnoc _ _ _ _ _ _ (by simp) h2
  obtain ⟨cs2, uh, fq2, fh, rfl, hh, h4, rfl⟩ := KidV.unsnoc _ _ _ _ _ _ (by simp) h3
  have hl := KidV.len _ _ _ _ h4
  have e3 : ((o :: h :: R).reverse.map OE.nm).length = R.length + 2 := by simp
  rw [e3] at h1
  obtain ⟨g, cap, hv, _, _⟩ := World.ownsRow.form h1 (by omega)
  have hcap : R.length + 2 ≤ cap := by
    rcases h1.2 with ⟨e, _⟩ | ⟨_, cap', _, e, _, _, hn, _⟩
    · rw [e] at hv; cases hv
    · rw [hv] at e; injection e with _ _ e; subst e; exact hn
  refine ⟨g, cap, cs2, uh, uo, fq2, fh, fo, hv, hcap, by rw [List.append_assoc] at h1; exact h1, by rw [hl.1]; simp, h4, hh, ho, ?_⟩
  have eb : blkL v = [g] := by rw [hv]; rfl
  rw [eb]
/-- One node closed: the holder's list has one kid more, the row is one shorter. -/
theorem Opn.close {w w1 w2 : World} {B g cap : Nat} {o h : OE} {R : List OE} {cs : List Value} {uh uo v' : Value} {fq fh fo fh' : List Nat}
    (hown : w.ownsRow B 83 5 (.slice (some ⟨g, 0, none⟩) (R.length + 2) cap) (R.length + 2) (cs ++ (entV h.nm h.tr uh ++ entV o.nm o.tr uo))) (hcs : cs.length = R.length * 5) (hK : KidV w B (R.reverse.map OE.nm) (R.reverse.map OE.tr) cs fq) (hn : ([g] ++ (fq ++ fh ++ fo)).Nodup)
    (hT : TrV w1 B (.mk h.k h.e h.t (h.nms ++ [o.nm]) (h.ks ++ [o.tr])) v' fh') (hf : fh'.Nodup) (hfp : ∀ b ∈ fh', b ∈ fh ++ fo ∨ w.heap.size ≤ b) (hkeep : ∀ b, b ∈ [g] ++ fq → w1.heap[b]? = w.heap[b]?) (hlt : ∀ b ∈ [g] ++ fq, b < w.heap.size)
    (hw2 : w2 = w1.setCell ⟨g, R.length * 5 + 4, none⟩ v') :
    Opn w2 B (h.push o.nm o.tr :: R) (.slice (some ⟨g, 0, none⟩) (R.length + 1) cap) ([g] ++ (fq ++ fh')) := by
  have hg1 : w1.ownsRow B 83 5 (.slice (some ⟨g, 0, none⟩) (R.length + 2) cap) (R.length + 2) (cs ++ (entV h.nm h.tr uh ++ entV o.nm o.tr uo)) := own_same hown (fun b hb => hkeep b (by simp [blkL, Value.ownBlock] at hb; simp [hb]))
  obtain ⟨hs1, hs2⟩ := World.ownsRow.stored hg1 (R.length * 5 + 4) v'
  rw [← hw2] at hs1 hs2
  have hset : (cs ++ (entV h.nm h.tr uh ++ entV o.nm o.tr uo)).set (R.length * 5 + 4) v' = cs ++ (entV h.nm h.tr v' ++ entV o.nm o.tr uo) := by
    rw [List.set_append_right _ _ (by omega), hcs, Nat.add_sub_cancel_left]
    rfl
  rw [hset] at hs1
  have hdis : ∀ b, b ∈ fq ++ fh' → b ≠ g := fun b hb e => by
    subst e
    rcases List.mem_append.1 hb with hb | hb
    · exact (List.nodup_append.1 hn).2.2 b (by simp) b (by simp [hb]) rfl
    · rcases hfp b hb with hb | hb
      · exact (List.nodup_append.1 hn).2.2 b (by simp) b (by simp at hb; rcases hb with hb | hb <;> simp [hb]) rfl
      · have := hlt b (by simp); omega
  have hk2 : ∀ b, b ∈ fq ++ fh' → w2.heap[b]? = w1.heap[b]? := fun b hb => by
    rw [hw2]
    exact Below.heap_setCell _ _ _ b (hdis b hb)
  have hK2 : KidV w2 B (R.reverse.map OE.nm) (R.reverse.map OE.tr) cs fq := KidV.same _ _ _ _ hK (fun b hb => (hk2 b (by simp [hb])).trans (hkeep b (by simp [hb])))
  have hT2 : TrV w2 B (h.push o.nm o.tr).tr v' fh' := TrV.same _ _ _ hT (fun b hb => hk2 b (by simp [hb]))
  refine ⟨?_, ?_⟩
  · rw [TrV]
    refine ⟨cs ++ entV h.nm (h.push o.nm o.tr).tr v', fq ++ fh', ?_, ?_, rfl⟩
    · have e3 : ((h.push o.nm o.tr :: R).reverse.map OE.nm).length = R.length + 1 := by simp
      rw [e3]
      refine ⟨by rw [List.length_append, hcs]; show _ + 5 = _; omega, ?_⟩
      rcases hs1.2 with ⟨e, _⟩ | ⟨g', cap', cur, e, hb, hh, hnc, hcm, hcs', ht⟩
      · cases e
      · injection e with e1 _ e3
        injection e1 with e1
        injection e1 with e1
        subst e1 e3
        refine .inr ⟨g, cap, cur, rfl, hb, hh, by omega, hcm, hcs', ?_⟩
        have := congrArg (List.take ((R.length + 1) * 5)) ht
        rw [List.take_take, show min ((R.length + 1) * 5) ((R.length + 2) * 5) = (R.length + 1) * 5 by omega] at this
        rw [this, ← List.append_assoc, List.take_append_of_le_length (by rw [List.length_append, hcs]; show _ ≤ _ + 5; omega), List.take_of_length_le (by rw [List.length_append, hcs]; show _ + 5 ≤ _; omega)]
        rfl
    · have e1 : (h.push o.nm o.tr :: R).reverse.map OE.nm = R.reverse.map OE.nm ++ [h.nm] := by simp; rfl
      have e2 : (h.push o.nm o.tr :: R).reverse.map OE.tr = R.reverse.map OE.tr ++ [(h.push o.nm o.tr).tr] := by simp
      rw [e1, e2]
      exact KidV.snoc _ _ _ _ _ _ _ _ hK2 hT2
  · refine List.nodup_append.2 ⟨by simp, List.nodup_append.2 ⟨?_, hf, fun x hx y hy e => ?_⟩, fun x hx y hy e => ?_⟩
    · have h1 := (List.nodup_append.1 hn).2.1
      rw [List.append_assoc] at h1
      exact (List.nodup_append.1 h1).1
    · subst e
      rcases hfp x hy with hb | hb
      · have h1 := (List.nodup_append.1 hn).2.1
        rw [List.append_assoc] at h1
        exact (List.nodup_append.1 h1).2.2 x hx x hb rfl
      · have := hlt x (by simp [hx]); omega
    · simp at hx
      subst hx e
      exact hdis x hy rfl

end Go.Proofs.Ytljcbibcdajhiaa
