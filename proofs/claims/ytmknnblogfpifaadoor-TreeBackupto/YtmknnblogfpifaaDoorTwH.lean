/- One node of the builder closed: the memory (own text of the verifier). -/
import Derived.Test.YtmknnblogfpifaaDoorTwG
namespace Go.Proofs.YtmknnblogfpifaaDoor
open Go.RowKit

/-- What the closing of one node needs and leaves. -/
structure Stp (wr : World) (g B : Nat) (o h : OE) (R : List OE) (b : Int) (v : Value) (fp : List Nat) (q co : Nat) (xu : Option Addr) (cu : Nat) (xh : Option Addr) (ch g2 cap2 : Nat) (w' : World) : Prop where
  hv : v = .slice (some ⟨q, 0, none⟩) (R.length + 2) co
  hco : R.length + 2 ≤ co
  b0 : wr.cell? ⟨q, (R.length + 1) * 5, none⟩ = some (.string o.nm)
  b1 : wr.cell? ⟨q, (R.length + 1) * 5 + 1, none⟩ = some (.int .i64 o.k)
  b2 : wr.cell? ⟨q, (R.length + 1) * 5 + 2, none⟩ = some (.bool o.e)
  b3 : wr.cell? ⟨q, (R.length + 1) * 5 + 3, none⟩ = some (.string o.t)
  b4 : wr.cell? ⟨q, (R.length + 1) * 5 + 4, none⟩ = some (.slice xu o.nms.length cu)
  d4 : wr.cell? ⟨q, R.length * 5 + 4, none⟩ = some (.slice xh h.nms.length ch)
  hap : (Builtin.append_ #[23, 23] 23 #[.slice xh h.nms.length ch, .slice (some ⟨wr.heap.size, 0, none⟩) 1 1]).run Tryd.prog ((wr.alloc (.cells #[.string ⟨#[]⟩, .int .i64 0, .bool false, .string ⟨#[]⟩, .slice none 0 0] 54)).drew) = .ok (.slice (some ⟨g2, 0, none⟩) (h.nms.length + 1) cap2) w'
  hcap2 : h.nms.length + 1 ≤ cap2
  z0 : w'.cell? ⟨g2, h.nms.length * 5, none⟩ = some (.string ⟨#[]⟩)
  z1 : w'.cell? ⟨g2, h.nms.length * 5 + 1, none⟩ = some (.int .i64 0)
  z2 : w'.cell? ⟨g2, h.nms.length * 5 + 2, none⟩ = some (.bool false)
  z3 : w'.cell? ⟨g2, h.nms.length * 5 + 3, none⟩ = some (.string ⟨#[]⟩)
  z4 : w'.cell? ⟨g2, h.nms.length * 5 + 4, none⟩ = some (.slice none 0 0)
  f : ∀ i, w'.frozen? ⟨g2, i, none⟩ = false
  df : w'.frozen? ⟨q, R.length * 5 + 4, none⟩ = false
  kq : w'.heap[q]? = wr.heap[q]?
  kg : w'.heap[g]? = wr.heap[g]?
  hq2 : q ≠ g2
  hgq : g ≠ q
  hgg2 : g ≠ g2
  hql : q < wr.heap.size
  hgl : g < wr.heap.size
  out : ∃ fpn, Bst (((set5 w' g2 (h.nms.length * 5) (entV o.nm o.tr (.slice xu o.nms.length cu))).setCell ⟨q, R.length * 5 + 4, none⟩ (.slice (some ⟨g2, 0, none⟩) (h.nms.length + 1) cap2)).setCell ⟨g, 0, none⟩ (.slice (some ⟨q, 0, none⟩) (R.length + 1) co)) g B (h.push o.nm o.tr :: R) b (.slice (some ⟨q, 0, none⟩) (R.length + 1) co) fpn ∧ Ff g fp wr (((set5 w' g2 (h.nms.length * 5) (entV o.nm o.tr (.slice xu o.nms.length cu))).setCell ⟨q, R.length * 5 + 4, none⟩ (.slice (some ⟨g2, 0, none⟩) (h.nms.length + 1) cap2)).setCell ⟨g, 0, none⟩ (.slice (some ⟨q, 0, none⟩) (R.length + 1) co)) ∧ ∀ x ∈ fpn, x ∈ fp ∨ wr.heap.size ≤ x
  hgw : ((set5 w' g2 (h.nms.length * 5) (entV o.nm o.tr (.slice xu o.nms.length cu))).setCell ⟨q, R.length * 5 + 4, none⟩ (.slice (some ⟨g2, 0, none⟩) (h.nms.length + 1) cap2)).heap[g]? = some (.cells #[.slice (some ⟨q, 0, none⟩) (R.length + 2) co, .int .i64 b] 65 (0, 0))

theorem sc_os (w : World) (a : Addr) (v : Value) : (w.setCell a v).os = w.os := rfl
theorem sc_tape (w : World) (a : Addr) (v : Value) : (w.setCell a v).tape = w.tape := rfl
theorem sc_output (w : World) (a : Addr) (v : Value) : (w.setCell a v).output = w.output := rfl
theorem set5_meta (w : World) (g o : Nat) (a b c d e : Value) : (set5 w g o [a, b, c, d, e]).os = w.os ∧ (set5 w g o [a, b, c, d, e]).tape = w.tape ∧ (set5 w g o [a, b, c, d, e]).output = w.output ∧ (set5 w g o [a, b, c, d, e]).heap.size = w.heap.size := by
  dsimp only [set5]
  simp only [World.size_setCell, sc_os, sc_tape, sc_output, and_self]

theorem Bst.shut {W wr : World} {g B q co : Nat} {S : List OE} {b : Int} {n m : Nat} {fpn fp : List Nat} (HO : Opn W B S (.slice (some ⟨q, 0, none⟩) n co) fpn) (HG : W.heap[g]? = some (.cells #[.slice (some ⟨q, 0, none⟩) m co, .int .i64 b] 65 (0, 0))) (HF : Ff g fp wr W) (hgB : g < B) (hBw : B ≤ wr.heap.size) :
    Bst (W.setCell ⟨g, 0, none⟩ (.slice (some ⟨q, 0, none⟩) n co)) g B S b (.slice (some ⟨q, 0, none⟩) n co) fpn ∧ Ff g fp wr (W.setCell ⟨g, 0, none⟩ (.slice (some ⟨q, 0, none⟩) n co)) := by
  refine ⟨⟨?_, HO.same (fun x hx => Below.heap_setCell _ _ _ x (fun e => ?_)), hgB, ?_⟩, HF.os, HF.tape, HF.output, by rw [World.size_setCell]; exact HF.size, fun x hx h1 h2 => (Below.heap_setCell _ _ _ x h1).trans (HF.keep x hx h1 h2)⟩
  · simp [World.setCell, Array.getElem?_modify, HG]
  · have e : x = g := e
    have := (HO.lt x hx).1
    omega
  · rw [World.size_setCell]
    exact Nat.le_trans hBw HF.size

set_option maxHeartbeats 4000000 in
theorem Bst.step {wr : World} {g B : Nat} {o h : OE} {R : List OE} {b : Int} {v : Value} {fp : List Nat} (hB : Bst wr g B (o :: h :: R) b v fp) (hL : lenS (o :: h :: R)) (hR : (rowsS (o :: h :: R)).length ≤ 1073741824) :
    ∃ q co xu cu xh ch g2 cap2 w', Stp wr g B o h R b v fp q co xu cu xh ch g2 cap2 w' := by
  obtain ⟨q, co, cs, uh, uo, fq, fh, fo, hv, hcap, hown, hcs, hK, hTh, hTo, rfl⟩ := hB.op.two
  subst hv
  have hnd := hB.op.2
  have hlts := hB.op.lt
  have hgB := hB.lt
  have hBw := hB.hB
  have hqB : B ≤ q ∧ q < wr.heap.size := hlts q (by simp)
  obtain ⟨xu, cu, rfl⟩ := hTo.shape
  have cell : ∀ i, i < (R.length + 2) * 5 → wr.cell? ⟨q, i, none⟩ = (cs ++ (entV h.nm h.tr uh ++ entV o.nm o.tr (.slice xu o.tr.nms.length cu)))[i]? := fun i hi => World.ownsRow.cellAt hown i hi
  have cellH : ∀ i, i < 5 → wr.cell? ⟨q, R.length * 5 + i, none⟩ = (entV h.nm h.tr uh)[i]? := fun i hi => by
    rw [cell _ (by omega), List.getElem?_append_right (by omega), hcs, Nat.add_sub_cancel_left, List.getElem?_append_left (by show i < 5; exact hi)]
  have cellO : ∀ i, i < 5 → wr.cell? ⟨q, (R.length + 1) * 5 + i, none⟩ = (entV o.nm o.tr (.slice xu o.tr.nms.length cu))[i]? := fun i hi => by
    rw [cell _ (by omega), List.getElem?_append_right (by omega), hcs, List.getElem?_append_right (by show 5 ≤ _; omega)]
    congr 1
    show (R.length + 1) * 5 + i - R.length * 5 - 5 = i
    omega
  have hndF : (fh ++ fo).Nodup := by
    have h1 := (List.nodup_append.1 hnd).2.1
    rw [List.append_assoc] at h1
    exact (List.nodup_append.1 h1).2.1
  have hqF : ∀ x, x ∈ fh ++ fo → x ≠ q := fun x hx e => by
    subst e
    exact (List.nodup_append.1 hnd).2.2 x (by simp) x (by simp at hx; rcases hx with hx | hx <;> simp [hx]) rfl
  have hFq : ∀ x, x ∈ fh ++ fo → x ∉ fq := fun x hx hm => by
    have h1 := (List.nodup_append.1 hnd).2.1
    rw [List.append_assoc] at h1
    exact (List.nodup_append.1 h1).2.2 x hm x hx rfl
  obtain ⟨xh, ch, rfl⟩ := hTh.shape
  obtain ⟨g2, cap2, w', hap, hcap2, hz, hfz, hkeep, hsz, o1, o2, o3, fp2, hT2, hn2, hg2, hfp2⟩ := TrV.appZ hTh o.nm o.tr (.slice xu o.tr.nms.length cu) fo hTo hndF hBw (by have := nms_le (o := h) (S := o :: h :: R) (by simp) hL; have := hR; show h.nms.length ≤ _; omega)
  have eT : h.tr.nms.length = h.nms.length := rfl
  have eO : o.tr.nms.length = o.nms.length := rfl
  rw [eT] at hap hcap2 hz hT2 cellH
  rw [eO] at hT2 cellO
  have hg2q : g2 ≠ q := by
    rcases hfp2 g2 hg2 with hx | hx
    · exact hqF g2 hx
    · omega
  have hg2g : g2 ≠ g := by
    rcases hfp2 g2 hg2 with hx | hx
    · have := (hlts g2 (by simp at hx; rcases hx with hx | hx <;> simp [hx])).1
      omega
    · omega
  have kq : w'.heap[q]? = wr.heap[q]? := hkeep q hqB.2 (fun hm => hqF q (by simp [hm]) rfl)
  have kg : w'.heap[g]? = wr.heap[g]? := hkeep g (by omega) (fun hm => by have := (hlts g (by simp [hm])).1; omega)
  have b0 : wr.cell? ⟨q, (R.length + 1) * 5, none⟩ = some (.string o.nm) := cellO 0 (by decide)
  have b1 : wr.cell? ⟨q, (R.length + 1) * 5 + 1, none⟩ = some (.int .i64 o.k) := cellO 1 (by decide)
  have b2 : wr.cell? ⟨q, (R.length + 1) * 5 + 2, none⟩ = some (.bool o.e) := cellO 2 (by decide)
  have b3 : wr.cell? ⟨q, (R.length + 1) * 5 + 3, none⟩ = some (.string o.t) := cellO 3 (by decide)
  have b4 : wr.cell? ⟨q, (R.length + 1) * 5 + 4, none⟩ = some (.slice xu o.nms.length cu) := cellO 4 (by decide)
  have d4 : wr.cell? ⟨q, R.length * 5 + 4, none⟩ = some (.slice xh h.nms.length ch) := cellH 4 (by decide)
  have z0 : w'.cell? ⟨g2, h.nms.length * 5, none⟩ = some (.string ⟨#[]⟩) := hz 0 (by decide)
  have z1 : w'.cell? ⟨g2, h.nms.length * 5 + 1, none⟩ = some (.int .i64 0) := hz 1 (by decide)
  have z2 : w'.cell? ⟨g2, h.nms.length * 5 + 2, none⟩ = some (.bool false) := hz 2 (by decide)
  have z3 : w'.cell? ⟨g2, h.nms.length * 5 + 3, none⟩ = some (.string ⟨#[]⟩) := hz 3 (by decide)
  have z4 : w'.cell? ⟨g2, h.nms.length * 5 + 4, none⟩ = some (.slice none 0 0) := hz 4 (by decide)
  have f0 := hfz (h.nms.length * 5)
  have f1 := hfz (h.nms.length * 5 + 1)
  have f2 := hfz (h.nms.length * 5 + 2)
  have f3 := hfz (h.nms.length * 5 + 3)
  have f4 := hfz (h.nms.length * 5 + 4)
  have d4' : w'.cell? ⟨q, R.length * 5 + 4, none⟩ = some (.slice xh h.nms.length ch) := (World.cell?_of_block (w := wr) (a := ⟨q, R.length * 5 + 4, none⟩) kq).trans d4
  have df : w'.frozen? ⟨q, R.length * 5 + 4, none⟩ = false := (World.frozen?_of_block (w := wr) (a := ⟨q, R.length * 5 + 4, none⟩) kq).trans (World.ownsRow.frozenAt hown _)
  have hq2 : q ≠ g2 := fun e => hg2q e.symm
  have hgq : g ≠ q := by omega
  have hgg2 : g ≠ g2 := fun e => hg2g e.symm
  have hkeep1 : ∀ x, x ∈ [q] ++ fq → w'.heap[x]? = wr.heap[x]? := fun x hx => by
    rcases List.mem_append.1 hx with hx | hx
    · simp at hx; subst hx; exact kq
    · exact hkeep x (hlts x (by simp [hx])).2 (fun hm => hFq x (by simp [hm]) hx)
  have hkeep5 : ∀ x, x ∈ [q] ++ fq → (set5 w' g2 (h.nms.length * 5) (entV o.nm o.tr (.slice xu o.nms.length cu))).heap[x]? = wr.heap[x]? := fun x hx => by
    refine (set5_other w' g2 (h.nms.length * 5) _ _ _ _ _ x (fun e => ?_)).trans (hkeep1 x hx)
    subst e
    rcases hfp2 x hg2 with hm | hm
    · rcases List.mem_append.1 hx with hx | hx
      · simp at hx; exact hg2q hx
      · exact hFq x hm hx
    · have := (hlts x (by rcases List.mem_append.1 hx with hx | hx; simp at hx; simp [hx]; simp [hx])).2
      omega
  have HO : Hid (Opn ((set5 w' g2 (h.nms.length * 5) (entV o.nm o.tr (.slice xu o.nms.length cu))).setCell ⟨q, R.length * 5 + 4, none⟩ (.slice (some ⟨g2, 0, none⟩) (h.nms.length + 1) cap2)) B (h.push o.nm o.tr :: R) (.slice (some ⟨q, 0, none⟩) (R.length + 1) co) ([q] ++ (fq ++ fp2))) :=
    Opn.close hown hcs hK hnd hT2 hn2 hfp2 hkeep5 (fun x hx => (hlts x (by rcases List.mem_append.1 hx with hx | hx; simp at hx; simp [hx]; simp [hx])).2) rfl
  have HG : Hid (((set5 w' g2 (h.nms.length * 5) (entV o.nm o.tr (.slice xu o.nms.length cu))).setCell ⟨q, R.length * 5 + 4, none⟩ (.slice (some ⟨g2, 0, none⟩) (h.nms.length + 1) cap2)).heap[g]? = some (.cells #[.slice (some ⟨q, 0, none⟩) (R.length + 2) co, .int .i64 b] 65 (0, 0))) :=
    (Below.heap_setCell _ _ _ g hgq).trans ((set5_other w' g2 (h.nms.length * 5) _ _ _ _ _ g hgg2).trans (kg.trans hB.hg))
  have hXo : (set5 w' g2 (h.nms.length * 5) (entV o.nm o.tr (.slice xu o.nms.length cu))).os = w'.os ∧ (set5 w' g2 (h.nms.length * 5) (entV o.nm o.tr (.slice xu o.nms.length cu))).tape = w'.tape ∧ (set5 w' g2 (h.nms.length * 5) (entV o.nm o.tr (.slice xu o.nms.length cu))).output = w'.output ∧ (set5 w' g2 (h.nms.length * 5) (entV o.nm o.tr (.slice xu o.nms.length cu))).heap.size = w'.heap.size := set5_meta w' g2 (h.nms.length * 5) (.string o.nm) (.int .i64 o.k) (.bool o.e) (.string o.t) (.slice xu o.nms.length cu)
  have hXk : ∀ k, k ≠ g2 → (set5 w' g2 (h.nms.length * 5) (entV o.nm o.tr (.slice xu o.nms.length cu))).heap[k]? = w'.heap[k]? := fun k hk => set5_other w' g2 (h.nms.length * 5) (.string o.nm) (.int .i64 o.k) (.bool o.e) (.string o.t) (.slice xu o.nms.length cu) k hk
  have HF2 : Hid (Ff g ([q] ++ (fq ++ fh ++ fo)) wr ((set5 w' g2 (h.nms.length * 5) (entV o.nm o.tr (.slice xu o.nms.length cu))).setCell ⟨q, R.length * 5 + 4, none⟩ (.slice (some ⟨g2, 0, none⟩) (h.nms.length + 1) cap2))) := by
    clear hT2 HO HG hkeep5
    generalize (set5 w' g2 (h.nms.length * 5) (entV o.nm o.tr (.slice xu o.nms.length cu))) = X at hXo hXk ⊢
    refine ⟨hXo.1.trans o1, hXo.2.1.trans o2, hXo.2.2.1.trans o3, ?_, fun x hx h1 h2 => ?_⟩
    · rw [World.size_setCell, hXo.2.2.2]
      exact hsz
    · refine (Below.heap_setCell _ _ _ x (fun e => h2 (by rw [e]; simp))).trans ((hXk x (fun e => ?_)).trans (hkeep x hx (fun hm => h2 (by simp [hm]))))
      subst e
      rcases hfp2 x hg2 with hm | hm
      · exact h2 (by simp at hm; rcases hm with hm | hm <;> simp [hm])
      · omega
  have HFP : Hid (∀ x ∈ [q] ++ (fq ++ fp2), x ∈ [q] ++ (fq ++ fh ++ fo) ∨ wr.heap.size ≤ x) := fun x hx => by
    simp at hx
    rcases hx with hx | hx | hx
    · exact Or.inl (by simp [hx])
    · exact Or.inl (by simp [hx])
    · rcases hfp2 x hx with hm | hm
      · exact Or.inl (by simp at hm; rcases hm with hm | hm <;> simp [hm])
      · exact Or.inr hm
  obtain ⟨HW, HF3⟩ := Bst.shut HO.out HG.out HF2.out hgB hBw
  exact ⟨q, co, xu, cu, xh, ch, g2, cap2, w', rfl, hcap, b0, b1, b2, b3, b4, d4, hap, hcap2, z0, z1, z2, z3, z4, hfz, df, kq, kg, hq2, hgq, hgg2, hqB.2, by omega, ⟨_, HW, HF3, HFP.out⟩, HG.out⟩

end Go.Proofs.YtmknnblogfpifaaDoor
