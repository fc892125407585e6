/- Gathered: TwC TwD TwE TwF. -/
import Derived.Test.YtdjjleahfciipaaGreatDoorQm
/- Trees that a call builds: lists of kids in rows of their own, with the blocks that they lie in. -/
namespace Go.Proofs.YtdjjleahfciipaaGreatDoor
open Go.RowKit

def Tr.k : Tr → Int | .mk k _ _ _ _ => k
def Tr.e : Tr → Bool | .mk _ e _ _ _ => e
def Tr.t : Tr → ByteArray | .mk _ _ t _ _ => t
def Tr.nms : Tr → List ByteArray | .mk _ _ _ nms _ => nms
def Tr.ks : Tr → List Tr | .mk _ _ _ _ ks => ks
/-- A slice's own block, if it has one. -/
def blkL (v : Value) : List Nat := match v.ownBlock with
  | none => []
  | some b => [b]
/-- The cells of an entry: its node's kids are v. -/
def entV (s : ByteArray) (T : Tr) (v : Value) : List Value := [.string s, .int .i64 T.k, .bool T.e, .string T.t, v]
mutual
/-- v is the slice of the kids of T, in rows from block B on; fp: the blocks. -/
def TrV (w : World) (B : Nat) : Tr → Value → List Nat → Prop
  | .mk _ _ _ nms ks, v, fp => ∃ cs fq, w.ownsRow B 103 5 v nms.length cs ∧ KidV w B nms ks cs fq ∧ fp = blkL v ++ fq
def KidV (w : World) (B : Nat) : List ByteArray → List Tr → List Value → List Nat → Prop
  | [], [], cs, fq => cs = [] ∧ fq = []
  | s :: nms, T :: ks, cs, fq => ∃ v cs' fp fq', cs = entV s T v ++ cs' ∧ TrV w B T v fp ∧ KidV w B nms ks cs' fq' ∧ fq = fp ++ fq'
  | _, _, _, _ => False
end
theorem own_same {w w' : World} {B : Nat} {ty : TypeId} {size n : Nat} {v : Value} {xs : List Value} (h : w.ownsRow B ty size v n xs) (e : ∀ b ∈ blkL v, w'.heap[b]? = w.heap[b]?) : w'.ownsRow B ty size v n xs := by
  refine ⟨h.1, ?_⟩
  rcases h.2 with hn | ⟨g, cap, cur, rfl, hb, hg, rest⟩
  · exact .inl hn
  · exact .inr ⟨g, cap, cur, rfl, hb, (e g (by simp [blkL, Value.ownBlock])).trans hg, rest⟩
mutual
theorem TrV.same {w w' : World} {B : Nat} : ∀ (T : Tr) (v : Value) (fp : List Nat), TrV w B T v fp → (∀ b ∈ fp, w'.heap[b]? = w.heap[b]?) → TrV w' B T v fp
  | .mk k e t nms ks, v, fp, h, hs => by
    rw [TrV] at h ⊢
    obtain ⟨cs, fq, h1, h2, rfl⟩ := h
    exact ⟨cs, fq, own_same h1 (fun b hb => hs b (by simp [hb])), KidV.same nms ks cs fq h2 (fun b hb => hs b (by simp [hb])), rfl⟩
theorem KidV.same {w w' : World} {B : Nat} : ∀ (nms : List ByteArray) (ks : List Tr) (cs : List Value) (fq : List Nat), KidV w B nms ks cs fq → (∀ b ∈ fq, w'.heap[b]? = w.heap[b]?) → KidV w' B nms ks cs fq
  | [], [], cs, fq, h, _ => by rw [KidV] at h ⊢; exact h
  | s :: nms, T :: ks, cs, fq, h, hs => by
    rw [KidV] at h ⊢
    obtain ⟨v, cs', fp, fq', h1, h2, h3, rfl⟩ := h
    exact ⟨v, cs', fp, fq', h1, TrV.same T v fp h2 (fun b hb => hs b (by simp [hb])), KidV.same nms ks cs' fq' h3 (fun b hb => hs b (by simp [hb])), rfl⟩
  | [], _ :: _, _, _, h, _ => by simp [KidV] at h
  | _ :: _, [], _, _, h, _ => by simp [KidV] at h
end
theorem KidV.snoc {w : World} {B : Nat} : ∀ (nms : List ByteArray) (ks : List Tr) (cs : List Value) (fq : List Nat) (s : ByteArray) (T : Tr) (v : Value) (fp : List Nat), KidV w B nms ks cs fq → TrV w B T v fp → KidV w B (nms ++ [s]) (ks ++ [T]) (cs ++ entV s T v) (fq ++ fp)
  | [], [], cs, fq, s, T, v, fp, h, h2 => by
    rw [KidV] at h
    obtain ⟨rfl, rfl⟩ := h
    show KidV w B (s :: []) (T :: []) _ _
    rw [KidV]
    exact ⟨v, [], fp, [], by simp, h2, by rw [KidV]; exact ⟨rfl, rfl⟩, by simp⟩
  | a :: nms, K :: ks, cs, fq, s, T, v, fp, h, h2 => by
    rw [KidV] at h
    obtain ⟨v1, cs', fp1, fq', rfl, h3, h4, rfl⟩ := h
    show KidV w B (a :: (nms ++ [s])) (K :: (ks ++ [T])) _ _
    rw [KidV]
    exact ⟨v1, cs' ++ entV s T v, fp1, fq' ++ fp, by simp, h3, KidV.snoc nms ks cs' fq' s T v fp h4 h2, by simp⟩
  | [], _ :: _, _, _, _, _, _, _, h, _ => by simp [KidV] at h
  | _ :: _, [], _, _, _, _, _, _, h, _ => by simp [KidV] at h
mutual
theorem TrV.lt {w : World} {B : Nat} : ∀ (T : Tr) (v : Value) (fp : List Nat), TrV w B T v fp → ∀ b ∈ fp, B ≤ b ∧ b < w.heap.size
  | .mk k e t nms ks, v, fp, h => by
    rw [TrV] at h
    obtain ⟨cs, fq, h1, h2, rfl⟩ := h
    intro b hb
    rcases List.mem_append.1 hb with hb | hb
    · unfold blkL at hb
      cases ho : v.ownBlock with
      | none => rw [ho] at hb; simp at hb
      | some g =>
        rw [ho] at hb
        simp at hb
        subst hb
        exact h1.lt b ho
    · exact KidV.lt nms ks cs fq h2 b hb
theorem KidV.lt {w : World} {B : Nat} : ∀ (nms : List ByteArray) (ks : List Tr) (cs : List Value) (fq : List Nat), KidV w B nms ks cs fq → ∀ b ∈ fq, B ≤ b ∧ b < w.heap.size
  | [], [], cs, fq, h => by rw [KidV] at h; rw [h.2]; intro b hb; cases hb
  | s :: nms, T :: ks, cs, fq, h => by
    rw [KidV] at h
    obtain ⟨v, cs', fp, fq', h1, h2, h3, rfl⟩ := h
    intro b hb
    rcases List.mem_append.1 hb with hb | hb
    · exact TrV.lt T v fp h2 b hb
    · exact KidV.lt nms ks cs' fq' h3 b hb
  | [], _ :: _, _, _, h => by simp [KidV] at h
  | _ :: _, [], _, _, h => by simp [KidV] at h
end

end Go.Proofs.YtdjjleahfciipaaGreatDoor
/- Built trees: a kid more; and they are read as trees. -/
namespace Go.Proofs.YtdjjleahfciipaaGreatDoor
open Go.RowKit

theorem infoET : (Tryz.prog.info? 103).map (fun i => (i.zero, i.size, i.bytes)) = some (some (.agg #[.string ⟨#[]⟩, .int .i64 0, .bool false, .string ⟨#[]⟩, .slice none 0 0]), 5, 72) := by kernel_rfl
theorem undLET : Tryz.prog.underlying 23 = some (.slice 103) := by kernel_rfl
theorem TrV.shape {w : World} {B : Nat} {T : Tr} {v : Value} {fp : List Nat} (h : TrV w B T v fp) : ∃ x c, v = .slice x T.nms.length c := by
  obtain ⟨k, e, t, nms, ks⟩ := T
  rw [TrV] at h
  obtain ⟨cs, fq, h1, _⟩ := h
  rcases h1.2 with ⟨hv, h0⟩ | ⟨q, cap, cur, hv, _⟩
  · exact ⟨none, 0, by rw [hv]; show _ = Value.slice none nms.length 0; rw [h0]⟩
  · exact ⟨_, _, hv⟩
/-- A kid more, appended: where the kid's five cells lie in a block x0 of their own. -/
theorem TrV.app {w : World} {B : Nat} {T : Tr} {v : Value} {fp : List Nat} (h : TrV w B T v fp) (s : ByteArray) (K : Tr) (u : Value) (fk : List Nat) (hK : TrV w B K u fk) (hn : (fp ++ fk).Nodup) (a : Addr) (c : Nat) (hc : ∀ j x, (entV s K u)[j]? = some x → w.cell? (a.add j) = some x) (hB : B ≤ w.heap.size) (hl : T.nms.length ≤ 1073741824) :
    ∃ g cap w', (Builtin.append_ #[23, 23] 23 #[v, .slice (some a) 1 c]).run Tryz.prog w = .ok (.slice (some ⟨g, 0, none⟩) (T.nms.length + 1) cap) w' ∧
      (∃ fp', TrV w' B (.mk T.k T.e T.t (T.nms ++ [s]) (T.ks ++ [K])) (.slice (some ⟨g, 0, none⟩) (T.nms.length + 1) cap) fp' ∧ fp'.Nodup ∧ (∀ b ∈ fp', b ∈ fp ++ fk ∨ w.heap.size ≤ b)) ∧ w.grownBy w' v.ownBlock ∧ T.nms.length + 1 ≤ cap := by
  obtain ⟨k, e, t, nms, ks⟩ := T
  rw [TrV] at h
  obtain ⟨cs, fq, h1, h2, rfl⟩ := h
  obtain ⟨i0, hi, hz0, hz1, hz2⟩ := info_parts infoET
  have hl' : nms.length ≤ 1073741824 := hl
  have hu : u.oneCell' = true := by
    obtain ⟨x, c, rfl⟩ := hK.shape
    rfl
  obtain ⟨g, cap, w', hr, ho, hg, hat, hlt⟩ := run_append_lies (P := Tryz.prog) w 23 23 B 103 i0 (.agg #[.string ⟨#[]⟩, .int .i64 0, .bool false, .string ⟨#[]⟩, .slice none 0 0]) 5 72 undLET hi hz0 hz1 hz2 rfl (by decide) v nms.length cs h1 a 1 c (entV s K u) rfl hc (by intro x hx; simp [entV] at hx; rcases hx with rfl | rfl | rfl | rfl | rfl <;> first | rfl | exact hu) (by decide) (by unfold maxLen; omega) (by omega) hB _ rfl
  have hcap : nms.length + 1 ≤ cap := by
    rcases ho.2 with ⟨e, _⟩ | ⟨_, cap', _, e, _, _, hn, _⟩
    · cases e
    · injection e with _ _ e; subst e; exact hn
  have hlq := KidV.lt nms ks cs fq h2
  have hlk := TrV.lt K u fk hK
  -- the other blocks are as they were
  have hkeep : ∀ b, b ∈ fq ++ fk → w'.heap[b]? = w.heap[b]? := fun b hb => by
    have hbl : b < w.heap.size := by
      rcases List.mem_append.1 hb with hb | hb
      · exact (hlq b hb).2
      · exact (hlk b hb).2
    refine hg.block b hbl (fun e => ?_)
    have hmem : b ∈ blkL v := by unfold blkL; rw [← e]; simp
    rw [List.append_assoc] at hn
    exact (List.nodup_append.1 hn).2.2 b hmem b hb rfl
  have hq' := KidV.same nms ks cs fq h2 (fun b hb => hkeep b (by simp [hb]))
  have hk' := TrV.same K u fk hK (fun b hb => hkeep b (by simp [hb]))
  refine ⟨g, cap, w', hr, ⟨[g] ++ (fq ++ fk), ?_, ?_, ?_⟩, hg, hcap⟩
  · rw [TrV]
    refine ⟨cs ++ entV s K u, fq ++ fk, ?_, KidV.snoc nms ks cs fq s K u fk hq' hk', rfl⟩
    rw [List.length_append]
    exact ho
  · rw [List.append_assoc] at hn
    have hn2 := (List.nodup_append.1 hn).2.1
    refine List.nodup_append.2 ⟨by simp, hn2, fun x hx y hy e => ?_⟩
    simp at hx
    subst hx e
    rcases hat with hat | hat
    · exact (List.nodup_append.1 hn).2.2 x (by unfold blkL; rw [hat]; simp) x hy rfl
    · have : x < w.heap.size := by
        rcases List.mem_append.1 hy with hy | hy
        · exact (hlq x hy).2
        · exact (hlk x hy).2
      omega
  · intro b hb
    rcases List.mem_append.1 hb with hb | hb
    · simp at hb
      subst hb
      rcases hat with hat | hat
      · exact Or.inl (by simp [blkL, hat])
      · exact Or.inr (by omega)
    · rcases List.mem_append.1 hb with hb | hb
      · exact Or.inl (by simp [hb])
      · exact Or.inl (by simp [hb])

mutual
/-- No list of kids is too long. -/
def lnT : Tr → Prop
  | .mk _ _ _ nms ks => nms.length ≤ 1073741824 ∧ lnL ks
def lnL : List Tr → Prop
  | [] => True
  | T :: ks => lnT T ∧ lnL ks
end
mutual
theorem lnT_rows (ns : List ByteArray) : ∀ T : Tr, wfT T → (rwT ns T).length ≤ 1073741824 → lnT T
  | .mk k e t nms ks => fun hw h => by
    rw [wfT] at hw
    rw [rwT, List.length_cons] at h
    rw [lnT]
    exact ⟨by have := lnL_len ns nms ks hw; omega, lnL_rows ns nms ks hw (by omega)⟩
theorem lnL_rows (ns : List ByteArray) : ∀ (nms : List ByteArray) (ks : List Tr), wfL nms ks → (rwL ns nms ks).length ≤ 1073741824 → lnL ks
  | [], [] => fun _ _ => by rw [lnL]; trivial
  | s :: nms, T :: ks => fun hw h => by
    rw [wfL] at hw
    rw [rwL, List.length_append] at h
    rw [lnL]
    exact ⟨lnT_rows (ns ++ [s]) T hw.1 (by omega), lnL_rows ns nms ks hw.2 (by omega)⟩
  | [], _ :: _ => fun hw _ => by simp [wfL] at hw
  | _ :: _, [] => fun hw _ => by simp [wfL] at hw
theorem lnL_len (ns : List ByteArray) : ∀ (nms : List ByteArray) (ks : List Tr), wfL nms ks → nms.length ≤ (rwL ns nms ks).length
  | [], [] => fun _ => by simp
  | s :: nms, T :: ks => fun hw => by
    rw [wfL] at hw
    rw [rwL, List.length_append, List.length_cons]
    have h1 := lnL_len ns nms ks hw.2
    have h2 : 1 ≤ (rwT (ns ++ [s]) T).length := by
      obtain ⟨k, e, t, a, b⟩ := T
      rw [rwT]
      simp
    omega
  | [], _ :: _ => fun hw => by simp [wfL] at hw
  | _ :: _, [] => fun hw => by simp [wfL] at hw
end
mutual
/-- What was built is read as its tree. -/
theorem TrV.at {w : World} {B : Nat} : ∀ (T : Tr) (v : Value) (fp : List Nat), TrV w B T v fp → lnT T → ∃ f, At w f (.agg #[.int .i64 T.k, .bool T.e, .string T.t, v]) T
  | .mk k e t nms ks, v, fp, h, hl => by
    rw [lnT] at hl
    rw [TrV] at h
    obtain ⟨cs, fq, h1, h2, -⟩ := h
    obtain ⟨f, hf, hlen⟩ := KidV.at nms ks cs fq h2 hl.2
    refine ⟨f + 1, ?_⟩
    rcases h1.2 with ⟨hv, h0⟩ | ⟨g, cap, cur, hv, hb, hg, hnc, _⟩
    · subst hv
      exact ⟨none, 0, 0, rfl, h0, by omega, Nat.le_refl _, by omega, Or.inl rfl⟩
    · refine ⟨some ⟨g, 0, none⟩, nms.length, cap, by rw [hv]; rfl, rfl, hlen.symm, hnc, by omega, Or.inr ⟨g, 0, rfl, heap_lt hg, fun j s S hs hS => ?_⟩⟩
      obtain ⟨u, hc, hA⟩ := hf j s S hs hS
      have hj : j < nms.length := (List.getElem?_eq_some_iff.1 hs).1
      rw [hv] at h1
      obtain ⟨xu, nu, cu, hu⟩ : ∃ x n c, u = .slice x n c := by
        cases f with
        | zero => exact hA.elim
        | succ f =>
          obtain ⟨k', e', t', a', b'⟩ := S
          obtain ⟨x, n, c, h, _⟩ := hA
          simp at h
          exact ⟨x, n, c, h.2.2.2⟩
      subst hu
      have cell : ∀ i, i < 5 → w.cell? ⟨g, 0 + j * 5 + i, none⟩ = (entV s S (.slice xu nu cu))[i]? := fun i hi => by
        rw [Nat.zero_add, World.ownsRow.cellAt h1 (j * 5 + i) (by omega)]
        exact hc i hi
      refine ⟨S.k, S.e, S.t, xu, nu, cu, cell 0 (by decide), cell 1 (by decide), cell 2 (by decide), cell 3 (by decide), cell 4 (by decide), hA⟩
theorem KidV.at {w : World} {B : Nat} : ∀ (nms : List ByteArray) (ks : List Tr) (cs : List Value) (fq : List Nat), KidV w B nms ks cs fq → lnL ks → ∃ f, (∀ (j : Nat) (s : ByteArray) (S : Tr), nms[j]? = some s → ks[j]? = some S → ∃ u, (∀ i, i < 5 → cs[j * 5 + i]? = (entV s S u)[i]?) ∧ At w f (.agg #[.int .i64 S.k, .bool S.e, .string S.t, u]) S) ∧ nms.length = ks.length
  | [], [], cs, fq, _, _ => ⟨0, fun j s S h => by simp at h, rfl⟩
  | a :: nms, T :: ks, cs, fq, h, hl => by
    rw [lnL] at hl
    rw [KidV] at h
    obtain ⟨v, cs', fp, fq', rfl, h2, h3, -⟩ := h
    obtain ⟨f1, hf1⟩ := TrV.at T v fp h2 hl.1
    obtain ⟨f2, hf2, hlen⟩ := KidV.at nms ks cs' fq' h3 hl.2
    refine ⟨max f1 f2, fun j s S hs hS => ?_, by simp [hlen]⟩
    cases j with
    | zero =>
      simp at hs hS
      subst hs hS
      refine ⟨v, fun i hi => ?_, hf1.upto (Nat.le_max_left _ _)⟩
      rw [Nat.zero_mul, Nat.zero_add, List.getElem?_append_left (by show i < 5; exact hi)]
    | succ j =>
      obtain ⟨u, hc, hA⟩ := hf2 j s S (by simpa using hs) (by simpa using hS)
      refine ⟨u, fun i hi => ?_, hA.upto (Nat.le_max_right _ _)⟩
      rw [List.getElem?_append_right (by show 5 ≤ _; omega)]
      rw [← hc i hi]
      congr 1
      show (j + 1) * 5 + i - 5 = _
      omega
  | [], _ :: _, _, _, h, _ => by simp [KidV] at h
  | _ :: _, [], _, _, h, _ => by simp [KidV] at h
end

end Go.Proofs.YtdjjleahfciipaaGreatDoor
/- The builder in memory: what is open lies in a row of entries. -/
namespace Go.Proofs.YtdjjleahfciipaaGreatDoor
open Go.RowKit

theorem KidV.unsnoc {w : World} {B : Nat} : ∀ (nms : List ByteArray) (ks : List Tr) (cs : List Value) (fq : List Nat) (s : ByteArray) (T : Tr), nms.length = ks.length → KidV w B (nms ++ [s]) (ks ++ [T]) cs fq → ∃ cs' u fq' fp, cs = cs' ++ entV s T u ∧ TrV w B T u fp ∧ KidV w B nms ks cs' fq' ∧ fq = fq' ++ fp
  | [], [], cs, fq, s, T, _, h => by
    have h : KidV w B (s :: []) (T :: []) cs fq := h
    rw [KidV] at h
    obtain ⟨v, cs', fp, fq', rfl, h2, h3, rfl⟩ := h
    rw [KidV] at h3
    obtain ⟨rfl, rfl⟩ := h3
    exact ⟨[], v, [], fp, by simp, h2, by rw [KidV]; exact ⟨rfl, rfl⟩, by simp⟩
  | a :: nms, K :: ks, cs, fq, s, T, hl, h => by
    have h : KidV w B (a :: (nms ++ [s])) (K :: (ks ++ [T])) cs fq := h
    rw [KidV] at h
    obtain ⟨v, cs', fp, fq', rfl, h2, h3, rfl⟩ := h
    obtain ⟨c1, u, f1, f2, rfl, h4, h5, rfl⟩ := KidV.unsnoc nms ks cs' fq' s T (by simpa using hl) h3
    exact ⟨entV a K v ++ c1, u, fp ++ f1, f2, by simp, h4, by rw [KidV]; exact ⟨v, c1, fp, f1, rfl, h2, h5, rfl⟩, by simp⟩
  | [], _ :: _, _, _, _, _, hl, _ => by simp at hl
  | _ :: _, [], _, _, _, _, hl, _ => by simp at hl
theorem KidV.len {w : World} {B : Nat} : ∀ (nms : List ByteArray) (ks : List Tr) (cs : List Value) (fq : List Nat), KidV w B nms ks cs fq → cs.length = nms.length * 5 ∧ nms.length = ks.length
  | [], [], cs, fq, h => by rw [KidV] at h; rw [h.1]; simp
  | a :: nms, K :: ks, cs, fq, h => by
    rw [KidV] at h
    obtain ⟨v, cs', fp, fq', rfl, h2, h3, rfl⟩ := h
    have := KidV.len nms ks cs' fq' h3
    rw [List.length_append]
    show 5 + _ = _ ∧ _
    simp
    omega
  | [], _ :: _, _, _, h => by simp [KidV] at h
  | _ :: _, [], _, _, h => by simp [KidV] at h

/-- v is the slice of what is open, S: the last first; in rows from B on. -/
def Opn (w : World) (B : Nat) (S : List OE) (v : Value) (fp : List Nat) : Prop := TrV w B (.mk 0 false ⟨#[]⟩ (S.reverse.map OE.nm) (S.reverse.map OE.tr)) v fp ∧ fp.Nodup
theorem oe_k (o : OE) : o.tr.k = o.k := rfl
theorem Opn.shape {w : World} {B : Nat} {S : List OE} {v : Value} {fp : List Nat} (h : Opn w B S v fp) : ∃ x c, v = .slice x S.length c := by
  obtain ⟨x, c, hv⟩ := h.1.shape
  refine ⟨x, c, ?_⟩
  have e : (Tr.mk 0 false ⟨#[]⟩ (S.reverse.map OE.nm) (S.reverse.map OE.tr)).nms.length = S.length := by show (S.reverse.map OE.nm).length = _; simp
  rw [hv, e]
theorem Opn.nil (w : World) (B : Nat) : Opn w B [] (.slice none 0 0) [] := by
  refine ⟨?_, by simp⟩
  show TrV w B (.mk 0 false ⟨#[]⟩ [] []) _ _
  rw [TrV]
  exact ⟨[], [], World.ownsRow_nil _ _ _ _, by rw [KidV]; exact ⟨rfl, rfl⟩, rfl⟩
theorem Opn.same {w w' : World} {B : Nat} {S : List OE} {v : Value} {fp : List Nat} (h : Opn w B S v fp) (e : ∀ b ∈ fp, w'.heap[b]? = w.heap[b]?) : Opn w' B S v fp := ⟨TrV.same _ _ _ h.1 e, h.2⟩
theorem Opn.lt {w : World} {B : Nat} {S : List OE} {v : Value} {fp : List Nat} (h : Opn w B S v fp) : ∀ b ∈ fp, B ≤ b ∧ b < w.heap.size := TrV.lt _ _ _ h.1
/-- The last two of what is open: where their cells lie, and what is the rest. -/
theorem Opn.two {w : World} {B : Nat} {o h : OE} {R : List OE} {v : Value} {fp : List Nat} (H : Opn w B (o :: h :: R) v fp) : ∃ g cap cs uh uo fq fh fo, v = .slice (some ⟨g, 0, none⟩) (R.length + 2) cap ∧ R.length + 2 ≤ cap ∧
    w.ownsRow B 103 5 v (R.length + 2) (cs ++ (entV h.nm h.tr uh ++ entV o.nm o.tr uo)) ∧ cs.length = R.length * 5 ∧ KidV w B (R.reverse.map OE.nm) (R.reverse.map OE.tr) cs fq ∧ TrV w B h.tr uh fh ∧ TrV w B o.tr uo fo ∧ fp = [g] ++ (fq ++ fh ++ fo) := by
  obtain ⟨H1, H2⟩ := H
  rw [TrV] at H1
  obtain ⟨cs, fq, h1, h2, rfl⟩ := H1
  have e1 : (o :: h :: R).reverse.map OE.nm = (R.reverse.map OE.nm ++ [h.nm]) ++ [o.nm] := by simp
  have e2 : (o :: h :: R).reverse.map OE.tr = (R.reverse.map OE.tr ++ [h.tr]) ++ [o.tr] := by simp
  rw [e1, e2] at h2
  obtain ⟨cs1, uo, fq1, fo, rfl, ho, h3, rfl⟩ := KidV.unsnoc _ _ _ _ _ _ (by simp) h2
  obtain ⟨cs2, uh, fq2, fh, rfl, hh, h4, rfl⟩ := KidV.unsnoc _ _ _ _ _ _ (by simp) h3
  have hl := KidV.len _ _ _ _ h4
  have e3 : ((o :: h :: R).reverse.map OE.nm).length = R.length + 2 := by simp
  rw [e3] at h1
  obtain ⟨g, cap, hv, _, _⟩ := World.ownsRow.form h1 (by omega)
  have hcap : R.length + 2 ≤ cap := by
    rcases h1.2 with ⟨e, _⟩ | ⟨_, cap', _, e, _, _, hn, _⟩
    · rw [e] at hv; cases hv
    · rw [hv] at e; injection e with _ _ e; subst e; exact hn
  refine ⟨g, cap, cs2, uh, uo, fq2, fh, fo, hv, hcap, by rw [List.append_assoc] at h1; exact h1, by rw [hl.1]; simp, h4, hh, ho, ?_⟩
  have eb : blkL v = [g] := by rw [hv]; rfl
  rw [eb]
/-- One node closed: the holder's list has one kid more, the row is one shorter. -/
theorem Opn.close {w w1 w2 : World} {B g cap : Nat} {o h : OE} {R : List OE} {cs : List Value} {uh uo v' : Value} {fq fh fo fh' : List Nat}
    (hown : w.ownsRow B 103 5 (.slice (some ⟨g, 0, none⟩) (R.length + 2) cap) (R.length + 2) (cs ++ (entV h.nm h.tr uh ++ entV o.nm o.tr uo))) (hcs : cs.length = R.length * 5) (hK : KidV w B (R.reverse.map OE.nm) (R.reverse.map OE.tr) cs fq) (hn : ([g] ++ (fq ++ fh ++ fo)).Nodup)
    (hT : TrV w1 B (.mk h.k h.e h.t (h.nms ++ [o.nm]) (h.ks ++ [o.tr])) v' fh') (hf : fh'.Nodup) (hfp : ∀ b ∈ fh', b ∈ fh ++ fo ∨ w.heap.size ≤ b) (hkeep : ∀ b, b ∈ [g] ++ fq → w1.heap[b]? = w.heap[b]?) (hlt : ∀ b ∈ [g] ++ fq, b < w.heap.size)
    (hw2 : w2 = w1.setCell ⟨g, R.length * 5 + 4, none⟩ v') :
    Opn w2 B (h.push o.nm o.tr :: R) (.slice (some ⟨g, 0, none⟩) (R.length + 1) cap) ([g] ++ (fq ++ fh')) := by
  have hg1 : w1.ownsRow B 103 5 (.slice (some ⟨g, 0, none⟩) (R.length + 2) cap) (R.length + 2) (cs ++ (entV h.nm h.tr uh ++ entV o.nm o.tr uo)) := own_same hown (fun b hb => hkeep b (by simp [blkL, Value.ownBlock] at hb; simp [hb]))
  obtain ⟨hs1, hs2⟩ := World.ownsRow.stored hg1 (R.length * 5 + 4) v'
  rw [← hw2] at hs1 hs2
  have hset : (cs ++ (entV h.nm h.tr uh ++ entV o.nm o.tr uo)).set (R.length * 5 + 4) v' = cs ++ (entV h.nm h.tr v' ++ entV o.nm o.tr uo) := by
    rw [List.set_append_right _ _ (by omega), hcs, Nat.add_sub_cancel_left]
    rfl
  rw [hset] at hs1
  have hdis : ∀ b, b ∈ fq ++ fh' → b ≠ g := fun b hb e => by
    subst e
    rcases List.mem_append.1 hb with hb | hb
    · exact (List.nodup_append.1 hn).2.2 b (by simp) b (by simp [hb]) rfl
    · rcases hfp b hb with hb | hb
      · exact (List.nodup_append.1 hn).2.2 b (by simp) b (by simp at hb; rcases hb with hb | hb <;> simp [hb]) rfl
      · have := hlt b (by simp); omega
  have hk2 : ∀ b, b ∈ fq ++ fh' → w2.heap[b]? = w1.heap[b]? := fun b hb => by
    rw [hw2]
    exact Below.heap_setCell _ _ _ b (hdis b hb)
  have hK2 : KidV w2 B (R.reverse.map OE.nm) (R.reverse.map OE.tr) cs fq := KidV.same _ _ _ _ hK (fun b hb => (hk2 b (by simp [hb])).trans (hkeep b (by simp [hb])))
  have hT2 : TrV w2 B (h.push o.nm o.tr).tr v' fh' := TrV.same _ _ _ hT (fun b hb => hk2 b (by simp [hb]))
  refine ⟨?_, ?_⟩
  · rw [TrV]
    refine ⟨cs ++ entV h.nm (h.push o.nm o.tr).tr v', fq ++ fh', ?_, ?_, rfl⟩
    · have e3 : ((h.push o.nm o.tr :: R).reverse.map OE.nm).length = R.length + 1 := by simp
      rw [e3]
      refine ⟨by rw [List.length_append, hcs]; show _ + 5 = _; omega, ?_⟩
      rcases hs1.2 with ⟨e, _⟩ | ⟨g', cap', cur, e, hb, hh, hnc, hcm, hcs', ht⟩
      · cases e
      · injection e with e1 _ e3
        injection e1 with e1
        injection e1 with e1
        subst e1 e3
        refine .inr ⟨g, cap, cur, rfl, hb, hh, by omega, hcm, hcs', ?_⟩
        have := congrArg (List.take ((R.length + 1) * 5)) ht
        rw [List.take_take, show min ((R.length + 1) * 5) ((R.length + 2) * 5) = (R.length + 1) * 5 by omega] at this
        rw [this, ← List.append_assoc, List.take_append_of_le_length (by rw [List.length_append, hcs]; show _ ≤ _ + 5; omega), List.take_of_length_le (by rw [List.length_append, hcs]; show _ + 5 ≤ _; omega)]
        rfl
    · have e1 : (h.push o.nm o.tr :: R).reverse.map OE.nm = R.reverse.map OE.nm ++ [h.nm] := by simp; rfl
      have e2 : (h.push o.nm o.tr :: R).reverse.map OE.tr = R.reverse.map OE.tr ++ [(h.push o.nm o.tr).tr] := by simp
      rw [e1, e2]
      exact KidV.snoc _ _ _ _ _ _ _ _ hK2 hT2
  · refine List.nodup_append.2 ⟨by simp, List.nodup_append.2 ⟨?_, hf, fun x hx y hy e => ?_⟩, fun x hx y hy e => ?_⟩
    · have h1 := (List.nodup_append.1 hn).2.1
      rw [List.append_assoc] at h1
      exact (List.nodup_append.1 h1).1
    · subst e
      rcases hfp x hy with hb | hb
      · have h1 := (List.nodup_append.1 hn).2.1
        rw [List.append_assoc] at h1
        exact (List.nodup_append.1 h1).2.2 x hx x hb rfl
      · have := hlt x (by simp [hx]); omega
    · simp at hx
      subst hx e
      exact hdis x hy rfl

end Go.Proofs.YtdjjleahfciipaaGreatDoor
/- A kid more, as the translation has it: a zero entry is appended, then the kid is stored in its place. -/
namespace Go.Proofs.YtdjjleahfciipaaGreatDoor
open Go.RowKit

/-- Five cells stored one behind the other. -/
def set5 (w : World) (g o : Nat) (l : List Value) : World := match l with
  | [a, b, c, d, e] => ((((w.setCell ⟨g, o, none⟩ a).setCell ⟨g, o + 1, none⟩ b).setCell ⟨g, o + 2, none⟩ c).setCell ⟨g, o + 3, none⟩ d).setCell ⟨g, o + 4, none⟩ e
  | _ => w
theorem set5_other (w : World) (g o : Nat) (a b c d e : Value) (k : Nat) (hk : k ≠ g) : (set5 w g o [a, b, c, d, e]).heap[k]? = w.heap[k]? :=
  (Below.heap_setCell _ ⟨g, o + 4, none⟩ _ k hk).trans ((Below.heap_setCell _ ⟨g, o + 3, none⟩ _ k hk).trans ((Below.heap_setCell _ ⟨g, o + 2, none⟩ _ k hk).trans ((Below.heap_setCell _ ⟨g, o + 1, none⟩ _ k hk).trans (Below.heap_setCell _ ⟨g, o, none⟩ _ k hk))))
theorem own_set5 {w : World} {B : Nat} {ty : TypeId} {g n cap : Nat} {cs zs : List Value} {a b c d e : Value} (h : w.ownsRow B ty 5 (.slice (some ⟨g, 0, none⟩) (n + 1) cap) (n + 1) (cs ++ zs)) (hc : cs.length = n * 5) (hz : zs.length = 5) :
    (set5 w g (n * 5) [a, b, c, d, e]).ownsRow B ty 5 (.slice (some ⟨g, 0, none⟩) (n + 1) cap) (n + 1) (cs ++ [a, b, c, d, e]) := by
  match zs, hz with
  | [z0, z1, z2, z3, z4], _ =>
    have h1 := (World.ownsRow.stored h (n * 5) a).1
    have h2 := (World.ownsRow.stored h1 (n * 5 + 1) b).1
    have h3 := (World.ownsRow.stored h2 (n * 5 + 2) c).1
    have h4 := (World.ownsRow.stored h3 (n * 5 + 3) d).1
    have h5 := (World.ownsRow.stored h4 (n * 5 + 4) e).1
    have key : (((((cs ++ [z0, z1, z2, z3, z4]).set (n * 5) a).set (n * 5 + 1) b).set (n * 5 + 2) c).set (n * 5 + 3) d).set (n * 5 + 4) e = cs ++ [a, b, c, d, e] := by
      rw [List.set_append_right _ _ (by omega), List.set_append_right _ _ (by omega), List.set_append_right _ _ (by omega), List.set_append_right _ _ (by omega), List.set_append_right _ _ (by omega), hc]
      simp
    rw [key] at h5
    exact h5
/-- The zero entry. -/
def zEnt : List Value := [.string ⟨#[]⟩, .int .i64 0, .bool false, .string ⟨#[]⟩, .slice none 0 0]
/-- A kid more: the run of append, and what holds behind it and the five stores. -/
theorem TrV.appZ {w : World} {B : Nat} {T : Tr} {v : Value} {fp : List Nat} (h : TrV w B T v fp) (s : ByteArray) (K : Tr) (u : Value) (fk : List Nat) (hK : TrV w B K u fk) (hn : (fp ++ fk).Nodup) (hB : B ≤ w.heap.size) (hl : T.nms.length ≤ 1073741824) :
    ∃ g cap w', (Builtin.append_ #[23, 23] 23 #[v, .slice (some ⟨w.heap.size, 0, none⟩) 1 1]).run Tryz.prog ((w.alloc (.cells #[.string ⟨#[]⟩, .int .i64 0, .bool false, .string ⟨#[]⟩, .slice none 0 0] 103)).drew) = .ok (.slice (some ⟨g, 0, none⟩) (T.nms.length + 1) cap) w' ∧ T.nms.length + 1 ≤ cap ∧
      (∀ i, i < 5 → w'.cell? ⟨g, T.nms.length * 5 + i, none⟩ = zEnt[i]?) ∧ (∀ i, w'.frozen? ⟨g, i, none⟩ = false) ∧ (∀ k, k < w.heap.size → k ∉ fp → w'.heap[k]? = w.heap[k]?) ∧ w.heap.size ≤ w'.heap.size ∧ w'.os = w.os ∧ w'.tape = w.tape ∧ w'.output = w.output ∧
      ∃ fp', TrV (set5 w' g (T.nms.length * 5) (entV s K u)) B (.mk T.k T.e T.t (T.nms ++ [s]) (T.ks ++ [K])) (.slice (some ⟨g, 0, none⟩) (T.nms.length + 1) cap) fp' ∧ fp'.Nodup ∧ g ∈ fp' ∧ (∀ b ∈ fp', b ∈ fp ++ fk ∨ w.heap.size ≤ b) := by
  obtain ⟨k, e, t, nms, ks⟩ := T
  rw [TrV] at h
  obtain ⟨cs, fq, h1, h2, rfl⟩ := h
  obtain ⟨i0, hi, hz0, hz1, hz2⟩ := info_parts infoET
  have hl' : nms.length ≤ 1073741824 := hl
  have hown : ((w.alloc (.cells #[.string ⟨#[]⟩, .int .i64 0, .bool false, .string ⟨#[]⟩, .slice none 0 0] 103)).drew).ownsRow B 103 5 v nms.length cs := (World.ownsRow.alloc h1 _).drew
  obtain ⟨g, cap, w', hr, ho, hg, hat, hlt⟩ := run_append_lies (P := Tryz.prog) ((w.alloc (.cells #[.string ⟨#[]⟩, .int .i64 0, .bool false, .string ⟨#[]⟩, .slice none 0 0] 103)).drew) 23 23 B 103 i0 (.agg #[.string ⟨#[]⟩, .int .i64 0, .bool false, .string ⟨#[]⟩, .slice none 0 0]) 5 72 undLET hi hz0 hz1 hz2 rfl (by decide) v nms.length cs hown ⟨w.heap.size, 0, none⟩ 1 1 zEnt rfl (fun j x hj => by
      rw [Addr.add_lit, Nat.zero_add]
      match j, hj with
      | 0, hj => exact (World.cell?_alloc_new w _ _ 0).trans hj
      | 1, hj => exact (World.cell?_alloc_new w _ _ 1).trans hj
      | 2, hj => exact (World.cell?_alloc_new w _ _ 2).trans hj
      | 3, hj => exact (World.cell?_alloc_new w _ _ 3).trans hj
      | 4, hj => exact (World.cell?_alloc_new w _ _ 4).trans hj) (by intro x hx; simp [zEnt] at hx; rcases hx with rfl | rfl | rfl | rfl | rfl <;> rfl) (by decide) (by unfold maxLen; omega) (by omega) (by show _ ≤ (w.alloc _).heap.size; rw [World.size_alloc]; omega) _ rfl
  have hcap : nms.length + 1 ≤ cap := by
    rcases ho.2 with ⟨e, _⟩ | ⟨_, cap', _, e, _, _, hn, _⟩
    · cases e
    · injection e with _ _ e; subst e; exact hn
  have hsz : (w.alloc (.cells #[.string ⟨#[]⟩, .int .i64 0, .bool false, .string ⟨#[]⟩, .slice none 0 0] 103)).heap.size = w.heap.size + 1 := World.size_alloc _ _
  have hcl := (KidV.len nms ks cs fq h2).1
  have hlq := KidV.lt nms ks cs fq h2
  have hlk := TrV.lt K u fk hK
  have hgn : ∀ b, b ∈ fq ++ fk → b ≠ g := fun b hb e => by
    subst e
    rw [List.append_assoc] at hn
    rcases hat with hat | hat
    · exact (List.nodup_append.1 hn).2.2 b (by unfold blkL; rw [hat]; simp) b hb rfl
    · have : b < w.heap.size := by
        rcases List.mem_append.1 hb with hb | hb
        · exact (hlq b hb).2
        · exact (hlk b hb).2
      have hat : b = (w.alloc (.cells #[.string ⟨#[]⟩, .int .i64 0, .bool false, .string ⟨#[]⟩, .slice none 0 0] 103)).heap.size := hat
      omega
  have hblk : ∀ b, b < w.heap.size → b ∉ blkL v → w'.heap[b]? = w.heap[b]? := fun b hb hm => by
    refine (hg.block b (by show _ < (w.alloc _).heap.size; rw [World.size_alloc]; omega) (fun e => hm ?_)).trans (Below.heap_alloc w _ b hb)
    unfold blkL; rw [← e]; simp
  have hkeep : ∀ b, b ∈ fq ++ fk → (set5 w' g (nms.length * 5) (entV s K u)).heap[b]? = w.heap[b]? := fun b hb => by
    have hbl : b < w.heap.size := by
      rcases List.mem_append.1 hb with hb | hb
      · exact (hlq b hb).2
      · exact (hlk b hb).2
    refine (set5_other _ _ _ _ _ _ _ _ b (hgn b hb)).trans (hblk b hbl (fun hm => ?_))
    rw [List.append_assoc] at hn
    exact (List.nodup_append.1 hn).2.2 b hm b hb rfl
  refine ⟨g, cap, w', hr, hcap, ?_, fun i => World.ownsRow.frozenAt ho i, ?_, ?_, hg.os, hg.tape, hg.output, [g] ++ (fq ++ fk), ?_, ?_, by simp, ?_⟩
  · intro i hi'
    have := World.ownsRow.cellAt ho (nms.length * 5 + i) (by omega)
    rw [List.getElem?_append_right (by omega), hcl, Nat.add_sub_cancel_left] at this
    exact this
  · intro b hb hm
    exact hblk b hb (fun h9 => hm (by simp [h9]))
  · have := hg.size
    have h8 : (w.alloc (.cells #[.string ⟨#[]⟩, .int .i64 0, .bool false, .string ⟨#[]⟩, .slice none 0 0] 103)).heap.size ≤ w'.heap.size := this
    omega
  · rw [TrV]
    refine ⟨cs ++ entV s K u, fq ++ fk, ?_, KidV.snoc nms ks cs fq s K u fk (KidV.same _ _ _ _ h2 (fun b hb => hkeep b (by simp [hb]))) (TrV.same _ _ _ hK (fun b hb => hkeep b (by simp [hb]))), rfl⟩
    rw [List.length_append]
    exact own_set5 ho hcl rfl
  · rw [List.append_assoc] at hn
    refine List.nodup_append.2 ⟨by simp, (List.nodup_append.1 hn).2.1, fun x hx y hy e => ?_⟩
    simp at hx
    subst hx e
    exact hgn x hy rfl
  · intro b hb
    rcases List.mem_append.1 hb with hb | hb
    · simp at hb
      subst hb
      rcases hat with hat | hat
      · exact Or.inl (by simp [blkL, hat])
      · have hat : b = (w.alloc (.cells #[.string ⟨#[]⟩, .int .i64 0, .bool false, .string ⟨#[]⟩, .slice none 0 0] 103)).heap.size := hat
        exact Or.inr (by omega)
    · rcases List.mem_append.1 hb with hb | hb
      · exact Or.inl (by simp [hb])
      · exact Or.inl (by simp [hb])

end Go.Proofs.YtdjjleahfciipaaGreatDoor
