/- Built trees: a kid more; and they are read as trees. -/
import Derived.Test.YtljcbibcdajhiaaTwC
namespace Go.Proofs.Ytljcbibcdajhiaa
open Go.RowKit

theorem infoET : (Try.prog.info? 83).map (fun i => (i.zero, i.size, i.bytes)) = some (some (.agg #[.string ⟨#[]⟩, .int .i64 0, .bool false, .string ⟨#[]⟩, .slice none 0 0]), 5, 72) := by kernel_rfl
theorem undLET : Try.prog.underlying 23 = some (.slice 83) := by kernel_rfl
theorem TrV.shape {w : World} {B : Nat} {T : Tr} {v : Value} {fp : List Nat} (h : TrV w B T v fp) : ∃ x c, v = .slice x T.nms.length c := by
  obtain ⟨k, e, t, nms, ks⟩ := T
  rw [TrV] at h
  obtain ⟨cs, fq, h1, _⟩ := h
  rcases h1.2 with ⟨hv, h0⟩ | ⟨q, cap, cur, hv, _⟩
  · exact ⟨none, 0, by rw [hv]; show _ = Value.slice none nms.length 0; rw [h0]⟩
  · exact ⟨_, _, hv⟩
/-- A kid more, appended: where the kid's five cells lie in a block x0 of their own. -/
theorem TrV.app {w : World} {B : Nat} {T : Tr} {v : Value} {fp : List Nat} (h : TrV w B T v fp) (s : ByteArray) (K : Tr) (u : Value) (fk : List Nat) (hK : TrV w B K u fk) (hn : (fp ++ fk).Nodup) (a : Addr) (c : Nat) (hc : ∀ j x, (entV s K u)[j]? = some x → w.cell? (a.add j) = some x) (hB : B ≤ w.heap.size) (hl : T.nms.length ≤ 1073741824) :
    ∃ g cap w', (Builtin.append_ #[23, 23] 23 #[v, .slice (some a) 1 c]).run Try.prog w = .ok (.slice (some ⟨g, 0, none⟩) (T.nms.length + 1) cap) w' ∧
      (∃ fp', TrV w' B (.mk T.k T.e T.t (T.nms ++ [s]) (T.ks ++ [K])) (.slice (some ⟨g, 0, none⟩) (T.nms.length + 1) cap) fp' ∧ fp'.Nodup ∧ (∀ b ∈ fp', b ∈ fp ++ fk ∨ w.heap.size ≤ b)) ∧ w.grownBy w' v.ownBlock ∧ T.nms.length + 1 ≤ cap := by
  obtain ⟨k, e, t, nms, ks⟩ := T
  rw [TrV] at h
  obtain ⟨cs, fq, h1, h2, rfl⟩ := h
  obtain ⟨i0, hi, hz0, hz1, hz2⟩ := info_parts infoET
  have hl' : nms.length ≤ 1073741824 := hl
  have hu : u.oneCell' = true := by
    obtain ⟨x, c, rfl⟩ := hK.shape
    rfl
  obtain ⟨g, cap, w', hr, ho, hg, hat, hlt⟩ := run_append_lies (P := Try.prog) w 23 23 B 83 i0 (.agg #[.string ⟨#[]⟩, .int .i64 0, .bool false, .string ⟨#[]⟩, .slice none 0 0]) 5 72 undLET hi hz0 hz1 hz2 rfl (by decide) v nms.length cs h1 a 1 c (entV s K u) rfl hc (by intro x hx; simp [entV] at hx; rcases hx with rfl | rfl | rfl | rfl | rfl <;> first | rfl | exact hu) (by decide) (by unfold maxLen; omega) (by omega) hB _ rfl
  have hcap : nms.length + 1 ≤ cap := by
    rcases ho.2 with ⟨e, _⟩ | ⟨_, cap', _, e, _, _, hn, _⟩
    · cases e
    · injection e with _ _ e; subst e; exact hn
  have hlq := KidV.lt nms ks cs fq h2
  have hlk := TrV.lt K u fk hK
  -- the other blocks are as they were
  have hkeep : ∀ b, b ∈ fq ++ fk → w'.heap[b]? = w.heap[b]? := fun b hb => by
    have hbl : b < w.heap.size := by
      rcases List.mem_append.1 hb with hb | hb
      · exact (hlq b hb).2
      · exact (hlk b hb).2
    refine hg.block b hbl (fun e => ?_)
    have hmem : b ∈ blkL v := by unfold blkL; rw [← e]; simp
    rw [List.append_assoc] at hn
    exact (List.nodup_append.1 hn).2.2 b hmem b hb rfl
  have hq' := KidV.same nms ks cs fq h2 (fun b hb => hkeep b (by simp [hb]))
  have hk' := TrV.same K u fk hK (fun b hb => hkeep b (by simp [hb]))
  refine ⟨g, cap, w', hr, ⟨[g] ++ (fq ++ fk), ?_, ?_, ?_⟩, hg, hcap⟩
  · rw [TrV]
    refine ⟨cs ++ entV s K u, fq ++ fk, ?_, KidV.snoc nms ks cs fq s K u fk hq' hk', rfl⟩
    rw [List.length_append]
    exact ho
  · rw [List.append_assoc] at hn
    have hn2 := (List.nodup_append.1 hn).2.1
    refine List.nodup_append.2 ⟨by simp, hn2, fun x hx y hy e => ?_⟩
    simp at hx
    subst hx e
    rcases hat with hat | hat
    · exact (List.nodup_append.1 hn).2.2 x (by unfold blkL; rw [hat]; simp) x hy rfl
    · have : x < w.heap.size := by
        rcases List.mem_append.1 hy with hy | hy
        · exact (hlq x hy).2
        · exact (hlk x hy).2
      omega
  · intro b hb
    rcases List.mem_append.1 hb with hb | hb
    · simp at hb
      subst hb
      rcases hat with hat | hat
      · exact Or.inl (by simp [blkL, hat])
      · exact Or.inr (by omega)
    · rcases List.mem_append.1 hb with hb | hb
      · exact Or.inl (by simp [hb])
      · exact Or.inl (by simp [hb])

mutual
/-- No list of kids is too long. -/
def lnT : Tr → Prop
  | .mk _ _ _ nms ks => nms.length ≤ 1073741824 ∧ lnL ks
def lnL : List Tr → Prop
  | [] => True
  | T :: ks => lnT T ∧ lnL ks
end
mutual
theorem lnT_rows (ns : List ByteArray) : ∀ T : Tr, wfT T → (rwT ns T).length ≤ 1073741824 → lnT T
  | .mk k e t nms ks => fun hw h => by
    rw [wfT] at hw
    rw [rwT, List.length_cons] at h
    rw [lnT]
    exact ⟨by have := lnL_len ns nms ks hw; omega, lnL_rows ns nms ks hw (by omega)⟩
theorem lnL_rows (ns : List ByteArray) : ∀ (nms : List ByteArray) (ks : List Tr), wfL nms ks → (rwL ns nms ks).length ≤ 1073741824 → lnL ks
  | [], [] => fun _ _ => by rw [lnL]; trivial
  | s :: nms, T :: ks => fun hw h => by
    rw [wfL] at hw
    rw [rwL, List.length_append] at h
    rw [lnL]
    exact ⟨lnT_rows (ns ++ [s]) T hw.1 (by omega), lnL_rows ns nms ks hw.2 (by omega)⟩
  | [], _ :: _ => fun hw _ => by simp [wfL] at hw
  | _ :: _, [] => fun hw _ => by simp [wfL] at hw
theorem lnL_len (ns : List ByteArray) : ∀ (nms : List ByteArray) (ks : List Tr), wfL nms ks → nms.length ≤ (rwL ns nms ks).length
  | [], [] => fun _ => by simp
  | s :: nms, T :: ks => fun hw => by
    rw [wfL] at hw
    rw [rwL, List.length_append, List.length_cons]
    have h1 := lnL_len ns nms ks hw.2
    have h2 : 1 ≤ (rwT (ns ++ [s]) T).length := by
      obtain ⟨k, e, t, a, b⟩ := T
      rw [rwT]
      simp
    omega
  | [], _ :: _ => fun hw => by simp [wfL] at hw
  | _ :: _, [] => fun hw => by simp [wfL] at hw
end
mutual
/-- What was built is read as its tree. -/
theorem TrV.at {w : World} {B : Nat} : ∀ (T : Tr) (v : Value) (fp : List Nat), TrV w B T v fp → lnT T → ∃ f, At w f (.agg #[.int .i64 T.k, .bool T.e, .string T.t, v]) T
  | .mk k e t nms ks, v, fp, h, hl => by
    rw [lnT] at hl
    rw [TrV] at h
    obtain ⟨cs, fq, h1, h2, -⟩ := h
    obtain ⟨f, hf, hlen⟩ := KidV.at nms ks cs fq h2 hl.2
    refine ⟨f + 1, ?_⟩
    rcases h1.2 with ⟨hv, h0⟩ | ⟨g, cap, cur, hv, hb, hg, hnc, _⟩
    · subst hv
      exact ⟨none, 0, 0, rfl, h0, by omega, Nat.le_refl _, by omega, Or.inl rfl⟩
    · refine ⟨some ⟨g, 0, none⟩, nms.length, cap, by rw [hv]; rfl, rfl, hlen.symm, hnc, by omega, Or.inr ⟨g, 0, rfl, heap_lt hg, fun j s S hs hS => ?_⟩⟩
      obtain ⟨u, hc, hA⟩ := hf j s S hs hS
      have hj : j < nms.length := (List.getElem?_eq_some_iff.1 hs).1
      rw [hv] at h1
      obtain ⟨xu, nu, cu, hu⟩ : ∃ x n c, u = .slice x n c := by
        cases f with
        | zero => exact hA.elim
        | succ f =>
          obtain ⟨k', e', t', a', b'⟩ := S
          obtain ⟨x, n, c, h, _⟩ := hA
          simp at h
          exact ⟨x, n, c, h.2.2.2⟩
      subst hu
      have cell : ∀ i, i < 5 → w.cell? ⟨g, 0 + j * 5 + i, none⟩ = (entV s S (.slice xu nu cu))[i]? := fun i hi => by
        rw [Nat.zero_add, World.ownsRow.cellAt h1 (j * 5 + i) (by omega)]
        exact hc i hi
      refine ⟨S.k, S.e, S.t, xu, nu, cu, cell 0 (by decide), cell 1 (by decide), cell 2 (by decide), cell 3 (by decide), cell 4 (by decide), hA⟩
theorem KidV.at {w : World} {B : Nat} : ∀ (nms : List ByteArray) (ks : List Tr) (cs : List Value) (fq : List Nat), KidV w B nms ks cs fq → lnL ks → ∃ f, (∀ (j : Nat) (s : ByteArray) (S : Tr), nms[j]? = some s → ks[j]? = some S → ∃ u, (∀ i, i < 5 → cs[j * 5 + i]? = (entV s S u)[i]?) ∧ At w f (.agg #[.int .i64 S.k, .bool S.e, .string S.t, u]) S) ∧ nms.length = ks.length
  | [], [], cs, fq, _, _ => ⟨0, fun j s S h => by simp at h, rfl⟩
  | a :: nms, T :: ks, cs, fq, h, hl => by
    rw [lnL] at hl
    rw [KidV] at h
    obtain ⟨v, cs', fp, fq', rfl, h2, h3, -⟩ := h
    obtain ⟨f1, hf1⟩ := TrV.at T v fp h2 hl.1
    obtain ⟨f2, hf2, hlen⟩ := KidV.at nms ks cs' fq' h3 hl.2
    refine ⟨max f1 f2, fun j s S hs hS => ?_, by simp [hlen]⟩
    cases j with
    | zero =>
      simp at hs hS
      subst hs hS
      refine ⟨v, fun i hi => ?_, hf1.upto (Nat.le_max_left _ _)⟩
      rw [Nat.zero_mul, Nat.zero_add, List.getElem?_append_left (by show i < 5; exact hi)]
    | succ j =>
      obtain ⟨u, hc, hA⟩ := hf2 j s S (by simpa using hs) (by simpa using hS)
      refine ⟨u, fun i hi => ?_, hA.upto (Nat.le_max_right _ _)⟩
      rw [List.getElem?_append_right (by show 5 ≤ _; omega)]
      rw [← hc i hi]
      congr 1
      show (j + 1) * 5 + i - 5 = _
      omega
  | [], _ :: _, _, _, h, _ => by simp [KidV] at h
  | _ :: _, [], _, _, h, _ => by simp [KidV] at h
end

end Go.Proofs.Ytljcbibcdajhiaa
