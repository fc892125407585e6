/- A kid more, as the translation has it: a zero entry is appended, then the kid is stored in its place. -/
import Derived.Test.YtljcbibcdajhiaaTwE
namespace Go.Proofs.Ytljcbibcdajhiaa
open Go.RowKit

/-- Five cells stored one behind the other. -/
def set5 (w : World) (g o : Nat) (l : List Value) : World := match l with
  | [a, b, c, d, e] => ((((w.setCell ⟨g, o, none⟩ a).setCell ⟨g, o + 1, none⟩ b).setCell ⟨g, o + 2, none⟩ c).setCell ⟨g, o + 3, none⟩ d).setCell ⟨g, o + 4, none⟩ e
  | _ => w
theorem set5_other (w : World) (g o : Nat) (a b c d e : Value) (k : Nat) (hk : k ≠ g) : (set5 w g o [a, b, c, d, e]).heap[k]? = w.heap[k]? :=
  (Below.heap_setCell _ ⟨g, o + 4, none⟩ _ k hk).trans ((Below.heap_setCell _ ⟨g, o + 3, none⟩ _ k hk).trans ((Below.heap_setCell _ ⟨g, o + 2, none⟩ _ k hk).trans ((Below.heap_setCell _ ⟨g, o + 1, none⟩ _ k hk).trans (Below.heap_setCell _ ⟨g, o, none⟩ _ k hk))))
theorem own_set5 {w : World} {B : Nat} {ty : TypeId} {g n cap : Nat} {cs zs : List Value} {a b c d e : Value} (h : w.ownsRow B ty 5 (.slice (some ⟨g, 0, none⟩) (n + 1) cap) (n + 1) (cs ++ zs)) (hc : cs.length = n * 5) (hz : zs.length = 5) :
    (set5 w g (n * 5) [a, b, c, d, e]).ownsRow B ty 5 (.slice (some ⟨g, 0, none⟩) (n + 1) cap) (n + 1) (cs ++ [a, b, c, d, e]) := by
  match zs, hz with
  | [z0, z1, z2, z3, z4], _ =>
    have h1 := (World.ownsRow.stored h (n * 5) a).1
    have h2 := (World.ownsRow.stored h1 (n * 5 + 1) b).1
    have h3 := (World.ownsRow.stored h2 (n * 5 + 2) c).1
    have h4 := (World.ownsRow.stored h3 (n * 5 + 3) d).1
    have h5 := (World.ownsRow.stored h4 (n * 5 + 4) e).1
    have key : (((((cs ++ [z0, z1, z2, z3, z4]).set (n * 5) a).set (n * 5 + 1) b).set (n * 5 + 2) c).set (n * 5 + 3) d).set (n * 5 + 4) e = cs ++ [a, b, c, d, e] := by
      rw [List.set_append_right _ _ (by omega), List.set_append_right _ _ (by omega), List.set_append_right _ _ (by omega), List.set_append_right _ _ (by omega), List.set_append_right _ _ (by omega), hc]
      simp
    rw [key] at h5
    exact h5
/-- The zero entry. -/
def zEnt : List Value := [.string ⟨#[]⟩, .int .i64 0, .bool false, .string ⟨#[]⟩, .slice none 0 0]
/-- A kid more: the run of append, and what holds behind it and the five stores. -/
theorem TrV.appZ {w : World} {B : Nat} {T : Tr} {v : Value} {fp : List Nat} (h : TrV w B T v fp) (s : ByteArray) (K : Tr) (u : Value) (fk : List Nat) (hK : TrV w B K u fk) (hn : (fp ++ fk).Nodup) (hB : B ≤ w.heap.size) (hl : T.nms.length ≤ 1073741824) :
    ∃ g cap w', (Builtin.append_ #[23, 23] 23 #[v, .slice (some ⟨w.heap.size, 0, none⟩) 1 1]).run Try.prog ((w.alloc (.cells #[.string ⟨#[]⟩, .int .i64 0, .bool false, .string ⟨#[]⟩, .slice none 0 0] 83)).drew) = .ok (.slice (some ⟨g, 0, none⟩) (T.nms.length + 1) cap) w' ∧ T.nms.length + 1 ≤ cap ∧
      (∀ i, i < 5 → w'.cell? ⟨g, T.nms.length * 5 + i, none⟩ = zEnt[i]?) ∧ (∀ i, w'.frozen? ⟨g, i, none⟩ = false) ∧ (∀ k, k < w.heap.size → k ∉ fp → w'.heap[k]? = w.heap[k]?) ∧ w.heap.size ≤ w'.heap.size ∧ w'.os = w.os ∧ w'.tape = w.tape ∧ w'.output = w.output ∧
      ∃ fp', TrV (set5 w' g (T.nms.length * 5) (entV s K u)) B (.mk T.k T.e T.t (T.nms ++ [s]) (T.ks ++ [K])) (.slice (some ⟨g, 0, none⟩) (T.nms.length + 1) cap) fp' ∧ fp'.Nodup ∧ g ∈ fp' ∧ (∀ b ∈ fp', b ∈ fp ++ fk ∨ w.heap.size ≤ b) := by
  obtain ⟨k, e, t, nms, ks⟩ := T
  rw [TrV] at h
  obtain ⟨cs, fq, h1, h2, rfl⟩ := h
  obtain ⟨i0, hi, hz0, hz1, hz2⟩ := info_parts infoET
  have hl' : nms.length ≤ 1073741824 := hl
  have hown : ((w.alloc (.cells #[.string ⟨#[]⟩, .int .i64 0, .bool false, .string ⟨#[]⟩, .slice none 0 0] 83)).drew).ownsRow B 83 5 v nms.length cs := (World.ownsRow.alloc h1 _).drew
  obtain ⟨g, cap, w', hr, ho, hg, hat, hlt⟩ := run_append_lies (P := Try.prog) ((w.alloc (.cells #[.string ⟨#[]⟩, .int .i64 0, .bool false, .string ⟨#[]⟩, .slice none 0 0] 83)).drew) 23 23 B 83 i0 (.agg #[.string ⟨#[]⟩, .int .i64 0, .bool false, .string ⟨#[]⟩, .slice none 0 0]) 5 72 undLET hi hz0 hz1 hz2 rfl (by decide) v nms.length cs hown ⟨w.heap.size, 0, none⟩ 1 1 zEnt rfl (fun j x hj => by
      rw [Addr.add_lit, Nat.zero_add]
      match j, hj with
      | 0, hj => exact (World.cell?_alloc_new w _ _ 0).trans hj
      | 1, hj => exact (World.cell?_alloc_new w _ _ 1).trans hj
      | 2, hj => exact (World.cell?_alloc_new w _ _ 2).trans hj
      | 3, hj => exact (World.cell?_alloc_new w _ _ 3).trans hj
      | 4, hj => exact (World.cell?_alloc_new w _ _ 4).trans hj) (by intro x hx; simp [zEnt] at hx; rcases hx with rfl | rfl | rfl | rfl | rfl <;> rfl) (by decide) (by unfold maxLen; omega) (by omega) (by show _ ≤ (w.alloc _).heap.size; rw [World.size_alloc]; omega) _ rfl
  have hcap : nms.length + 1 ≤ cap := by
    rcases ho.2 with ⟨e, _⟩ | ⟨_, cap', _, e, _, _, hn, _⟩
    · cases e
    · injection e with _ _ e; subst e; exact hn
  have hsz : (w.alloc (.cells #[.string ⟨#[]⟩, .int .i64 0, .bool false, .string ⟨#[]⟩, .slice none 0 0] 83)).heap.size = w.heap.size + 1 := World.size_alloc _ _
  have hcl := (KidV.len nms ks cs fq h2).1
  have hlq := KidV.lt nms ks cs fq h2
  have hlk := TrV.lt K u fk hK
  have hgn : ∀ b, b ∈ fq ++ fk → b ≠ g := fun b hb e => by
    subst e
    rw [List.append_assoc] at hn
    rcases hat with hat | hat
    · exact (List.nodup_append.1 hn).2.2 b (by unfold blkL; rw [hat]; simp) b hb rfl
    · have : b < w.heap.size := by
        rcases List.mem_append.1 hb with hb | hb
        · exact (hlq b hb).2
        · exact (hlk b hb).2
      have hat : b = (w.alloc (.cells #[.string ⟨#[]⟩, .int .i64 0, .bool false, .string ⟨#[]⟩, .slice none 0 0] 83)).heap.size := hat
      omega
  have hblk : ∀ b, b < w.heap.size → b ∉ blkL v → w'.heap[b]? = w.heap[b]? := fun b hb hm => by
    refine (hg.block b (by show _ < (w.alloc _).heap.size; rw [World.size_alloc]; omega) (fun e => hm ?_)).trans (Below.heap_alloc w _ b hb)
    unfold blkL; rw [← e]; simp
  have hkeep : ∀ b, b ∈ fq ++ fk → (set5 w' g (nms.length * 5) (entV s K u)).heap[b]? = w.heap[b]? := fun b hb => by
    have hbl : b < w.heap.size := by
      rcases List.mem_append.1 hb with hb | hb
      · exact (hlq b hb).2
      · exact (hlk b hb).2
    refine (set5_other _ _ _ _ _ _ _ _ b (hgn b hb)).trans (hblk b hbl (fun hm => ?_))
    rw [List.append_assoc] at hn
    exact (List.nodup_append.1 hn).2.2 b hm b hb rfl
  refine ⟨g, cap, w', hr, hcap, ?_, fun i => World.ownsRow.frozenAt ho i, ?_, ?_, hg.os, hg.tape, hg.output, [g] ++ (fq ++ fk), ?_, ?_, by simp, ?_⟩
  · intro i hi'
    have := World.ownsRow.cellAt ho (nms.length * 5 + i) (by omega)
    rw [List.getElem?_append_right (by omega), hcl, Nat.add_sub_cancel_left] at this
    exact this
  · intro b hb hm
    exact hblk b hb (fun h9 => hm (by simp [h9]))
  · have := hg.size
    have h8 : (w.alloc (.cells #[.string ⟨#[]⟩, .int .i64 0, .bool false, .string ⟨#[]⟩, .slice none 0 0] 83)).heap.size ≤ w'.heap.size := this
    omega
  · rw [TrV]
    refine ⟨cs ++ entV s K u, fq ++ fk, ?_, KidV.snoc nms ks cs fq s K u fk (KidV.same _ _ _ _ h2 (fun b hb => hkeep b (by simp [hb]))) (TrV.same _ _ _ hK (fun b hb => hkeep b (by simp [hb]))), rfl⟩
    rw [List.length_append]
    exact own_set5 ho hcl rfl
  · rw [List.append_assoc] at hn
    refine List.nodup_append.2 ⟨by simp, (List.nodup_append.1 hn).2.1, fun x hx y hy e => ?_⟩
    simp at hx
    subst hx e
    exact hgn x hy rfl
  · intro b hb
    rcases List.mem_append.1 hb with hb | hb
    · simp at hb
      subst hb
      rcases hat with hat | hat
      · exact Or.inl (by simp [blkL, hat])
      · have hat : b = (w.alloc (.cells #[.string ⟨#[]⟩, .int .i64 0, .bool false, .string ⟨#[]⟩, .slice none 0 0] 83)).heap.size := hat
        exact Or.inr (by omega)
    · rcases List.mem_append.1 hb with hb | hb
      · exact Or.inl (by simp [hb])
      · exact Or.inl (by simp [hb])

end Go.Proofs.Ytljcbibcdajhiaa
