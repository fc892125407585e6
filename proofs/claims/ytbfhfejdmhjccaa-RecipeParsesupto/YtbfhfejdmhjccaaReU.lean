/- Lists of steps in memory; list[Step], walked. -/
import Derived.Test.YtbfhfejdmhjccaaReT
namespace Go.Proofs.Ytbfhfejdmhjccaa
open Go.RowKit

theorem infoStp : (Try.prog.info? 47).map (fun i => (i.zero, i.size, i.bytes)) = some (some (.agg #[.string ⟨#[]⟩, .slice none 0 0]), 2, 40) := by kernel_rfl
theorem undLST : Try.prog.underlying 24 = some (.slice 47) := by kernel_rfl

/-- A step's cells. -/
def stC (p : Stp × Value) : List Value := [.string (ba p.1.1), p.2]
/-- v is a slice of these steps, which the call itself made (blocks from B on). -/
def StS (w : World) (B : Nat) (v : Value) (L : List Stp) : Prop :=
  ∃ P : List (Stp × Value), P.map Prod.fst = L ∧ w.ownsRow B 47 2 v P.length (P.flatMap stC) ∧ ∀ p ∈ P, TxS w B p.2 p.1.2 ∧ ∀ k, p.2.ownBlock = some k → v.ownBlock ≠ some k
theorem StS.nil (w : World) (B : Nat) : StS w B (.slice none 0 0) [] := ⟨[], rfl, World.ownsRow_nil _ _ _ _, fun p hp => absurd hp (by simp)⟩
theorem StS.lt {w : World} {B : Nat} {v : Value} {L : List Stp} (h : StS w B v L) : ∀ k, v.ownBlock = some k → B ≤ k ∧ k < w.heap.size := by
  obtain ⟨P, -, h2, -⟩ := h
  exact fun k hk => World.ownsRow.lt h2 k hk
theorem StS.same {w w' : World} {B : Nat} {v : Value} {L : List Stp} (h : StS w B v L) (e : ∀ k, B ≤ k → k < w.heap.size → w'.heap[k]? = w.heap[k]?) : StS w' B v L := by
  obtain ⟨P, h1, h2, h3⟩ := h
  exact ⟨P, h1, row_same h2 (fun k hk => e k (h2.lt k hk).1 (h2.lt k hk).2), fun p hp => ⟨(h3 p hp).1.same (fun k hk => e k ((h3 p hp).1.lt k hk).1 ((h3 p hp).1.lt k hk).2), (h3 p hp).2⟩⟩
theorem StS.pm {w w' : World} {B g : Nat} {v : Value} {L : List Stp} (h : StS w B v L) (m : Pm g w w') (hg : g < B) : StS w' B v L :=
  h.same (fun k h1 h2 => m.block k h2 (by omega))
theorem StS.below {w w' : World} {B : Nat} {v : Value} {L : List Stp} (h : StS w B v L) (m : Below w.heap.size w w') : StS w' B v L :=
  h.same (fun k _ h2 => m.block k h2)
theorem StS.up {w : World} {B B' : Nat} {v : Value} {L : List Stp} (h : StS w B v L) (e : B' ≤ B) : StS w B' v L := by
  obtain ⟨P, h1, h2, h3⟩ := h
  exact ⟨P, h1, row_up h2 e, fun p hp => ⟨(h3 p hp).1.up e, (h3 p hp).2⟩⟩
theorem StS.shape {w : World} {B : Nat} {v : Value} {L : List Stp} (h : StS w B v L) : ∃ p c, v = .slice p L.length c := by
  obtain ⟨P, h1, h2, h3⟩ := h
  obtain ⟨p, c, e⟩ := slice_of_row h2
  exact ⟨p, c, by rw [e, ← h1, List.length_map]⟩
theorem StS.app {w : World} {B : Nat} {v : Value} {L : List Stp} (h : StS w B v L) (t : Stp) (x : Value) (hx : TxS w B x t.2) (hne : ∀ k, x.ownBlock = some k → v.ownBlock ≠ some k) (hx1 : x.oneCell' = true) (hB : B ≤ w.heap.size) (hl : L.length ≤ 1073741824) :
    ∃ p c w', (Builtin.append_ #[24, 24] 24 #[v, .slice (some ⟨w.heap.size, 0, none⟩) 1 1]).run Try.prog (w.alloc (.cells #[.string (ba t.1), x] 47)) = .ok (.slice p (L ++ [t]).length c) w' ∧ StS w' B (.slice p (L ++ [t]).length c) (L ++ [t]) ∧ w.grownBy w' v.ownBlock := by
  obtain ⟨i0, hi, hz0, hz1, hz2⟩ := info_parts infoStp
  obtain ⟨P, h1, h2, h3⟩ := h
  have hPl : P.length = L.length := by rw [← h1, List.length_map]
  obtain ⟨v', w2, hr, hown', hgrow, hnil, hblk⟩ := run_append_own_at (P := Try.prog) (w.alloc (.cells #[.string (ba t.1), x] 47)) B 24 24 47 i0 (.agg #[.string ⟨#[]⟩, .slice none 0 0]) 2 40 undLST hi hz0 hz1 hz2 rfl (by decide) v P.length (P.flatMap stC) (World.ownsRow.alloc h2 _) ⟨w.heap.size, 0, none⟩ 1 1 [.string (ba t.1), x] rfl (fun j u hj => by
      match j, hj with
      | 0, hj => simp at hj; subst hj; exact (World.cell?_alloc_new w _ _ 0).trans rfl
      | 1, hj => simp at hj; subst hj; exact (World.cell?_alloc_new w _ _ 1).trans rfl) (by intro u hu; simp at hu; rcases hu with rfl | rfl; rfl; exact hx1) (by unfold maxLen; omega) (by omega) (by rw [World.size_alloc]; omega)
  have G2 : w.grownBy w2 v.ownBlock := (World.grownBy_alloc w _ _).trans hgrow
  have hkeep : ∀ (y : Value) (M : List (List UInt8)), TxS w B y M → (∀ k, y.ownBlock = some k → v.ownBlock ≠ some k) → TxS w2 B y M ∧ ∀ k, y.ownBlock = some k → v'.ownBlock ≠ some k := fun y M hy hn => by
    refine ⟨hy.same (fun k hk => G2.block k (hy.lt k hk).2 (fun e => hn k hk e.symm)), fun k hk e => ?_⟩
    rcases hblk with hb | hb
    · exact hn k hk (by rw [← hb]; exact e)
    · rw [hb, World.size_alloc] at e
      injection e with e
      have := (hy.lt k hk).2
      omega
  have HO : StS w2 B v' (L ++ [t]) := by
    refine ⟨P ++ [(t, x)], by rw [List.map_append, h1]; rfl, ?_, ?_⟩
    · rw [List.length_append, List.flatMap_append]
      have : [(t, x)].flatMap stC = [.string (ba t.1), x] := by simp [stC]
      rw [this]
      exact hown'
    · intro p hp
      rw [List.mem_append] at hp
      rcases hp with hp | hp
      · exact hkeep _ _ (h3 p hp).1 (h3 p hp).2
      · simp at hp
        subst hp
        exact hkeep _ _ hx hne
  obtain ⟨p, c, rfl⟩ := HO.shape
  exact ⟨p, c, w2, hr, HO, G2⟩
theorem stp_lt {n : Nat} {l m : List UInt8} {t : Stp} (h : stp n l = .ok t m) : m.length < l.length := by
  have := congrArg List.length (stp_one n _ _ _ h)
  unfold sT at this
  rw [List.length_append] at this
  simp at this
  omega
theorem TxS.one {w : World} {B : Nat} {v : Value} {L : List (List UInt8)} (h : TxS w B v L) : v.oneCell' = true := by
  obtain ⟨p, c, rfl⟩ := h.shape
  rfl

end Go.Proofs.Ytbfhfejdmhjccaa
