/- takeFar, walked. -/
import Derived.Test.YthjpmiidbgaiaaaUpC
import Derived.Deep.RegionWith
import Derived.Deep.RegionLaw
namespace Go.Proofs.Ythjpmiidbgaiaaa
open Go.RowKit

theorem cpy_succ (far n : Nat) (t : List UInt8) : cpy far (n + 1) t = cpy far n t ++ [(cpy far n t).getD ((cpy far n t).length - far) 0] := by
  induction n generalizing t with
  | zero => rfl
  | succ n ih => rw [cpy, ih]; rfl

theorem step_append_run {ops : Array Oper} {o : Oper} {a : Act} {w : World} {K : Act → World → Prop} {Q : Exit → Act → World → Prop} {E : Prop}
    (hg : o.guard = none) (s x : Operand) (t : TypeId) (hop : o.op = Op.call { callee := Callee.builtin Builtin.append, args := #[s, x], argTypes := #[t, t] }) (vs vx : Value) (hs : a.eval s = vs) (hx : a.eval x = vx) (v' : Value) (w' : World)
    (hrun : (Builtin.append_ #[t, t] o.type #[vs, vx]).run Try.prog w = .ok v' w') (hK : K (a.put o.dst v') w') :
    if Region.wanted o (yielded ops a.tmps) = true then Oper.wp Try.prog o a w K Q else E := by
  have hw : Region.wanted o (yielded ops a.tmps) = true := by simp [Region.wanted, hg]
  rw [if_pos hw]
  unfold Oper.wp
  simp [execOp, hop, resolve, invoke, builtin, hs, hx, hrun, Result.andThen]
  exact hK

theorem und45 : Try.prog.underlying 45 = some (.slice 5) := by kernel_rfl
theorem info5 : (Try.prog.info? 5).map (fun i => (i.zero, i.size, i.bytes)) = some (some (.int .u8 0), 1, 1) := by kernel_rfl

/-- A byte put to the text. -/
theorem Up.regrow {w w2 : World} {g : Nat} {v v' : Value} {s : US} {t : List UInt8} {o : Obj} {q : Nat} (h : Up w g v s) (G : ((w.alloc o).drewN q).grownBy w2 v.ownBlock) (B : Buf w2 0 v' t.length (fun j => .int .u8 (bt (ba t) j))) (hn : v'.ownBlock ≠ some g) : Up (w2.setCell ⟨g, 6, none⟩ v') g v' { s with tx := t } := by
  have eg : w2.heap[g]? = w.heap[g]? := (G.block g (by show g < (w.alloc o).heap.size; rw [World.size_alloc]; have := h.lt; omega) (Ne.symm h.ne)).trans (Below.heap_alloc w o g h.lt)
  have hz : w.heap.size ≤ w2.heap.size := by
    have : (w.alloc o).heap.size ≤ w2.heap.size := G.size
    rw [World.size_alloc] at this; omega
  exact Up.setv (h.st.same hz eg) v' t B hn
theorem Mv.regrow {w w2 : World} {g : Nat} {v v' : Value} {o : Obj} {q : Nat} (G : ((w.alloc o).drewN q).grownBy w2 v.ownBlock) (N : ∀ k, v'.ownBlock = some k → v.ownBlock = some k ∨ k = w.heap.size + 1) : Mv w w2 g v v' := by
  have hz : (w.alloc o).heap.size ≤ w2.heap.size := G.size
  rw [World.size_alloc] at hz
  refine ⟨G.os, G.tape, G.output, by omega, fun k hk hg hv => (G.block k (by show k < (w.alloc o).heap.size; rw [World.size_alloc]; omega) (Ne.symm hv)).trans (Below.heap_alloc w o k hk), fun k hk => (N k hk).imp id (fun e => by omega)⟩

/-- What an append of a byte to the text leaves. -/
theorem Up.grow {w : World} {g : Nat} {v : Value} {s : US} (h : Up w g v s) (b : UInt8) (hn : s.tx.length ≤ 2199023255551) (q : Nat) (ty : TypeId) :
    ∃ v' w', (Builtin.append_ #[45, 45] ty #[v, .slice (some ⟨w.heap.size, 0, none⟩) 1 1]).run Try.prog ((w.alloc (.cells #[.int .u8 (b.toNat : Int)] 5)).drewN q) = .ok v' w' ∧
      Up (w'.setCell ⟨g, 6, none⟩ v') g v' { s with tx := s.tx ++ [b] } ∧ Mv w w' g v v' ∧ (∀ G L, St w G L → G ≠ g → v.ownBlock ≠ some G → St w' G L) ∧ St w' g (s.cells v) := by
  obtain ⟨i, hi, hz0, hz1, hz2⟩ := info_parts info5
  have e : Buf ((w.alloc (.cells #[.int .u8 (b.toNat : Int)] 5)).drewN q) 0 v s.tx.length (fun j => .int .u8 (bt (ba (s.tx ++ [b])) j)) := by
    refine (Buf.congr (h.buf.alloc (.cells #[.int .u8 (b.toNat : Int)] 5)) (fun j hj => ?_)).same (Nat.le_refl _) (fun _ _ => rfl)
    rw [bt_ba _ _ hj, bt_ba _ _ (by rw [List.length_append]; omega), List.getElem_append_left hj]
  have hlast : bt (ba (s.tx ++ [b])) s.tx.length = (b.toNat : Int) := by
    rw [bt_ba _ _ (by simp), List.getElem_append_right (Nat.le_refl _)]
    simp
  obtain ⟨v', w', hr, hb, hg, hN⟩ := run_append_buf (P := Try.prog) ((w.alloc (.cells #[.int .u8 (b.toNat : Int)] 5)).drewN q) 0 45 ty 5 i _ 1 und45 hi hz0 hz1 hz2 (by decide) rfl v s.tx.length (fun j => .int .u8 (bt (ba (s.tx ++ [b])) j)) e ⟨w.heap.size, 0, none⟩ 1 (by
      show (w.alloc (.cells #[.int .u8 (b.toNat : Int)] 5)).cell? ⟨w.heap.size, 0, none⟩ = some (.int .u8 (bt (ba (s.tx ++ [b])) s.tx.length))
      rw [hlast]; exact (World.cell?_alloc_new w _ _ 0).trans rfl) rfl rfl hn (Nat.zero_le _)
  have hN' : ∀ k, v'.ownBlock = some k → v.ownBlock = some k ∨ k = w.heap.size + 1 := fun k hk => (hN k hk).imp id (fun e => by rw [e]; show (w.alloc _).heap.size = _; rw [World.size_alloc])
  have hng : v'.ownBlock ≠ some g := fun e => by
    rcases hN' g e with e | e
    · exact h.ne e
    · have := h.lt; omega
  have hz : w.heap.size ≤ w'.heap.size := by
    have : (w.alloc (.cells #[.int .u8 (b.toNat : Int)] 5)).heap.size ≤ w'.heap.size := hg.size
    rw [World.size_alloc] at this; omega
  have ek : ∀ k, k < w.heap.size → v.ownBlock ≠ some k → w'.heap[k]? = w.heap[k]? := fun k hk hv => (hg.block k (by show k < (w.alloc _).heap.size; rw [World.size_alloc]; omega) (Ne.symm hv)).trans (Below.heap_alloc w _ k hk)
  refine ⟨v', w', hr, h.regrow hg (by rw [List.length_append]; exact hb) hng, Mv.regrow hg hN', fun G L S hG hv => S.same hz (ek G S.lt hv), h.st.same hz (ek g h.lt h.ne)⟩

end Go.Proofs.Ythjpmiidbgaiaaa
