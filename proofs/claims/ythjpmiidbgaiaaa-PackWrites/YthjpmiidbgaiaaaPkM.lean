/- The packer in memory; the embedded builder's methods. -/
import Derived.Test.YthjpmiidbgaiaaaPkK
import Derived.Test.YthjpmiidbgaiaaaPkP
import Derived.Lib.AppendStr
import Derived.Lib.Builder
import Derived.Lib.UnsafeStr
import Derived.Maps.AppendAt
import Derived.OwnWalk
import Derived.BigQuiet
import Derived.BigRegion
namespace Go.Proofs.Ythjpmiidbgaiaaa
open Go.RowKit Go.Maps Go.WideMaps

/-- The block of a packer. -/
def PkB (w : World) (g m : Nat) (ad v : Value) (s : List UInt8) (pl : Nat) : Prop := w.heap[g]? = some (.cells #[ad, v, .string (ba s), .map (some m), .int .i64 (pl : Int)] 63 (0, 0))
/-- Block g is a packer over a text, with what is written so far, where the plain bytes begin, and its map. -/
structure Pk (w : World) (g m : Nat) (v : Value) (s out : List UInt8) (pl n : Nat) (D : DataW Unit) : Prop where
  blk : PkB w g m (.pointer (some ⟨g, 0, none⟩)) v s pl
  own : w.ownsRow (g + 1) 5 1 v out.length (Lib.byteCells out)
  mp : w.ownsMap Try.prog 84 (plainElem Try.prog 3) m n D
  mg : m < g

theorem PkB.lt {w : World} {g m : Nat} {ad v : Value} {s : List UInt8} {pl : Nat} (h : PkB w g m ad v s pl) : g < w.heap.size := (Array.getElem?_eq_some_iff.1 h).1
theorem PkB.same {w w' : World} {g m : Nat} {ad v : Value} {s : List UInt8} {pl : Nat} (h : PkB w g m ad v s pl) (e : w'.heap[g]? = w.heap[g]?) : PkB w' g m ad v s pl := e.trans h
theorem PkB.setv {w : World} {g m : Nat} {ad v : Value} {s : List UInt8} {pl : Nat} (h : PkB w g m ad v s pl) (v' : Value) : PkB (w.setCell ⟨g, 1, none⟩ v') g m ad v' s pl := by
  unfold PkB at h ⊢
  simp [World.setCell, Array.getElem?_modify, h]
theorem PkB.setp {w : World} {g m : Nat} {ad v : Value} {s : List UInt8} {pl : Nat} (h : PkB w g m ad v s pl) (pl' : Nat) : PkB (w.setCell ⟨g, 4, none⟩ (.int .i64 (pl' : Int))) g m ad v s pl' := by
  unfold PkB at h ⊢
  simp [World.setCell, Array.getElem?_modify, h]
theorem PkB.seta {w : World} {g m : Nat} {ad v : Value} {s : List UInt8} {pl : Nat} (h : PkB w g m ad v s pl) (ad' : Value) : PkB (w.setCell ⟨g, 0, none⟩ ad') g m ad' v s pl := by
  unfold PkB at h ⊢
  simp [World.setCell, Array.getElem?_modify, h]
theorem map_same {w w' : World} {m n : Nat} {D : DataW Unit} (h : w.ownsMap Try.prog 84 (plainElem Try.prog 3) m n D) (e : w'.heap[m]? = w.heap[m]?) : w'.ownsMap Try.prog 84 (plainElem Try.prog 3) m n D := by
  obtain ⟨es, cl, h1, h2⟩ := h
  exact ⟨es, cl, e.trans h1, h2⟩
theorem row_same {w w' : World} {B : Nat} {v : Value} {n : Nat} {xs : List Value} (h : w.ownsRow B 5 1 v n xs) (e : ∀ k, v.ownBlock = some k → w'.heap[k]? = w.heap[k]?) : w'.ownsRow B 5 1 v n xs := by
  obtain ⟨h1, h2 | ⟨g, cap, cur, hv, hb, hg, r⟩⟩ := h
  · exact ⟨h1, .inl h2⟩
  · exact ⟨h1, .inr ⟨g, cap, cur, hv, hb, (e g (by rw [hv]; rfl)).trans hg, r⟩⟩
theorem row_up {w : World} {B B' : Nat} {v : Value} {n : Nat} {xs : List Value} (h : w.ownsRow B 5 1 v n xs) (hB : B' ≤ B) : w.ownsRow B' 5 1 v n xs := by
  obtain ⟨h1, h2 | ⟨g, cap, cur, hv, hb, r⟩⟩ := h
  · exact ⟨h1, .inl h2⟩
  · exact ⟨h1, .inr ⟨g, cap, cur, hv, by omega, r⟩⟩
theorem Pk.lt {w : World} {g m : Nat} {v : Value} {s out : List UInt8} {pl n : Nat} {D : DataW Unit} (h : Pk w g m v s out pl n D) : g < w.heap.size := h.blk.lt
/-- What only lays new blocks leaves a packer as it is. -/
theorem Pk.below {w w' : World} {g m : Nat} {v : Value} {s out : List UInt8} {pl n : Nat} {D : DataW Unit} (h : Pk w g m v s out pl n D) (b : Below w.heap.size w w') : Pk w' g m v s out pl n D :=
  ⟨h.blk.same (b.block g h.lt), row_same h.own (fun k hk => b.block k (h.own.lt k hk).2), map_same h.mp (b.block m (by have := h.mg; have := h.lt; omega)), h.mg⟩
theorem Pk.drewN {w : World} {g m : Nat} {v : Value} {s out : List UInt8} {pl n : Nat} {D : DataW Unit} (h : Pk w g m v s out pl n D) (q : Nat) : Pk (w.drewN q) g m v s out pl n D := ⟨h.blk, h.own, h.mp, h.mg⟩
theorem Pk.setp {w : World} {g m : Nat} {v : Value} {s out : List UInt8} {pl n : Nat} {D : DataW Unit} (h : Pk w g m v s out pl n D) (pl' : Nat) : Pk (w.setCell ⟨g, 4, none⟩ (.int .i64 (pl' : Int))) g m v s out pl' n D :=
  ⟨h.blk.setp pl', row_same h.own (fun k hk => Below.heap_setCell w _ _ k (by have := (h.own.lt k hk).1; show k ≠ g; omega)), map_same h.mp (Below.heap_setCell w _ _ m (by have := h.mg; show m ≠ g; omega)), h.mg⟩
theorem Pk.slice {w : World} {g m : Nat} {v : Value} {s out : List UInt8} {pl n : Nat} {D : DataW Unit} (h : Pk w g m v s out pl n D) : ∃ p c, v = .slice p out.length c := by
  rcases h.own.2 with ⟨rfl, e⟩ | ⟨k, c, _, rfl, _⟩
  · exact ⟨none, 0, by rw [e]⟩
  · exact ⟨_, _, rfl⟩
theorem slice_of_row {w : World} {B : Nat} {v : Value} {n : Nat} {xs : List Value} (h : w.ownsRow B 5 1 v n xs) : ∃ p n c, v = .slice p n c := by
  rcases h.2 with ⟨rfl, e⟩ | ⟨k, c, _, rfl, _⟩
  · exact ⟨none, 0, 0, rfl⟩
  · exact ⟨_, _, _, rfl⟩

theorem szSBL' : (Try.prog.info? 61).map (·.size) = some 2 := by kernel_rfl
theorem undPS : Try.prog.underlying 59 = some (.pointer 61) := by kernel_rfl
theorem undUP : Try.prog.underlying 90 = some .unsafePointer := by kernel_rfl
theorem liesSBL' : liesAt Try.prog Try.prog.depth 63 (5 / Try.prog.cellsOf 63) 0 61 1 = true := by kernel_rfl
theorem infoU8 : (Try.prog.info? 5).map (fun i => (i.zero, i.size, i.bytes)) = some (some (.int .u8 0), 1, 1) := by kernel_rfl
theorem undTB : Try.prog.underlying 45 = some (.slice 5) := by kernel_rfl

set_option maxHeartbeats 1000000 in
set_option maxRecDepth 100000 in
theorem cpC_used (b : Nat) (w : World) (h0 : w.cell? ⟨b, 0, none⟩ = some (.pointer (some ⟨b, 0, none⟩))) :
    Calls Try.prog 36 #[.pointer (some ⟨b, 0, none⟩)] w fun e w' => e = .returned (.tuple #[]) ∧ w' = w := by
  obtain ⟨j, hj, _⟩ := Option.map_eq_some_iff.1 szSBL'
  go_enter Try.func36, Try.ntmps36
  go_wp2
  rw [Lib.run_neq_ptr_same w _ undPS hj]
  go_wp2
  go_end0
  exact ⟨rfl, rfl⟩

set_option maxHeartbeats 1000000 in
set_option maxRecDepth 100000 in
theorem cpC_fresh (b : Nat) (w : World) (h0 : w.cell? ⟨b, 0, none⟩ = some (.pointer none)) (hsh : w.shape? b = some (63, 5)) (hfz : w.frozen? ⟨b, 0, none⟩ = false) :
    Calls Try.prog 36 #[.pointer (some ⟨b, 0, none⟩)] w fun e w' => e = .returned (.tuple #[]) ∧ w' = w.setCell ⟨b, 0, none⟩ (.pointer (some ⟨b, 0, none⟩)) := by
  obtain ⟨j, hj, hjs⟩ := Option.map_eq_some_iff.1 szSBL'
  go_enter Try.func36, Try.ntmps36
  go_wp2
  rw [Lib.run_to_unsafe w ⟨b, 0, none⟩ undPS undUP hj (by rw [hjs]; decide) hsh (Nat.zero_lt_succ 4)]
  simp only [Result.andThen]
  rw [Oper.upon_value]
  go_wp2
  rw [run_callFunc_extern Try.func43 (by kernel_rfl) (by kernel_rfl) (by kernel_rfl) (e := Extern.AbiNoEscape.same) (by kernel_rfl)]
  rw [Lib.run_noEscape]
  simp only [Result.andThen]
  rw [Oper.upon_value]
  go_wp2
  rw [Lib.run_from_unsafe w ⟨b, 0, none⟩ undUP undPS hj hsh liesSBL']
  simp only [Result.andThen]
  rw [Oper.upon_value]
  go_wp2
  go_end0
  exact ⟨rfl, rfl⟩

theorem wpList_appB_is' {w : World} {ops : Array Oper} {rest : List Oper} {o : Oper} {a : Act} {Q : Exit → Act → World → Prop} (hgd : o.guard = none) (s x : Operand)
    (ho : o.op = .call { callee := .builtin .append, args := #[s, x], argTypes := #[45, 45] }) (v u v' : Value) (w' : World) (hs : a.eval s = v) (hx : a.eval x = u)
    (hr : (Builtin.append_ #[45, 45] o.type #[v, u]).run Try.prog w = .ok v' w') (h : wpList Try.prog ops Q rest (a.put o.dst v') w') : wpList Try.prog ops Q (o :: rest) a w := by
  refine wpList_plain hgd fun K hK' => ?_
  unfold Oper.wp
  simp [execOp, ho, resolve, invoke, builtin, hs, hx, hr, Result.andThen]
  exact hK' _ _ h
theorem wpList_appT_is {w : World} {ops : Array Oper} {rest : List Oper} {o : Oper} {a : Act} {Q : Exit → Act → World → Prop} (hgd : o.guard = none) (s x : Operand)
    (ho : o.op = .call { callee := .builtin .append, args := #[s, x], argTypes := #[45, 9] }) (v u v' : Value) (w' : World) (hs : a.eval s = v) (hx : a.eval x = u)
    (hr : (Builtin.append_ #[45, 9] o.type #[v, u]).run Try.prog w = .ok v' w') (h : wpList Try.prog ops Q rest (a.put o.dst v') w') : wpList Try.prog ops Q (o :: rest) a w := by
  refine wpList_plain hgd fun K hK' => ?_
  unfold Oper.wp
  simp [execOp, ho, resolve, invoke, builtin, hs, hx, hr, Result.andThen]
  exact hK' _ _ h

end Go.Proofs.Ythjpmiidbgaiaaa
