/- Gathered: PkK PkM PkC. -/
import Derived.Test.YtljcbibcdajhiaaQa
import Derived.Maps.Own
import Derived.Maps.OwnOps
import Derived.Maps.OwnSet
import Derived.DeepKeys4
import Derived.Lib.AppendStr
import Derived.Lib.Builder
import Derived.Lib.UnsafeStr
import Derived.Maps.AppendAt
import Derived.OwnWalk
import Derived.BigQuiet
import Derived.BigRegion
/- A key of four bytes. -/
namespace Go.Proofs.Ytljcbibcdajhiaa
open Go.RowKit Go.Maps Go.WideMaps

theorem laidOutP : laidOutB Try.prog = true := by kernel_rfl
theorem row84 : (94 : TypeId) < Try.prog.types.size := of_decide_eq_true (by kernel_rfl)
theorem und84 : Try.prog.underlying 94 = some (.array 4 5) := by kernel_rfl
theorem wide84 : (match Try.prog.underlying 94 with | some (.array _ _) | some (.struct _) => true | _ => false) = true := by rw [und84]
set_option maxRecDepth 100000 in
theorem law84 : Keyed Try.prog 94 := Keyed.of_law (deep_law_laid laidOutP (m := 2) (by omega) row84 (by kernel_rfl) wide84)
theorem cells84 : Try.prog.cellsOf 94 = 4 := by kernel_rfl
theorem kt84 : Try.prog.keyType 94 = true := by kernel_rfl
theorem sz84 : Try.prog.types.size + 1 = (Try.prog.types.size - 1) + 2 := by decide +kernel
/-- Four bytes, as a value. -/
def kv (a b c d : UInt8) : Value := .agg #[.int .u8 (a.toNat : Int), .int .u8 (b.toNat : Int), .int .u8 (c.toNat : Int), .int .u8 (d.toNat : Int)]
theorem keyB (a : UInt8) : Lit.keyBytes (.int .u8 (a.toNat : Int)) = [a] := by
  have := a.toNat_lt
  have h : ((a.toNat : Int) % 256).toNat % 256 = a.toNat := by omega
  show [UInt8.ofNat (((a.toNat : Int) % 256).toNat % 256)] = [a]
  rw [h]
  simp
theorem wf8 (a : UInt8) : (Lit.int .u8 (a.toNat : Int)).wf = true := by
  have := a.toNat_lt
  exact WalkArith.wf_u8 (by omega)
theorem lits5 (n : Nat) (a : UInt8) : Try.prog.keyLits (n + 1) 5 [.int .u8 (a.toNat : Int)] = some [.int .u8 (a.toNat : Int)] := by
  unfold Program.keyLits
  rw [Try.underlying5]
  dsimp only
  rw [if_pos ⟨rfl, wf8 a⟩]
theorem cells5 : Try.prog.cellsOf 5 = 1 := by kernel_rfl
theorem lits84 (n : Nat) (a b c d : UInt8) : Try.prog.keyLits (n + 2) 94 [.int .u8 (a.toNat : Int), .int .u8 (b.toNat : Int), .int .u8 (c.toNat : Int), .int .u8 (d.toNat : Int)] = some [.int .u8 (a.toNat : Int), .int .u8 (b.toNat : Int), .int .u8 (c.toNat : Int), .int .u8 (d.toNat : Int)] := by
  unfold Program.keyLits
  rw [und84]
  dsimp only
  rw [if_pos (by rw [cells84]; rfl), cells5]
  rw [show List.range 4 = [0, 1, 2, 3] from rfl]
  simp [lits5]
theorem key4 (a b c d : UInt8) : keyOf Try.prog 94 (kv a b c d) = some (.string [a, b, c, d]) := by
  unfold keyOf
  rw [und84]
  dsimp only
  rw [kt84, show (kv a b c d).formed Try.prog 94 = true by simp [kv, Value.formed, cells84], sz84]
  rw [show (kv a b c d).cells.toList = [.int .u8 (a.toNat : Int), .int .u8 (b.toNat : Int), .int .u8 (c.toNat : Int), .int .u8 (d.toNat : Int)] from rfl, lits84]
  simp [keyBytes, keyB]

end Go.Proofs.Ytljcbibcdajhiaa
/- The packer in memory; the embedded builder's methods. -/
namespace Go.Proofs.Ytljcbibcdajhiaa
open Go.RowKit Go.Maps Go.WideMaps

/-- The block of a packer. -/
def PkB (w : World) (g m : Nat) (ad v : Value) (s : List UInt8) (pl : Nat) : Prop := w.heap[g]? = some (.cells #[ad, v, .string (ba s), .map (some m), .int .i64 (pl : Int)] 59 (0, 0))
/-- Block g is a packer over a text, with what is written so far, where the plain bytes begin, and its map. -/
structure Pk (w : World) (g m : Nat) (v : Value) (s out : List UInt8) (pl n : Nat) (D : DataW Unit) : Prop where
  blk : PkB w g m (.pointer (some ⟨g, 0, none⟩)) v s pl
  own : w.ownsRow (g + 1) 5 1 v out.length (Lib.byteCells out)
  mp : w.ownsMap Try.prog 94 (plainElem Try.prog 3) m n D
  mg : m < g

theorem PkB.lt {w : World} {g m : Nat} {ad v : Value} {s : List UInt8} {pl : Nat} (h : PkB w g m ad v s pl) : g < w.heap.size := (Array.getElem?_eq_some_iff.1 h).1
theorem PkB.same {w w' : World} {g m : Nat} {ad v : Value} {s : List UInt8} {pl : Nat} (h : PkB w g m ad v s pl) (e : w'.heap[g]? = w.heap[g]?) : PkB w' g m ad v s pl := e.trans h
theorem PkB.setv {w : World} {g m : Nat} {ad v : Value} {s : List UInt8} {pl : Nat} (h : PkB w g m ad v s pl) (v' : Value) : PkB (w.setCell ⟨g, 1, none⟩ v') g m ad v' s pl := by
  unfold PkB at h ⊢
  simp [World.setCell, Array.getElem?_modify, h]
theorem PkB.setp {w : World} {g m : Nat} {ad v : Value} {s : List UInt8} {pl : Nat} (h : PkB w g m ad v s pl) (pl' : Nat) : PkB (w.setCell ⟨g, 4, none⟩ (.int .i64 (pl' : Int))) g m ad v s pl' := by
  unfold PkB at h ⊢
  simp [World.setCell, Array.getElem?_modify, h]
theorem PkB.seta {w : World} {g m : Nat} {ad v : Value} {s : List UInt8} {pl : Nat} (h : PkB w g m ad v s pl) (ad' : Value) : PkB (w.setCell ⟨g, 0, none⟩ ad') g m ad' v s pl := by
  unfold PkB at h ⊢
  simp [World.setCell, Array.getElem?_modify, h]
theorem map_same {w w' : World} {m n : Nat} {D : DataW Unit} (h : w.ownsMap Try.prog 94 (plainElem Try.prog 3) m n D) (e : w'.heap[m]? = w.heap[m]?) : w'.ownsMap Try.prog 94 (plainElem Try.prog 3) m n D := by
  obtain ⟨es, cl, h1, h2⟩ := h
  exact ⟨es, cl, e.trans h1, h2⟩
theorem row_same {w w' : World} {B : Nat} {v : Value} {n : Nat} {xs : List Value} (h : w.ownsRow B 5 1 v n xs) (e : ∀ k, v.ownBlock = some k → w'.heap[k]? = w.heap[k]?) : w'.ownsRow B 5 1 v n xs := by
  obtain ⟨h1, h2 | ⟨g, cap, cur, hv, hb, hg, r⟩⟩ := h
  · exact ⟨h1, .inl h2⟩
  · exact ⟨h1, .inr ⟨g, cap, cur, hv, hb, (e g (by rw [hv]; rfl)).trans hg, r⟩⟩
theorem row_up {w : World} {B B' : Nat} {v : Value} {n : Nat} {xs : List Value} (h : w.ownsRow B 5 1 v n xs) (hB : B' ≤ B) : w.ownsRow B' 5 1 v n xs := by
  obtain ⟨h1, h2 | ⟨g, cap, cur, hv, hb, r⟩⟩ := h
  · exact ⟨h1, .inl h2⟩
  · exact ⟨h1, .inr ⟨g, cap, cur, hv, by omega, r⟩⟩
theorem Pk.lt {w : World} {g m : Nat} {v : Value} {s out : List UInt8} {pl n : Nat} {D : DataW Unit} (h : Pk w g m v s out pl n D) : g < w.heap.size := h.blk.lt
/-- What only lays new blocks leaves a packer as it is. -/
theorem Pk.below {w w' : World} {g m : Nat} {v : Value} {s out : List UInt8} {pl n : Nat} {D : DataW Unit} (h : Pk w g m v s out pl n D) (b : Below w.heap.size w w') : Pk w' g m v s out pl n D :=
  ⟨h.blk.same (b.block g h.lt), row_same h.own (fun k hk => b.block k (h.own.lt k hk).2), map_same h.mp (b.block m (by have := h.mg; have := h.lt; omega)), h.mg⟩
theorem Pk.drewN {w : World} {g m : Nat} {v : Value} {s out : List UInt8} {pl n : Nat} {D : DataW Unit} (h : Pk w g m v s out pl n D) (q : Nat) : Pk (w.drewN q) g m v s out pl n D := ⟨h.blk, h.own, h.mp, h.mg⟩
theorem Pk.setp {w : World} {g m : Nat} {v : Value} {s out : List UInt8} {pl n : Nat} {D : DataW Unit} (h : Pk w g m v s out pl n D) (pl' : Nat) : Pk (w.setCell ⟨g, 4, none⟩ (.int .i64 (pl' : Int))) g m v s out pl' n D :=
  ⟨h.blk.setp pl', row_same h.own (fun k hk => Below.heap_setCell w _ _ k (by have := (h.own.lt k hk).1; show k ≠ g; omega)), map_same h.mp (Below.heap_setCell w _ _ m (by have := h.mg; show m ≠ g; omega)), h.mg⟩
theorem Pk.slice {w : World} {g m : Nat} {v : Value} {s out : List UInt8} {pl n : Nat} {D : DataW Unit} (h : Pk w g m v s out pl n D) : ∃ p c, v = .slice p out.length c := by
  rcases h.own.2 with ⟨rfl, e⟩ | ⟨k, c, _, rfl, _⟩
  · exact ⟨none, 0, by rw [e]⟩
  · exact ⟨_, _, rfl⟩
theorem slice_of_row {w : World} {B : Nat} {v : Value} {n : Nat} {xs : List Value} (h : w.ownsRow B 5 1 v n xs) : ∃ p n c, v = .slice p n c := by
  rcases h.2 with ⟨rfl, e⟩ | ⟨k, c, _, rfl, _⟩
  · exact ⟨none, 0, 0, rfl⟩
  · exact ⟨_, _, _, rfl⟩

theorem szSBL' : (Try.prog.info? 51).map (·.size) = some 2 := by kernel_rfl
theorem undPS : Try.prog.underlying 49 = some (.pointer 51) := by kernel_rfl
theorem undUP : Try.prog.underlying 113 = some .unsafePointer := by kernel_rfl
theorem liesSBL' : liesAt Try.prog Try.prog.depth 59 (5 / Try.prog.cellsOf 59) 0 51 1 = true := by kernel_rfl
theorem infoU8K : (Try.prog.info? 5).map (fun i => (i.zero, i.size, i.bytes)) = some (some (.int .u8 0), 1, 1) := by kernel_rfl
theorem undTBK : Try.prog.underlying 37 = some (.slice 5) := by kernel_rfl

set_option maxHeartbeats 1000000 in
set_option maxRecDepth 100000 in
theorem cpC_usedK (b : Nat) (w : World) (h0 : w.cell? ⟨b, 0, none⟩ = some (.pointer (some ⟨b, 0, none⟩))) :
    Calls Try.prog 36 #[.pointer (some ⟨b, 0, none⟩)] w fun e w' => e = .returned (.tuple #[]) ∧ w' = w := by
  obtain ⟨j, hj, _⟩ := Option.map_eq_some_iff.1 szSBL'
  go_enter Try.func36, Try.ntmps36
  go_wp2
  rw [Lib.run_neq_ptr_same w _ undPS hj]
  go_wp2
  go_end0
  exact ⟨rfl, rfl⟩

set_option maxHeartbeats 1000000 in
set_option maxRecDepth 100000 in
theorem cpC_freshK (b : Nat) (w : World) (h0 : w.cell? ⟨b, 0, none⟩ = some (.pointer none)) (hsh : w.shape? b = some (59, 5)) (hfz : w.frozen? ⟨b, 0, none⟩ = false) :
    Calls Try.prog 36 #[.pointer (some ⟨b, 0, none⟩)] w fun e w' => e = .returned (.tuple #[]) ∧ w' = w.setCell ⟨b, 0, none⟩ (.pointer (some ⟨b, 0, none⟩)) := by
  obtain ⟨j, hj, hjs⟩ := Option.map_eq_some_iff.1 szSBL'
  go_enter Try.func36, Try.ntmps36
  go_wp2
  rw [Lib.run_to_unsafe w ⟨b, 0, none⟩ undPS undUP hj (by rw [hjs]; decide) hsh (Nat.zero_lt_succ 4)]
  simp only [Result.andThen]
  rw [Oper.upon_value]
  go_wp2
  rw [run_callFunc_extern Try.func53 (by kernel_rfl) (by kernel_rfl) (by kernel_rfl) (e := Extern.AbiNoEscape.same) (by kernel_rfl)]
  rw [Lib.run_noEscape]
  simp only [Result.andThen]
  rw [Oper.upon_value]
  go_wp2
  rw [Lib.run_from_unsafe w ⟨b, 0, none⟩ undUP undPS hj hsh liesSBL']
  simp only [Result.andThen]
  rw [Oper.upon_value]
  go_wp2
  go_end0
  exact ⟨rfl, rfl⟩

theorem wpList_appB_is' {w : World} {ops : Array Oper} {rest : List Oper} {o : Oper} {a : Act} {Q : Exit → Act → World → Prop} (hgd : o.guard = none) (s x : Operand)
    (ho : o.op = .call { callee := .builtin .append, args := #[s, x], argTypes := #[37, 37] }) (v u v' : Value) (w' : World) (hs : a.eval s = v) (hx : a.eval x = u)
    (hr : (Builtin.append_ #[37, 37] o.type #[v, u]).run Try.prog w = .ok v' w') (h : wpList Try.prog ops Q rest (a.put o.dst v') w') : wpList Try.prog ops Q (o :: rest) a w := by
  refine wpList_plain hgd fun K hK' => ?_
  unfold Oper.wp
  simp [execOp, ho, resolve, invoke, builtin, hs, hx, hr, Result.andThen]
  exact hK' _ _ h
theorem wpList_appT_is {w : World} {ops : Array Oper} {rest : List Oper} {o : Oper} {a : Act} {Q : Exit → Act → World → Prop} (hgd : o.guard = none) (s x : Operand)
    (ho : o.op = .call { callee := .builtin .append, args := #[s, x], argTypes := #[37, 9] }) (v u v' : Value) (w' : World) (hs : a.eval s = v) (hx : a.eval x = u)
    (hr : (Builtin.append_ #[37, 9] o.type #[v, u]).run Try.prog w = .ok v' w') (h : wpList Try.prog ops Q rest (a.put o.dst v') w') : wpList Try.prog ops Q (o :: rest) a w := by
  refine wpList_plain hgd fun K hK' => ?_
  unfold Oper.wp
  simp [execOp, ho, resolve, invoke, builtin, hs, hx, hr, Result.andThen]
  exact hK' _ _ h

end Go.Proofs.Ytljcbibcdajhiaa
/- The packer's four. -/
namespace Go.Proofs.Ytljcbibcdajhiaa
open Go.RowKit Go.Maps Go.WideMaps

theorem bt_get (s : List UInt8) (i : Nat) (h : i < s.length) : bt (ba s) i = ((s.getD i 0).toNat : Int) := by
  rw [bt_ba _ _ h, List.getD_eq_getElem?_getD, List.getElem?_eq_getElem h]
  rfl

/-- Four bytes and a word whether there are any, handed back. -/
theorem ret_four {f : Func} {tmps : Array Value} {W : World} {G : Nat} {i j : Nat} {a b c d : Value} {x : Bool} {R : Ending → World → Prop} (hf : f.results = #[.cell i 94, .tmp j]) (hj : tmps[j]?.getD undef = .bool x) (ht : tmps[i]?.getD undef = .pointer (some ⟨G, 0, none⟩))
    (q : StK W G [a, b, c, d]) (hR : R (.returned (.tuple #[.agg #[a, b, c, d], .bool x])) W) :
    bodyPost Try.prog f R .ret { tmps := tmps, defers := [] } W := by
  have q0 := q.get 0 _ rfl
  have q1 := q.get 1 _ rfl
  have q2 := q.get 2 _ rfl
  have q3 := q.get 3 _ rfl
  exact bodyPost_ret (v := .tuple #[.agg #[a, b, c, d], .bool x]) (by simp [results, hf, go_sem, hj, ht, q0, q1, q2, q3]) rfl hR

set_option maxHeartbeats 1000000 in
set_option maxRecDepth 10000 in
theorem four_none (g : Nat) (s : List UInt8) (i : Nat) (w : World) (c2 : w.cell? ⟨g, 2, none⟩ = some (.string (ba s))) (hg : g < w.heap.size) (_ : s.length ≤ 1048576) (hi : i ≤ s.length) (h4 : ¬ i + 4 ≤ s.length) :
    Calls Try.prog 37 #[.pointer (some ⟨g, 0, none⟩), .int .i64 (i : Int)] w fun e w' => e = .returned (.tuple #[.agg #[.int .u8 0, .int .u8 0, .int .u8 0, .int .u8 0], .bool false]) ∧ Below w.heap.size w w' := by
  have hsz := ba_size s
  have hn : w.heap.size ≠ g := by omega
  have h4' : (s.length : Int) - (i : Int) < 4 := by omega
  go_enter Try.func37, Try.ntmps37
  go_wp2
  exact ret_four rfl rfl rfl (StK.new w _ _) ⟨rfl, (Below.refl _ _).alloc (Nat.le_refl _) _⟩

set_option maxHeartbeats 4000000 in
set_option maxRecDepth 10000 in
theorem four_some (g : Nat) (s : List UInt8) (i : Nat) (w : World) (c2 : w.cell? ⟨g, 2, none⟩ = some (.string (ba s))) (hg : g < w.heap.size) (hs : s.length ≤ 1048576) (h4 : i + 4 ≤ s.length) :
    Calls Try.prog 37 #[.pointer (some ⟨g, 0, none⟩), .int .i64 (i : Int)] w fun e w' => e = .returned (.tuple #[kv (s.getD i 0) (s.getD (i + 1) 0) (s.getD (i + 2) 0) (s.getD (i + 3) 0), .bool true]) ∧ Below w.heap.size w w' := by
  have hsz := ba_size s
  have hn : w.heap.size ≠ g := by omega
  have h4' : ¬ (s.length : Int) - (i : Int) < 4 := by omega
  have b0 := bt_get s i (by omega)
  have b1 := bt_get s (i + 1) (by omega)
  have b2 := bt_get s (i + 2) (by omega)
  have b3 := bt_get s (i + 3) (by omega)
  have hgt : ∀ (n : Nat) (h : n < (ba s).size), (((ba s)[n]'h).toNat : Int) = bt (ba s) n := get_bt (ba s)
  generalize s.getD i 0 = k0 at *
  generalize s.getD (i + 1) 0 = k1 at *
  generalize s.getD (i + 2) 0 = k2 at *
  generalize s.getD (i + 3) 0 = k3 at *
  go_enter Try.func37, Try.ntmps37
  go_wp2_with fail
  go_region
  all_goals (
    try rw [b2]
    try rw [b3]
    go_wp2
    exact ret_four rfl rfl rfl ((StK.new w #[.int .u8 (k0.toNat : Int), .int .u8 (k1.toNat : Int), .int .u8 (k2.toNat : Int), .int .u8 (k3.toNat : Int)] 94).drewN 1) ⟨rfl, ((Below.refl _ _).alloc (Nat.le_refl _) _).drew⟩)

end Go.Proofs.Ytljcbibcdajhiaa
