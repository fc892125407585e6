/- A table's All (string keys): what a range over it gives. -/
import Derived.Test.YtbdnniaajiiimaaTmS
namespace Go.Proofs.Ytbdnniaajiiimaa
namespace TS
open Go.RowKit Go.Shelf
attribute [local go_sem] Oper.semAt_some

set_option maxHeartbeats 1000000 in
theorem all1_in (F : Fence) (hd : F.depth = none) (n : Nat) (h5 : F.fn 35) (h6 : F.fn 32) (hro : F.round = none) (l Bt Tb n₀ : Nat) (p0 : Option Addr) (T : BT ByteArray) (J Jx : List (ByteArray × Int) → World → Prop) (hJd : ∀ pre W, J pre W → J pre W.drew)
    (hY : ∀ pre x W, J pre W → pre.length < T.toL.length → YieldAt F (n - 1) Try.prog l #[Value.string x.1, .int .i64 x.2] W fun e W' =>
      (e = .returned (.bool true) ∧ J (pre ++ [x]) W' ∧ Below n₀ W W') ∨ (e = .returned (.bool false) ∧ Jx (pre ++ [x]) W'))
    (W : World) (hBt : W.cell? ⟨Bt, 0, none⟩ = some (.pointer (some ⟨Tb, 0, none⟩))) (hTb : W.cell? ⟨Tb, 0, none⟩ = some (.pointer p0)) (hT : TrB n₀ W T p0) (h0 : J [] W) :
    CallsIn F n Try.prog 35 #[.func (.yield l) #[] #[], .pointer (some ⟨Bt, 0, none⟩)] W fun e W' => (∃ v, e = .returned v) ∧
      ((∃ ys, ys = T.toL ∧ J ys W') ∨ (∃ pre, pre <+: T.toL ∧ Jx pre W')) := by
  have hdd : ∀ k : Nat, (F.depth.isSome = true → 1 ≤ k) := fun k h => by rw [hd] at h; cases h
  have hnf : ∀ W : World, (binOp .neq 28 (Value.func (Fn.yield l) #[] #[]) Value.nilFunc).run Try.prog W = .ok (.bool true) W := fun _ => rfl
  have hp := walk_in F hd h6 hro l n₀ T.toL.length J Jx hJd (fun m pre x W hj hl => yield_any hd m (hY pre x W hj hl)) T (n - 1) p0 [] W hT h0 (by simp)
  refine callsIn_of_wp Try.func35 rfl h5 ?_ hro
  simp only [Try.ntmps35, List.size_toArray, List.length_cons, List.length_nil, Nat.reduceAdd, Nat.reduceSub, Array.replicate_succ, Array.replicate_zero, List.push_toArray, List.append_toArray, List.nil_append, List.cons_append]
  gi_wp2_with ((try refine ⟨hdd _, ?_⟩); gi_at_call 32; refine hp.mono ?_; clear hp; rintro e W1 (⟨rfl, hJ1, _⟩ | ⟨rfl, q, hq, hx⟩))
  · go_end0
    exact ⟨⟨_, rfl⟩, .inl ⟨_, rfl, by simpa using hJ1⟩⟩
  · go_end0
    exact ⟨⟨_, rfl⟩, .inr ⟨q, hq, by simpa using hx⟩⟩

set_option maxHeartbeats 1000000 in
theorem all_in (F : Fence) (n : Nat) (h4 : F.fn 31) (hro : F.round = none) (q : Option Addr) (w : World) :
    CallsIn F n Try.prog 31 #[.pointer q] w fun e w' => e = .returned (.func (.func 35) #[] #[.pointer (some ⟨w.heap.size, 0, none⟩)]) ∧ w' = w.alloc (.cells #[.pointer q] 23) := by
  refine callsIn_of_wp Try.func31 rfl h4 ?_ hro
  simp only [Try.ntmps31, List.size_toArray, List.length_cons, List.length_nil, Nat.reduceAdd, Nat.reduceSub, Array.replicate_succ, Array.replicate_zero, List.push_toArray, List.append_toArray, List.nil_append, List.cons_append]
  gi_wp2
  go_ret
  exact ⟨rfl, rfl⟩

theorem gb_drew (W : World) : W.grownBy W.drew none := ⟨rfl, rfl, rfl, Nat.le_refl _, fun _ _ _ => rfl⟩

theorem all_stops (F : Fence) (hd : F.depth = none) (n : Nat) (h5 : F.fn 35) (h6 : F.fn 32) (hro : F.round = none) (Bt Tb n₀ : Nat) (p0 : Option Addr) (T : BT ByteArray) (w : World) (hBt : Bt < w.heap.size) (hTb : Tb < w.heap.size) (hn₀ : n₀ ≤ w.heap.size)
    (hc : w.cell? ⟨Bt, 0, none⟩ = some (.pointer (some ⟨Tb, 0, none⟩))) (hc2 : w.cell? ⟨Tb, 0, none⟩ = some (.pointer p0)) (hT : TrB n₀ w T p0) :
    SeqStopsK F n Try.prog 35 #[.pointer (some ⟨Bt, 0, none⟩)] (fun x : ByteArray × Int => #[Value.string x.1, .int .i64 x.2]) (Below n₀) (fun ys => ys = T.toL) (fun pre => pre <+: T.toL) T.toL.length w := fun l J Jx W hW hJ _ hY h0 =>
  all1_in F hd n h5 h6 hro l Bt Tb n₀ p0 T J Jx (fun pre W h => hJ pre W W.drew none h (gb_drew W) (fun r e => by cases e)) hY W ((hW.cell (p := ⟨Bt, 0, none⟩) hBt).trans hc) ((hW.cell (p := ⟨Tb, 0, none⟩) hTb).trans hc2) (hT.below (hW.mono hn₀)) h0

end TS
end Go.Proofs.Ytbdnniaajiiimaa
