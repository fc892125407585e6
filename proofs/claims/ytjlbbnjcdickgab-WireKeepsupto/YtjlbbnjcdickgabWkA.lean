/- What WireKeeps leans on: bytes copied, a row of items written over, the reader's items. -/
import Derived.Test.YtjlbbnjcdickgabWbP
import Derived.Test.YtjlbbnjcdickgabWrG
import Derived.Deep.AppendLies
import Derived.Laws.OwnMore
import Derived.Lib.LazyBuf
import Derived.Deep.QuietTactic
import Derived.BigQuiet
namespace Go.Proofs.Ytjlbbnjcdickgab
open Go.RowKit

theorem size5 : ∀ w : World, (Go.sizeOf 5).run Try.prog w = .ok 1 w := fun w => by
  obtain ⟨i0, hi, hz0, hz1, hz2⟩ := info_parts Try.info5
  simp [sizeOf, typeInfo, hi, hz1]
theorem setCells_only (g : Nat) : ∀ (l : List Value) (o : Nat) (w : World), (w.setCells g o l).heap.size = w.heap.size ∧ (∀ k, k ≠ g → (w.setCells g o l).heap[k]? = w.heap[k]?) ∧ (w.setCells g o l).os = w.os ∧ (w.setCells g o l).tape = w.tape ∧ (w.setCells g o l).output = w.output := by
  intro l
  induction l with
  | nil => intro o w; exact ⟨rfl, fun _ _ => rfl, rfl, rfl, rfl⟩
  | cons a l ih =>
    intro o w
    obtain ⟨h1, h2, h3, h4, h5⟩ := ih (o + 1) (w.setCell ⟨g, o, none⟩ a)
    exact ⟨h1.trans (by simp), fun k hk => (h2 k hk).trans (Below.heap_setCell w _ _ k hk), h3, h4, h5⟩
/-- copy(q, t). -/
theorem copy_str (w : World) (g m : Nat) (z : Nat → Int) (t : ByteArray) (ty : TypeId) (V : Row .u8 w g m z) (hm : t.size ≤ m) :
    ∃ w', (Builtin.copy_ #[32, 9] ty #[.slice (some ⟨g, 0, none⟩) m m, .string t]).run Try.prog w = .ok (goInt t.size) w' ∧ Row .u8 w' g m (fun j => if j < t.size then bt t j else z j) ∧ w.grownBy w' (some g) := by
  have hl : (t.data.toList.map fun x => Value.int .u8 (x.toNat : Int)).length = t.size := by rw [List.length_map, Array.length_toList]; rfl
  have hr := Go.run_copy_string (P := Try.prog) w 32 9 ty 5 g 0 m m t Try.underlying32 size5 hm (fun j hj => by rw [Nat.zero_add, V.cell j (by omega)]; rfl) (fun j hj => by rw [Nat.zero_add]; exact V.free j (by omega))
  obtain ⟨s1, s2, s3, s4, s5⟩ := setCells_only g (t.data.toList.map fun x => Value.int .u8 (x.toNat : Int)) 0 w
  refine ⟨_, hr, ⟨fun j hj => ?_, fun j hj => by rw [World.frozen?_setCells]; exact V.free j hj⟩, ⟨s3, s4, s5, by rw [s1]; exact Nat.le_refl _, fun k _ hk => s2 k (fun e => hk (by rw [e]))⟩⟩
  by_cases h : j < t.size
  · have := World.cell?_setCells_in g (t.data.toList.map fun x => Value.int .u8 (x.toNat : Int)) 0 w (fun i hi => by rw [Nat.zero_add, V.cell i (by omega)]; rfl) j (by omega)
    rw [Nat.zero_add] at this
    rw [this, if_pos h]
    unfold bt
    rw [dif_pos h]
    simp
    rfl
  · rw [if_neg h, World.cell?_setCells_out g _ 0 w _ (fun _ _ => by right; rw [hl]; show 0 + t.size ≤ j; omega)]
    exact V.cell j hj
theorem make_bytes (w : World) (n : Nat) (hn : n ≤ 1073741824) : (Instr.makeSlice 32 (.int .i64 (n : Int)) (.int .i64 (n : Int))).run Try.prog w = .ok (.slice (some ⟨w.heap.size, 0, none⟩) n n) (w.alloc (.cells (madeCells (Value.int .u8 0).cells n) 5)) := by
  obtain ⟨i0, hi, hz0, hz1, hz2⟩ := info_parts Try.info5
  rw [run_make (P := Try.prog) w 32 5 i0 (.int .u8 0) Try.underlying32 hi hz0 .i64 .i64 _ _ (by omega) (by omega) (by rw [hz2]; omega) (by omega), Int.toNat_natCast, hz1, Nat.mul_one]

/-- The two items. -/
def kI (l : List UInt8) : List It := [⟨false, 0, l⟩, ⟨false, 0, l ++ [120]⟩]
def kT (l : List UInt8) : List UInt8 := fr8 l ++ fr8 (l ++ [120])
theorem kI_fr (l : List UInt8) : (kI l).flatMap frI = kT l := by
  unfold kI kT
  simp [frI]
theorem kI_ok (l : List UInt8) (h : l.length ≤ 1048576) : ∀ i ∈ kI l, okI (l.length + 1) i := by
  intro i hi
  simp [kI] at hi
  rcases hi with rfl | rfl
  · exact ⟨(by show 0 < 18446744073709551616; decide), by show l.length < _; omega, fun _ => by show l.length ≤ _; omega⟩
  · exact ⟨(by show 0 < 18446744073709551616; decide), by simp; omega, fun _ => by simp⟩
theorem keep_pure (l : List UInt8) (h : l.length ≤ 1048576) : ((rsNew [116, 116, 116, 116] (l.length + 1)).run (kT l)).out = kI l ∧ (((rsNew [116, 116, 116, 116] (l.length + 1)).run (kT l)).run (kT l)).out = kI l ++ kI l ∧ (((rsNew [116, 116, 116, 116] (l.length + 1)).run (kT l)).run (kT l)).shut.code = 0 := by
  have hpl : (kI l).map plI = [116, 116] := rfl
  have hpp : (kI l).map plainI = kI l := rfl
  have h1 := sp_got (kT l) [116, 116, 116, 116] (l.length + 1) (by rfl)
  have h2 := rdG_frames (l.length + 1) (kI l) [116, 116] [] 0 [] (kI_ok l h)
  rw [hpl, kI_fr, List.append_nil, hpp, rdG, if_pos (show ([] : List UInt8).length < 8 by decide), List.nil_append] at h2
  have h3 : ([116, 116] ++ [116, 116] : List UInt8) = [116, 116, 116, 116] := rfl
  rw [h3] at h2
  rw [h2] at h1
  have h4 := sp_whole (l.length + 1) (kI l ++ kI l) (fun i hi => (List.mem_append.1 hi).elim (kI_ok l h i) (kI_ok l h i))
  rw [List.flatMap_append, List.map_append, List.map_append, hpl, kI_fr, hpp, h3] at h4
  refine ⟨congrArg Got.out h1, ?_, ?_⟩
  · rw [← RS.run_append, ← shut_out]
    exact h4.2.2
  · rw [← RS.run_append]
    exact h4.1
theorem kT_len (l : List UInt8) : (kT l).length = 8 + l.length + padN l.length + (8 + (l.length + 1) + padN (l.length + 1)) := by
  unfold kT
  rw [List.length_append, fr8_len, fr8_len, List.length_append]
  rfl

theorem wpList_append_li {w : World} {ops : Array Oper} {rest : List Oper} {o : Oper} {a : Act} {Q : Exit → Act → World → Prop} (hgd : o.guard = none) (s x : Operand)
    (ho : o.op = .call { callee := .builtin .append, args := #[s, x], argTypes := #[22, 22] }) (v u v' : Value) (w' : World) (hs : a.eval s = v) (hx : a.eval x = u)
    (hr : (Builtin.append_ #[22, 22] o.type #[v, u]).run Try.prog w = .ok v' w') (h : wpList Try.prog ops Q rest (a.put o.dst v') w') : wpList Try.prog ops Q (o :: rest) a w := by
  refine wpList_plain hgd fun K hK' => ?_
  unfold Oper.wp
  simp [execOp, ho, resolve, invoke, builtin, hs, hx, hr, Result.andThen]
  exact hK' _ _ h

end Go.Proofs.Ytjlbbnjcdickgab
