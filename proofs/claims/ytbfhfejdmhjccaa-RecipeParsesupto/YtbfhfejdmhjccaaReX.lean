/- Parse, walked: the deferred closure, recover. -/
import Derived.Test.YtbfhfejdmhjccaaReW
import Derived.Defers
import Derived.Recover
import Derived.Laws.Pointers
namespace Go.Proofs.Ytbfhfejdmhjccaa
open Go.RowKit

theorem catch_idle (p q : Addr) (w : World) :
    CallsD Try.prog 16 #[.pointer (some p), .pointer (some q)] .returning w fun e u' w' => e = .returned (.tuple #[]) ∧ u' = .returning ∧ w' = w := by
  refine callsD_of_wpS Try.func16 rfl fun c₀ cs hu => ?_
  apply wpS_seq
  apply wpS_region
  simp [wpOpsS, go_sem, recoverD, hu, Try.ntmps16, Exit.thenS]
  refine wpS_of_wp ?_
  go_wp2
  cases c₀
  simp_all [bodyPostS, results, Try.results16]

set_option maxHeartbeats 4000000 in
set_option maxRecDepth 10000 in
theorem catch_broken (r q : Nat) (i : Nat) (a b c d : Value) (w : World) (h : St3 w r a b c) (hq : w.heap[q]? = some (.cells #[d] 28 (0, 0))) (hrq : r ≠ q) :
    CallsD Try.prog 16 #[.pointer (some ⟨r, 0, none⟩), .pointer (some ⟨q, 0, none⟩)] (.panicking [{ v := brk i, recovered := false }]) w fun e u' w' =>
      e = .returned (.tuple #[]) ∧ u' = .panicking [{ v := brk i, recovered := true }] ∧ ∃ k, w.heap.size ≤ k ∧ St3 w' r (.string ⟨#[]⟩) (.slice none 0 0) (.slice none 0 0) ∧ w'.heap[q]? = some (.cells #[.iface 48 (.pointer (some ⟨k, 0, none⟩))] 28 (0, 0)) ∧ w'.heap[k]? = some (.cells #[.int .i64 210, .int .i64 (i : Int)] 40 (0, 0)) ∧ w'.heap.size = w.heap.size + 1 ∧ (∀ j, j < w.heap.size → j ≠ r → j ≠ q → w'.heap[j]? = w.heap[j]?) ∧ w'.os = w.os ∧ w'.tape = w.tape ∧ w'.output = w.output := by
  refine callsD_of_wpS Try.func16 rfl fun c₀ cs hu => ?_
  apply wpS_seq
  apply wpS_region
  simp [wpOpsS, go_sem, recoverD, hu, Try.ntmps16, Exit.thenS]
  refine wpS_of_wp ?_
  unfold brk
  go_wp2_with fail
  have x0 := h.c0
  have x1 := h.c1
  have x2 := h.c2
  have y0 := h.f 0
  have y1 := h.f 1
  have y2 := h.f 2
  have z0 : w.cell? ⟨q, 0, none⟩ = some d := by rw [Lib.cell_of_heap hq]; rfl
  have z1 : w.frozen? ⟨q, 0, none⟩ = false := Lib.frozen_of_heap hq 0
  refine (show Code.wp Try.prog _ _ { tmps := #[.pointer (some ⟨r, 0, none⟩), .pointer (some ⟨q, 0, none⟩), .iface 50 (.agg #[.int .i64 (i : Int)]), .iface 50 (.agg #[.int .i64 (i : Int)]), .iface 50 (.agg #[.int .i64 (i : Int)]), .bool true, undef, undef, undef, undef, undef, undef, undef], defers := [] } w from ?_)
  have hta : ∀ W : World, (Instr.typeAssert (.iface 50 (.agg #[.int .i64 (i : Int)])) 20 50 false).run Try.prog W = .ok (.agg #[.int .i64 (i : Int)]) W := fun W => by
    simp [Instr.typeAssert, go_sem]
  have hfd : ∀ W : World, (Instr.field 50 (.agg #[.int .i64 (i : Int)]) 0).run Try.prog W = .ok (.int .i64 (i : Int)) W := fun W => by
    first | rfl | kernel_rfl | simp [Instr.field, go_sem]
  have hrl : r < w.heap.size := h.lt
  have hql : q < w.heap.size := (Array.getElem?_eq_some_iff.1 hq).1
  have hB : ∀ k, k < w.heap.size → (w.alloc (.cells #[.int .i64 210, .int .i64 (i : Int)] 40)).heap[k]? = w.heap[k]? := fun k hk => Below.heap_alloc w _ k hk
  have hC : ∀ k, k ≠ r → (((w.setCell ⟨r, 0, none⟩ (.string ⟨#[]⟩)).setCell ⟨r, 1, none⟩ (.slice none 0 0)).setCell ⟨r, 2, none⟩ (.slice none 0 0)).heap[k]? = w.heap[k]? := fun k hk => (Below.heap_setCell _ ⟨r, 2, none⟩ _ k hk).trans ((Below.heap_setCell _ ⟨r, 1, none⟩ _ k hk).trans (Below.heap_setCell _ ⟨r, 0, none⟩ _ k hk))
  have hCs : (((w.setCell ⟨r, 0, none⟩ (.string ⟨#[]⟩)).setCell ⟨r, 1, none⟩ (.slice none 0 0)).setCell ⟨r, 2, none⟩ (.slice none 0 0)).heap.size = w.heap.size := by rw [World.size_setCell, World.size_setCell, World.size_setCell]
  have p0 : (w.alloc (.cells #[.int .i64 210, .int .i64 (i : Int)] 40)).cell? ⟨r, 0, none⟩ = some a := (World.cell?_of_block (w := w) (a := ⟨r, 0, none⟩) (hB r hrl)).trans x0
  have p1 : (w.alloc (.cells #[.int .i64 210, .int .i64 (i : Int)] 40)).cell? ⟨r, 1, none⟩ = some b := (World.cell?_of_block (w := w) (a := ⟨r, 1, none⟩) (hB r hrl)).trans x1
  have p2 : (w.alloc (.cells #[.int .i64 210, .int .i64 (i : Int)] 40)).cell? ⟨r, 2, none⟩ = some c := (World.cell?_of_block (w := w) (a := ⟨r, 2, none⟩) (hB r hrl)).trans x2
  have p3 : ∀ j, (w.alloc (.cells #[.int .i64 210, .int .i64 (i : Int)] 40)).frozen? ⟨r, j, none⟩ = false := fun j => (World.frozen?_of_block (w := w) (a := ⟨r, j, none⟩) (hB r hrl)).trans (h.f j)
  have p4 : (w.alloc (.cells #[.int .i64 210, .int .i64 (i : Int)] 40)).cell? ⟨q, 0, none⟩ = some d := (World.cell?_of_block (w := w) (a := ⟨q, 0, none⟩) (hB q hql)).trans z0
  have p5 : (w.alloc (.cells #[.int .i64 210, .int .i64 (i : Int)] 40)).frozen? ⟨q, 0, none⟩ = false := (World.frozen?_of_block (w := w) (a := ⟨q, 0, none⟩) (hB q hql)).trans z1
  have p6 : ((((w.setCell ⟨r, 0, none⟩ (.string ⟨#[]⟩)).setCell ⟨r, 1, none⟩ (.slice none 0 0)).setCell ⟨r, 2, none⟩ (.slice none 0 0)).alloc (.cells #[.int .i64 210, .int .i64 (i : Int)] 40)).cell? ⟨q, 0, none⟩ = some d := (World.cell?_of_block (w := w) (a := ⟨q, 0, none⟩) ((Below.heap_alloc _ _ q (by rw [hCs]; exact hql)).trans (hC q (fun e => hrq e.symm)))).trans z0
  have p7 : ((((w.setCell ⟨r, 0, none⟩ (.string ⟨#[]⟩)).setCell ⟨r, 1, none⟩ (.slice none 0 0)).setCell ⟨r, 2, none⟩ (.slice none 0 0)).alloc (.cells #[.int .i64 210, .int .i64 (i : Int)] 40)).frozen? ⟨q, 0, none⟩ = false := (World.frozen?_of_block (w := w) (a := ⟨q, 0, none⟩) ((Below.heap_alloc _ _ q (by rw [hCs]; exact hql)).trans (hC q (fun e => hrq e.symm)))).trans z1
  have hqr : q ≠ r := fun e => hrq e.symm
  go_region
  have HD : ∀ j, j < w.heap.size → j ≠ r → j ≠ q → ((((((w.setCell ⟨r, 0, none⟩ (.string ⟨#[]⟩)).setCell ⟨r, 1, none⟩ (.slice none 0 0)).setCell ⟨r, 2, none⟩ (.slice none 0 0)).setCell ⟨q, 0, none⟩ (.iface 48 (.pointer (some ⟨w.heap.size, 0, none⟩)))).alloc (.cells #[.int .i64 210, .int .i64 (i : Int)] 40)).drew).heap[j]? = w.heap[j]? := fun j hj h1 h2 =>
    (Below.heap_alloc _ _ j (by rw [World.size_setCell, hCs]; exact hj)).trans ((Below.heap_setCell _ ⟨q, 0, none⟩ _ j h2).trans (hC j h1))
  have HS : St3 ((((((w.setCell ⟨r, 0, none⟩ (.string ⟨#[]⟩)).setCell ⟨r, 1, none⟩ (.slice none 0 0)).setCell ⟨r, 2, none⟩ (.slice none 0 0)).setCell ⟨q, 0, none⟩ (.iface 48 (.pointer (some ⟨w.heap.size, 0, none⟩)))).alloc (.cells #[.int .i64 210, .int .i64 (i : Int)] 40)).drew) r (.string ⟨#[]⟩) (.slice none 0 0) (.slice none 0 0) :=
    (((h.set0 _).set1 _).set2 _).same ((Below.heap_alloc _ _ r (by rw [World.size_setCell, hCs]; exact hrl)).trans (Below.heap_setCell _ ⟨q, 0, none⟩ _ r hrq))
  have HQ : ((((((w.setCell ⟨r, 0, none⟩ (.string ⟨#[]⟩)).setCell ⟨r, 1, none⟩ (.slice none 0 0)).setCell ⟨r, 2, none⟩ (.slice none 0 0)).setCell ⟨q, 0, none⟩ (.iface 48 (.pointer (some ⟨w.heap.size, 0, none⟩)))).alloc (.cells #[.int .i64 210, .int .i64 (i : Int)] 40)).drew).heap[q]? = some (.cells #[.iface 48 (.pointer (some ⟨w.heap.size, 0, none⟩))] 28 (0, 0)) := by
    refine (Below.heap_alloc _ _ q (by rw [World.size_setCell, hCs]; exact hql)).trans ?_
    have := (hC q hqr).trans hq
    generalize (((w.setCell ⟨r, 0, none⟩ (.string ⟨#[]⟩)).setCell ⟨r, 1, none⟩ (.slice none 0 0)).setCell ⟨r, 2, none⟩ (.slice none 0 0)) = W at this ⊢
    simp [World.setCell, Array.getElem?_modify, this]
  have HZ : ((((w.setCell ⟨r, 0, none⟩ (.string ⟨#[]⟩)).setCell ⟨r, 1, none⟩ (.slice none 0 0)).setCell ⟨r, 2, none⟩ (.slice none 0 0)).setCell ⟨q, 0, none⟩ (.iface 48 (.pointer (some ⟨w.heap.size, 0, none⟩)))).heap.size = w.heap.size := by rw [World.size_setCell, hCs]
  have HK : ((((((w.setCell ⟨r, 0, none⟩ (.string ⟨#[]⟩)).setCell ⟨r, 1, none⟩ (.slice none 0 0)).setCell ⟨r, 2, none⟩ (.slice none 0 0)).setCell ⟨q, 0, none⟩ (.iface 48 (.pointer (some ⟨w.heap.size, 0, none⟩)))).alloc (.cells #[.int .i64 210, .int .i64 (i : Int)] 40)).drew).heap[w.heap.size]? = some (.cells #[.int .i64 210, .int .i64 (i : Int)] 40 (0, 0)) := by
    have gen : ∀ (W : World) (n : Nat) (o : Obj), W.heap.size = n → ((W.alloc o).drew).heap[n]? = some o := fun W n o e => by subst e; exact Array.getElem?_push_size
    exact gen _ _ _ HZ
  refine ⟨rfl, _, rfl, .tuple #[], by simp [results, Try.results16], rfl, rfl, w.heap.size, Nat.le_refl _, HS, HQ, HK, ?_, HD, rfl, rfl, rfl⟩
  show (((((w.setCell ⟨r, 0, none⟩ (.string ⟨#[]⟩)).setCell ⟨r, 1, none⟩ (.slice none 0 0)).setCell ⟨r, 2, none⟩ (.slice none 0 0)).setCell ⟨q, 0, none⟩ (.iface 48 (.pointer (some ⟨w.heap.size, 0, none⟩)))).alloc (.cells #[.int .i64 210, .int .i64 (i : Int)] 40)).heap.size = _
  rw [World.size_alloc, HZ]

end Go.Proofs.Ytbfhfejdmhjccaa
