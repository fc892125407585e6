/- Check: the deferred closure with recover; Check and Size, walked. -/
import Derived.Test.YtljcbibcdajhiaaTvC
import Derived.Defers
import Derived.Recover
import Derived.Laws.Pointers
import Derived.Deep.Cut
namespace Go.Proofs.Ytljcbibcdajhiaa
open Go.RowKit

theorem caught_idle (p q : Addr) (w : World) :
    CallsD Try.prog 32 #[.pointer (some p), .pointer (some q)] .returning w fun e u' w' => e = .returned (.tuple #[]) ∧ u' = .returning ∧ w' = w := by
  refine callsD_of_wpS Try.func32 rfl fun c₀ cs hu => ?_
  apply wpS_seq
  apply wpS_region
  simp [wpOpsS, go_sem, recoverD, hu, Try.ntmps32, Exit.thenS]
  refine wpS_of_wp ?_
  go_wp2
  cases c₀
  simp_all [bodyPostS, results, Try.results32]

set_option maxHeartbeats 4000000 in
set_option maxRecDepth 10000 in
theorem caught_off (r q : Nat) (p : ByteArray) (code : Int) (a d : Value) (w : World) (hr : w.heap[r]? = some (.cells #[a] 9 (0, 0))) (hq : w.heap[q]? = some (.cells #[d] 28 (0, 0))) (hrq : r ≠ q) :
    CallsD Try.prog 32 #[.pointer (some ⟨r, 0, none⟩), .pointer (some ⟨q, 0, none⟩)] (.panicking [{ v := offV p code, recovered := false }]) w fun e u' w' =>
      e = .returned (.tuple #[]) ∧ u' = .panicking [{ v := offV p code, recovered := true }] ∧ w'.heap[r]? = some (.cells #[.string p] 9 (0, 0)) ∧ w'.heap[q]? = some (.cells #[.int .i64 code] 28 (0, 0)) ∧ w.heap.size ≤ w'.heap.size ∧ (∀ j, j < w.heap.size → j ≠ r → j ≠ q → w'.heap[j]? = w.heap[j]?) ∧ w'.os = w.os ∧ w'.tape = w.tape ∧ w'.output = w.output := by
  refine callsD_of_wpS Try.func32 rfl fun c₀ cs hu => ?_
  apply wpS_seq
  apply wpS_region
  simp [wpOpsS, go_sem, recoverD, hu, Try.ntmps32, Exit.thenS]
  refine wpS_of_wp ?_
  unfold offV
  refine (show Code.wp Try.prog _ _ { tmps := #[.pointer (some ⟨r, 0, none⟩), .pointer (some ⟨q, 0, none⟩), .iface 85 (.agg #[.string p, .int .i64 code]), undef, .iface 85 (.agg #[.string p, .int .i64 code]), undef, undef, undef, undef, undef, undef, undef, undef], defers := [] } w from ?_)
  have hta : ∀ W : World, (Instr.typeAssert (.iface 85 (.agg #[.string p, .int .i64 code])) 20 85 false).run Try.prog W = .ok (.agg #[.string p, .int .i64 code]) W := fun W => by
    simp [Instr.typeAssert, go_sem]
  have hrl : r < w.heap.size := heap_lt hr
  have hql : q < w.heap.size := heap_lt hq
  have hqr : q ≠ r := fun e => hrq e.symm
  have B1 : Below w.heap.size w (w.alloc (.cells #[.string p, .int .i64 code] 85)) := (Below.refl _ _).alloc (Nat.le_refl _) _
  have R1 : Hid ((w.alloc (.cells #[.string p, .int .i64 code] 85)).heap[r]? = some (.cells #[a] 9 (0, 0))) := (B1.block r hrl).trans hr
  have Q1 : Hid ((w.alloc (.cells #[.string p, .int .i64 code] 85)).heap[q]? = some (.cells #[d] 28 (0, 0))) := (B1.block q hql).trans hq
  have K1 : Hid ((w.alloc (.cells #[.string p, .int .i64 code] 85)).heap[w.heap.size]? = some (.cells #[.string p, .int .i64 code] 85 (0, 0))) := Array.getElem?_push_size
  have HB1 : Hid (Below w.heap.size w (w.alloc (.cells #[.string p, .int .i64 code] 85))) := B1
  clear hr hq B1
  go_upto_region 3 with fail
  generalize w.alloc (.cells #[.string p, .int .i64 code] 85) = w1 at *
  have x0 : w1.cell? ⟨r, 0, none⟩ = some a := by rw [Lib.cell_of_heap R1.out]; rfl
  have x1 : w1.frozen? ⟨r, 0, none⟩ = false := Lib.frozen_of_heap R1.out 0
  have z0 : w1.cell? ⟨q, 0, none⟩ = some d := by rw [Lib.cell_of_heap Q1.out]; rfl
  have z1 : w1.frozen? ⟨q, 0, none⟩ = false := Lib.frozen_of_heap Q1.out 0
  have k0 : w1.cell? ⟨w.heap.size, 0, none⟩ = some (.string p) := by rw [Lib.cell_of_heap K1.out]; rfl
  have k1 : w1.cell? ⟨w.heap.size, 1, none⟩ = some (.int .i64 code) := by rw [Lib.cell_of_heap K1.out]; rfl
  generalize hH : w.heap.size = H at *
  have HH : Hid (w.heap.size = H) := hH
  clear hH
  go_region
  all_goals (
    have HR : ((w1.setCell ⟨r, 0, none⟩ (.string p)).setCell ⟨q, 0, none⟩ (.int .i64 code)).heap[r]? = some (.cells #[.string p] 9 (0, 0)) := by
      rw [Below.heap_setCell _ ⟨q, 0, none⟩ _ r hrq]
      have := R1.out
      simp [World.setCell, Array.getElem?_modify, this]
    have HQ : ((w1.setCell ⟨r, 0, none⟩ (.string p)).setCell ⟨q, 0, none⟩ (.int .i64 code)).heap[q]? = some (.cells #[.int .i64 code] 28 (0, 0)) := by
      have : (w1.setCell ⟨r, 0, none⟩ (.string p)).heap[q]? = some (.cells #[d] 28 (0, 0)) := (Below.heap_setCell _ ⟨r, 0, none⟩ _ q hqr).trans Q1.out
      generalize w1.setCell ⟨r, 0, none⟩ (.string p) = W at this ⊢
      simp [World.setCell, Array.getElem?_modify, this]
    have HD : ∀ j, j < H → j ≠ r → j ≠ q → ((w1.setCell ⟨r, 0, none⟩ (.string p)).setCell ⟨q, 0, none⟩ (.int .i64 code)).heap[j]? = w.heap[j]? := fun j hj h1 h2 => (Below.heap_setCell _ ⟨q, 0, none⟩ _ j h2).trans ((Below.heap_setCell _ ⟨r, 0, none⟩ _ j h1).trans (HB1.out.block j hj)))
  go_wp2
  refine ⟨rfl, _, rfl, .tuple #[], by simp [results, Try.results32], rfl, rfl, HR, HQ, ?_, (fun j hj h1 h2 => HD j (by rw [← HH.out]; exact hj) h1 h2), HB1.out.os, HB1.out.tape, HB1.out.output⟩
  show w.heap.size ≤ ((w1.setCell ⟨r, 0, none⟩ (.string p)).setCell ⟨q, 0, none⟩ (.int .i64 code)).heap.size
  rw [World.size_setCell, World.size_setCell]
  exact HB1.out.size

/-- What Check answers. -/
def ckT (T : Tr) : ByteArray × Int := match (vT [] 24 T).off with
  | none => (⟨#[]⟩, 0)
  | some o => o

set_option maxHeartbeats 8000000 in
set_option maxRecDepth 10000 in
theorem check_tree (f : Nat) (u : Value) (T : Tr) (w : World) (hA : At w f u T) (hsm : smT T) :
    Calls Try.prog 14 #[u] w fun e w' => e = .returned (.tuple #[.string (ckT T).1, .int .i64 (ckT T).2]) ∧ Below w.heap.size w w' := by
  have hmf : ∀ (fn : Fn) (first cap : Array Value) (w : World), (Instr.makeFunc fn first cap).run Try.prog w = .ok (.func fn first cap) w := fun _ _ _ _ => rfl
  obtain ⟨k, e, t, nms, ks⟩ := T
  cases f with
  | zero => exact hA.elim
  | succ f =>
  obtain ⟨x, n, c, rfl, hrest⟩ := hA
  have HA : Hid (At w (f + 1) (.agg #[.int .i64 k, .bool e, .string t, .slice x n c]) (.mk k e t nms ks)) := ⟨x, n, c, rfl, hrest⟩
  clear hrest
  generalize (Tr.mk k e t nms ks) = T at HA hsm ⊢
  have HSM : Hid (smT T) := hsm
  clear hsm
  have e1 : (w.alloc (.cells #[.int .i64 k, .bool e, .string t, .slice x n c] 25)).heap.size = w.heap.size + 1 := World.size_alloc _ _
  have e2 : ((w.alloc (.cells #[.int .i64 k, .bool e, .string t, .slice x n c] 25)).alloc (.cells #[.string ⟨#[]⟩] 9)).heap.size = w.heap.size + 2 := by rw [World.size_alloc, e1]
  have z0 : (((w.alloc (.cells #[.int .i64 k, .bool e, .string t, .slice x n c] 25)).alloc (.cells #[.string ⟨#[]⟩] 9)).alloc (.cells #[.int .i64 0] 28)).heap.size = w.heap.size + 3 := by rw [World.size_alloc, e2]
  have b0 : Below w.heap.size w (((w.alloc (.cells #[.int .i64 k, .bool e, .string t, .slice x n c] 25)).alloc (.cells #[.string ⟨#[]⟩] 9)).alloc (.cells #[.int .i64 0] 28)) := (((Below.refl _ _).alloc (Nat.le_refl _) _).alloc (by rw [e1]; omega) _).alloc (by rw [e2]; omega) _
  have N0 : NB (((w.alloc (.cells #[.int .i64 k, .bool e, .string t, .slice x n c] 25)).alloc (.cells #[.string ⟨#[]⟩] 9)).alloc (.cells #[.int .i64 0] 28)) w.heap.size k e t x n c := (Below.heap_alloc _ _ _ (by rw [e2]; omega)).trans ((Below.heap_alloc _ _ _ (by rw [e1]; omega)).trans (NB.new w k e t x n c))
  have R0 : (((w.alloc (.cells #[.int .i64 k, .bool e, .string t, .slice x n c] 25)).alloc (.cells #[.string ⟨#[]⟩] 9)).alloc (.cells #[.int .i64 0] 28)).heap[w.heap.size + 1]? = some (.cells #[.string ⟨#[]⟩] 9 (0, 0)) := by
    refine (Below.heap_alloc _ _ _ (by rw [e2]; omega)).trans ?_
    rw [← e1]
    exact Array.getElem?_push_size
  have Q0 : (((w.alloc (.cells #[.int .i64 k, .bool e, .string t, .slice x n c] 25)).alloc (.cells #[.string ⟨#[]⟩] 9)).alloc (.cells #[.int .i64 0] 28)).heap[w.heap.size + 2]? = some (.cells #[.int .i64 0] 28 (0, 0)) := by
    rw [← e2]
    exact Array.getElem?_push_size
  clear e1 e2
  go_enter_defers Try.func14, Try.ntmps14
  go_upto_region 2 with fail
  generalize (((w.alloc (.cells #[.int .i64 k, .bool e, .string t, .slice x n c] 25)).alloc (.cells #[.string ⟨#[]⟩] 9)).alloc (.cells #[.int .i64 0] 28)) = w1 at *
  have HB0 : Hid (Below w.heap.size w w1) := b0
  have HN0 : Hid (NB w1 w.heap.size k e t x n c) := N0
  have HR0 : Hid (w1.heap[w.heap.size + 1]? = some (.cells #[.string ⟨#[]⟩] 9 (0, 0))) := R0
  have HQ0 : Hid (w1.heap[w.heap.size + 2]? = some (.cells #[.int .i64 0] 28 (0, 0))) := Q0
  have Hz : Hid (w1.heap.size = w.heap.size + 3) := z0
  clear b0 N0 R0 Q0 z0
  obtain ⟨H, hH⟩ : ∃ H, H = w.heap.size := ⟨_, rfl⟩
  obtain ⟨r, hr⟩ : ∃ q, q = w.heap.size + 1 := ⟨_, rfl⟩
  obtain ⟨q, hq⟩ : ∃ q, q = r + 1 := ⟨_, rfl⟩
  have HQ1 : Hid (w1.heap[q]? = some (.cells #[.int .i64 0] 28 (0, 0))) := by rw [hq, hr]; exact HQ0.out
  clear HQ0
  rw [← hr] at HR0
  rw [← hH] at HN0
  rw [← hr, ← hq, ← hH]
  have HH : Hid (H = w.heap.size ∧ r = w.heap.size + 1 ∧ q = w.heap.size + 2) := ⟨hH, hr, by omega⟩
  have hrq : r < q := by omega
  clear hH hr hq
  have FL := first_lit w1
  go_wp2_with fail
  refine FL.mono ?_
  rintro e5 w2 ⟨rfl, rfl⟩
  clear FL
  have hb2 : Below w1.heap.size w1 ((w1.alloc (.cells #[.string ⟨#[100, 101, 112, 111, 116, 45, 97, 114, 99, 104, 105, 118, 101, 45, 49]⟩] 9))) := (Below.refl _ _).alloc (Nat.le_refl _) _
  have HB2 : Hid (Below w1.heap.size w1 ((w1.alloc (.cells #[.string ⟨#[100, 101, 112, 111, 116, 45, 97, 114, 99, 104, 105, 118, 101, 45, 49]⟩] 9)))) := hb2
  have hz2 : (w1.alloc (.cells #[.string ⟨#[100, 101, 112, 111, 116, 45, 97, 114, 99, 104, 105, 118, 101, 45, 49]⟩] 9)).heap.size = w1.heap.size + 1 := World.size_alloc _ _
  have Hz2 : Hid ((w1.alloc (.cells #[.string ⟨#[100, 101, 112, 111, 116, 45, 97, 114, 99, 104, 105, 118, 101, 45, 49]⟩] 9)).heap.size = w1.heap.size + 1) := hz2
  clear hb2 hz2
  generalize w1.alloc (.cells #[.string ⟨#[100, 101, 112, 111, 116, 45, 97, 114, 99, 104, 105, 118, 101, 45, 49]⟩] 9) = w2 at *
  have hb3 : Below w1.heap.size w1 (w2.alloc (.cells #[.slice none 0 0, .int .i64 24] 88)) := HB2.out.alloc HB2.out.size _
  have G3 : (w2.alloc (.cells #[.slice none 0 0, .int .i64 24] 88)).heap[w2.heap.size]? = some (.cells #[.slice none 0 0, .int .i64 24] 88 (0, 0)) := Array.getElem?_push_size
  have W3 : Hid (Wo (w2.alloc (.cells #[.slice none 0 0, .int .i64 24] 88)) w2.heap.size (.slice none 0 0) [] 24) := ⟨by rw [Lib.cell_of_heap G3]; rfl, by rw [Lib.cell_of_heap G3]; rfl, Lib.frozen_of_heap G3 0, Lib.frozen_of_heap G3 1, World.ownsRow_nil _ _ _ _⟩
  have HB3 : Hid (Below w.heap.size w (w2.alloc (.cells #[.slice none 0 0, .int .i64 24] 88))) := HB0.out.trans (hb3.mono (by rw [Hz.out]; omega))
  have HN3 : Hid (NB (w2.alloc (.cells #[.slice none 0 0, .int .i64 24] 88)) H k e t x n c) := (hb3.block H (heap_lt HN0.out)).trans HN0.out
  have HR3 : Hid ((w2.alloc (.cells #[.slice none 0 0, .int .i64 24] 88)).heap[r]? = some (.cells #[.string ⟨#[]⟩] 9 (0, 0))) := (hb3.block r (heap_lt HR0.out)).trans HR0.out
  have HQ3 : Hid ((w2.alloc (.cells #[.slice none 0 0, .int .i64 24] 88)).heap[q]? = some (.cells #[.int .i64 0] 28 (0, 0))) := (hb3.block q (heap_lt HQ1.out)).trans HQ1.out
  have hqg : q < w2.heap.size := by rw [Hz2.out]; have := heap_lt HQ1.out; omega
  have y0 := HN3.out.c0
  have y1 := HN3.out.c1
  have y2 := HN3.out.c2
  have y3 := HN3.out.c3
  clear hb3 G3 HB0 HN0 HR0 HQ1 HB2
  go_upto_region 3 with fail
  generalize w2.alloc (.cells #[.slice none 0 0, .int .i64 24] 88) = w3 at *
  have Hg : Hid (w.heap.size ≤ w2.heap.size) := by unfold Hid; rw [Hz2.out, Hz.out]; omega
  generalize w2.heap.size = g at *
  have NC := node_any (f + 1) _ T g _ [] 24 w w3 HA.out HSM.out HB3.out Hg.out W3.out (by decide) (by intro s hs; cases hs) (by decide) (by decide)
  go_wp2_with fail
  refine NC.mono ?_
  rintro e6 w6 h6
  clear NC y0 y1 y2 y3
  unfold NdR at h6
  cases hX : (vT [] 24 T).off with
  | some oo =>
    have HCK : Hid (ckT T = oo) := by unfold Hid ckT; rw [hX]
    rw [hX] at h6
    obtain ⟨rfl, b6⟩ := h6
    have B6 : Hid (Below w.heap.size w w6) := HB3.out.trans (b6.mono Hg.out)
    have R6 : w6.heap[r]? = some (.cells #[.string ⟨#[]⟩] 9 (0, 0)) := (b6.block r (by omega)).trans HR3.out
    have Q6 : w6.heap[q]? = some (.cells #[.int .i64 0] 28 (0, 0)) := (b6.block q hqg).trans HQ3.out
    clear b6 HR3 HQ3 HN3 HB3 W3 hX
    go_wp2
    refine leaves_cons (f := 32) (args := #[.pointer (some ⟨r, 0, none⟩), .pointer (some ⟨q, 0, none⟩)]) (by simp) (by simp [go_sem]) ?_
    refine (caught_off r q oo.1 oo.2 _ _ w6 R6 Q6 (by omega)).mono ?_
    rintro e u' w5 ⟨rfl, rfl, R5, Q5, Z5, D5, o1, o2, o3⟩
    have B5 : Below w.heap.size w w5 := B6.out.trans ⟨o1, o2, o3, Z5, fun j hj => D5 j (by have := B6.out.size; omega) (by have := HH.out; omega) (by have := HH.out; omega)⟩
    have s0 : w5.cell? ⟨r, 0, none⟩ = some (.string oo.1) := by rw [Lib.cell_of_heap R5]; rfl
    have s1 : w5.cell? ⟨q, 0, none⟩ = some (.int .i64 oo.2) := by rw [Lib.cell_of_heap Q5]; rfl
    refine ⟨.tuple #[.string oo.1, .int .i64 oo.2], by simp [results, Try.results14, go_sem, s0, s1], ?_⟩
    rw [HCK.out]
    exact ⟨rfl, B5⟩
  | none =>
    have HCK : Hid (ckT T = (⟨#[]⟩, 0)) := by unfold Hid ckT; rw [hX]
    rw [hX] at h6
    obtain ⟨rfl, -, F6⟩ := h6
    have B6 : Hid (Below w.heap.size w w6) := HB3.out.trans (F6.below.mono Hg.out)
    have R6 : Hid (w6.heap[r]? = some (.cells #[.string ⟨#[]⟩] 9 (0, 0))) := (F6.low r (by omega)).trans HR3.out
    have Q6 : Hid (w6.heap[q]? = some (.cells #[.int .i64 0] 28 (0, 0))) := (F6.low q hqg).trans HQ3.out
    have x0 : w6.cell? ⟨r, 0, none⟩ = some (.string ⟨#[]⟩) := by rw [Lib.cell_of_heap R6.out]; rfl
    have x1 : w6.frozen? ⟨r, 0, none⟩ = false := Lib.frozen_of_heap R6.out 0
    have z0 : w6.cell? ⟨q, 0, none⟩ = some (.int .i64 0) := by rw [Lib.cell_of_heap Q6.out]; rfl
    have z1 : w6.frozen? ⟨q, 0, none⟩ = false := Lib.frozen_of_heap Q6.out 0
    have hrq1 : r ≠ q := by omega
    have hrq2 : q ≠ r := by omega
    clear F6 HR3 HQ3 HN3 HB3 W3 hX
    go_wp2
    have B7 : Below w.heap.size w ((w6.setCell ⟨r, 0, none⟩ (.string ⟨#[]⟩)).setCell ⟨q, 0, none⟩ (.int .i64 0)) := (B6.out.setCell (p := ⟨r, 0, none⟩) (by have := HH.out; show _ ≤ r; omega) _).setCell (p := ⟨q, 0, none⟩) (by have := HH.out; show _ ≤ q; omega) _
    have s0 : ((w6.setCell ⟨r, 0, none⟩ (.string ⟨#[]⟩)).setCell ⟨q, 0, none⟩ (.int .i64 0)).cell? ⟨r, 0, none⟩ = some (.string ⟨#[]⟩) := by
      rw [World.cell?_setCell_other _ _ _ _ (fun e => by injection e; omega)]
      exact World.cell?_setCell_same _ _ _ x0
    have s1 : ((w6.setCell ⟨r, 0, none⟩ (.string ⟨#[]⟩)).setCell ⟨q, 0, none⟩ (.int .i64 0)).cell? ⟨q, 0, none⟩ = some (.int .i64 0) := World.cell?_setCell_same _ _ (.int .i64 0) (by
      rw [World.cell?_setCell_other _ _ _ _ (fun e => by injection e; omega)]
      exact z0)
    generalize (w6.setCell ⟨r, 0, none⟩ (.string ⟨#[]⟩)).setCell ⟨q, 0, none⟩ (.int .i64 0) = w7 at B7 s0 s1 ⊢
    refine leaves_cons (f := 32) (args := #[.pointer (some ⟨r, 0, none⟩), .pointer (some ⟨q, 0, none⟩)]) (by simp) (by simp [go_sem]) ?_
    refine (caught_idle ⟨r, 0, none⟩ ⟨q, 0, none⟩ w7).mono ?_
    rintro e u' w5 ⟨rfl, rfl, rfl⟩
    refine ⟨.tuple #[.string ⟨#[]⟩, .int .i64 0], by simp [results, Try.results14, go_sem, s0, s1], ?_⟩
    rw [HCK.out]
    exact ⟨rfl, B7⟩

end Go.Proofs.Ytljcbibcdajhiaa
