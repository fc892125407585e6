/- UhH UhO, gathered (own text of the verifier). -/
import Derived.Test.YtnggbemnblcnaaaDoorXE
import Derived.Test.YtnggbemnblcnaaaDoorXL
import Derived.Test.YtnggbemnblcnaaaDoorXN
import Derived.Test.YtnggbemnblcnaaaDoorTqR
import Derived.Test.YtnggbemnblcnaaaDoorTvO
namespace Go.Proofs.YtnggbemnblcnaaaDoor
open Go.RowKit

theorem putE_off (Q : Tr) : (putE Q).2 = zT ∨ (vT [] 24 (putE Q).2).off = none := by
  unfold putE
  by_cases h : (ckT Q).2 ≠ 0
  · rw [if_pos h]; exact .inl rfl
  · rw [if_neg h]; have h0 : (ckT Q).2 = 0 := by omega
    exact .inr (ck_off h0)
theorem putT_off (T : Tr) (p : ByteArray) (U : Tr) : (putT T p U).2 = zT ∨ (vT [] 24 (putT T p U).2).off = none := by
  unfold putT
  by_cases h : nmO [T, U] p ≠ 0
  · rw [if_pos h]; exact .inl rfl
  · rw [if_neg h]
    cases (pathN p).reverse with
    | nil => exact .inr (ckS_off (nmO_ck (by omega : nmO [T, U] p = 0)).1 (by simp))
    | cons s r =>
      show (putN T U r.reverse s).2 = zT ∨ (vT [] 24 (putN T U r.reverse s).2).off = none
      unfold putN
      by_cases h2 : (rchH r.reverse T).1 ≠ 0
      · rw [if_pos h2]; exact .inl rfl
      · rw [if_neg h2]; exact putE_off _
theorem off_ln {V : Tr} (h : V = zT ∨ (vT [] 24 V).off = none) (hw : wfT V) : lnT V := by
  rcases h with rfl | h
  · exact zT_all.1
  · exact lnB_ln (by decide) _ (ck_ln hw h)
/-- The two nodes that came in. -/
def QI (w0 : World) (G : Nat) (A A' : Array Value) (w : World) : Prop :=
  w.heap[G]? = some (.cells A 32 (0, 0)) ∧ w.heap[G + 1]? = some (.cells A' 32 (0, 0)) ∧ G + 1 < w.heap.size ∧ Below G w0 w
theorem QI.on {w0 w w' : World} {G : Nat} {A A' : Array Value} (h : QI w0 G A A' w) (b : Below w.heap.size w w') : QI w0 G A A' w' := by
  obtain ⟨h1, h2, h6, h7⟩ := h
  exact ⟨(b.block _ (by omega)).trans h1, (b.block _ (by omega)).trans h2, Nat.lt_of_lt_of_le h6 b.size, h7.trans (b.mono (by omega))⟩

set_option maxHeartbeats 8000000 in
set_option maxRecDepth 10000 in
theorem puts_walk (f fu : Nat) (k : Int) (e : Bool) (t : ByteArray) (x : Option Addr) (n c : Nat) (T : Tr) (p : ByteArray) (ku : Int) (eu : Bool) (tu : ByteArray) (xu : Option Addr) (nu cu : Nat) (U : Tr) (w : World) (hA : At w f (.agg #[Value.int IntKind.i64 k, Value.bool e, Value.string t, Value.slice x n c]) T) (hS : smT T) (hU : At w fu (.agg #[Value.int IntKind.i64 ku, Value.bool eu, Value.string tu, Value.slice xu nu cu]) U) (hSU : smT U) (hp : p.size ≤ 1048576) :
    Calls Tryd.prog 5 #[.agg #[Value.int IntKind.i64 k, Value.bool e, Value.string t, Value.slice x n c], .string p, .agg #[Value.int IntKind.i64 ku, Value.bool eu, Value.string tu, Value.slice xu nu cu]] w fun en w' => en = .returned (.bool true) ∧ Below w.heap.size w w' := by
  have HH : Hid (At w f (.agg #[Value.int IntKind.i64 k, Value.bool e, Value.string t, Value.slice x n c]) T ∧ smT T ∧ At w fu (.agg #[Value.int IntKind.i64 ku, Value.bool eu, Value.string tu, Value.slice xu nu cu]) U ∧ smT U) := ⟨hA, hS, hU, hSU⟩
  clear hA hS hU hSU
  go_enter Tryd.func5, Tryd.ntmps5
  go_wp2_with fail
  have hs1 : (w.alloc (Obj.cells #[Value.int IntKind.i64 k, Value.bool e, Value.string t, Value.slice x n c] 32)).heap.size = w.heap.size + 1 := World.size_alloc _ _
  have P2 : Hid (QI w w.heap.size #[Value.int IntKind.i64 k, Value.bool e, Value.string t, Value.slice x n c] #[Value.int IntKind.i64 ku, Value.bool eu, Value.string tu, Value.slice xu nu cu] ((w.alloc (Obj.cells #[Value.int IntKind.i64 k, Value.bool e, Value.string t, Value.slice x n c] 32)).alloc (Obj.cells #[Value.int IntKind.i64 ku, Value.bool eu, Value.string tu, Value.slice xu nu cu] 32))) := by
    refine ⟨?_, ?_, ?_, ((Below.refl _ _).alloc (Nat.le_refl _) _).alloc (by rw [hs1]; omega) _⟩
    · rw [Below.heap_alloc _ _ _ (by rw [hs1]; omega)]; exact heap_alloc_new w _
    · rw [← hs1]; exact heap_alloc_new _ _
    · rw [World.size_alloc, hs1]; omega
  clear hs1
  obtain ⟨G, hG⟩ : ∃ G, w.heap.size = G := ⟨_, rfl⟩
  have HG : Hid (w.heap.size = G) := hG
  rw [hG] at P2 ⊢
  clear hG
  generalize ((w.alloc (Obj.cells #[Value.int IntKind.i64 k, Value.bool e, Value.string t, Value.slice x n c] 32)).alloc (Obj.cells #[Value.int IntKind.i64 ku, Value.bool eu, Value.string tu, Value.slice xu nu cu] 32)) = w2 at *
  refine (awake_any w2).mono ?_
  rintro e3 w3 ⟨rfl, b3⟩
  have P3 : Hid (QI w G #[Value.int IntKind.i64 k, Value.bool e, Value.string t, Value.slice x n c] #[Value.int IntKind.i64 ku, Value.bool eu, Value.string tu, Value.slice xu nu cu] w3) := P2.out.on b3
  clear b3 P2
  obtain ⟨R, hR⟩ : ∃ R, putT T p U = R := ⟨_, rfl⟩
  have HR : Hid (putT T p U = R) := hR
  have bb3 : Below w.heap.size w w3 := by rw [HG.out]; exact P3.out.2.2.2
  have CP := put_any f fu k e t x n c T p ku eu tu xu nu cu U w3 hp (HH.out.1.below bb3) HH.out.2.1 (HH.out.2.2.1.below bb3) HH.out.2.2.2
  rw [hR] at CP
  clear hR bb3
  obtain ⟨a0, a1, a2, a3, _⟩ := cell4 P3.out.1
  obtain ⟨i0, i1, i2, i3, _⟩ := cell4 P3.out.2.1
  go_wp2_with fail
  refine CP.mono ?_
  rintro e4 w4 ⟨⟨v4, fp4, rfl, hV4, hn4⟩, b4⟩
  obtain ⟨x4, c4, rfl⟩ := hV4.shape
  have P4 : Hid (QI w G #[Value.int IntKind.i64 k, Value.bool e, Value.string t, Value.slice x n c] #[Value.int IntKind.i64 ku, Value.bool eu, Value.string tu, Value.slice xu nu cu] w4) := P3.out.on b4
  have HV4 : Hid (TrV w4 w3.heap.size R.2 (.slice x4 R.2.nms.length c4) fp4) := hV4
  have HLN : Hid (lnT R.2) := by
    rw [Hid]
    have := putT_off T p U
    rw [HR.out] at this
    exact off_ln this (TrV.wf _ _ _ hV4)
  clear hV4 hn4 b4 P3 CP a0 a1 a2 a3 i0 i1 i2 i3
  have bQ : Below w4.heap.size w4 (w4.alloc (Obj.cells #[Value.int IntKind.i64 R.2.k, Value.bool R.2.e, Value.string R.2.t, Value.slice x4 R.2.nms.length c4] 32)) := (Below.refl _ _).alloc (Nat.le_refl _) _
  have P5 : Hid (QI w G #[Value.int IntKind.i64 k, Value.bool e, Value.string t, Value.slice x n c] #[Value.int IntKind.i64 ku, Value.bool eu, Value.string tu, Value.slice xu nu cu] (w4.alloc (Obj.cells #[Value.int IntKind.i64 R.2.k, Value.bool R.2.e, Value.string R.2.t, Value.slice x4 R.2.nms.length c4] 32))) := P4.out.on bQ
  have HV5 : Hid (TrV (w4.alloc (Obj.cells #[Value.int IntKind.i64 R.2.k, Value.bool R.2.e, Value.string R.2.t, Value.slice x4 R.2.nms.length c4] 32)) w3.heap.size R.2 (.slice x4 R.2.nms.length c4) fp4) := TrV.same _ _ _ HV4.out (fun b hb => bQ.block b (TrV.lt _ _ _ HV4.out b hb).2)
  have HQ5 : Hid ((w4.alloc (Obj.cells #[Value.int IntKind.i64 R.2.k, Value.bool R.2.e, Value.string R.2.t, Value.slice x4 R.2.nms.length c4] 32)).heap[w4.heap.size]? = some (.cells #[Value.int IntKind.i64 R.2.k, Value.bool R.2.e, Value.string R.2.t, Value.slice x4 R.2.nms.length c4] 32 (0, 0))) := heap_alloc_new _ _
  clear bQ P4 HV4
  go_upto_region 4 with fail
  obtain ⟨g5, h5⟩ : ∃ g5, w4.heap.size = g5 := ⟨_, rfl⟩
  generalize w4.alloc (Obj.cells #[Value.int IntKind.i64 R.2.k, Value.bool R.2.e, Value.string R.2.t, Value.slice x4 R.2.nms.length c4] 32) = w5 at *
  rw [h5] at HQ5 ⊢
  clear h5 w4
  have bb5 : Below w.heap.size w w5 := by rw [HG.out]; exact P5.out.2.2.2
  have CR := rput_any f fu k e t x n c T p ku eu tu xu nu cu U w5 hp (HH.out.1.below bb5) HH.out.2.1 (HH.out.2.2.1.below bb5) HH.out.2.2.2
  rw [HR.out] at CR
  clear bb5
  obtain ⟨a0, a1, a2, a3, _⟩ := cell4 P5.out.1
  obtain ⟨i0, i1, i2, i3, _⟩ := cell4 P5.out.2.1
  go_wp2_with fail
  refine CR.mono ?_
  rintro e6 w6 ⟨⟨v6, fp6, rfl, hV6, hn6⟩, b6⟩
  obtain ⟨x5, c5, rfl⟩ := hV6.shape
  have P6 : Hid (QI w G #[Value.int IntKind.i64 k, Value.bool e, Value.string t, Value.slice x n c] #[Value.int IntKind.i64 ku, Value.bool eu, Value.string tu, Value.slice xu nu cu] w6) := P5.out.on b6
  have HV6 : Hid (TrV w6 w5.heap.size R.2 (.slice x5 R.2.nms.length c5) fp6) := hV6
  have HW6 : Hid (TrV w6 w3.heap.size R.2 (.slice x4 R.2.nms.length c4) fp4) := TrV.same _ _ _ HV5.out (fun b hb => b6.block b (TrV.lt _ _ _ HV5.out b hb).2)
  have HQ6 : Hid (w6.heap[g5]? = some (.cells #[Value.int IntKind.i64 R.2.k, Value.bool R.2.e, Value.string R.2.t, Value.slice x4 R.2.nms.length c4] 32 (0, 0))) := (b6.block _ (heap_lt HQ5.out)).trans HQ5.out
  clear hV6 hn6 b6 P5 CR HV5 HQ5 a0 a1 a2 a3 i0 i1 i2 i3
  have bQ : Below w6.heap.size w6 (w6.alloc (Obj.cells #[Value.int IntKind.i64 R.2.k, Value.bool R.2.e, Value.string R.2.t, Value.slice x5 R.2.nms.length c5] 32)) := (Below.refl _ _).alloc (Nat.le_refl _) _
  have P7 : Hid (Below w.heap.size w (w6.alloc (Obj.cells #[Value.int IntKind.i64 R.2.k, Value.bool R.2.e, Value.string R.2.t, Value.slice x5 R.2.nms.length c5] 32))) := by rw [Hid, HG.out]; exact (P6.out.on bQ).2.2.2
  have HV7 : Hid (TrV (w6.alloc (Obj.cells #[Value.int IntKind.i64 R.2.k, Value.bool R.2.e, Value.string R.2.t, Value.slice x5 R.2.nms.length c5] 32)) w5.heap.size R.2 (.slice x5 R.2.nms.length c5) fp6) := TrV.same _ _ _ HV6.out (fun b hb => bQ.block b (TrV.lt _ _ _ HV6.out b hb).2)
  have HW7 : Hid (TrV (w6.alloc (Obj.cells #[Value.int IntKind.i64 R.2.k, Value.bool R.2.e, Value.string R.2.t, Value.slice x5 R.2.nms.length c5] 32)) w3.heap.size R.2 (.slice x4 R.2.nms.length c4) fp4) := TrV.same _ _ _ HW6.out (fun b hb => bQ.block b (TrV.lt _ _ _ HW6.out b hb).2)
  have HQ7 : Hid ((w6.alloc (Obj.cells #[Value.int IntKind.i64 R.2.k, Value.bool R.2.e, Value.string R.2.t, Value.slice x5 R.2.nms.length c5] 32)).heap[g5]? = some (.cells #[Value.int IntKind.i64 R.2.k, Value.bool R.2.e, Value.string R.2.t, Value.slice x4 R.2.nms.length c4] 32 (0, 0))) := (bQ.block _ (heap_lt HQ6.out)).trans HQ6.out
  have HX7 : Hid ((w6.alloc (Obj.cells #[Value.int IntKind.i64 R.2.k, Value.bool R.2.e, Value.string R.2.t, Value.slice x5 R.2.nms.length c5] 32)).heap[w6.heap.size]? = some (.cells #[Value.int IntKind.i64 R.2.k, Value.bool R.2.e, Value.string R.2.t, Value.slice x5 R.2.nms.length c5] 32 (0, 0))) := heap_alloc_new _ _
  clear bQ P6 HV6 HW6 HQ6
  go_upto_region 5 with fail
  obtain ⟨g7, h7⟩ : ∃ g7, w6.heap.size = g7 := ⟨_, rfl⟩
  generalize w6.alloc (Obj.cells #[Value.int IntKind.i64 R.2.k, Value.bool R.2.e, Value.string R.2.t, Value.slice x5 R.2.nms.length c5] 32) = w7 at *
  rw [h7] at HX7 ⊢
  clear h7 w6
  obtain ⟨fA, hA⟩ := TrV.at R.2 _ _ HW7.out HLN.out
  obtain ⟨fB, hB⟩ := TrV.at R.2 _ _ HV7.out HLN.out
  have CE := requal_any (fA + fB) _ _ _ _ w7 (hA.upto (by omega)) (hB.upto (by omega))
  obtain ⟨a0, a1, a2, a3, _⟩ := cell4 HQ7.out
  obtain ⟨i0, i1, i2, i3, _⟩ := cell4 HX7.out
  clear hA hB
  generalize R.1 = rc at *
  have hcc : (rc == rc) = true := by simp
  go_wp2_with fail
  refine CE.mono ?_
  rintro e8 w8 ⟨⟨r8, rfl, hr8⟩, b8⟩
  obtain rfl : r8 = true := hr8.2 trivial
  have HB8 : Hid (Below w.heap.size w w8) := P7.out.trans (b8.mono P7.out.size)
  clear hr8 b8 CE a0 a1 a2 a3 i0 i1 i2 i3
  go_wp2
  go_ret
  exact ⟨rfl, HB8.out⟩
end Go.Proofs.YtnggbemnblcnaaaDoor
namespace Go.Proofs.YtnggbemnblcnaaaDoor
open Go.RowKit
theorem puts_walkC (f : Nat) (k : Int) (e : Bool) (t : ByteArray) (z : Option Addr) (n cz : Nat) (T : Tr) (p : ByteArray) (fu : Nat) (ku : Int) (eu : Bool) (tu : ByteArray) (zu : Option Addr) (nu czu : Nat) (U : Tr) (w : World) (hA : At w f (.agg #[.int .i64 k, .bool e, .string t, .slice z n cz]) T) (hS : smT T) (hp : p.size ≤ 1048576) (hU : At w fu (.agg #[.int .i64 ku, .bool eu, .string tu, .slice zu nu czu]) U) (hSU : smT U) :
    Calls Tryd.prog 5 #[.agg #[.int .i64 k, .bool e, .string t, .slice z n cz], .string p, .agg #[.int .i64 ku, .bool eu, .string tu, .slice zu nu czu]] w fun en w' => en = .returned (.bool true) ∧ Below w.heap.size w w' := puts_walk f fu k e t z n cz T p ku eu tu zu nu czu U w hA hS hU hSU hp
end Go.Proofs.YtnggbemnblcnaaaDoor
