/- The law NarWrites, walked under awake (own text of the verifier). -/
import Derived.Test.YtpbgmknebhnonaaNa7
import Derived.Test.YtpbgmknebhnonaaNa4
namespace Go.Proofs.Ytpbgmknebhnonaa
open Go.RowKit

set_option maxHeartbeats 8000000 in
set_option maxRecDepth 10000 in
theorem nwrites_walk (AW : AwN) (m : Nat) (k : Int) (e : Bool) (t : ByteArray) (x : Option Addr) (n c : Nat) (T : Tr) (w : World) (hA : At w m (.agg #[Value.int IntKind.i64 k, Value.bool e, Value.string t, Value.slice x n c]) T) (hS : smT T) (hW : wfT T) :
    Calls Try.prog 3 #[.agg #[Value.int IntKind.i64 k, Value.bool e, Value.string t, Value.slice x n c]] w fun en w' => en = .returned (.bool true) ∧ Below w.heap.size w w' := by
  have HH : Hid (At w m (.agg #[Value.int IntKind.i64 k, Value.bool e, Value.string t, Value.slice x n c]) T ∧ smT T ∧ wfT T) := ⟨hA, hS, hW⟩
  have HA : Hid AwN := AW
  clear hA hS hW AW
  have HG : Hid ((w.alloc (Obj.cells #[Value.int IntKind.i64 k, Value.bool e, Value.string t, Value.slice x n c] 25)).heap[w.heap.size]? = some (.cells #[Value.int IntKind.i64 k, Value.bool e, Value.string t, Value.slice x n c] 25 (0, 0)) ∧ Below w.heap.size w (w.alloc (Obj.cells #[Value.int IntKind.i64 k, Value.bool e, Value.string t, Value.slice x n c] 25))) := ⟨heap_alloc_new _ _, (Below.refl _ _).alloc (Nat.le_refl _) _⟩
  go_enter Try.func3, Try.ntmps3
  go_upto_region 1 with fail
  obtain ⟨G, hG⟩ : ∃ G, w.heap.size = G := ⟨_, rfl⟩
  have HGe : Hid (w.heap.size = G) := hG
  generalize w.alloc (Obj.cells #[Value.int IntKind.i64 k, Value.bool e, Value.string t, Value.slice x n c] 25) = w1 at *
  rw [hG]
  have HG1 : Hid (w1.heap[G]? = some (.cells #[Value.int IntKind.i64 k, Value.bool e, Value.string t, Value.slice x n c] 25 (0, 0)) ∧ Below w.heap.size w w1) := by rw [hG] at HG; rw [hG]; exact HG
  clear hG HG
  go_wp2_with fail
  refine (HA.out w1).mono ?_
  rintro e2 w2 ⟨rfl, b2⟩
  have HG2 : Hid (w2.heap[G]? = some (.cells #[Value.int IntKind.i64 k, Value.bool e, Value.string t, Value.slice x n c] 25 (0, 0)) ∧ Below w.heap.size w w2) := ⟨(b2.block _ (heap_lt HG1.out.1)).trans HG1.out.1, HG1.out.2.trans (b2.mono HG1.out.2.size)⟩
  clear b2 HG1
  obtain ⟨u0, u1, u2, u3, _⟩ := cell4n HG2.out.1
  have C1 := nserial_any m k e t x n c T w2 (HH.out.1.below HG2.out.2) HH.out.2.1 HH.out.2.2
  obtain ⟨R, hR⟩ : ∃ R, serT T = R := ⟨_, rfl⟩
  have HR : Hid (serT T = R) := hR
  rw [hR] at C1
  clear hR
  obtain ⟨R1, R2⟩ := R
  go_wp2_with fail
  refine C1.mono ?_
  rintro e3 w3 ⟨rfl, b3⟩
  have HG3 : Hid (w3.heap[G]? = some (.cells #[Value.int IntKind.i64 k, Value.bool e, Value.string t, Value.slice x n c] 25 (0, 0)) ∧ Below w.heap.size w w3) := ⟨(b3.block _ (heap_lt HG2.out.1)).trans HG2.out.1, HG2.out.2.trans (b3.mono HG2.out.2.size)⟩
  clear b3 HG2 C1 u0 u1 u2 u3
  obtain ⟨u0, u1, u2, u3, _⟩ := cell4n HG3.out.1
  have C2 := rserial_any m k e t x n c T w3 (HH.out.1.below HG3.out.2) HH.out.2.1 HH.out.2.2
  rw [HR.out] at C2
  go_wp2_with fail
  refine C2.mono ?_
  rintro e4 w4 ⟨rfl, b4⟩
  have HG4 : Hid (Below w.heap.size w w4) := HG3.out.2.trans (b4.mono HG3.out.2.size)
  clear b4 HG3 C2 u0 u1 u2 u3
  have q1 : (R1.toList == R1.toList) = true := by simp
  have q2 : (R2 == R2) = true := by simp
  go_wp2
  go_ret
  exact ⟨rfl, HG4.out⟩

theorem nwrites_final (fuel : Nat) (k : Int) (e : Bool) (t : ByteArray) (x : Option Addr) (n c : Nat) (T : Tr) (w : World) (hA : At w fuel (.agg #[.int .i64 k, .bool e, .string t, .slice x n c]) T) (hsm : smT T) :
    Calls Try.prog 3 #[.agg #[.int .i64 k, .bool e, .string t, .slice x n c]] w fun e w' => e = .returned (.bool true) ∧ Below w.heap.size w w' := nwrites_walk awN fuel k e t x n c T w hA hsm (At.wf _ _ _ hA)
end Go.Proofs.Ytpbgmknebhnonaa
