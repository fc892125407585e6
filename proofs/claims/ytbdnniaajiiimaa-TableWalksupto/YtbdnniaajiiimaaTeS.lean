/- A table's nodes (string keys): between; walked. -/
import Derived.Test.YtbdnniaajiiimaaTdS
namespace Go.Proofs.Ytbdnniaajiiimaa
namespace TS
open Go.RowKit

/-- A node and its sides, new in memory. -/
theorem Tr.new {w0 w : World} {k : ByteArray} {v : Int} {l r : BT ByteArray} {pl pr : Option Addr} {s : Nat} (b : Below w0.heap.size w0 w) (hl : Tr w0 l pl) (hr : Tr w0 r pr) :
    Tr (w.alloc (.cells #[Value.string k, .int .i64 v, .int .i64 (s : Int), .pointer pl, .pointer pr] 60)) (.N k v s l r) (some ⟨w.heap.size, 0, none⟩) := by
  have b2 : Below w0.heap.size w0 (w.alloc (.cells #[Value.string k, .int .i64 v, .int .i64 (s : Int), .pointer pl, .pointer pr] 60)) := b.alloc b.size _
  refine ⟨w.heap.size, pl, pr, rfl, ?_, ?_, ?_, ?_, ?_, hl.below b2 (Nat.le_refl _), hr.below b2 (Nat.le_refl _)⟩
  all_goals (rw [World.cell?_alloc_new]; rfl)

set_option maxHeartbeats 2000000 in
theorem between_any (k : ByteArray) (v : Int) (s0 : Nat) (l0 r0 l r : BT ByteArray) (p pl pr : Option Addr) (w : World) (h : Tr w (.N k v s0 l0 r0) p) (hl : Tr w l pl) (hr : Tr w r pr) (hc : l.cnt + 1 + r.cnt ≤ 1152921504606846976) :
    Calls Try.prog 34 #[.pointer p, .pointer pl, .pointer pr] w fun e w' => (∃ q, e = .returned (.pointer q) ∧ Tr w' (BT.bet k v l r) q) ∧ Below w.heap.size w w' := by
  obtain ⟨g, gl, gr, rfl, c0, c1, _, _, _, _, _⟩ := h
  have HL : Hid (Tr w l pl) := hl
  have HR : Hid (Tr w r pr) := hr
  clear hl hr
  have bd : Below w.heap.size w w.drew := (Below.refl _ _).drew
  have CL := count_any l pl w.drew (HL.out.below bd (Nat.le_refl _))
  have CR := count_any r pr w.drew (HR.out.below bd (Nat.le_refl _))
  have hw1 : Hid (IntKind.i64.wrap ((l.cnt : Int) + 1) = (l.cnt : Int) + 1) := by unfold Hid; rw [IntKind.wrap_i64]; omega
  have hw2 : Hid (IntKind.i64.wrap ((l.cnt : Int) + 1 + (r.cnt : Int)) = (l.cnt : Int) + 1 + (r.cnt : Int)) := by unfold Hid; rw [IntKind.wrap_i64]; omega
  have hcs : Hid (((l.cnt : Int) + 1) + (r.cnt : Int) = ((l.cnt + 1 + r.cnt : Nat) : Int)) := by unfold Hid; omega
  go_enter Try.func34, Try.ntmps34
  go_wp2
  -- @1
  go_region_held3 (fun W => W.cell? ⟨g, 0, none⟩ = some (Value.string k) ∧ W.cell? ⟨g, 1, none⟩ = some (.int .i64 v))
    (first | go_keep | exact ⟨c0, c1⟩)
    (first
      | (go_at_call 19; refine CL.mono ?_; rintro e5 w5 ⟨rfl, rfl⟩)
      | (go_at_call 19; refine CR.mono ?_; rintro e5 w5 ⟨rfl, rfl⟩))
  -- @2
  rw [hw1.out, hw2.out, hcs.out]
  have T1 : Hid (Tr (w.drew.alloc (.cells #[Value.string k, .int .i64 v, .int .i64 ((l.cnt + 1 + r.cnt : Nat) : Int), .pointer pl, .pointer pr] 60)) (BT.bet k v l r) (some ⟨w.heap.size, 0, none⟩)) := Tr.new bd HL.out HR.out
  have B1 : Hid (Below w.heap.size w (w.drew.alloc (.cells #[Value.string k, .int .i64 v, .int .i64 ((l.cnt + 1 + r.cnt : Nat) : Int), .pointer pl, .pointer pr] 60))) := bd.alloc bd.size _
  go_wp2
  go_ret
  exact ⟨⟨_, rfl, T1.out⟩, B1.out⟩

end TS
end Go.Proofs.Ytbdnniaajiiimaa
