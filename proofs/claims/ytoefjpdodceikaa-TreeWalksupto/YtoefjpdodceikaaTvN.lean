/- alike and the law TreeWalks, walked (over visit). -/
import Derived.Test.YtoefjpdodceikaaTvK
import Derived.Test.YtoefjpdodceikaaTvL
namespace Go.Proofs.Ytoefjpdodceikaa
open Go.RowKit

set_option maxHeartbeats 8000000 in
set_option maxRecDepth 10000 in
theorem talike_any (L : List RW) (x1 x2 : Option Addr) (c1 c2 B1 B2 : Nat) (w : World) (h1 : Rws 48 w B1 (.slice x1 L.length c1) L) (h2 : Rws 63 w B2 (.slice x2 L.length c2) L) (hl : L.length ≤ 1073741824) :
    Calls Try.prog 12 #[.slice x1 L.length c1, .slice x2 L.length c2] w fun e w' => e = .returned (.bool true) ∧ Below w.heap.size w w' := by
  have H1 : Hid (Rws 48 w B1 (.slice x1 L.length c1) L) := h1
  have H2 : Hid (Rws 63 w B2 (.slice x2 L.length c2) L) := h2
  clear h1 h2
  have hb : ((L.length : Int) != (L.length : Int)) = false := by simp
  go_enter Try.func12, Try.ntmps12
  go_wp2
  go_loopw [5, 6, 7, 15] (fun _ _ _ ix wr => ∃ i : Nat, i ≤ L.length ∧ ix = .int .i64 i ∧ Hid (Below w.heap.size w wr)) (fun _ _ _ i _ => L.length - (intOf i).toNat)
  case atStart => exact ⟨0, Nat.zero_le _, rfl, Below.refl _ _⟩
  case round =>
    obtain ⟨i, hi, rfl, hB⟩ := hrel
    by_cases hlt : i < L.length
    · obtain ⟨r, hr⟩ : ∃ r, L[i]? = some r := ⟨_, List.getElem?_eq_getElem hlt⟩
      obtain ⟨g1, d1, e1, -, hg1, p0, p1, p2, p3⟩ := H1.out.at hr
      obtain ⟨g2, d2, e2, -, hg2, q0, q1, q2, q3⟩ := H2.out.at hr
      injection e1 with e1 _ e1'
      injection e2 with e2 _ e2'
      subst e1 e1' e2 e2'
      obtain ⟨rp, rk, re, rt⟩ := r
      dsimp only at p0 p1 p2 p3 q0 q1 q2 q3
      have a0 := (hB.out.cell (p := ⟨g1, i * 4, none⟩) hg1).trans p0
      have a1 := (hB.out.cell (p := ⟨g1, i * 4 + 1, none⟩) hg1).trans p1
      have a2 := (hB.out.cell (p := ⟨g1, i * 4 + 2, none⟩) hg1).trans p2
      have a3 := (hB.out.cell (p := ⟨g1, i * 4 + 3, none⟩) hg1).trans p3
      have s1 : (wr.alloc (.cells #[.string rp, .int .i64 rk, .bool re, .string rt] 48)).heap.size = wr.heap.size + 1 := World.size_alloc _ _
      have b3 : Below wr.heap.size wr (wr.alloc (.cells #[.string rp, .int .i64 rk, .bool re, .string rt] 48)) := (Below.refl _ _).alloc (Nat.le_refl _) _
      have HB3 : Hid (Below w.heap.size w (wr.alloc (.cells #[.string rp, .int .i64 rk, .bool re, .string rt] 48))) := hB.out.trans (b3.mono hB.out.size)
      have HR3 : Hid ((wr.alloc (.cells #[.string rp, .int .i64 rk, .bool re, .string rt] 48)).heap[wr.heap.size]? = some (.cells #[.string rp, .int .i64 rk, .bool re, .string rt] 48 (0, 0))) := Array.getElem?_push_size
      clear p0 p1 p2 p3 b3 s1
      go_upto_region 6 with fail
      generalize wr.alloc (.cells #[.string rp, .int .i64 rk, .bool re, .string rt] 48) = w3 at *
      generalize wr.heap.size = D at *
      clear a0 a1 a2 a3
      have a0 := (HB3.out.cell (p := ⟨g2, i * 4, none⟩) hg2).trans q0
      have a1 := (HB3.out.cell (p := ⟨g2, i * 4 + 1, none⟩) hg2).trans q1
      have a2 := (HB3.out.cell (p := ⟨g2, i * 4 + 2, none⟩) hg2).trans q2
      have a3 := (HB3.out.cell (p := ⟨g2, i * 4 + 3, none⟩) hg2).trans q3
      have b4 : Below w3.heap.size w3 (w3.alloc (.cells #[.string rp, .int .i64 rk, .bool re, .string rt] 63)) := (Below.refl _ _).alloc (Nat.le_refl _) _
      have HB4 : Hid (Below w.heap.size w (w3.alloc (.cells #[.string rp, .int .i64 rk, .bool re, .string rt] 63))) := HB3.out.trans (b4.mono HB3.out.size)
      have HR4 : Hid ((w3.alloc (.cells #[.string rp, .int .i64 rk, .bool re, .string rt] 63)).heap[D]? = some (.cells #[.string rp, .int .i64 rk, .bool re, .string rt] 48 (0, 0))) := (b4.block D (heap_lt HR3.out)).trans HR3.out
      have HS4 : Hid ((w3.alloc (.cells #[.string rp, .int .i64 rk, .bool re, .string rt] 63)).heap[w3.heap.size]? = some (.cells #[.string rp, .int .i64 rk, .bool re, .string rt] 63 (0, 0))) := Array.getElem?_push_size
      clear q0 q1 q2 q3 b4
      go_upto_region 7 with fail
      generalize w3.alloc (.cells #[.string rp, .int .i64 rk, .bool re, .string rt] 63) = w4 at *
      generalize w3.heap.size = E at *
      clear a0 a1 a2 a3 HB3 HR3 hB
      have u0 : w4.cell? ⟨D, 0, none⟩ = some (.string rp) := by rw [Lib.cell_of_heap HR4.out]; rfl
      have u1 : w4.cell? ⟨D, 1, none⟩ = some (.int .i64 rk) := by rw [Lib.cell_of_heap HR4.out]; rfl
      have u2' : w4.cell? ⟨D, 2, none⟩ = some (.bool re) := by rw [Lib.cell_of_heap HR4.out]; rfl
      have u3 : w4.cell? ⟨D, 3, none⟩ = some (.string rt) := by rw [Lib.cell_of_heap HR4.out]; rfl
      have v0 : w4.cell? ⟨E, 0, none⟩ = some (.string rp) := by rw [Lib.cell_of_heap HS4.out]; rfl
      have v1 : w4.cell? ⟨E, 1, none⟩ = some (.int .i64 rk) := by rw [Lib.cell_of_heap HS4.out]; rfl
      have v2 : w4.cell? ⟨E, 2, none⟩ = some (.bool re) := by rw [Lib.cell_of_heap HS4.out]; rfl
      have v3 : w4.cell? ⟨E, 3, none⟩ = some (.string rt) := by rw [Lib.cell_of_heap HS4.out]; rfl
      go_wp2
      go_roundw
      case rel => exact ⟨i + 1, by omega, by go_num, HB4⟩
      case measure => simp [intOf]; omega
    · obtain rfl : i = L.length := by omega
      go_wp2
      go_ret
      exact ⟨rfl, hB.out⟩

set_option maxHeartbeats 8000000 in
set_option maxRecDepth 10000 in
theorem twalks_walk (VA : ∀ f, VsAt f) (fuel : Nat) (k : Int) (e : Bool) (t : ByteArray) (x : Option Addr) (n c : Nat) (T : Tr) (w : World) (hA : At w fuel (.agg #[.int .i64 k, .bool e, .string t, .slice x n c]) T) (hsm : smT T) :
    Calls Try.prog 4 #[.agg #[.int .i64 k, .bool e, .string t, .slice x n c]] w fun e w' => e = .returned (.bool true) ∧ Below w.heap.size w w' := by
  have b1 : Below w.heap.size w (w.alloc (.cells #[.int .i64 k, .bool e, .string t, .slice x n c] 25)) := (Below.refl _ _).alloc (Nat.le_refl _) _
  have HN1 : Hid (NB (w.alloc (.cells #[.int .i64 k, .bool e, .string t, .slice x n c] 25)) w.heap.size k e t x n c) := NB.new w k e t x n c
  have HB1 : Hid (Below w.heap.size w (w.alloc (.cells #[.int .i64 k, .bool e, .string t, .slice x n c] 25))) := b1
  have HA : Hid (At w fuel (.agg #[.int .i64 k, .bool e, .string t, .slice x n c]) T) := hA
  have HSM : Hid (smT T) := hsm
  clear b1 hA hsm
  go_enter Try.func4, Try.ntmps4
  go_wp2_with fail
  generalize w.alloc (.cells #[.int .i64 k, .bool e, .string t, .slice x n c] 25) = w1 at *
  obtain ⟨K, hK⟩ : ∃ K, K = w.heap.size := ⟨_, rfl⟩
  rw [← hK] at HN1
  rw [← hK]
  have HK : Hid (K = w.heap.size) := hK
  clear hK
  refine (awake_any w1).mono ?_
  rintro e5 w2 ⟨rfl, b2⟩
  have HB2 : Hid (Below w.heap.size w w2) := HB1.out.trans (b2.mono HB1.out.size)
  have HN2 : Hid (NB w2 K k e t x n c) := (b2.block K (heap_lt HN1.out)).trans HN1.out
  clear b2 HB1 HN1
  have y0 := HN2.out.c0
  have y1 := HN2.out.c1
  have y2 := HN2.out.c2
  have y3 := HN2.out.c3
  have LC := look_any VA fuel _ T w2 (HA.out.below HB2.out) HSM.out
  go_wp2_with fail
  refine LC.mono ?_
  intro e5 w7 h7
  -- what Look and Walk answer, with the rows told
  have key : ∃ (C2 : Int) (L : List RW) (x7 : Option Addr) (c7 : Nat) (Z1 : Int) (C1 : ByteArray), e5 = .returned (.agg #[.slice x7 L.length c7, .int .i64 Z1, .int .i64 C2, .string C1]) ∧ Rws 63 w7 w2.heap.size (.slice x7 L.length c7) L ∧ L.length ≤ 1073741824 ∧ Below w2.heap.size w2 w7 ∧ ∀ W, Below w.heap.size w W → Calls Try.prog 11 #[.agg #[.int .i64 k, .bool e, .string t, .slice x n c]] W fun e w' => (∃ x c, e = .returned (.tuple #[.slice x L.length c, .int .i64 C2]) ∧ Rws 48 w' W.heap.size (.slice x L.length c) L) ∧ Below W.heap.size W w' := by
    obtain ⟨h1, h2⟩ := h7
    by_cases hc : (ckT T).2 ≠ 0
    · rw [if_pos hc] at h1
      refine ⟨(ckT T).2, [], none, 0, 0, (ckT T).1, h1, World.ownsRow_nil _ _ _ _, by decide, h2, fun W hW => ?_⟩
      refine (walk_tree fuel _ T W (HA.out.below hW) HSM.out).mono ?_
      rintro e w' ⟨h3, h4⟩
      rw [if_pos hc] at h3
      exact ⟨⟨none, 0, h3, World.ownsRow_nil _ _ _ _⟩, h4⟩
    · rw [if_neg hc] at h1
      obtain ⟨x7, c7, rfl, R7⟩ := h1
      have hoff := ckT_zero (T := T) (by omega)
      have hle := rw_le [] 24 T hoff
      have hbd := vT_bd [] 24 T hoff (by decide) (by decide)
      refine ⟨0, rwT [] T, x7, c7, _, _, rfl, R7, by omega, h2, fun W hW => ?_⟩
      refine (walk_tree fuel _ T W (HA.out.below hW) HSM.out).mono ?_
      rintro e w' ⟨h3, h4⟩
      rw [if_neg hc] at h3
      exact ⟨h3, h4⟩
  obtain ⟨C2, L, x7, c7, Z1, C1, rfl, R7, hL, b7, WK⟩ := key
  have HB7 : Hid (Below w.heap.size w w7) := HB2.out.trans (b7.mono HB2.out.size)
  have HN7 : Hid (NB w7 K k e t x n c) := (b7.block K (heap_lt HN2.out)).trans HN2.out
  have b8 : Below w7.heap.size w7 (w7.alloc (.cells #[.slice x7 L.length c7, .int .i64 Z1, .int .i64 C2, .string C1] 33)) := (Below.refl _ _).alloc (Nat.le_refl _) _
  have HS8 : Hid ((w7.alloc (.cells #[.slice x7 L.length c7, .int .i64 Z1, .int .i64 C2, .string C1] 33)).heap[w7.heap.size]? = some (.cells #[.slice x7 L.length c7, .int .i64 Z1, .int .i64 C2, .string C1] 33 (0, 0))) := Array.getElem?_push_size
  have HB8 : Hid (Below w.heap.size w (w7.alloc (.cells #[.slice x7 L.length c7, .int .i64 Z1, .int .i64 C2, .string C1] 33))) := HB7.out.trans (b8.mono HB7.out.size)
  have HN8 : Hid (NB (w7.alloc (.cells #[.slice x7 L.length c7, .int .i64 Z1, .int .i64 C2, .string C1] 33)) K k e t x n c) := (b8.block K (heap_lt HN7.out)).trans HN7.out
  have HR8 : Hid (Rws 63 (w7.alloc (.cells #[.slice x7 L.length c7, .int .i64 Z1, .int .i64 C2, .string C1] 33)) w2.heap.size (.slice x7 L.length c7) L) := R7.below b8
  have HWK : Hid (∀ W, Below w.heap.size w W → Calls Try.prog 11 #[.agg #[.int .i64 k, .bool e, .string t, .slice x n c]] W fun e w' => (∃ x c, e = .returned (.tuple #[.slice x L.length c, .int .i64 C2]) ∧ Rws 48 w' W.heap.size (.slice x L.length c) L) ∧ Below W.heap.size W w') := WK
  clear LC b7 h7 b8 HB7 HN7 HB2 HN2 R7 WK y0 y1 y2 y3
  go_upto_region 4 with fail
  generalize w7.alloc (.cells #[.slice x7 L.length c7, .int .i64 Z1, .int .i64 C2, .string C1] 33) = w8 at *
  generalize w7.heap.size = S at *
  have y0 := HN8.out.c0
  have y1 := HN8.out.c1
  have y2 := HN8.out.c2
  have y3 := HN8.out.c3
  go_wp2_with fail
  refine (HWK.out w8 HB8.out).mono ?_
  rintro e5 w9 ⟨⟨x9, c9, rfl, R9⟩, b9⟩
  have HB9 : Hid (Below w.heap.size w w9) := HB8.out.trans (b9.mono HB8.out.size)
  have HS9 : Hid (w9.heap[S]? = some (.cells #[.slice x7 L.length c7, .int .i64 Z1, .int .i64 C2, .string C1] 33 (0, 0))) := (b9.block S (heap_lt HS8.out)).trans HS8.out
  have AC := talike_any L x9 x7 c9 c7 _ _ w9 R9 (HR8.out.below b9) hL
  clear b9 HB8 HN8 HS8 HWK y0 y1 y2 y3 R9 HR8
  have g0 : w9.cell? ⟨S, 0, none⟩ = some (.slice x7 L.length c7) := by rw [Lib.cell_of_heap HS9.out]; rfl
  have g2 : w9.cell? ⟨S, 2, none⟩ = some (.int .i64 C2) := by rw [Lib.cell_of_heap HS9.out]; rfl
  have q1 : (C2 == C2) = true := by simp
  go_wp2_with fail
  refine AC.mono ?_
  rintro e5 w10 ⟨rfl, b10⟩
  have HB10 : Hid (Below w.heap.size w w10) := HB9.out.trans (b10.mono HB9.out.size)
  clear AC b10
  go_wp2
  go_ret
  exact ⟨rfl, HB10.out⟩

end Go.Proofs.Ytoefjpdodceikaa
