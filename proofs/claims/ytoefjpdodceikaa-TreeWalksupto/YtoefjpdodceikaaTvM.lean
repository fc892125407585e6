/- The law TreeChecks, walked (over visit). -/
import Derived.Test.YtoefjpdodceikaaTvK
import Derived.Test.YtoefjpdodceikaaTvL
namespace Go.Proofs.Ytoefjpdodceikaa
open Go.RowKit

theorem ckT_fine {T : Tr} (h : (ckT T).2 = 0) : ckT T = (⟨#[]⟩, 0) := by
  have h1 := ckT_zero h
  unfold ckT
  rw [h1]
theorem LkR.val {T : Tr} {w w' : World} {e : Ending} (h : LkR T w e w') : (∃ x n c, e = .returned (.agg #[.slice x n c, .int .i64 (szA T).1, .int .i64 (ckT T).2, .string (ckT T).1])) ∧ Below w.heap.size w w' := by
  obtain ⟨h1, h2⟩ := h
  refine ⟨?_, h2⟩
  by_cases hc : (ckT T).2 ≠ 0
  · rw [if_pos hc] at h1
    have hz : szA T = (0, (ckT T).2) := by unfold szA; rw [if_pos hc]
    exact ⟨_, _, _, by rw [h1, hz]⟩
  · rw [if_neg hc] at h1
    obtain ⟨x, c, rfl, _⟩ := h1
    have hz : szA T = (24 + tbT T, 0) := by unfold szA; rw [if_neg hc]
    have hk := ckT_fine (T := T) (by omega)
    exact ⟨_, _, _, by rw [hz, hk]⟩
theorem szA_code (T : Tr) : (szA T).2 = (ckT T).2 := by
  unfold szA
  split
  · rfl
  · rename_i h; omega
theorem tgt_a : tgt ⟨#[97]⟩ = 0 := by decide +kernel
theorem tgt_e : tgt ⟨#[]⟩ = 63 := by decide +kernel
theorem cfP_link (t : ByteArray) : cfP 2 false t 0 = tgt t := by unfold cfP; rw [if_neg (by decide), if_pos rfl, if_neg (by simp)]

set_option maxHeartbeats 8000000 in
set_option maxRecDepth 10000 in
theorem tchecks_walk (VA : ∀ f, VsAt f) (fuel : Nat) (k : Int) (e : Bool) (t : ByteArray) (x : Option Addr) (n c : Nat) (T : Tr) (w : World) (hA : At w fuel (.agg #[.int .i64 k, .bool e, .string t, .slice x n c]) T) (hsm : smT T) (ht : t.size ≤ 1048576) :
    Calls Try.prog 3 #[.agg #[.int .i64 k, .bool e, .string t, .slice x n c]] w fun e w' => e = .returned (.bool true) ∧ Below w.heap.size w w' := by
  have b1 : Below w.heap.size w (w.alloc (.cells #[.int .i64 k, .bool e, .string t, .slice x n c] 25)) := (Below.refl _ _).alloc (Nat.le_refl _) _
  have HN1 : Hid (NB (w.alloc (.cells #[.int .i64 k, .bool e, .string t, .slice x n c] 25)) w.heap.size k e t x n c) := NB.new w k e t x n c
  have HB1 : Hid (Below w.heap.size w (w.alloc (.cells #[.int .i64 k, .bool e, .string t, .slice x n c] 25))) := b1
  have HA : Hid (At w fuel (.agg #[.int .i64 k, .bool e, .string t, .slice x n c]) T) := hA
  have HSM : Hid (smT T) := hsm
  clear b1 hA hsm
  go_enter Try.func3, Try.ntmps3
  go_wp2_with fail
  generalize w.alloc (.cells #[.int .i64 k, .bool e, .string t, .slice x n c] 25) = w1 at *
  obtain ⟨K, hK⟩ : ∃ K, K = w.heap.size := ⟨_, rfl⟩
  rw [← hK] at HN1
  rw [← hK]
  have HK : Hid (K = w.heap.size) := hK
  clear hK
  refine (awake_any w1).mono ?_
  rintro e5 w2 ⟨rfl, b2⟩
  have HB2 : Hid (Below w.heap.size w w2) := HB1.out.trans (b2.mono HB1.out.size)
  have HN2 : Hid (NB w2 K k e t x n c) := (b2.block K (heap_lt HN1.out)).trans HN1.out
  clear b2 HB1 HN1
  have TC := fun w => target_any ⟨#[97]⟩ w
  rw [tgt_a] at TC
  go_wp2_with fail
  refine (TC _).mono ?_
  rintro e5 w3 ⟨rfl, rfl⟩
  clear TC
  have TC := fun w => target_any ⟨#[]⟩ w
  rw [tgt_e] at TC
  go_wp2_with fail
  refine (TC _).mono ?_
  rintro e5 w4 ⟨rfl, rfl⟩
  clear TC
  have OC := own_any 2 false t none 0 0 w4 (by omega)
  rw [cfP_link] at OC
  unfold ndV at OC
  have TC := fun w => target_any t w
  have y0 := HN2.out.c0
  have y1 := HN2.out.c1
  have y2 := HN2.out.c2
  have y3 := HN2.out.c3
  generalize tgt t = TG at OC TC
  go_wp2_with fail
  refine OC.mono ?_
  rintro e5 w5 ⟨rfl, b5⟩
  have HB5 : Hid (Below w.heap.size w w5) := HB2.out.trans (b5.mono HB2.out.size)
  have HN5 : Hid (NB w5 K k e t x n c) := (b5.block K (heap_lt HN2.out)).trans HN2.out
  clear b5 HB2 HN2 OC y0 y1 y2 y3
  generalize ownB 2 false t 0 = OB
  have y0 := HN5.out.c0
  have y1 := HN5.out.c1
  have y2 := HN5.out.c2
  have y3 := HN5.out.c3
  go_wp2_with fail
  refine (TC _).mono ?_
  rintro e5 w6 ⟨rfl, rfl⟩
  clear TC
  have q1 : (TG != TG) = false := by simp
  have LC := look_any VA fuel _ T w6 (HA.out.below HB5.out) HSM.out
  go_wp2_with fail
  refine LC.mono ?_
  intro e5 w7 h7
  obtain ⟨⟨x7, n7, c7, rfl⟩, b7⟩ := h7.val
  have HB7 : Hid (Below w.heap.size w w7) := HB5.out.trans (b7.mono HB5.out.size)
  have HN7 : Hid (NB w7 K k e t x n c) := (b7.block K (heap_lt HN5.out)).trans HN5.out
  have HSC : Hid ((szA T).2 = (ckT T).2) := szA_code T
  have CK := fun W (h : Below w.heap.size w W) => check_tree fuel _ T W (HA.out.below h) HSM.out
  have SZ := fun W (h : Below w.heap.size w W) => size_tree fuel _ T W (HA.out.below h) HSM.out
  rw [HSC.out] at SZ
  generalize (szA T).1 = Z1 at *
  generalize (ckT T).2 = C2 at *
  generalize (ckT T).1 = C1 at *
  clear LC b7 h7 HB5 HN5 y0 y1 y2 y3 HSC
  have b8 : Below w7.heap.size w7 (w7.alloc (.cells #[.slice x7 n7 c7, .int .i64 Z1, .int .i64 C2, .string C1] 33)) := (Below.refl _ _).alloc (Nat.le_refl _) _
  have HS8 : Hid ((w7.alloc (.cells #[.slice x7 n7 c7, .int .i64 Z1, .int .i64 C2, .string C1] 33)).heap[w7.heap.size]? = some (.cells #[.slice x7 n7 c7, .int .i64 Z1, .int .i64 C2, .string C1] 33 (0, 0))) := Array.getElem?_push_size
  have HB8 : Hid (Below w.heap.size w (w7.alloc (.cells #[.slice x7 n7 c7, .int .i64 Z1, .int .i64 C2, .string C1] 33))) := HB7.out.trans (b8.mono HB7.out.size)
  have HN8 : Hid (NB (w7.alloc (.cells #[.slice x7 n7 c7, .int .i64 Z1, .int .i64 C2, .string C1] 33)) K k e t x n c) := (b8.block K (heap_lt HN7.out)).trans HN7.out
  clear b8 HB7 HN7
  go_upto_region 7 with fail
  generalize w7.alloc (.cells #[.slice x7 n7 c7, .int .i64 Z1, .int .i64 C2, .string C1] 33) = w8 at *
  generalize w7.heap.size = S at *
  have y0 := HN8.out.c0
  have y1 := HN8.out.c1
  have y2 := HN8.out.c2
  have y3 := HN8.out.c3
  go_wp2_with fail
  refine (CK w8 HB8.out).mono ?_
  rintro e5 w9 ⟨rfl, b9⟩
  have HB9 : Hid (Below w.heap.size w w9) := HB8.out.trans (b9.mono HB8.out.size)
  have HN9 : Hid (NB w9 K k e t x n c) := (b9.block K (heap_lt HN8.out)).trans HN8.out
  have HS9 : Hid (w9.heap[S]? = some (.cells #[.slice x7 n7 c7, .int .i64 Z1, .int .i64 C2, .string C1] 33 (0, 0))) := (b9.block S (heap_lt HS8.out)).trans HS8.out
  clear b9 HB8 HN8 HS8 CK y0 y1 y2 y3
  have y0 := HN9.out.c0
  have y1 := HN9.out.c1
  have y2 := HN9.out.c2
  have y3 := HN9.out.c3
  go_wp2_with fail
  refine (SZ w9 HB9.out).mono ?_
  rintro e5 w10 ⟨rfl, b10⟩
  have HB10 : Hid (Below w.heap.size w w10) := HB9.out.trans (b10.mono HB9.out.size)
  have HS10 : Hid (w10.heap[S]? = some (.cells #[.slice x7 n7 c7, .int .i64 Z1, .int .i64 C2, .string C1] 33 (0, 0))) := (b10.block S (heap_lt HS9.out)).trans HS9.out
  clear b10 HB9 HN9 HS9 SZ y0 y1 y2 y3
  have g1 : w10.cell? ⟨S, 1, none⟩ = some (.int .i64 Z1) := by rw [Lib.cell_of_heap HS10.out]; rfl
  have g2 : w10.cell? ⟨S, 2, none⟩ = some (.int .i64 C2) := by rw [Lib.cell_of_heap HS10.out]; rfl
  have g3 : w10.cell? ⟨S, 3, none⟩ = some (.string C1) := by rw [Lib.cell_of_heap HS10.out]; rfl
  go_wp2
  go_ret
  exact ⟨rfl, HB10.out⟩

end Go.Proofs.Ytoefjpdodceikaa
