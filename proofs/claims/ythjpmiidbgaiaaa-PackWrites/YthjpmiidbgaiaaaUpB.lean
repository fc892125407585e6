/- takeLength, walked. -/
import Derived.Test.YthjpmiidbgaiaaaUpA
namespace Go.Proofs.Ythjpmiidbgaiaaa
open Go.RowKit

theorem or_word (x b t : Nat) (hx : x < 2 ^ (8 * t)) (hb : b < 256) (ht : t ≤ 7) : bits .or .u64 (x : Int) (IntKind.u64.wrap ((b : Int) * 2 ^ (8 * t))) = ((x + b * 2 ^ (8 * t) : Nat) : Int) := by
  have h1 : b * 2 ^ (8 * t) < 18446744073709551616 := by
    have e : 2 ^ (8 * t) ≤ 2 ^ 56 := Nat.pow_le_pow_right (by decide) (by omega)
    calc b * 2 ^ (8 * t) ≤ 255 * 2 ^ 56 := Nat.mul_le_mul (by omega) e
      _ < 18446744073709551616 := by decide
  have h0 : x < 18446744073709551616 := by
    have e : 2 ^ (8 * t) ≤ 2 ^ 56 := Nat.pow_le_pow_right (by decide) (by omega)
    exact Nat.lt_of_lt_of_le hx (Nat.le_trans e (by decide))
  have h2 : ((b : Int) * 2 ^ (8 * t)) = ((b * 2 ^ (8 * t) : Nat) : Int) := by push_cast; rfl
  have h3 : IntKind.u64.wrap ((b * 2 ^ (8 * t) : Nat) : Int) = ((b * 2 ^ (8 * t) : Nat) : Int) := by
    generalize b * 2 ^ (8 * t) = z at h1
    show (z : Int) % 18446744073709551616 = z
    omega
  rw [h2, h3, u64_or _ _ (by omega) (by omega) (by omega) (by omega), Int.toNat_natCast, Int.toNat_natCast]
  congr 1
  rw [Nat.mul_comm, Nat.or_comm, ← Nat.two_pow_add_eq_or_of_lt hx, Nat.add_comm]

/-- A fault that is handed back in two new cells. -/
theorem ret_fault {f : Func} {tmps : Array Value} {W : World} {G : Nat} {i : Nat} {a b : Int} {R : Ending → World → Prop} (hf : f.results = #[.cell i 30]) (ht : tmps[i]?.getD undef = .pointer (some ⟨G, 0, none⟩))
    (q : St W G [.int .i64 a, .int .i64 b]) (hR : R (.returned (.agg #[.int .i64 a, .int .i64 b])) W) :
    bodyPost Try.prog f R .ret { tmps := tmps, defers := [] } W := by
  have q0 := q.get 0 _ rfl
  have q1 := q.get 1 _ rfl
  exact bodyPost_ret (v := .agg #[.int .i64 a, .int .i64 b]) (by simp [results, hf, go_sem, ht, q0, q1]) rfl hR

set_option maxHeartbeats 2000000 in
theorem takeLength_any (g : Nat) (v : Value) (s : US) (b : UInt8) (w : World) (R : Up w g v s) (h0 : s.ph = 0) (htk : s.tk < 8) (hln : s.len < 2 ^ (8 * s.tk)) :
    Calls Try.prog 40 #[.pointer (some ⟨g, 0, none⟩), .int .u8 (b.toNat : Int)] w fun e w' => e = .returned (.agg #[.int .i64 ((s.look b).2.1 : Int), .int .i64 ((s.look b).2.2 : Int)]) ∧ Up w' g v (s.look b).1 ∧ Mv w w' g v v := by
  have HR : Hid (Up w g v s) := R
  have c0 := R.st.get 0 _ rfl
  have c4 := R.st.get 4 _ rfl
  have c5 := R.st.get 5 _ rfl
  have f4 := R.st.fr 4 (by show 4 < 9; decide)
  have f5 := R.st.fr 5 (by show 5 < 9; decide)
  have hl := R.lt
  have n0 := (R.newBlock w.heap.size (Nat.le_refl _)).1
  have hb := b.toNat_lt
  clear R
  have HW : Hid (bits .or .u64 (s.len : Int) (IntKind.u64.wrap ((b.toNat : Int) * 2 ^ (8 * s.tk))) = ((s.lput b).len : Int)) := or_word s.len b.toNat s.tk hln hb (by omega)
  have HK : Hid (s.look b = if s.tk < 7 then (s.lput b, 0, 0) else if 1048576 < (s.lput b).len then (s.lput b, 2, 0) else ({ s.lput b with ph := 1 }, 0, 0)) := by unfold Hid US.look; rw [if_pos h0]
  have U1 : Hid (Up (w.setCell ⟨g, 5, none⟩ (.int .u64 ((s.lput b).len : Int))) g v (s.lput b)) := HR.out.set 5 _ (s.lput b) (by decide) rfl rfl
  have M1 : Hid (Mv w (w.setCell ⟨g, 5, none⟩ (.int .u64 ((s.lput b).len : Int))) g v v) := (Mv.refl _ _ _).store _ _
  clear h0 hln
  generalize hL : (s.lput b).len = LL at *
  go_enter Try.func40, Try.ntmps40
  go_wp2_with fail
  go_region
  rw [HW.out]
  have U2 : Hid (Up (((w.setCell ⟨g, 5, none⟩ (.int .u64 (LL : Int))).alloc (.cells #[.int .i64 0, .int .i64 0] 30)).drew) g v (s.lput b)) := (U1.out.alloc _).drew
  have M2 : Hid (Mv w (((w.setCell ⟨g, 5, none⟩ (.int .u64 (LL : Int))).alloc (.cells #[.int .i64 0, .int .i64 0] 30)).drew) g v v) := (M1.out.alloc _).drew
  have q2 : Hid (St (((w.setCell ⟨g, 5, none⟩ (.int .u64 (LL : Int))).alloc (.cells #[.int .i64 0, .int .i64 0] 30)).drew) w.heap.size [.int .i64 0, .int .i64 0]) := by
    have h := (St.new (w.setCell ⟨g, 5, none⟩ (.int .u64 (LL : Int))) #[.int .i64 0, .int .i64 0] 30).drewN 1
    rw [World.size_setCell] at h
    exact h
  have hG : Hid (w.heap.size ≤ w.heap.size ∧ v.ownBlock ≠ some w.heap.size) := ⟨Nat.le_refl _, (HR.out.newBlock w.heap.size (Nat.le_refl _)).2⟩
  generalize ((w.setCell ⟨g, 5, none⟩ (.int .u64 (LL : Int))).alloc (.cells #[.int .i64 0, .int .i64 0] 30)).drew = W1 at U2 M2 q2 ⊢
  clear c0 c4 c5 f4 f5 U1 M1 HW hl
  have G0 : Hid (w.heap.size ≤ w.heap.size) := Nat.le_refl _
  generalize hGG : w.heap.size = G at n0 q2 hG ⊢
  have GG : Hid (w.heap.size = G) := hGG
  clear hGG G0
  have d0 := U2.out.st.get 0 _ rfl
  have d5 := U2.out.st.get 5 _ rfl
  have d4 := U2.out.st.get 4 _ rfl
  have f4 := U2.out.st.fr 4 (by show 4 < 9; decide)
  have z0 := q2.out.get 0 _ rfl
  have z1 := q2.out.get 1 _ rfl
  have y0 := q2.out.fr 0 (by show 0 < 2; decide)
  have y1 := q2.out.fr 1 (by show 1 < 2; decide)
  have n1 : g ≠ G := fun e => n0 e.symm
  rw [show ((s.lput b).tk) = s.tk from rfl] at d0
  rw [hL] at d5
  by_cases h7 : s.tk < 7
  · have HE : Hid (s.look b = (s.lput b, 0, 0)) := by unfold Hid; rw [HK.out, if_pos h7]
    clear HK
    go_wp2
    refine ret_fault rfl rfl (((q2.out.set 0 _ (by show 0 < 2; decide)).set 1 _ (by show 1 < 2; decide)).cast rfl) ⟨by rw [HE.out]; rfl, by rw [HE.out]; exact (U2.out.put G 0 _ n1 hG.out.2).put G 1 _ n1 hG.out.2, (M2.out.put G 0 _ (by rw [GG.out]; exact Nat.le_refl _)).put G 1 _ (by rw [GG.out]; exact Nat.le_refl _)⟩
  · by_cases hb2 : 1048576 < LL
    · have HE : Hid (s.look b = (s.lput b, 2, 0)) := by unfold Hid; rw [HK.out, if_neg h7, if_pos hb2]
      clear HK
      go_wp2
      refine ret_fault rfl rfl (((q2.out.set 0 _ (by show 0 < 2; decide)).set 1 _ (by show 1 < 2; decide)).cast rfl) ⟨by rw [HE.out]; rfl, by rw [HE.out]; exact (U2.out.put G 0 _ n1 hG.out.2).put G 1 _ n1 hG.out.2, (M2.out.put G 0 _ (by rw [GG.out]; exact Nat.le_refl _)).put G 1 _ (by rw [GG.out]; exact Nat.le_refl _)⟩
    · have HE : Hid (s.look b = ({ s.lput b with ph := 1 }, 0, 0)) := by unfold Hid; rw [HK.out, if_neg h7, if_neg hb2]
      clear HK
      go_wp2
      refine ret_fault rfl rfl ((((q2.out.other g 4 _ n0).set 0 _ (by show 0 < 2; decide)).set 1 _ (by show 1 < 2; decide)).cast rfl) ⟨by rw [HE.out]; rfl, by rw [HE.out]; exact ((U2.out.set 4 _ { s.lput b with ph := 1 } (by decide) rfl rfl).put G 0 _ n1 hG.out.2).put G 1 _ n1 hG.out.2, ((M2.out.store 4 _).put G 0 _ (by rw [GG.out]; exact Nat.le_refl _)).put G 1 _ (by rw [GG.out]; exact Nat.le_refl _)⟩

end Go.Proofs.Ythjpmiidbgaiaaa
