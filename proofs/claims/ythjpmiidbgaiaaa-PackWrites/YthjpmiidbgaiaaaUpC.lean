/- takeToken, walked. -/
import Derived.Test.YthjpmiidbgaiaaaUpB
namespace Go.Proofs.Ythjpmiidbgaiaaa
open Go.RowKit

set_option maxHeartbeats 2000000 in
set_option maxRecDepth 8000 in
theorem takeToken_any (g : Nat) (v : Value) (s : US) (b : UInt8) (w : World) (R : Up w g v s) (h0 : s.ph = 1) (hlm : s.len ≤ 1048576) (htl : s.tx.length ≤ s.len) :
    Calls Try.prog 41 #[.pointer (some ⟨g, 0, none⟩), .int .u8 (b.toNat : Int)] w fun e w' => e = .returned (.agg #[.int .i64 ((s.look b).2.1 : Int), .int .i64 ((s.look b).2.2 : Int)]) ∧ Up w' g v (s.look b).1 ∧ Mv w w' g v v := by
  have HR : Hid (Up w g v s) := R
  have hl := R.lt
  have n0 := (R.newBlock w.heap.size (Nat.le_refl _)).1
  have hb := b.toNat_lt
  have WC := fun w R => whole_any g v s w R (fun _ => ⟨hlm, htl⟩)
  clear R
  have HK : Hid (s.look b = if s.wh then (s, 5, s.tk) else if s.len - s.tx.length < (s.tok b).lack then (s.tok b, 101, s.tk) else (s.tok b, 0, 0)) := by unfold Hid US.look; rw [if_neg (by omega), if_pos h0]
  go_enter Try.func41, Try.ntmps41
  go_wp2_with fail
  refine (WC _ (HR.out.alloc _)).mono ?_
  rintro e w1 ⟨rfl, q, rfl⟩
  clear WC
  have U2 : Hid (Up ((w.alloc (.cells #[.int .i64 0, .int .i64 0] 30)).drewN q) g v s) := (HR.out.alloc _).drewN q
  have M2 : Hid (Mv w ((w.alloc (.cells #[.int .i64 0, .int .i64 0] 30)).drewN q) g v v) := ((Mv.refl _ _ _).alloc _).drewN q
  have q2 : Hid (St ((w.alloc (.cells #[.int .i64 0, .int .i64 0] 30)).drewN q) w.heap.size [.int .i64 0, .int .i64 0]) := (St.new w #[.int .i64 0, .int .i64 0] 30).drewN q
  have hG : Hid (v.ownBlock ≠ some w.heap.size) := (HR.out.newBlock w.heap.size (Nat.le_refl _)).2
  generalize (w.alloc (.cells #[.int .i64 0, .int .i64 0] 30)).drewN q = W1 at U2 M2 q2 ⊢
  clear hl
  generalize hGG : w.heap.size = G at n0 q2 hG ⊢
  have GG : Hid (w.heap.size = G) := hGG
  clear hGG
  have d0 := U2.out.st.get 0 _ rfl
  have d4 := U2.out.st.get 4 _ rfl
  have d7 := U2.out.st.get 7 _ rfl
  have f4 := U2.out.st.fr 4 (by show 4 < 9; decide)
  have f7 := U2.out.st.fr 7 (by show 7 < 9; decide)
  have z0 := q2.out.get 0 _ rfl
  have z1 := q2.out.get 1 _ rfl
  have y0 := q2.out.fr 0 (by show 0 < 2; decide)
  have y1 := q2.out.fr 1 (by show 1 < 2; decide)
  have n1 : g ≠ G := fun e => n0 e.symm
  by_cases hw : s.wh = true
  · have HE : Hid (s.look b = (s, 5, s.tk)) := by unfold Hid; rw [HK.out, if_pos hw]
    clear HK
    go_wp2
    refine ret_fault rfl rfl (((q2.out.set 0 _ (by show 0 < 2; decide)).set 1 _ (by show 1 < 2; decide)).cast rfl) ⟨by rw [HE.out]; rfl, by rw [HE.out]; exact (U2.out.put G 0 _ n1 hG.out).put G 1 _ n1 hG.out, (M2.out.put G 0 _ (by rw [GG.out]; exact Nat.le_refl _)).put G 1 _ (by rw [GG.out]; exact Nat.le_refl _)⟩
  · have hwf : s.wh = false := by simpa using hw
    rw [hwf]
    clear hw
    by_cases h8 : 128 ≤ b.toNat
    · skip
      have ht : Hid (s.tok b = { s with ph := 3, lack := b.toNat - 124 }) := by unfold Hid US.tok; rw [if_pos h8]
      have U3 : Hid (Up ((((W1.setCell ⟨g, 4, none⟩ (.int .i64 2)).setCell ⟨g, 7, none⟩ (.int .i64 ((b.toNat : Int) + 1))).setCell ⟨g, 4, none⟩ (.int .i64 3)).setCell ⟨g, 7, none⟩ (.int .i64 ((b.toNat : Int) - 128 + 4))) g v (s.tok b)) := ((((U2.out.set 4 _ { s with ph := 2 } (by decide) rfl rfl).set 7 _ { s with ph := 2, lack := b.toNat + 1 } (by decide) rfl rfl).set 4 _ { s with ph := 3, lack := b.toNat + 1 } (by decide) rfl rfl).set 7 _ { s with ph := 3, lack := b.toNat - 124 } (by decide) (by rw [show ((b.toNat : Int) - 128 + 4) = ((b.toNat - 124 : Nat) : Int) by omega]; rfl) rfl).cast ht.out.symm
      have M3 : Hid (Mv w ((((W1.setCell ⟨g, 4, none⟩ (.int .i64 2)).setCell ⟨g, 7, none⟩ (.int .i64 ((b.toNat : Int) + 1))).setCell ⟨g, 4, none⟩ (.int .i64 3)).setCell ⟨g, 7, none⟩ (.int .i64 ((b.toNat : Int) - 128 + 4))) g v v) := (((M2.out.store _ _).store _ _).store _ _).store _ _
      have q3 : Hid (St ((((W1.setCell ⟨g, 4, none⟩ (.int .i64 2)).setCell ⟨g, 7, none⟩ (.int .i64 ((b.toNat : Int) + 1))).setCell ⟨g, 4, none⟩ (.int .i64 3)).setCell ⟨g, 7, none⟩ (.int .i64 ((b.toNat : Int) - 128 + 4))) G [.int .i64 0, .int .i64 0]) := (((q2.out.other g 4 _ n0).other g 7 _ n0).other g 4 _ n0).other g 7 _ n0
      go_wp2_with fail
      generalize (((W1.setCell ⟨g, 4, none⟩ (.int .i64 2)).setCell ⟨g, 7, none⟩ (.int .i64 ((b.toNat : Int) + 1))).setCell ⟨g, 4, none⟩ (.int .i64 3)).setCell ⟨g, 7, none⟩ (.int .i64 ((b.toNat : Int) - 128 + 4)) = W3 at U3 M3 q3 ⊢
      clear d0 d4 d7 f4 f7 z0 z1 y0 y1 U2 M2 q2
      have d0 := U3.out.st.get 0 _ rfl
      have d7 := U3.out.st.get 7 _ rfl
      have MM := fun w R => missing_any g v (s.tok b) w R (by rw [(s.tok_len b).1]; exact hlm) (by rw [(s.tok_len b).1, (s.tok_len b).2.1]; exact htl)
      rw [(s.tok_len b).2.2.1] at d0
      rw [(s.tok_len b).1, (s.tok_len b).2.1] at MM
      have MM3 := fun n => MM (W3.drewN n) (U3.out.drewN n)
      clear MM
      have z0 := q3.out.get 0 _ rfl
      have z1 := q3.out.get 1 _ rfl
      have y0 := q3.out.fr 0 (by show 0 < 2; decide)
      have y1 := q3.out.fr 1 (by show 1 < 2; decide)
      by_cases hx : s.len - s.tx.length < (s.tok b).lack
      · have HE : Hid (s.look b = (s.tok b, 101, s.tk)) := by unfold Hid; rw [HK.out, if_neg (by simp [hwf]), if_pos hx]
        generalize (s.tok b).lack = lk at d7 hx
        generalize s.len - s.tx.length = D at MM3 hx
        clear HK
        go_quiet ((go_at_call 39; exact Calls.quiet_of (MM3 _)))
        have U4 : Hid (Up (W3.drewN nq) g v (s.tok b)) := U3.out.drewN nq
        have M4 : Hid (Mv w (W3.drewN nq) g v v) := M3.out.drewN nq
        have q4 : Hid (St (W3.drewN nq) G [.int .i64 0, .int .i64 0]) := q3.out.drewN nq
        have d0 : (W3.drewN nq).cell? ⟨g, 0, none⟩ = some (.int .i64 (s.tk : Int)) := d0
        have z0 := q4.out.get 0 _ rfl
        have z1 := q4.out.get 1 _ rfl
        have y0 := q4.out.fr 0 (by show 0 < 2; decide)
        have y1 := q4.out.fr 1 (by show 1 < 2; decide)
        generalize W3.drewN nq = W4 at U4 M4 q4 d0 z0 z1 y0 y1 ⊢
        go_wp2
        refine ret_fault rfl rfl (((q4.out.set 0 _ (by show 0 < 2; decide)).set 1 _ (by show 1 < 2; decide)).cast rfl) ⟨by rw [HE.out]; rfl, by rw [HE.out]; exact (U4.out.put G 0 _ n1 hG.out).put G 1 _ n1 hG.out, (M4.out.put G 0 _ (by rw [GG.out]; exact Nat.le_refl _)).put G 1 _ (by rw [GG.out]; exact Nat.le_refl _)⟩
      · have HE : Hid (s.look b = (s.tok b, 0, 0)) := by unfold Hid; rw [HK.out, if_neg (by simp [hwf]), if_neg hx]
        generalize (s.tok b).lack = lk at d7 hx
        generalize s.len - s.tx.length = D at MM3 hx
        clear HK
        go_quiet ((go_at_call 39; exact Calls.quiet_of (MM3 _)))
        have U4 : Hid (Up (W3.drewN nq) g v (s.tok b)) := U3.out.drewN nq
        have M4 : Hid (Mv w (W3.drewN nq) g v v) := M3.out.drewN nq
        have q4 : Hid (St (W3.drewN nq) G [.int .i64 0, .int .i64 0]) := q3.out.drewN nq
        have z0 := q4.out.get 0 _ rfl
        have z1 := q4.out.get 1 _ rfl
        have y0 := q4.out.fr 0 (by show 0 < 2; decide)
        have y1 := q4.out.fr 1 (by show 1 < 2; decide)
        generalize W3.drewN nq = W4 at U4 M4 q4 z0 z1 y0 y1 ⊢
        go_wp2
        refine ret_fault rfl rfl (((q4.out.set 0 _ (by show 0 < 2; decide)).set 1 _ (by show 1 < 2; decide)).cast rfl) ⟨by rw [HE.out]; rfl, by rw [HE.out]; exact (U4.out.put G 0 _ n1 hG.out).put G 1 _ n1 hG.out, (M4.out.put G 0 _ (by rw [GG.out]; exact Nat.le_refl _)).put G 1 _ (by rw [GG.out]; exact Nat.le_refl _)⟩
    · have ht : Hid (s.tok b = { s with ph := 2, lack := b.toNat + 1 }) := by unfold Hid US.tok; rw [if_neg h8]
      have U3 : Hid (Up ((W1.setCell ⟨g, 4, none⟩ (.int .i64 2)).setCell ⟨g, 7, none⟩ (.int .i64 ((b.toNat : Int) + 1))) g v (s.tok b)) := ((U2.out.set 4 _ { s with ph := 2 } (by decide) rfl rfl).set 7 _ { s with ph := 2, lack := b.toNat + 1 } (by decide) rfl rfl).cast ht.out.symm
      have M3 : Hid (Mv w ((W1.setCell ⟨g, 4, none⟩ (.int .i64 2)).setCell ⟨g, 7, none⟩ (.int .i64 ((b.toNat : Int) + 1))) g v v) := (M2.out.store _ _).store _ _
      have q3 : Hid (St ((W1.setCell ⟨g, 4, none⟩ (.int .i64 2)).setCell ⟨g, 7, none⟩ (.int .i64 ((b.toNat : Int) + 1))) G [.int .i64 0, .int .i64 0]) := (q2.out.other g 4 _ n0).other g 7 _ n0
      go_wp2_with fail
      generalize (W1.setCell ⟨g, 4, none⟩ (.int .i64 2)).setCell ⟨g, 7, none⟩ (.int .i64 ((b.toNat : Int) + 1)) = W3 at U3 M3 q3 ⊢
      clear d0 d4 d7 f4 f7 z0 z1 y0 y1 U2 M2 q2
      have d0 := U3.out.st.get 0 _ rfl
      have d7 := U3.out.st.get 7 _ rfl
      have MM := fun w R => missing_any g v (s.tok b) w R (by rw [(s.tok_len b).1]; exact hlm) (by rw [(s.tok_len b).1, (s.tok_len b).2.1]; exact htl)
      rw [(s.tok_len b).2.2.1] at d0
      rw [(s.tok_len b).1, (s.tok_len b).2.1] at MM
      have MM3 := fun n => MM (W3.drewN n) (U3.out.drewN n)
      clear MM
      have z0 := q3.out.get 0 _ rfl
      have z1 := q3.out.get 1 _ rfl
      have y0 := q3.out.fr 0 (by show 0 < 2; decide)
      have y1 := q3.out.fr 1 (by show 1 < 2; decide)
      by_cases hx : s.len - s.tx.length < (s.tok b).lack
      · have HE : Hid (s.look b = (s.tok b, 101, s.tk)) := by unfold Hid; rw [HK.out, if_neg (by simp [hwf]), if_pos hx]
        generalize (s.tok b).lack = lk at d7 hx
        generalize s.len - s.tx.length = D at MM3 hx
        clear HK
        go_quiet ((go_at_call 39; exact Calls.quiet_of (MM3 _)))
        have U4 : Hid (Up (W3.drewN nq) g v (s.tok b)) := U3.out.drewN nq
        have M4 : Hid (Mv w (W3.drewN nq) g v v) := M3.out.drewN nq
        have q4 : Hid (St (W3.drewN nq) G [.int .i64 0, .int .i64 0]) := q3.out.drewN nq
        have d0 : (W3.drewN nq).cell? ⟨g, 0, none⟩ = some (.int .i64 (s.tk : Int)) := d0
        have z0 := q4.out.get 0 _ rfl
        have z1 := q4.out.get 1 _ rfl
        have y0 := q4.out.fr 0 (by show 0 < 2; decide)
        have y1 := q4.out.fr 1 (by show 1 < 2; decide)
        generalize W3.drewN nq = W4 at U4 M4 q4 d0 z0 z1 y0 y1 ⊢
        go_wp2
        refine ret_fault rfl rfl (((q4.out.set 0 _ (by show 0 < 2; decide)).set 1 _ (by show 1 < 2; decide)).cast rfl) ⟨by rw [HE.out]; rfl, by rw [HE.out]; exact (U4.out.put G 0 _ n1 hG.out).put G 1 _ n1 hG.out, (M4.out.put G 0 _ (by rw [GG.out]; exact Nat.le_refl _)).put G 1 _ (by rw [GG.out]; exact Nat.le_refl _)⟩
      · have HE : Hid (s.look b = (s.tok b, 0, 0)) := by unfold Hid; rw [HK.out, if_neg (by simp [hwf]), if_neg hx]
        generalize (s.tok b).lack = lk at d7 hx
        generalize s.len - s.tx.length = D at MM3 hx
        clear HK
        go_quiet ((go_at_call 39; exact Calls.quiet_of (MM3 _)))
        have U4 : Hid (Up (W3.drewN nq) g v (s.tok b)) := U3.out.drewN nq
        have M4 : Hid (Mv w (W3.drewN nq) g v v) := M3.out.drewN nq
        have q4 : Hid (St (W3.drewN nq) G [.int .i64 0, .int .i64 0]) := q3.out.drewN nq
        have z0 := q4.out.get 0 _ rfl
        have z1 := q4.out.get 1 _ rfl
        have y0 := q4.out.fr 0 (by show 0 < 2; decide)
        have y1 := q4.out.fr 1 (by show 1 < 2; decide)
        generalize W3.drewN nq = W4 at U4 M4 q4 z0 z1 y0 y1 ⊢
        go_wp2
        refine ret_fault rfl rfl (((q4.out.set 0 _ (by show 0 < 2; decide)).set 1 _ (by show 1 < 2; decide)).cast rfl) ⟨by rw [HE.out]; rfl, by rw [HE.out]; exact (U4.out.put G 0 _ n1 hG.out).put G 1 _ n1 hG.out, (M4.out.put G 0 _ (by rw [GG.out]; exact Nat.le_refl _)).put G 1 _ (by rw [GG.out]; exact Nat.le_refl _)⟩

end Go.Proofs.Ythjpmiidbgaiaaa
