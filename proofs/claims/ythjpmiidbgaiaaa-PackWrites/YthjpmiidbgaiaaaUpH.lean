/- Close and Unpack, walked. -/
import Derived.Test.YthjpmiidbgaiaaaUpG
namespace Go.Proofs.Ythjpmiidbgaiaaa
open Go.RowKit

/-- An unpacker that is closed. -/
def US.shut (s : US) : US := { (if s.code = 0 ∧ s.wh = false then s.fl 4 s.tk else s) with cl := true }

/-- A text and a fault that are handed back. -/
theorem ret_tf {f : Func} {tmps : Array Value} {W : World} {G : Nat} {i j : Nat} {t : ByteArray} {a b : Int} {R : Ending → World → Prop} (hf : f.results = #[.tmp j, .cell i 30]) (hj : tmps[j]?.getD undef = .string t) (ht : tmps[i]?.getD undef = .pointer (some ⟨G, 0, none⟩))
    (q : St W G [.int .i64 a, .int .i64 b]) (hR : R (.returned (.tuple #[.string t, .agg #[.int .i64 a, .int .i64 b]])) W) :
    bodyPost Try.prog f R .ret { tmps := tmps, defers := [] } W := by
  have q0 := q.get 0 _ rfl
  have q1 := q.get 1 _ rfl
  exact bodyPost_ret (v := .tuple #[.string t, .agg #[.int .i64 a, .int .i64 b]]) (by simp [results, hf, go_sem, hj, ht, q0, q1]) rfl hR

/-- An unpacker's text, as a string. -/
theorem Up.text {w : World} {g : Nat} {v : Value} {s : US} (h : Up w g v s) : (convert 45 9 v).run Try.prog w = .ok (.string (ba s.tx)) w := by
  rcases h.buf with ⟨rfl, h0⟩ | ⟨k, cap, rfl, _, _, _, _, hc, hf⟩
  · have e : s.tx = [] := List.eq_nil_of_length_eq_zero h0
    rw [e]
    exact run_convert_bytes_nil w 45 5 Try.underlying45 Try.underlying5 0 0 9 Try.underlying9
  · have r := run_string_row (P := Try.prog) (w := w) (src := 45) (dst := 9) (c := cap) Try.underlying45 Try.underlying5 Try.underlying9 (f := bt (ba s.tx)) (g := k) (n := s.tx.length) ⟨hc, fun j hj => (hf j (by omega)).2⟩
    rw [r, ← ba_size, strFn_bt]

theorem UI.shut {s : US} (h : UI s) : UI s.shut := by
  unfold US.shut
  by_cases hc : s.code = 0 ∧ s.wh = false
  · rw [if_pos hc]
    have := h.fl 4 s.tk (by decide) (Nat.le_refl _)
    exact ⟨this.ph, this.ln, this.lm, this.tx, this.lk, this.nr, this.lc, this.ft, this.tk2, this.tk3, this.cd, this.le8⟩
  · rw [if_neg hc]
    exact ⟨h.ph, h.ln, h.lm, h.tx, h.lk, h.nr, h.lc, h.ft, h.tk2, h.tk3, h.cd, h.le8⟩

set_option maxHeartbeats 4000000 in
set_option maxRecDepth 8000 in
theorem uclose_any (g : Nat) (v : Value) (s : US) (w : World) (R : Up w g v s) (I : UI s) :
    Calls Try.prog 16 #[.pointer (some ⟨g, 0, none⟩)] w fun e w' => e = .returned (.tuple #[.string (ba s.shut.tx), .agg #[.int .i64 (s.shut.code : Int), .int .i64 (s.shut.fat : Int)]]) ∧ ∃ v', Up w' g v' s.shut ∧ Mv w w' g v v' := by
  have HR : Hid (Up w g v s) := R
  have HI : Hid (UI s) := I
  have c0 := R.st.get 0 _ rfl
  have c1 := R.st.get 1 _ rfl
  have hl := R.lt
  have n0 := (R.newBlock w.heap.size (Nat.le_refl _)).1
  clear R I
  by_cases hc : s.code = 0
  · have HC : Hid (s.code = 0) := hc
    rw [hc] at c1
    have WC := whole_any g v s (w.alloc (.cells #[.int .i64 0, .int .i64 0] 30)) (HR.out.alloc _) (fun h => ⟨HI.out.lm (by omega), by rcases HI.out.tx with e | e; exact e; omega⟩)
    by_cases hw : s.wh = true
    · have HS : Hid (s.shut = { s with cl := true }) := by unfold Hid US.shut; rw [if_neg (fun h => by rw [hw] at h; exact absurd h.2 (by decide))]
      rw [hw] at WC
      go_enter Try.func16, Try.ntmps16
      go_wp2_with fail
      refine WC.mono ?_
      rintro e w1 ⟨rfl, q, rfl⟩
      clear WC
      have U2 : Hid (Up ((w.alloc (.cells #[.int .i64 0, .int .i64 0] 30)).drewN q) g v s) := (HR.out.alloc _).drewN q
      have M2 : Hid (Mv w ((w.alloc (.cells #[.int .i64 0, .int .i64 0] 30)).drewN q) g v v) := ((Mv.refl _ _ _).alloc _).drewN q
      have q2 : Hid (St ((w.alloc (.cells #[.int .i64 0, .int .i64 0] 30)).drewN q) w.heap.size [.int .i64 0, .int .i64 0]) := (St.new w #[.int .i64 0, .int .i64 0] 30).drewN q
      have hG : Hid (v.ownBlock ≠ some w.heap.size) := (HR.out.newBlock w.heap.size (Nat.le_refl _)).2
      generalize (w.alloc (.cells #[.int .i64 0, .int .i64 0] 30)).drewN q = W1 at U2 M2 q2 ⊢
      have c3 := U2.out.st.get 3 _ rfl
      have f3 := U2.out.st.fr 3 (by show 3 < 9; decide)
      go_wp2_with fail
      have U4 : Hid (Up (W1.setCell ⟨g, 3, none⟩ (.bool true)) g v { s with cl := true }) := U2.out.set 3 _ { s with cl := true } (by decide) rfl rfl
      have M4 : Hid (Mv w (W1.setCell ⟨g, 3, none⟩ (.bool true)) g v v) := M2.out.store _ _
      have q4 : Hid (St (W1.setCell ⟨g, 3, none⟩ (.bool true)) w.heap.size [.int .i64 0, .int .i64 0]) := q2.out.other g 3 _ n0
      clear U2 M2 q2 c3 f3
      generalize W1.setCell ⟨g, 3, none⟩ (.bool true) = W4 at U4 M4 q4 ⊢
      have T4 := U4.out.drew.text
      obtain ⟨p4, n4, c4, hv4⟩ : ∃ p n c, v = .slice p n c := by obtain ⟨a, c, h⟩ := U4.out.len; exact ⟨a, _, c, h⟩
      subst hv4
      have d1 := U4.out.st.get 1 _ rfl
      have d2 := U4.out.st.get 2 _ rfl
      have d6 := U4.out.st.get 6 _ rfl
      change W4.cell? ⟨g, 6, none⟩ = some (.slice p4 n4 c4) at d6
      have z0 := q4.out.get 0 _ rfl
      have z1 := q4.out.get 1 _ rfl
      have y0 := q4.out.fr 0 (by show 0 < 2; decide)
      have y1 := q4.out.fr 1 (by show 1 < 2; decide)
      have n1 : g ≠ w.heap.size := fun e => n0 e.symm
      go_region
      all_goals (
        go_wp2
        exact ret_tf rfl rfl rfl (((q4.out.drewN 1).set 0 _ (by show 0 < 2; decide)).set 1 _ (by show 1 < 2; decide)) ⟨by rw [HS.out]; show _ = Ending.returned (.tuple #[.string (ba s.tx), .agg #[.int .i64 (s.code : Int), .int .i64 (s.fat : Int)]]); rw [HC.out]; rfl, _, by rw [HS.out]; exact ((U4.out.put _ 0 _ n1 hG.out).put _ 1 _ n1 hG.out).drew, ((M4.out.put _ 0 _ (Nat.le_refl _)).put _ 1 _ (Nat.le_refl _)).drew⟩)
    · have hwf : s.wh = false := by simpa using hw
      have HS : Hid (s.shut = { s.fl 4 s.tk with cl := true }) := by unfold Hid US.shut; rw [if_pos ⟨hc, hwf⟩]
      rw [hwf] at WC
      have FC := fun w R => fail_any' g v s 4 s.tk w R
      clear hw hwf hc
      go_enter Try.func16, Try.ntmps16
      go_wp2_with fail
      refine WC.mono ?_
      rintro e w1 ⟨rfl, q, rfl⟩
      clear WC
      have U2 : Hid (Up ((w.alloc (.cells #[.int .i64 0, .int .i64 0] 30)).drewN q) g v s) := (HR.out.alloc _).drewN q
      have M2 : Hid (Mv w ((w.alloc (.cells #[.int .i64 0, .int .i64 0] 30)).drewN q) g v v) := ((Mv.refl _ _ _).alloc _).drewN q
      have q2 : Hid (St ((w.alloc (.cells #[.int .i64 0, .int .i64 0] 30)).drewN q) w.heap.size [.int .i64 0, .int .i64 0]) := (St.new w #[.int .i64 0, .int .i64 0] 30).drewN q
      have hG : Hid (v.ownBlock ≠ some w.heap.size) := (HR.out.newBlock w.heap.size (Nat.le_refl _)).2
      generalize (w.alloc (.cells #[.int .i64 0, .int .i64 0] 30)).drewN q = W1 at U2 M2 q2 ⊢
      have c0 := U2.out.st.get 0 _ rfl
      go_wp2_with fail
      refine (FC _ U2.out).mono ?_
      rintro e w3 ⟨rfl, U3, M3⟩
      clear FC c0
      have q3 : Hid (St w3 w.heap.size [.int .i64 0, .int .i64 0]) := q2.out.same M3.size (M3.block _ q2.out.lt n0 hG.out)
      have hU3 : Hid (Up w3 g (.slice none 0 0) (s.fl 4 s.tk)) := U3
      have hM3 : Hid (Mv w w3 g v (.slice none 0 0)) := M2.out.trans M3
      have c3 := U3.st.get 3 _ rfl
      have f3 := U3.st.fr 3 (by show 3 < 9; decide)
      clear U3 M3 U2 M2 q2
      go_wp2_with fail
      have U4 : Hid (Up (w3.setCell ⟨g, 3, none⟩ (.bool true)) g (.slice none 0 0) { s.fl 4 s.tk with cl := true }) := hU3.out.set 3 _ { s.fl 4 s.tk with cl := true } (by decide) rfl rfl
      have M4 : Hid (Mv w (w3.setCell ⟨g, 3, none⟩ (.bool true)) g v (.slice none 0 0)) := hM3.out.store _ _
      have q4 : Hid (St (w3.setCell ⟨g, 3, none⟩ (.bool true)) w.heap.size [.int .i64 0, .int .i64 0]) := q3.out.other g 3 _ n0
      clear hU3 hM3 q3 c3 f3
      generalize w3.setCell ⟨g, 3, none⟩ (.bool true) = W4 at U4 M4 q4 ⊢
      have T4 := U4.out.drew.text
      have d1 := U4.out.st.get 1 _ rfl
      have d2 := U4.out.st.get 2 _ rfl
      have d6 := U4.out.st.get 6 _ rfl
      have z0 := q4.out.get 0 _ rfl
      have z1 := q4.out.get 1 _ rfl
      have y0 := q4.out.fr 0 (by show 0 < 2; decide)
      have y1 := q4.out.fr 1 (by show 1 < 2; decide)
      have n1 : g ≠ w.heap.size := fun e => n0 e.symm
      change W4.cell? ⟨g, 6, none⟩ = some (.slice none 0 0) at d6
      change W4.cell? ⟨g, 1, none⟩ = some (.int .i64 4) at d1
      change W4.cell? ⟨g, 2, none⟩ = some (.int .i64 (s.tk : Int)) at d2
      go_region
      all_goals (
        go_wp2
        exact ret_tf rfl rfl rfl (((q4.out.drewN 1).set 0 _ (by show 0 < 2; decide)).set 1 _ (by show 1 < 2; decide)) ⟨by rw [HS.out]; rfl, _, by rw [HS.out]; exact ((U4.out.put _ 0 _ n1 (by simp [Value.ownBlock])).put _ 1 _ n1 (by simp [Value.ownBlock])).drew, ((M4.out.put _ 0 _ (Nat.le_refl _)).put _ 1 _ (Nat.le_refl _)).drew⟩)
  · have hcz : ((s.code : Int) == 0) = false := by simp; omega
    have HS : Hid (s.shut = { s with cl := true }) := by unfold Hid US.shut; rw [if_neg (fun h => hc h.1)]
    have c3 := HR.out.st.get 3 _ rfl
    have f3 := HR.out.st.fr 3 (by show 3 < 9; decide)
    have hG : Hid (v.ownBlock ≠ some w.heap.size) := (HR.out.newBlock w.heap.size (Nat.le_refl _)).2
    clear hc
    obtain ⟨p4, n4, c4, hv4⟩ : ∃ p n c, v = .slice p n c := by obtain ⟨a, c, h⟩ := HR.out.len; exact ⟨a, _, c, h⟩
    subst hv4
    go_enter Try.func16, Try.ntmps16
    go_wp2_with fail
    have U4 : Hid (Up ((w.setCell ⟨g, 3, none⟩ (.bool true)).alloc (.cells #[.int .i64 0, .int .i64 0] 30)) g (.slice p4 n4 c4) { s with cl := true }) := (HR.out.set 3 _ { s with cl := true } (by decide) rfl rfl).alloc _
    have M4 : Hid (Mv w ((w.setCell ⟨g, 3, none⟩ (.bool true)).alloc (.cells #[.int .i64 0, .int .i64 0] 30)) g (.slice p4 n4 c4) (.slice p4 n4 c4)) := ((Mv.refl _ _ _).store _ _).alloc _
    have q4 : Hid (St ((w.setCell ⟨g, 3, none⟩ (.bool true)).alloc (.cells #[.int .i64 0, .int .i64 0] 30)) w.heap.size [.int .i64 0, .int .i64 0]) := by
      have h := St.new (w.setCell ⟨g, 3, none⟩ (.bool true)) #[.int .i64 0, .int .i64 0] 30
      rw [World.size_setCell] at h
      exact h
    clear c3 f3 c0 c1
    generalize (w.setCell ⟨g, 3, none⟩ (.bool true)).alloc (.cells #[.int .i64 0, .int .i64 0] 30) = W4 at U4 M4 q4 ⊢
    have T4 := U4.out.drew.text
    have d1 := U4.out.st.get 1 _ rfl
    have d2 := U4.out.st.get 2 _ rfl
    have d6 := U4.out.st.get 6 _ rfl
    have z0 := q4.out.get 0 _ rfl
    have z1 := q4.out.get 1 _ rfl
    have y0 := q4.out.fr 0 (by show 0 < 2; decide)
    have y1 := q4.out.fr 1 (by show 1 < 2; decide)
    have n1 : g ≠ w.heap.size := fun e => n0 e.symm
    change W4.cell? ⟨g, 6, none⟩ = some (.slice p4 n4 c4) at d6
    go_region
    all_goals (
      go_wp2
      exact ret_tf rfl rfl rfl (((q4.out.drewN 1).set 0 _ (by show 0 < 2; decide)).set 1 _ (by show 1 < 2; decide)) ⟨by rw [HS.out], _, by rw [HS.out]; exact ((U4.out.put _ 0 _ n1 hG.out).put _ 1 _ n1 hG.out).drew, ((M4.out.put _ 0 _ (Nat.le_refl _)).put _ 1 _ (Nat.le_refl _)).drew⟩)

end Go.Proofs.Ythjpmiidbgaiaaa
