/- take, walked. -/
import Derived.Test.YthjpmiidbgaiaaaUpE
namespace Go.Proofs.Ythjpmiidbgaiaaa
open Go.RowKit

theorem wpList_appB_is {w : World} {ops : Array Oper} {rest : List Oper} {o : Oper} {a : Act} {Q : Exit → Act → World → Prop} (hgd : o.guard = none) (s x : Operand)
    (ho : o.op = .call { callee := .builtin .append, args := #[s, x], argTypes := #[45, 45] }) (v u v' : Value) (w' : World) (hs : a.eval s = v) (hx : a.eval x = u)
    (hr : (Builtin.append_ #[45, 45] o.type #[v, u]).run Try.prog w = .ok v' w') (h : wpList Try.prog ops Q rest (a.put o.dst v') w') : wpList Try.prog ops Q (o :: rest) a w := by
  refine wpList_plain hgd fun K hK' => ?_
  unfold Oper.wp
  simp [execOp, ho, resolve, invoke, builtin, hs, hx, hr, Result.andThen]
  exact hK' _ _ h

/-- What a callee hands back, put into two new cells. -/
theorem Up.behind {w w3 : World} {g : Nat} {v v3 : Value} {s s' : US} (R : Up w g v s) (_ : Up w3 g v3 s') (M : Mv (w.alloc (.cells #[.int .i64 0, .int .i64 0] 30)) w3 g v v3) :
    St w3 w.heap.size [.int .i64 0, .int .i64 0] ∧ Mv w w3 g v v3 ∧ v3.ownBlock ≠ some w.heap.size := by
  have nb := R.newBlock w.heap.size (Nat.le_refl _)
  have hsz : w.heap.size < (w.alloc (.cells #[.int .i64 0, .int .i64 0] 30)).heap.size := by rw [World.size_alloc]; omega
  refine ⟨(St.new w #[.int .i64 0, .int .i64 0] 30).same M.size (M.block _ hsz nb.1 nb.2), ((Mv.refl _ _ _).alloc _).trans M, fun e => ?_⟩
  rcases M.new _ e with e | e
  · exact nb.2 e
  · omega

set_option maxHeartbeats 4000000 in
set_option maxRecDepth 8000 in
theorem take_any (g : Nat) (v : Value) (s : US) (b : UInt8) (w : World) (R : Up w g v s) (I : UI s) (hc : s.code = 0) (htk : s.tk ≤ 1073741824) :
    Calls Try.prog 35 #[.pointer (some ⟨g, 0, none⟩), .int .u8 (b.toNat : Int)] w fun e w' => e = .returned (.agg #[.int .i64 ((s.look b).2.1 : Int), .int .i64 ((s.look b).2.2 : Int)]) ∧ ∃ v', Up w' g v' (s.look b).1 ∧ Mv w w' g v v' := by
  have HR : Hid (Up w g v s) := R
  have HI : Hid (UI s) := I
  have hl := R.lt
  have n0 := (R.newBlock w.heap.size (Nat.le_refl _)).1
  have hb := b.toNat_lt
  have c4 := R.st.get 4 _ rfl
  have hph := I.ph
  have HC : Hid (s.code = 0) := hc
  clear R I hc
  have hcs : s.ph = 0 ∨ s.ph = 1 ∨ s.ph = 4 ∨ s.ph = 2 ∨ s.ph = 3 := by omega
  rcases hcs with h | h | h | h | h
  · have TC := fun w R => takeLength_any g v s b w R h (HI.out.ln h HC.out).1 (HI.out.ln h HC.out).2.1
    rw [h] at c4
    go_enter Try.func35, Try.ntmps35
    go_wp2_with fail
    refine (TC _ (HR.out.alloc _)).mono ?_
    rintro e w3 ⟨rfl, U3, M3⟩
    clear TC
    obtain ⟨q3, M4, nG⟩ := HR.out.behind U3 M3
    have hU : Hid (Up w3 g v (s.look b).1) := U3
    have hq : Hid (St w3 w.heap.size [.int .i64 0, .int .i64 0]) := q3
    have hM : Hid (Mv w w3 g v v) := M4
    have z0 := q3.get 0 _ rfl
    have z1 := q3.get 1 _ rfl
    have y0 := q3.fr 0 (by show 0 < 2; decide)
    have y1 := q3.fr 1 (by show 1 < 2; decide)
    clear U3 M3 q3 M4
    go_wp2
    exact ret_fault rfl rfl (((hq.out.set 0 _ (by show 0 < 2; decide)).set 1 _ (by show 1 < 2; decide)).cast rfl) ⟨rfl, v, (hU.out.put _ 0 _ n0.symm nG).put _ 1 _ n0.symm nG, (hM.out.put _ 0 _ (Nat.le_refl _)).put _ 1 _ (Nat.le_refl _)⟩
  · have TC := fun w R => takeToken_any g v s b w R h (HI.out.lm (by omega)) (by rcases HI.out.tx with e | e; exact e; omega)
    rw [h] at c4
    go_enter Try.func35, Try.ntmps35
    go_wp2_with fail
    refine (TC _ (HR.out.alloc _)).mono ?_
    rintro e w3 ⟨rfl, U3, M3⟩
    clear TC
    obtain ⟨q3, M4, nG⟩ := HR.out.behind U3 M3
    have hU : Hid (Up w3 g v (s.look b).1) := U3
    have hq : Hid (St w3 w.heap.size [.int .i64 0, .int .i64 0]) := q3
    have hM : Hid (Mv w w3 g v v) := M4
    have z0 := q3.get 0 _ rfl
    have z1 := q3.get 1 _ rfl
    have y0 := q3.fr 0 (by show 0 < 2; decide)
    have y1 := q3.fr 1 (by show 1 < 2; decide)
    clear U3 M3 q3 M4
    go_wp2
    exact ret_fault rfl rfl (((hq.out.set 0 _ (by show 0 < 2; decide)).set 1 _ (by show 1 < 2; decide)).cast rfl) ⟨rfl, v, (hU.out.put _ 0 _ n0.symm nG).put _ 1 _ n0.symm nG, (hM.out.put _ 0 _ (Nat.le_refl _)).put _ 1 _ (Nat.le_refl _)⟩
  · have TC := fun w R => takeFar_any g v s b w R h HI.out.nr HI.out.lc (by have := HI.out.lm (by omega); rcases HI.out.tx with e | e; omega; omega) htk (HI.out.tk2 HC.out h)
    rw [h] at c4
    go_enter Try.func35, Try.ntmps35
    go_wp2_with fail
    refine (TC _ (HR.out.alloc _)).mono ?_
    rintro e w3 ⟨rfl, v3, U3, M3⟩
    clear TC
    obtain ⟨q3, M4, nG⟩ := HR.out.behind U3 M3
    have hU : Hid (Up w3 g v3 (s.look b).1) := U3
    have hq : Hid (St w3 w.heap.size [.int .i64 0, .int .i64 0]) := q3
    have hM : Hid (Mv w w3 g v v3) := M4
    have z0 := q3.get 0 _ rfl
    have z1 := q3.get 1 _ rfl
    have y0 := q3.fr 0 (by show 0 < 2; decide)
    have y1 := q3.fr 1 (by show 1 < 2; decide)
    clear U3 M3 q3 M4
    go_wp2
    exact ret_fault rfl rfl (((hq.out.set 0 _ (by show 0 < 2; decide)).set 1 _ (by show 1 < 2; decide)).cast rfl) ⟨rfl, v3, (hU.out.put _ 0 _ n0.symm nG).put _ 1 _ n0.symm nG, (hM.out.put _ 0 _ (Nat.le_refl _)).put _ 1 _ (Nat.le_refl _)⟩
  · obtain ⟨k1, k2⟩ := HI.out.lk HC.out (by omega)
    have HE : Hid (s.look b = (s.pput b, 0, 0)) := by unfold Hid US.look; rw [if_neg (by omega), if_neg (by omega), if_pos h]
    have htl : s.tx.length ≤ 1048576 := by have := HI.out.lm (by omega); rcases HI.out.tx with e | e; omega; omega
    have HPH : Hid (s.ph = 2) := h
    rw [h] at c4
    obtain ⟨p0, n00, cc0, hv⟩ : ∃ p n c, v = .slice p n c := by obtain ⟨a, c, h⟩ := HR.out.len; exact ⟨a, _, c, h⟩
    subst hv
    have UA : Up (w.alloc (.cells #[.int .i64 0, .int .i64 0] 30)) g (.slice p0 n00 cc0) s := HR.out.alloc _
    have MA : Mv w (w.alloc (.cells #[.int .i64 0, .int .i64 0] 30)) g (.slice p0 n00 cc0) (.slice p0 n00 cc0) := (Mv.refl _ _ _).alloc _
    have qA : St (w.alloc (.cells #[.int .i64 0, .int .i64 0] 30)) w.heap.size [.int .i64 0, .int .i64 0] := St.new w _ _
    have hGv := (HR.out.newBlock w.heap.size (Nat.le_refl _)).2
    have sA : (w.alloc (.cells #[.int .i64 0, .int .i64 0] 30)).heap.size = w.heap.size + 1 := World.size_alloc _ _
    obtain ⟨v', w', hap, hU', hM', hS', hSg⟩ := UA.grow b (by omega) 0 45
    rw [sA] at hap
    obtain ⟨p', n', c', rfl⟩ : ∃ p' n' c', v' = .slice p' n' c' := by obtain ⟨a, c, h⟩ := hU'.len; exact ⟨a, _, c, h⟩
    have hnG : (Value.slice p' n' c').ownBlock ≠ some w.heap.size := fun e => by
      rcases hM'.new _ e with e | e
      · exact hGv e
      · omega
    have HU : Hid (Up (w'.setCell ⟨g, 6, none⟩ (.slice p' n' c')) g (.slice p' n' c') { s with tx := s.tx ++ [b] }) := hU'
    have HM : Hid (Mv w (w'.setCell ⟨g, 6, none⟩ (.slice p' n' c')) g (.slice p0 n00 cc0) (.slice p' n' c')) := (MA.trans hM').store _ _
    have HS : Hid (St (w'.setCell ⟨g, 6, none⟩ (.slice p' n' c')) w.heap.size [.int .i64 0, .int .i64 0]) := (hS' _ _ qA n0 hGv).other g 6 _ n0
    have c6 := HR.out.st.get 6 _ rfl
    have e6 := hSg.get 6 _ rfl
    have g6 := hSg.fr 6 (by show 6 < 9; decide)
    change w.cell? ⟨g, 6, none⟩ = some (.slice p0 n00 cc0) at c6
    change w'.cell? ⟨g, 6, none⟩ = some (.slice p0 n00 cc0) at e6
    have e4 := hSg.get 4 _ rfl
    have e7 := hSg.get 7 _ rfl
    have g4 := hSg.fr 4 (by show 4 < 9; decide)
    have g7 := hSg.fr 7 (by show 7 < 9; decide)
    have qS := hS' _ _ qA n0 hGv
    have z0 := qS.get 0 _ rfl
    have z1 := qS.get 1 _ rfl
    have y0 := qS.fr 0 (by show 0 < 2; decide)
    have y1 := qS.fr 1 (by show 1 < 2; decide)
    have n1 : g ≠ w.heap.size := fun e => n0 e.symm
    have hk131 := HI.out.lc
    have HL : Hid ((s.lack : Int) - 1 = ((s.lack - 1 : Nat) : Int)) := by unfold Hid; omega
    clear UA MA qA hU' hM' hS' hSg qS
    by_cases hz : s.lack = 1
    · have hz' : (s.lack : Int) = 1 := by omega
      rw [hz'] at e7
      have HF : Hid (s.pput b = { s with tx := s.tx ++ [b], lack := 0, ph := 1 }) := by unfold Hid US.pput; rw [hz]; rfl
      clear hz hz'
      go_enter Try.func35, Try.ntmps35
      go_wp2_with (first | (refine wpList_appB_is (by rfl) (.tmp 25) (.tmp 27) (by rfl) _ _ _ _ (by rfl) (by rfl) hap ?_))
      exact ret_fault rfl rfl (((((HS.out.other g 7 _ n0).other g 4 _ n0).set 0 _ (by show 0 < 2; decide)).set 1 _ (by show 1 < 2; decide)).cast rfl) ⟨by rw [HE.out]; rfl, _, by rw [HE.out, HF.out]; exact (((HU.out.set 7 _ { s with tx := s.tx ++ [b], lack := 0 } (by decide) rfl rfl).set 4 _ { s with tx := s.tx ++ [b], lack := 0, ph := 1 } (by decide) rfl rfl).put _ 0 _ n1 hnG).put _ 1 _ n1 hnG, (((HM.out.store 7 _).store 4 _).put _ 0 _ (Nat.le_refl _)).put _ 1 _ (Nat.le_refl _)⟩
    · have HF : Hid (s.pput b = { s with tx := s.tx ++ [b], lack := s.lack - 1 }) := by unfold Hid US.pput; rw [if_neg (by omega)]
      have hz' : ((s.lack : Int) - 1 == 0) = false := by simp; omega
      have hz2 : ¬ (s.lack : Int) - 1 = 0 := by omega
      clear hz
      go_enter Try.func35, Try.ntmps35
      go_wp2_with (first | (refine wpList_appB_is (by rfl) (.tmp 25) (.tmp 27) (by rfl) _ _ _ _ (by rfl) (by rfl) hap ?_))
      exact ret_fault rfl rfl ((((HS.out.other g 7 _ n0).set 0 _ (by show 0 < 2; decide)).set 1 _ (by show 1 < 2; decide)).cast rfl) ⟨by rw [HE.out]; rfl, _, by rw [HE.out, HF.out]; exact ((HU.out.set 7 _ { s with tx := s.tx ++ [b], lack := s.lack - 1 } (by decide) (by rw [HL.out]; rfl) rfl).put _ 0 _ n1 hnG).put _ 1 _ n1 hnG, ((HM.out.store 7 _).put _ 0 _ (Nat.le_refl _)).put _ 1 _ (Nat.le_refl _)⟩
  · have HE : Hid (s.look b = ({ s with near := b.toNat, ph := 4 }, 0, 0)) := by unfold Hid US.look; rw [if_neg (by omega), if_neg (by omega), if_neg (by omega), if_pos h]
    have c8 := HR.out.st.get 8 _ rfl
    have f4 := HR.out.st.fr 4 (by show 4 < 9; decide)
    have f8 := HR.out.st.fr 8 (by show 8 < 9; decide)
    have n1 : g ≠ w.heap.size := fun e => n0 e.symm
    rw [h] at c4
    go_enter Try.func35, Try.ntmps35
    go_wp2
    have qN := St.new ((w.setCell ⟨g, 8, none⟩ (.int .u8 (b.toNat : Int))).setCell ⟨g, 4, none⟩ (.int .i64 4)) #[.int .i64 0, .int .i64 0] 30
    rw [World.size_setCell, World.size_setCell] at qN
    refine ret_fault rfl rfl qN ⟨by rw [HE.out]; rfl, v, by rw [HE.out]; exact ((HR.out.set 8 _ { s with near := b.toNat } (by decide) rfl rfl).set 4 _ { s with near := b.toNat, ph := 4 } (by decide) rfl rfl).alloc _, (((Mv.refl _ _ _).store 8 _).store 4 _).alloc _⟩

end Go.Proofs.Ythjpmiidbgaiaaa
