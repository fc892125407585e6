/- Gathered: UpF UpG UpH UpI. -/
import Derived.Test.YtljcbibcdajhiaaUpE
import Derived.Deep.LoopGhost
/- take, walked. -/
namespace Go.Proofs.Ytljcbibcdajhiaa
open Go.RowKit

theorem wpList_appB_is {w : World} {ops : Array Oper} {rest : List Oper} {o : Oper} {a : Act} {Q : Exit → Act → World → Prop} (hgd : o.guard = none) (s x : Operand)
    (ho : o.op = .call { callee := .builtin .append, args := #[s, x], argTypes := #[37, 37] }) (v u v' : Value) (w' : World) (hs : a.eval s = v) (hx : a.eval x = u)
    (hr : (Builtin.append_ #[37, 37] o.type #[v, u]).run Try.prog w = .ok v' w') (h : wpList Try.prog ops Q rest (a.put o.dst v') w') : wpList Try.prog ops Q (o :: rest) a w := by
  refine wpList_plain hgd fun K hK' => ?_
  unfold Oper.wp
  simp [execOp, ho, resolve, invoke, builtin, hs, hx, hr, Result.andThen]
  exact hK' _ _ h

/-- What a callee hands back, put into two new cells. -/
theorem Up.behind {w w3 : World} {g : Nat} {v v3 : Value} {s s' : US} (R : Up w g v s) (_ : Up w3 g v3 s') (M : Mv (w.alloc (.cells #[.int .i64 0, .int .i64 0] 39)) w3 g v v3) :
    StK w3 w.heap.size [.int .i64 0, .int .i64 0] ∧ Mv w w3 g v v3 ∧ v3.ownBlock ≠ some w.heap.size := by
  have nb := R.newBlock w.heap.size (Nat.le_refl _)
  have hsz : w.heap.size < (w.alloc (.cells #[.int .i64 0, .int .i64 0] 39)).heap.size := by rw [World.size_alloc]; omega
  refine ⟨(StK.new w #[.int .i64 0, .int .i64 0] 39).same M.size (M.block _ hsz nb.1 nb.2), ((Mv.refl _ _ _).alloc _).trans M, fun e => ?_⟩
  rcases M.new _ e with e | e
  · exact nb.2 e
  · omega

set_option maxHeartbeats 4000000 in
set_option maxRecDepth 8000 in
theorem take_anyK (g : Nat) (v : Value) (s : US) (b : UInt8) (w : World) (R : Up w g v s) (I : UI s) (hc : s.code = 0) (htk : s.tk ≤ 1073741824) :
    Calls Try.prog 25 #[.pointer (some ⟨g, 0, none⟩), .int .u8 (b.toNat : Int)] w fun e w' => e = .returned (.agg #[.int .i64 ((s.look b).2.1 : Int), .int .i64 ((s.look b).2.2 : Int)]) ∧ ∃ v', Up w' g v' (s.look b).1 ∧ Mv w w' g v v' := by
  have HR : Hid (Up w g v s) := R
  have HI : Hid (UI s) := I
  have hl := R.lt
  have n0 := (R.newBlock w.heap.size (Nat.le_refl _)).1
  have hb := b.toNat_lt
  have c4 := R.st.get 4 _ rfl
  have hph := I.ph
  have HC : Hid (s.code = 0) := hc
  clear R I hc
  have hcs : s.ph = 0 ∨ s.ph = 1 ∨ s.ph = 4 ∨ s.ph = 2 ∨ s.ph = 3 := by omega
  rcases hcs with h | h | h | h | h
  · have TC := fun w R => takeLength_any g v s b w R h (HI.out.ln h HC.out).1 (HI.out.ln h HC.out).2.1
    rw [h] at c4
    go_enter Try.func25, Try.ntmps25
    go_wp2_with fail
    refine (TC _ (HR.out.alloc _)).mono ?_
    rintro e w3 ⟨rfl, U3, M3⟩
    clear TC
    obtain ⟨q3, M4, nG⟩ := HR.out.behind U3 M3
    have hU : Hid (Up w3 g v (s.look b).1) := U3
    have hq : Hid (StK w3 w.heap.size [.int .i64 0, .int .i64 0]) := q3
    have hM : Hid (Mv w w3 g v v) := M4
    have z0 := q3.get 0 _ rfl
    have z1 := q3.get 1 _ rfl
    have y0 := q3.fr 0 (by show 0 < 2; decide)
    have y1 := q3.fr 1 (by show 1 < 2; decide)
    clear U3 M3 q3 M4
    go_wp2
    exact ret_faultK rfl rfl (((hq.out.set 0 _ (by show 0 < 2; decide)).set 1 _ (by show 1 < 2; decide)).cast rfl) ⟨rfl, v, (hU.out.put _ 0 _ n0.symm nG).put _ 1 _ n0.symm nG, (hM.out.put _ 0 _ (Nat.le_refl _)).put _ 1 _ (Nat.le_refl _)⟩
  · have TC := fun w R => takeToken_any g v s b w R h (HI.out.lm (by omega)) (by rcases HI.out.tx with e | e; exact e; omega)
    rw [h] at c4
    go_enter Try.func25, Try.ntmps25
    go_wp2_with fail
    refine (TC _ (HR.out.alloc _)).mono ?_
    rintro e w3 ⟨rfl, U3, M3⟩
    clear TC
    obtain ⟨q3, M4, nG⟩ := HR.out.behind U3 M3
    have hU : Hid (Up w3 g v (s.look b).1) := U3
    have hq : Hid (StK w3 w.heap.size [.int .i64 0, .int .i64 0]) := q3
    have hM : Hid (Mv w w3 g v v) := M4
    have z0 := q3.get 0 _ rfl
    have z1 := q3.get 1 _ rfl
    have y0 := q3.fr 0 (by show 0 < 2; decide)
    have y1 := q3.fr 1 (by show 1 < 2; decide)
    clear U3 M3 q3 M4
    go_wp2
    exact ret_faultK rfl rfl (((hq.out.set 0 _ (by show 0 < 2; decide)).set 1 _ (by show 1 < 2; decide)).cast rfl) ⟨rfl, v, (hU.out.put _ 0 _ n0.symm nG).put _ 1 _ n0.symm nG, (hM.out.put _ 0 _ (Nat.le_refl _)).put _ 1 _ (Nat.le_refl _)⟩
  · have TC := fun w R => takeFar_any g v s b w R h HI.out.nr HI.out.lc (by have := HI.out.lm (by omega); rcases HI.out.tx with e | e; omega; omega) htk (HI.out.tk2 HC.out h)
    rw [h] at c4
    go_enter Try.func25, Try.ntmps25
    go_wp2_with fail
    refine (TC _ (HR.out.alloc _)).mono ?_
    rintro e w3 ⟨rfl, v3, U3, M3⟩
    clear TC
    obtain ⟨q3, M4, nG⟩ := HR.out.behind U3 M3
    have hU : Hid (Up w3 g v3 (s.look b).1) := U3
    have hq : Hid (StK w3 w.heap.size [.int .i64 0, .int .i64 0]) := q3
    have hM : Hid (Mv w w3 g v v3) := M4
    have z0 := q3.get 0 _ rfl
    have z1 := q3.get 1 _ rfl
    have y0 := q3.fr 0 (by show 0 < 2; decide)
    have y1 := q3.fr 1 (by show 1 < 2; decide)
    clear U3 M3 q3 M4
    go_wp2
    exact ret_faultK rfl rfl (((hq.out.set 0 _ (by show 0 < 2; decide)).set 1 _ (by show 1 < 2; decide)).cast rfl) ⟨rfl, v3, (hU.out.put _ 0 _ n0.symm nG).put _ 1 _ n0.symm nG, (hM.out.put _ 0 _ (Nat.le_refl _)).put _ 1 _ (Nat.le_refl _)⟩
  · obtain ⟨k1, k2⟩ := HI.out.lk HC.out (by omega)
    have HE : Hid (s.look b = (s.pput b, 0, 0)) := by unfold Hid US.look; rw [if_neg (by omega), if_neg (by omega), if_pos h]
    have htl : s.tx.length ≤ 1048576 := by have := HI.out.lm (by omega); rcases HI.out.tx with e | e; omega; omega
    have HPH : Hid (s.ph = 2) := h
    rw [h] at c4
    obtain ⟨p0, n00, cc0, hv⟩ : ∃ p n c, v = .slice p n c := by obtain ⟨a, c, h⟩ := HR.out.len; exact ⟨a, _, c, h⟩
    subst hv
    have UA : Up (w.alloc (.cells #[.int .i64 0, .int .i64 0] 39)) g (.slice p0 n00 cc0) s := HR.out.alloc _
    have MA : Mv w (w.alloc (.cells #[.int .i64 0, .int .i64 0] 39)) g (.slice p0 n00 cc0) (.slice p0 n00 cc0) := (Mv.refl _ _ _).alloc _
    have qA : StK (w.alloc (.cells #[.int .i64 0, .int .i64 0] 39)) w.heap.size [.int .i64 0, .int .i64 0] := StK.new w _ _
    have hGv := (HR.out.newBlock w.heap.size (Nat.le_refl _)).2
    have sA : (w.alloc (.cells #[.int .i64 0, .int .i64 0] 39)).heap.size = w.heap.size + 1 := World.size_alloc _ _
    obtain ⟨v', w', hap, hU', hM', hS', hSg⟩ := UA.grow b (by omega) 0 37
    rw [sA] at hap
    obtain ⟨p', n', c', rfl⟩ : ∃ p' n' c', v' = .slice p' n' c' := by obtain ⟨a, c, h⟩ := hU'.len; exact ⟨a, _, c, h⟩
    have hnG : (Value.slice p' n' c').ownBlock ≠ some w.heap.size := fun e => by
      rcases hM'.new _ e with e | e
      · exact hGv e
      · omega
    have HU : Hid (Up (w'.setCell ⟨g, 6, none⟩ (.slice p' n' c')) g (.slice p' n' c') { s with tx := s.tx ++ [b] }) := hU'
    have HM : Hid (Mv w (w'.setCell ⟨g, 6, none⟩ (.slice p' n' c')) g (.slice p0 n00 cc0) (.slice p' n' c')) := (MA.trans hM').store _ _
    have HS : Hid (StK (w'.setCell ⟨g, 6, none⟩ (.slice p' n' c')) w.heap.size [.int .i64 0, .int .i64 0]) := (hS' _ _ qA n0 hGv).other g 6 _ n0
    have c6 := HR.out.st.get 6 _ rfl
    have e6 := hSg.get 6 _ rfl
    have g6 := hSg.fr 6 (by show 6 < 9; decide)
    change w.cell? ⟨g, 6, none⟩ = some (.slice p0 n00 cc0) at c6
    change w'.cell? ⟨g, 6, none⟩ = some (.slice p0 n00 cc0) at e6
    have e4 := hSg.get 4 _ rfl
    have e7 := hSg.get 7 _ rfl
    have g4 := hSg.fr 4 (by show 4 < 9; decide)
    have g7 := hSg.fr 7 (by show 7 < 9; decide)
    have qS := hS' _ _ qA n0 hGv
    have z0 := qS.get 0 _ rfl
    have z1 := qS.get 1 _ rfl
    have y0 := qS.fr 0 (by show 0 < 2; decide)
    have y1 := qS.fr 1 (by show 1 < 2; decide)
    have n1 : g ≠ w.heap.size := fun e => n0 e.symm
    have hk131 := HI.out.lc
    have HL : Hid ((s.lack : Int) - 1 = ((s.lack - 1 : Nat) : Int)) := by unfold Hid; omega
    clear UA MA qA hU' hM' hS' hSg qS
    by_cases hz : s.lack = 1
    · have hz' : (s.lack : Int) = 1 := by omega
      rw [hz'] at e7
      have HF : Hid (s.pput b = { s with tx := s.tx ++ [b], lack := 0, ph := 1 }) := by unfold Hid US.pput; rw [hz]; rfl
      clear hz hz'
      go_enter Try.func25, Try.ntmps25
      go_wp2_with (first | (refine wpList_appB_is (by rfl) (.tmp 25) (.tmp 27) (by rfl) _ _ _ _ (by rfl) (by rfl) hap ?_))
      exact ret_faultK rfl rfl (((((HS.out.other g 7 _ n0).other g 4 _ n0).set 0 _ (by show 0 < 2; decide)).set 1 _ (by show 1 < 2; decide)).cast rfl) ⟨by rw [HE.out]; rfl, _, by rw [HE.out, HF.out]; exact (((HU.out.set 7 _ { s with tx := s.tx ++ [b], lack := 0 } (by decide) rfl rfl).set 4 _ { s with tx := s.tx ++ [b], lack := 0, ph := 1 } (by decide) rfl rfl).put _ 0 _ n1 hnG).put _ 1 _ n1 hnG, (((HM.out.store 7 _).store 4 _).put _ 0 _ (Nat.le_refl _)).put _ 1 _ (Nat.le_refl _)⟩
    · have HF : Hid (s.pput b = { s with tx := s.tx ++ [b], lack := s.lack - 1 }) := by unfold Hid US.pput; rw [if_neg (by omega)]
      have hz' : ((s.lack : Int) - 1 == 0) = false := by simp; omega
      have hz2 : ¬ (s.lack : Int) - 1 = 0 := by omega
      clear hz
      go_enter Try.func25, Try.ntmps25
      go_wp2_with (first | (refine wpList_appB_is (by rfl) (.tmp 25) (.tmp 27) (by rfl) _ _ _ _ (by rfl) (by rfl) hap ?_))
      exact ret_faultK rfl rfl ((((HS.out.other g 7 _ n0).set 0 _ (by show 0 < 2; decide)).set 1 _ (by show 1 < 2; decide)).cast rfl) ⟨by rw [HE.out]; rfl, _, by rw [HE.out, HF.out]; exact ((HU.out.set 7 _ { s with tx := s.tx ++ [b], lack := s.lack - 1 } (by decide) (by rw [HL.out]; rfl) rfl).put _ 0 _ n1 hnG).put _ 1 _ n1 hnG, ((HM.out.store 7 _).put _ 0 _ (Nat.le_refl _)).put _ 1 _ (Nat.le_refl _)⟩
  · have HE : Hid (s.look b = ({ s with near := b.toNat, ph := 4 }, 0, 0)) := by unfold Hid US.look; rw [if_neg (by omega), if_neg (by omega), if_neg (by omega), if_pos h]
    have c8 := HR.out.st.get 8 _ rfl
    have f4 := HR.out.st.fr 4 (by show 4 < 9; decide)
    have f8 := HR.out.st.fr 8 (by show 8 < 9; decide)
    have n1 : g ≠ w.heap.size := fun e => n0 e.symm
    rw [h] at c4
    go_enter Try.func25, Try.ntmps25
    go_wp2
    have qN := StK.new ((w.setCell ⟨g, 8, none⟩ (.int .u8 (b.toNat : Int))).setCell ⟨g, 4, none⟩ (.int .i64 4)) #[.int .i64 0, .int .i64 0] 39
    rw [World.size_setCell, World.size_setCell] at qN
    refine ret_faultK rfl rfl qN ⟨by rw [HE.out]; rfl, v, by rw [HE.out]; exact ((HR.out.set 8 _ { s with near := b.toNat } (by decide) rfl rfl).set 4 _ { s with near := b.toNat, ph := 4 } (by decide) rfl rfl).alloc _, (((Mv.refl _ _ _).store 8 _).store 4 _).alloc _⟩

end Go.Proofs.Ytljcbibcdajhiaa
/- Feed, walked. -/
namespace Go.Proofs.Ytljcbibcdajhiaa
open Go.RowKit

/-- The bytes of a slice that lie apart from the unpacker. -/
def BSlK (w : World) (g : Nat) (v : Value) (x : Option Addr) (u : List UInt8) : Prop := u = [] ∨ ∃ b o, x = some ⟨b, o, none⟩ ∧ b ≠ g ∧ v.ownBlock ≠ some b ∧ b < w.heap.size ∧ ∀ k (h : k < u.length), w.cell? ⟨b, o + k, none⟩ = some (.int .u8 ((u[k]'h).toNat : Int))

theorem US.look_tk (s : US) (b : UInt8) : (s.look b).1.tk = s.tk := by
  unfold US.look
  split
  · split
    · rfl
    · split <;> rfl
  · split
    · split
      · rfl
      · split <;> exact (s.tok_len b).2.2.1
    · split
      · rfl
      · split
        · rfl
        · split <;> rfl
theorem US.tok_cl (s : US) (b : UInt8) : (s.tok b).cl = s.cl := (s.tok_len b).2.2.2.2.2.2
theorem US.look_cl (s : US) (b : UInt8) : (s.look b).1.cl = s.cl := by
  unfold US.look
  split
  · split
    · rfl
    · split <;> rfl
  · split
    · split
      · rfl
      · split <;> exact (s.tok_len b).2.2.2.2.2.2
    · split
      · rfl
      · split
        · rfl
        · split <;> rfl
theorem US.look_code (s : US) (b : UInt8) : (s.look b).1.code = s.code := by
  unfold US.look
  split
  · split
    · rfl
    · split <;> rfl
  · split
    · split
      · rfl
      · split <;> exact (s.tok_len b).2.2.2.2.1
    · split
      · rfl
      · split
        · rfl
        · split <;> rfl
theorem US.step_tk (s : US) (b : UInt8) : (s.step b).tk ≤ s.tk + 1 ∧ s.tk ≤ (s.step b).tk := by
  unfold US.step
  split
  · omega
  · unfold US.take
    split
    · show (s.look b).1.tk + 1 ≤ _ ∧ _ ≤ (s.look b).1.tk + 1
      rw [s.look_tk]; omega
    · show (s.look b).1.tk ≤ _ ∧ _ ≤ (s.look b).1.tk
      rw [s.look_tk]; omega
theorem US.run_tk (l : List UInt8) : ∀ s : US, (s.run l).tk ≤ s.tk + l.length ∧ s.tk ≤ (s.run l).tk := by
  induction l with
  | nil => intro s; exact ⟨Nat.le_refl _, Nat.le_refl _⟩
  | cons b l ih =>
    intro s
    rw [US.run_cons, List.length_cons]
    have h1 := s.step_tk b
    have h2 := ih (s.step b)
    omega
theorem US.step_cl (s : US) (b : UInt8) : (s.step b).cl = s.cl := by
  unfold US.step
  split
  · rfl
  · unfold US.take
    split
    · exact s.look_cl b
    · exact s.look_cl b
theorem US.run_cl (l : List UInt8) : ∀ s : US, (s.run l).cl = s.cl := by
  induction l with
  | nil => intro s; rfl
  | cons b l ih => intro s; rw [US.run_cons, ih, s.step_cl]
theorem US.take_snoc (u : List UInt8) (k : Nat) (h : k < u.length) (s : US) : s.run (u.take (k + 1)) = (s.run (u.take k)).step u[k] := by
  rw [List.take_succ_eq_append_getElem h, US.run_append]
  rfl

set_option maxHeartbeats 4000000 in
set_option maxRecDepth 8000 in
theorem feed_anyK (g : Nat) (v : Value) (s : US) (x : Option Addr) (c : Nat) (u : List UInt8) (w : World) (R : Up w g v s) (I : UI s) (hX : BSlK w g v x u) (hb : s.tk + u.length ≤ 1073741824) :
    Calls Try.prog 9 #[.pointer (some ⟨g, 0, none⟩), .slice x u.length c] w fun e w' => e = .returned (.int .i64 (((s.run u).tk - s.tk : Nat) : Int)) ∧ ∃ v', Up w' g v' (s.run u) ∧ Mv w w' g v v' := by
  have HR : Hid (Up w g v s) := R
  have HI : Hid (UI s) := I
  have HX : Hid (BSlK w g v x u) := hX
  have c0 := R.st.get 0 _ rfl
  have c1 := R.st.get 1 _ rfl
  have c3 := R.st.get 3 _ rfl
  clear R I hX
  by_cases ho : s.off = true
  · have HE : Hid (s.run u = s) := US.run_off s ho u
    unfold US.off at ho
    by_cases hcl : s.cl = true
    · rw [hcl] at c3
      go_enter Try.func9, Try.ntmps9
      go_wp2
      go_ret
      exact ⟨by rw [HE.out, Nat.sub_self]; rfl, v, by rw [HE.out]; exact HR.out, Mv.refl _ _ _⟩
    · have hclf : s.cl = false := by simpa using hcl
      rw [hclf] at c3
      have hcd : ((s.code : Int) != 0) = true := by rw [hclf] at ho; simp at ho ⊢; exact ho
      go_enter Try.func9, Try.ntmps9
      go_wp2
      go_ret
      exact ⟨by rw [HE.out, Nat.sub_self]; rfl, v, by rw [HE.out]; exact HR.out, Mv.refl _ _ _⟩
  · have hcl : s.cl = false := by unfold US.off at ho; simp at ho; exact ho.1
    have hcd : s.code = 0 := by unfold US.off at ho; simp at ho; exact ho.2
    have HO : Hid (s.cl = false ∧ s.code = 0) := ⟨hcl, hcd⟩
    rw [hcl] at c3
    rw [hcd] at c1
    clear ho hcl hcd
    go_enter Try.func9, Try.ntmps9
    go_wp2
    go_loopg [29] u.length (fun gk ix wr => ∃ (k : Nat) (vk : Value), Hid (gk + k = u.length) ∧ ix = .int .i64 k ∧ Hid (Up wr g vk (s.run (u.take k))) ∧ Hid (Mv w wr g v vk) ∧ Hid ((s.run (u.take k)).code = 0))
    case atStart => exact ⟨0, v, rfl, rfl, HR, Mv.refl _ _ _, HO.out.2⟩
    case round =>
      obtain ⟨k, vk, hgk, rfl, hU, hM, hcd⟩ := hrel
      clear c0 c1 c3
      by_cases hlt : k < u.length
      · obtain ⟨b, o, rfl, nb1, nb2, nb3, hcell⟩ := HX.out.resolve_left (fun e => by rw [e] at hlt; simp at hlt)
        have cb : wr.cell? ⟨b, o + k, none⟩ = some (.int .u8 ((u[k]'hlt).toNat : Int)) := (hM.out.cell b _ nb3 nb1 nb2).trans (hcell k hlt)
        have hnx : Hid (s.run (u.take (k + 1)) = (s.run (u.take k)).take (u[k]'hlt)) := (US.take_snoc u k hlt s).trans (US.step_on _ ((US.run_cl _ s).trans HO.out.1) hcd.out _)
        have htk : Hid ((s.run (u.take k)).tk ≤ 1073741824 ∧ s.tk ≤ (s.run (u.take k)).tk) := ⟨by have := (US.run_tk (u.take k) s).1; rw [List.length_take] at this; omega, (US.run_tk (u.take k) s).2⟩
        have hsp : Hid (s.run u = (s.run (u.take (k + 1))).run (u.drop (k + 1))) := by unfold Hid; rw [← US.run_append, List.take_append_drop]
        have hI1 : Hid (UI (s.run (u.take k))) := HI.out.run _
        have hkk : k + 1 ≤ 1073741824 := by omega
        clear hcell
        generalize hs1 : s.run (u.take k) = s1 at hU hcd hnx htk hI1
        clear hs1
        generalize u[k]'hlt = b0 at cb hnx
        have TC := take_anyK g vk s1 b0 wr hU.out hI1.out hcd.out htk.out.1
        have hla : Hid ((s1.look b0).1.tk = s1.tk) := s1.look_tk b0
        have hlc : Hid ((s1.look b0).1.code = 0) := (s1.look_code b0).trans hcd.out
        have htake : Hid (s1.take b0 = if (s1.look b0).2.1 = 0 then (s1.look b0).1.tick else (s1.look b0).1.fl (s1.look b0).2.1 (s1.look b0).2.2) := rfl
        generalize hlk : s1.look b0 = lk at TC hla htake hlc
        clear hlk
        obtain ⟨s2, cd, ca⟩ := lk
        dsimp only at TC hla htake hlc
        go_wp2_with fail
        refine TC.mono ?_
        rintro e w3 ⟨rfl, v3, U3, M3⟩
        clear TC
        have hU3 : Hid (Up w3 g v3 s2) := U3
        have hM3 : Hid (Mv w w3 g v v3) := hM.out.trans M3
        have hl3 := U3.lt
        have n3 := (U3.newBlock w3.heap.size (Nat.le_refl _)).1
        have ht2 : s2.tk ≤ 1073741824 := by have := hla.out; have := htk.out.1; omega
        by_cases h0 : cd = 0
        · subst h0
          have d0 := U3.st.get 0 _ rfl
          have f0 := U3.st.fr 0 (by show 0 < 9; decide)
          have HU4 : Hid (Up (w3.setCell ⟨g, 0, none⟩ (.int .i64 ((s2.tk : Int) + 1))) g v3 s2.tick) := U3.set 0 _ s2.tick (by decide) rfl rfl
          have HM4 : Hid (Mv w (w3.setCell ⟨g, 0, none⟩ (.int .i64 ((s2.tk : Int) + 1))) g v v3) := hM3.out.store _ _
          have HN : Hid (s.run (u.take (k + 1)) = s2.tick) := by unfold Hid; rw [hnx.out, htake.out, if_pos rfl]
          clear U3 M3 hU hM hU3 hM3
          go_wp2
          go_roundg (gk - 1)
          case measure => have := hgk.out; omega
          case rel => exact ⟨k + 1, v3, by have := hgk.out; unfold Hid; omega, by go_num, by unfold Hid; rw [HN.out]; exact HU4.out.alloc _, HM4.out.alloc _, by unfold Hid; rw [HN.out]; exact hlc.out⟩
        · have hcz : ((cd : Int) != 0) = true := by simp; omega
          have HN : Hid (s.run u = s2.fl cd ca) := by
            unfold Hid
            rw [hsp.out, hnx.out, htake.out, if_neg h0]
            exact US.run_off _ (by unfold US.off US.fl; simp [h0]) _
          have hts : Hid (s.tk ≤ s2.tk) := by unfold Hid; rw [hla.out]; exact htk.out.2
          clear U3 M3 h0
          go_wp2_with fail
          refine (fail_any' g v3 s2 cd ca _ (hU3.out.alloc _)).mono ?_
          rintro e w4 ⟨rfl, U4, M4⟩
          have hU4 : Hid (Up w4 g (.slice none 0 0) (s2.fl cd ca)) := U4
          have hM4 : Hid (Mv w w4 g v (.slice none 0 0)) := (hM3.out.alloc _).trans M4
          have d0 : w4.cell? ⟨g, 0, none⟩ = some (.int .i64 (s2.tk : Int)) := U4.st.get 0 _ rfl
          clear U4 M4
          go_wp2
          go_ret
          exact ⟨by rw [HN.out]; exact congrArg (fun z => Ending.returned (.int .i64 z)) (by show (s2.tk : Int) - (s.tk : Int) = ((s2.tk - s.tk : Nat) : Int); have := hts.out; omega), _, by rw [HN.out]; exact hU4.out, hM4.out⟩
      · obtain rfl : k = u.length := by have := hgk.out; omega
        rw [List.take_length] at hU
        have hts : Hid (s.tk ≤ (s.run u).tk ∧ (s.run u).tk ≤ 1073741824) := ⟨(US.run_tk u s).2, by have := (US.run_tk u s).1; omega⟩
        have d0 := hU.out.st.get 0 _ rfl
        have hz := hts.out.2
        go_wp2
        go_ret
        exact ⟨congrArg (fun z => Ending.returned (.int .i64 z)) (by show ((s.run u).tk : Int) - (s.tk : Int) = (((s.run u).tk - s.tk : Nat) : Int); have := hts.out.1; omega), vk, hU.out, hM.out⟩

end Go.Proofs.Ytljcbibcdajhiaa
/- Close and Unpack, walked. -/
namespace Go.Proofs.Ytljcbibcdajhiaa
open Go.RowKit

/-- An unpacker that is closed. -/
def US.shut (s : US) : US := { (if s.code = 0 ∧ s.wh = false then s.fl 4 s.tk else s) with cl := true }

/-- A text and a fault that are handed back. -/
theorem ret_tf {f : Func} {tmps : Array Value} {W : World} {G : Nat} {i j : Nat} {t : ByteArray} {a b : Int} {R : Ending → World → Prop} (hf : f.results = #[.tmp j, .cell i 39]) (hj : tmps[j]?.getD undef = .string t) (ht : tmps[i]?.getD undef = .pointer (some ⟨G, 0, none⟩))
    (q : StK W G [.int .i64 a, .int .i64 b]) (hR : R (.returned (.tuple #[.string t, .agg #[.int .i64 a, .int .i64 b]])) W) :
    bodyPost Try.prog f R .ret { tmps := tmps, defers := [] } W := by
  have q0 := q.get 0 _ rfl
  have q1 := q.get 1 _ rfl
  exact bodyPost_ret (v := .tuple #[.string t, .agg #[.int .i64 a, .int .i64 b]]) (by simp [results, hf, go_sem, hj, ht, q0, q1]) rfl hR

/-- An unpacker's text, as a string. -/
theorem Up.text {w : World} {g : Nat} {v : Value} {s : US} (h : Up w g v s) : (convert 37 9 v).run Try.prog w = .ok (.string (ba s.tx)) w := by
  rcases h.buf with ⟨rfl, h0⟩ | ⟨k, cap, rfl, _, _, _, _, hc, hf⟩
  · have e : s.tx = [] := List.eq_nil_of_length_eq_zero h0
    rw [e]
    exact run_convert_bytes_nil w 37 5 Try.underlying37 Try.underlying5 0 0 9 Try.underlying9
  · have r := run_string_row (P := Try.prog) (w := w) (src := 37) (dst := 9) (c := cap) Try.underlying37 Try.underlying5 Try.underlying9 (f := bt (ba s.tx)) (g := k) (n := s.tx.length) ⟨hc, fun j hj => (hf j (by omega)).2⟩
    rw [r, ← ba_size, strFn_bt]

theorem UI.shut {s : US} (h : UI s) : UI s.shut := by
  unfold US.shut
  by_cases hc : s.code = 0 ∧ s.wh = false
  · rw [if_pos hc]
    have := h.fl 4 s.tk (by decide) (Nat.le_refl _)
    exact ⟨this.ph, this.ln, this.lm, this.tx, this.lk, this.nr, this.lc, this.ft, this.tk2, this.tk3, this.cd, this.le8⟩
  · rw [if_neg hc]
    exact ⟨h.ph, h.ln, h.lm, h.tx, h.lk, h.nr, h.lc, h.ft, h.tk2, h.tk3, h.cd, h.le8⟩

set_option maxHeartbeats 4000000 in
set_option maxRecDepth 8000 in
theorem uclose_any (g : Nat) (v : Value) (s : US) (w : World) (R : Up w g v s) (I : UI s) :
    Calls Try.prog 10 #[.pointer (some ⟨g, 0, none⟩)] w fun e w' => e = .returned (.tuple #[.string (ba s.shut.tx), .agg #[.int .i64 (s.shut.code : Int), .int .i64 (s.shut.fat : Int)]]) ∧ ∃ v', Up w' g v' s.shut ∧ Mv w w' g v v' := by
  have HR : Hid (Up w g v s) := R
  have HI : Hid (UI s) := I
  have c0 := R.st.get 0 _ rfl
  have c1 := R.st.get 1 _ rfl
  have hl := R.lt
  have n0 := (R.newBlock w.heap.size (Nat.le_refl _)).1
  clear R I
  by_cases hc : s.code = 0
  · have HC : Hid (s.code = 0) := hc
    rw [hc] at c1
    have WC := whole_anyK g v s (w.alloc (.cells #[.int .i64 0, .int .i64 0] 39)) (HR.out.alloc _) (fun h => ⟨HI.out.lm (by omega), by rcases HI.out.tx with e | e; exact e; omega⟩)
    by_cases hw : s.wh = true
    · have HS : Hid (s.shut = { s with cl := true }) := by unfold Hid US.shut; rw [if_neg (fun h => by rw [hw] at h; exact absurd h.2 (by decide))]
      rw [hw] at WC
      go_enter Try.func10, Try.ntmps10
      go_wp2_with fail
      refine WC.mono ?_
      rintro e w1 ⟨rfl, q, rfl⟩
      clear WC
      have U2 : Hid (Up ((w.alloc (.cells #[.int .i64 0, .int .i64 0] 39)).drewN q) g v s) := (HR.out.alloc _).drewN q
      have M2 : Hid (Mv w ((w.alloc (.cells #[.int .i64 0, .int .i64 0] 39)).drewN q) g v v) := ((Mv.refl _ _ _).alloc _).drewN q
      have q2 : Hid (StK ((w.alloc (.cells #[.int .i64 0, .int .i64 0] 39)).drewN q) w.heap.size [.int .i64 0, .int .i64 0]) := (StK.new w #[.int .i64 0, .int .i64 0] 39).drewN q
      have hG : Hid (v.ownBlock ≠ some w.heap.size) := (HR.out.newBlock w.heap.size (Nat.le_refl _)).2
      generalize (w.alloc (.cells #[.int .i64 0, .int .i64 0] 39)).drewN q = W1 at U2 M2 q2 ⊢
      have c3 := U2.out.st.get 3 _ rfl
      have f3 := U2.out.st.fr 3 (by show 3 < 9; decide)
      go_wp2_with fail
      have U4 : Hid (Up (W1.setCell ⟨g, 3, none⟩ (.bool true)) g v { s with cl := true }) := U2.out.set 3 _ { s with cl := true } (by decide) rfl rfl
      have M4 : Hid (Mv w (W1.setCell ⟨g, 3, none⟩ (.bool true)) g v v) := M2.out.store _ _
      have q4 : Hid (StK (W1.setCell ⟨g, 3, none⟩ (.bool true)) w.heap.size [.int .i64 0, .int .i64 0]) := q2.out.other g 3 _ n0
      clear U2 M2 q2 c3 f3
      generalize W1.setCell ⟨g, 3, none⟩ (.bool true) = W4 at U4 M4 q4 ⊢
      have T4 := U4.out.drew.text
      obtain ⟨p4, n4, c4, hv4⟩ : ∃ p n c, v = .slice p n c := by obtain ⟨a, c, h⟩ := U4.out.len; exact ⟨a, _, c, h⟩
      subst hv4
      have d1 := U4.out.st.get 1 _ rfl
      have d2 := U4.out.st.get 2 _ rfl
      have d6 := U4.out.st.get 6 _ rfl
      change W4.cell? ⟨g, 6, none⟩ = some (.slice p4 n4 c4) at d6
      have z0 := q4.out.get 0 _ rfl
      have z1 := q4.out.get 1 _ rfl
      have y0 := q4.out.fr 0 (by show 0 < 2; decide)
      have y1 := q4.out.fr 1 (by show 1 < 2; decide)
      have n1 : g ≠ w.heap.size := fun e => n0 e.symm
      go_region
      all_goals (
        go_wp2
        exact ret_tf rfl rfl rfl (((q4.out.drewN 1).set 0 _ (by show 0 < 2; decide)).set 1 _ (by show 1 < 2; decide)) ⟨by rw [HS.out]; show _ = Ending.returned (.tuple #[.string (ba s.tx), .agg #[.int .i64 (s.code : Int), .int .i64 (s.fat : Int)]]); rw [HC.out]; rfl, _, by rw [HS.out]; exact ((U4.out.put _ 0 _ n1 hG.out).put _ 1 _ n1 hG.out).drew, ((M4.out.put _ 0 _ (Nat.le_refl _)).put _ 1 _ (Nat.le_refl _)).drew⟩)
    · have hwf : s.wh = false := by simpa using hw
      have HS : Hid (s.shut = { s.fl 4 s.tk with cl := true }) := by unfold Hid US.shut; rw [if_pos ⟨hc, hwf⟩]
      rw [hwf] at WC
      have FC := fun w R => fail_any' g v s 4 s.tk w R
      clear hw hwf hc
      go_enter Try.func10, Try.ntmps10
      go_wp2_with fail
      refine WC.mono ?_
      rintro e w1 ⟨rfl, q, rfl⟩
      clear WC
      have U2 : Hid (Up ((w.alloc (.cells #[.int .i64 0, .int .i64 0] 39)).drewN q) g v s) := (HR.out.alloc _).drewN q
      have M2 : Hid (Mv w ((w.alloc (.cells #[.int .i64 0, .int .i64 0] 39)).drewN q) g v v) := ((Mv.refl _ _ _).alloc _).drewN q
      have q2 : Hid (StK ((w.alloc (.cells #[.int .i64 0, .int .i64 0] 39)).drewN q) w.heap.size [.int .i64 0, .int .i64 0]) := (StK.new w #[.int .i64 0, .int .i64 0] 39).drewN q
      have hG : Hid (v.ownBlock ≠ some w.heap.size) := (HR.out.newBlock w.heap.size (Nat.le_refl _)).2
      generalize (w.alloc (.cells #[.int .i64 0, .int .i64 0] 39)).drewN q = W1 at U2 M2 q2 ⊢
      have c0 := U2.out.st.get 0 _ rfl
      go_wp2_with fail
      refine (FC _ U2.out).mono ?_
      rintro e w3 ⟨rfl, U3, M3⟩
      clear FC c0
      have q3 : Hid (StK w3 w.heap.size [.int .i64 0, .int .i64 0]) := q2.out.same M3.size (M3.block _ q2.out.lt n0 hG.out)
      have hU3 : Hid (Up w3 g (.slice none 0 0) (s.fl 4 s.tk)) := U3
      have hM3 : Hid (Mv w w3 g v (.slice none 0 0)) := M2.out.trans M3
      have c3 := U3.st.get 3 _ rfl
      have f3 := U3.st.fr 3 (by show 3 < 9; decide)
      clear U3 M3 U2 M2 q2
      go_wp2_with fail
      have U4 : Hid (Up (w3.setCell ⟨g, 3, none⟩ (.bool true)) g (.slice none 0 0) { s.fl 4 s.tk with cl := true }) := hU3.out.set 3 _ { s.fl 4 s.tk with cl := true } (by decide) rfl rfl
      have M4 : Hid (Mv w (w3.setCell ⟨g, 3, none⟩ (.bool true)) g v (.slice none 0 0)) := hM3.out.store _ _
      have q4 : Hid (StK (w3.setCell ⟨g, 3, none⟩ (.bool true)) w.heap.size [.int .i64 0, .int .i64 0]) := q3.out.other g 3 _ n0
      clear hU3 hM3 q3 c3 f3
      generalize w3.setCell ⟨g, 3, none⟩ (.bool true) = W4 at U4 M4 q4 ⊢
      have T4 := U4.out.drew.text
      have d1 := U4.out.st.get 1 _ rfl
      have d2 := U4.out.st.get 2 _ rfl
      have d6 := U4.out.st.get 6 _ rfl
      have z0 := q4.out.get 0 _ rfl
      have z1 := q4.out.get 1 _ rfl
      have y0 := q4.out.fr 0 (by show 0 < 2; decide)
      have y1 := q4.out.fr 1 (by show 1 < 2; decide)
      have n1 : g ≠ w.heap.size := fun e => n0 e.symm
      change W4.cell? ⟨g, 6, none⟩ = some (.slice none 0 0) at d6
      change W4.cell? ⟨g, 1, none⟩ = some (.int .i64 4) at d1
      change W4.cell? ⟨g, 2, none⟩ = some (.int .i64 (s.tk : Int)) at d2
      go_region
      all_goals (
        go_wp2
        exact ret_tf rfl rfl rfl (((q4.out.drewN 1).set 0 _ (by show 0 < 2; decide)).set 1 _ (by show 1 < 2; decide)) ⟨by rw [HS.out]; rfl, _, by rw [HS.out]; exact ((U4.out.put _ 0 _ n1 (by simp [Value.ownBlock])).put _ 1 _ n1 (by simp [Value.ownBlock])).drew, ((M4.out.put _ 0 _ (Nat.le_refl _)).put _ 1 _ (Nat.le_refl _)).drew⟩)
  · have hcz : ((s.code : Int) == 0) = false := by simp; omega
    have HS : Hid (s.shut = { s with cl := true }) := by unfold Hid US.shut; rw [if_neg (fun h => hc h.1)]
    have c3 := HR.out.st.get 3 _ rfl
    have f3 := HR.out.st.fr 3 (by show 3 < 9; decide)
    have hG : Hid (v.ownBlock ≠ some w.heap.size) := (HR.out.newBlock w.heap.size (Nat.le_refl _)).2
    clear hc
    obtain ⟨p4, n4, c4, hv4⟩ : ∃ p n c, v = .slice p n c := by obtain ⟨a, c, h⟩ := HR.out.len; exact ⟨a, _, c, h⟩
    subst hv4
    go_enter Try.func10, Try.ntmps10
    go_wp2_with fail
    have U4 : Hid (Up ((w.setCell ⟨g, 3, none⟩ (.bool true)).alloc (.cells #[.int .i64 0, .int .i64 0] 39)) g (.slice p4 n4 c4) { s with cl := true }) := (HR.out.set 3 _ { s with cl := true } (by decide) rfl rfl).alloc _
    have M4 : Hid (Mv w ((w.setCell ⟨g, 3, none⟩ (.bool true)).alloc (.cells #[.int .i64 0, .int .i64 0] 39)) g (.slice p4 n4 c4) (.slice p4 n4 c4)) := ((Mv.refl _ _ _).store _ _).alloc _
    have q4 : Hid (StK ((w.setCell ⟨g, 3, none⟩ (.bool true)).alloc (.cells #[.int .i64 0, .int .i64 0] 39)) w.heap.size [.int .i64 0, .int .i64 0]) := by
      have h := StK.new (w.setCell ⟨g, 3, none⟩ (.bool true)) #[.int .i64 0, .int .i64 0] 39
      rw [World.size_setCell] at h
      exact h
    clear c3 f3 c0 c1
    generalize (w.setCell ⟨g, 3, none⟩ (.bool true)).alloc (.cells #[.int .i64 0, .int .i64 0] 39) = W4 at U4 M4 q4 ⊢
    have T4 := U4.out.drew.text
    have d1 := U4.out.st.get 1 _ rfl
    have d2 := U4.out.st.get 2 _ rfl
    have d6 := U4.out.st.get 6 _ rfl
    have z0 := q4.out.get 0 _ rfl
    have z1 := q4.out.get 1 _ rfl
    have y0 := q4.out.fr 0 (by show 0 < 2; decide)
    have y1 := q4.out.fr 1 (by show 1 < 2; decide)
    have n1 : g ≠ w.heap.size := fun e => n0 e.symm
    change W4.cell? ⟨g, 6, none⟩ = some (.slice p4 n4 c4) at d6
    go_region
    all_goals (
      go_wp2
      exact ret_tf rfl rfl rfl (((q4.out.drewN 1).set 0 _ (by show 0 < 2; decide)).set 1 _ (by show 1 < 2; decide)) ⟨by rw [HS.out], _, by rw [HS.out]; exact ((U4.out.put _ 0 _ n1 hG.out).put _ 1 _ n1 hG.out).drew, ((M4.out.put _ 0 _ (Nat.le_refl _)).put _ 1 _ (Nat.le_refl _)).drew⟩)

end Go.Proofs.Ytljcbibcdajhiaa
/- Unpack, walked. -/
namespace Go.Proofs.Ytljcbibcdajhiaa
open Go.RowKit

/-- What Unpack comes to. -/
def unp (l : List UInt8) : US := (u0.run l).shut

theorem BSlK.conv (w : World) (tl : List UInt8) (g : Nat) (v : Value) (hg : g < w.heap.size) (hv : ∀ k, v.ownBlock = some k → k < w.heap.size) : ∃ c w', (convert 9 37 (.string (ba tl))).run Try.prog w = .ok (.slice (some ⟨w.heap.size, 0, none⟩) tl.length c) w' ∧ BSlK w' g v (some ⟨w.heap.size, 0, none⟩) tl ∧ Below w.heap.size w w' := by
  have h0 := run_bytes_of_string (P := Try.prog) w 9 37 5 (ba tl) Try.underlying9 Try.underlying37 Try.underlying5
  rw [ba_size] at h0
  refine ⟨_, _, h0, .inr ⟨_, 0, rfl, by omega, fun e => by have := hv _ e; omega, by rw [World.size_alloc]; show w.heap.size < w.heap.size + 1; omega, fun j hj => ?_⟩, ((Below.refl _ _).drew).alloc (Nat.le_refl _) _⟩
  rw [Nat.zero_add]
  have h1 := World.cell?_alloc_mark w.drew (bytesRow (ba tl) (grownCap w tl.length 0 5)) 5 ((bytesRow (ba tl) (grownCap w tl.length 0 5)).size, (bytesRow (ba tl) (grownCap w tl.length 0 5)).size + 1) j
  refine h1.trans ?_
  have hj' : j < (ba tl).size := by rw [ba_size]; exact hj
  rw [bytesRow_at (ba tl) _ j hj']
  rfl

end Go.Proofs.Ytljcbibcdajhiaa
