/- Feed, walked. -/
import Derived.Test.YthjpmiidbgaiaaaUpF
import Derived.Deep.LoopGhost
namespace Go.Proofs.Ythjpmiidbgaiaaa
open Go.RowKit

/-- The bytes of a slice that lie apart from the unpacker. -/
def BSl (w : World) (g : Nat) (v : Value) (x : Option Addr) (u : List UInt8) : Prop := u = [] ∨ ∃ b o, x = some ⟨b, o, none⟩ ∧ b ≠ g ∧ v.ownBlock ≠ some b ∧ b < w.heap.size ∧ ∀ k (h : k < u.length), w.cell? ⟨b, o + k, none⟩ = some (.int .u8 ((u[k]'h).toNat : Int))

theorem US.look_tk (s : US) (b : UInt8) : (s.look b).1.tk = s.tk := by
  unfold US.look
  split
  · split
    · rfl
    · split <;> rfl
  · split
    · split
      · rfl
      · split <;> exact (s.tok_len b).2.2.1
    · split
      · rfl
      · split
        · rfl
        · split <;> rfl
theorem US.tok_cl (s : US) (b : UInt8) : (s.tok b).cl = s.cl := (s.tok_len b).2.2.2.2.2.2
theorem US.look_cl (s : US) (b : UInt8) : (s.look b).1.cl = s.cl := by
  unfold US.look
  split
  · split
    · rfl
    · split <;> rfl
  · split
    · split
      · rfl
      · split <;> exact (s.tok_len b).2.2.2.2.2.2
    · split
      · rfl
      · split
        · rfl
        · split <;> rfl
theorem US.look_code (s : US) (b : UInt8) : (s.look b).1.code = s.code := by
  unfold US.look
  split
  · split
    · rfl
    · split <;> rfl
  · split
    · split
      · rfl
      · split <;> exact (s.tok_len b).2.2.2.2.1
    · split
      · rfl
      · split
        · rfl
        · split <;> rfl
theorem US.step_tk (s : US) (b : UInt8) : (s.step b).tk ≤ s.tk + 1 ∧ s.tk ≤ (s.step b).tk := by
  unfold US.step
  split
  · omega
  · unfold US.take
    split
    · show (s.look b).1.tk + 1 ≤ _ ∧ _ ≤ (s.look b).1.tk + 1
      rw [s.look_tk]; omega
    · show (s.look b).1.tk ≤ _ ∧ _ ≤ (s.look b).1.tk
      rw [s.look_tk]; omega
theorem US.run_tk (l : List UInt8) : ∀ s : US, (s.run l).tk ≤ s.tk + l.length ∧ s.tk ≤ (s.run l).tk := by
  induction l with
  | nil => intro s; exact ⟨Nat.le_refl _, Nat.le_refl _⟩
  | cons b l ih =>
    intro s
    rw [US.run_cons, List.length_cons]
    have h1 := s.step_tk b
    have h2 := ih (s.step b)
    omega
theorem US.step_cl (s : US) (b : UInt8) : (s.step b).cl = s.cl := by
  unfold US.step
  split
  · rfl
  · unfold US.take
    split
    · exact s.look_cl b
    · exact s.look_cl b
theorem US.run_cl (l : List UInt8) : ∀ s : US, (s.run l).cl = s.cl := by
  induction l with
  | nil => intro s; rfl
  | cons b l ih => intro s; rw [US.run_cons, ih, s.step_cl]
theorem US.take_snoc (u : List UInt8) (k : Nat) (h : k < u.length) (s : US) : s.run (u.take (k + 1)) = (s.run (u.take k)).step u[k] := by
  rw [List.take_succ_eq_append_getElem h, US.run_append]
  rfl

set_option maxHeartbeats 4000000 in
set_option maxRecDepth 8000 in
theorem feed_any (g : Nat) (v : Value) (s : US) (x : Option Addr) (c : Nat) (u : List UInt8) (w : World) (R : Up w g v s) (I : UI s) (hX : BSl w g v x u) (hb : s.tk + u.length ≤ 1073741824) :
    Calls Try.prog 17 #[.pointer (some ⟨g, 0, none⟩), .slice x u.length c] w fun e w' => e = .returned (.int .i64 (((s.run u).tk - s.tk : Nat) : Int)) ∧ ∃ v', Up w' g v' (s.run u) ∧ Mv w w' g v v' := by
  have HR : Hid (Up w g v s) := R
  have HI : Hid (UI s) := I
  have HX : Hid (BSl w g v x u) := hX
  have c0 := R.st.get 0 _ rfl
  have c1 := R.st.get 1 _ rfl
  have c3 := R.st.get 3 _ rfl
  clear R I hX
  by_cases ho : s.off = true
  · have HE : Hid (s.run u = s) := US.run_off s ho u
    unfold US.off at ho
    by_cases hcl : s.cl = true
    · rw [hcl] at c3
      go_enter Try.func17, Try.ntmps17
      go_wp2
      go_ret
      exact ⟨by rw [HE.out, Nat.sub_self]; rfl, v, by rw [HE.out]; exact HR.out, Mv.refl _ _ _⟩
    · have hclf : s.cl = false := by simpa using hcl
      rw [hclf] at c3
      have hcd : ((s.code : Int) != 0) = true := by rw [hclf] at ho; simp at ho ⊢; exact ho
      go_enter Try.func17, Try.ntmps17
      go_wp2
      go_ret
      exact ⟨by rw [HE.out, Nat.sub_self]; rfl, v, by rw [HE.out]; exact HR.out, Mv.refl _ _ _⟩
  · have hcl : s.cl = false := by unfold US.off at ho; simp at ho; exact ho.1
    have hcd : s.code = 0 := by unfold US.off at ho; simp at ho; exact ho.2
    have HO : Hid (s.cl = false ∧ s.code = 0) := ⟨hcl, hcd⟩
    rw [hcl] at c3
    rw [hcd] at c1
    clear ho hcl hcd
    go_enter Try.func17, Try.ntmps17
    go_wp2
    go_loopg [29] u.length (fun gk ix wr => ∃ (k : Nat) (vk : Value), Hid (gk + k = u.length) ∧ ix = .int .i64 k ∧ Hid (Up wr g vk (s.run (u.take k))) ∧ Hid (Mv w wr g v vk) ∧ Hid ((s.run (u.take k)).code = 0))
    case atStart => exact ⟨0, v, rfl, rfl, HR, Mv.refl _ _ _, HO.out.2⟩
    case round =>
      obtain ⟨k, vk, hgk, rfl, hU, hM, hcd⟩ := hrel
      clear c0 c1 c3
      by_cases hlt : k < u.length
      · obtain ⟨b, o, rfl, nb1, nb2, nb3, hcell⟩ := HX.out.resolve_left (fun e => by rw [e] at hlt; simp at hlt)
        have cb : wr.cell? ⟨b, o + k, none⟩ = some (.int .u8 ((u[k]'hlt).toNat : Int)) := (hM.out.cell b _ nb3 nb1 nb2).trans (hcell k hlt)
        have hnx : Hid (s.run (u.take (k + 1)) = (s.run (u.take k)).take (u[k]'hlt)) := (US.take_snoc u k hlt s).trans (US.step_on _ ((US.run_cl _ s).trans HO.out.1) hcd.out _)
        have htk : Hid ((s.run (u.take k)).tk ≤ 1073741824 ∧ s.tk ≤ (s.run (u.take k)).tk) := ⟨by have := (US.run_tk (u.take k) s).1; rw [List.length_take] at this; omega, (US.run_tk (u.take k) s).2⟩
        have hsp : Hid (s.run u = (s.run (u.take (k + 1))).run (u.drop (k + 1))) := by unfold Hid; rw [← US.run_append, List.take_append_drop]
        have hI1 : Hid (UI (s.run (u.take k))) := HI.out.run _
        have hkk : k + 1 ≤ 1073741824 := by omega
        clear hcell
        generalize hs1 : s.run (u.take k) = s1 at hU hcd hnx htk hI1
        clear hs1
        generalize u[k]'hlt = b0 at cb hnx
        have TC := take_any g vk s1 b0 wr hU.out hI1.out hcd.out htk.out.1
        have hla : Hid ((s1.look b0).1.tk = s1.tk) := s1.look_tk b0
        have hlc : Hid ((s1.look b0).1.code = 0) := (s1.look_code b0).trans hcd.out
        have htake : Hid (s1.take b0 = if (s1.look b0).2.1 = 0 then (s1.look b0).1.tick else (s1.look b0).1.fl (s1.look b0).2.1 (s1.look b0).2.2) := rfl
        generalize hlk : s1.look b0 = lk at TC hla htake hlc
        clear hlk
        obtain ⟨s2, cd, ca⟩ := lk
        dsimp only at TC hla htake hlc
        go_wp2_with fail
        refine TC.mono ?_
        rintro e w3 ⟨rfl, v3, U3, M3⟩
        clear TC
        have hU3 : Hid (Up w3 g v3 s2) := U3
        have hM3 : Hid (Mv w w3 g v v3) := hM.out.trans M3
        have hl3 := U3.lt
        have n3 := (U3.newBlock w3.heap.size (Nat.le_refl _)).1
        have ht2 : s2.tk ≤ 1073741824 := by have := hla.out; have := htk.out.1; omega
        by_cases h0 : cd = 0
        · subst h0
          have d0 := U3.st.get 0 _ rfl
          have f0 := U3.st.fr 0 (by show 0 < 9; decide)
          have HU4 : Hid (Up (w3.setCell ⟨g, 0, none⟩ (.int .i64 ((s2.tk : Int) + 1))) g v3 s2.tick) := U3.set 0 _ s2.tick (by decide) rfl rfl
          have HM4 : Hid (Mv w (w3.setCell ⟨g, 0, none⟩ (.int .i64 ((s2.tk : Int) + 1))) g v v3) := hM3.out.store _ _
          have HN : Hid (s.run (u.take (k + 1)) = s2.tick) := by unfold Hid; rw [hnx.out, htake.out, if_pos rfl]
          clear U3 M3 hU hM hU3 hM3
          go_wp2
          go_roundg (gk - 1)
          case measure => have := hgk.out; omega
          case rel => exact ⟨k + 1, v3, by have := hgk.out; unfold Hid; omega, by go_num, by unfold Hid; rw [HN.out]; exact HU4.out.alloc _, HM4.out.alloc _, by unfold Hid; rw [HN.out]; exact hlc.out⟩
        · have hcz : ((cd : Int) != 0) = true := by simp; omega
          have HN : Hid (s.run u = s2.fl cd ca) := by
            unfold Hid
            rw [hsp.out, hnx.out, htake.out, if_neg h0]
            exact US.run_off _ (by unfold US.off US.fl; simp [h0]) _
          have hts : Hid (s.tk ≤ s2.tk) := by unfold Hid; rw [hla.out]; exact htk.out.2
          clear U3 M3 h0
          go_wp2_with fail
          refine (fail_any' g v3 s2 cd ca _ (hU3.out.alloc _)).mono ?_
          rintro e w4 ⟨rfl, U4, M4⟩
          have hU4 : Hid (Up w4 g (.slice none 0 0) (s2.fl cd ca)) := U4
          have hM4 : Hid (Mv w w4 g v (.slice none 0 0)) := (hM3.out.alloc _).trans M4
          have d0 : w4.cell? ⟨g, 0, none⟩ = some (.int .i64 (s2.tk : Int)) := U4.st.get 0 _ rfl
          clear U4 M4
          go_wp2
          go_ret
          exact ⟨by rw [HN.out]; exact congrArg (fun z => Ending.returned (.int .i64 z)) (by show (s2.tk : Int) - (s.tk : Int) = ((s2.tk - s.tk : Nat) : Int); have := hts.out; omega), _, by rw [HN.out]; exact hU4.out, hM4.out⟩
      · obtain rfl : k = u.length := by have := hgk.out; omega
        rw [List.take_length] at hU
        have hts : Hid (s.tk ≤ (s.run u).tk ∧ (s.run u).tk ≤ 1073741824) := ⟨(US.run_tk u s).2, by have := (US.run_tk u s).1; omega⟩
        have d0 := hU.out.st.get 0 _ rfl
        have hz := hts.out.2
        go_wp2
        go_ret
        exact ⟨congrArg (fun z => Ending.returned (.int .i64 z)) (by show ((s.run u).tk : Int) - (s.tk : Int) = (((s.run u).tk - s.tk : Nat) : Int); have := hts.out.1; omega), vk, hU.out, hM.out⟩

end Go.Proofs.Ythjpmiidbgaiaaa
