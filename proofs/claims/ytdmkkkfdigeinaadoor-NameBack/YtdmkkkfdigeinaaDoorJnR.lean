/- The document's Sorted and Join, walked. -/
import Derived.Test.YtdmkkkfdigeinaaDoorSoA
import Derived.Test.YtdmkkkfdigeinaaDoorCkB
import Derived.Test.YtdmkkkfdigeinaaDoorJnB
namespace Go.Proofs.YtdmkkkfdigeinaaDoor
open Go.RowKit

theorem rcompare_is (a b : ByteArray) (c : Int) (h : cmpB a b = c) (ha : a.size ≤ 140737488351232) (w : World) :
    Calls Tryd.prog 22 #[.string a, .string b] w fun e w' => e = .returned (.int .i64 c) ∧ ∃ q, w' = w.drewN q := h ▸ rcompare_quiet a b w ha

set_option maxHeartbeats 1000000 in
theorem rsorted_any (x : Option Addr) (n c : Nat) (f : Nat → ByteArray) (w : World) (hn : n ≤ 140737488351232) (hf : ∀ i, i < n → (f i).size ≤ 140737488351232) (h : SIs w x n f) :
    Calls Tryd.prog 14 #[.slice x n c] w fun e w' => (∃ r : Int, e = .returned (.int .i64 r) ∧ Brk f n r) ∧ ∃ q, w' = w.drewN q := by
  have HS : Hid (SIs w x n f) := h
  have HF : Hid (∀ i, i < n → (f i).size ≤ 140737488351232) := hf
  clear h hf
  go_enter Tryd.func14, Tryd.ntmps14
  go_wp2
  go_loopw [3] (fun i wr => ∃ k : Nat, (k + 1 ≤ n ∨ k = 0) ∧ i = .int .i64 ((k + 1 : Nat) : Int) ∧ Hid (∀ j, j < k → cmpB (f j) (f (j + 1)) < 0) ∧ Hid (∃ q, wr = w.drewN q)) (fun i _ => n - (intOf i).toNat)
  case atStart => exact ⟨0, Or.inr rfl, rfl, fun j hj => absurd hj (by omega), 0, rfl⟩
  case round =>
    obtain ⟨k, hk, rfl, hl, hq⟩ := hrel
    by_cases hlt : k + 1 < n
    · obtain ⟨a, rfl, c0⟩ := HS.out k (by omega)
      obtain ⟨a', ha', c1⟩ := HS.out (k + 1) hlt
      obtain rfl := Option.some.inj ha'
      obtain ⟨q, hwr⟩ := hq.out
      have d0 : wr.cell? (a.add k) = some (.string (f k)) := by rw [hwr]; exact c0
      have d1 : wr.cell? ⟨a.block, a.off + (k + 1), none⟩ = some (.string (f (k + 1))) := by rw [add_succ] at c1; rw [hwr]; exact c1
      clear c0 c1 hwr ha'
      have hk0 : k < n := by omega
      have hk1 : (k : Int) + 1 < (n : Int) := by omega
      have hk2 : (0 : Int) ≤ (k : Int) + 1 := by omega
      have hk3 : ((k : Int) + 1).toNat = k + 1 := by omega
      have hk4 : ¬ ((k : Int) + 1 < 0) := by omega
      have hkw : IntKind.i64.wrap ((k : Nat) : Int) = (k : Int) := by rw [IntKind.wrap_i64]; omega
      rcases cmp_cases (f k) (f (k + 1)) with ⟨e0, _, _⟩ | ⟨e0, _, _⟩ | ⟨e0, _, _⟩
      · have CM := rcompare_is _ _ _ e0 (HF.out k hk0)
        have E0 : Hid (cmpB (f k) (f (k + 1)) = -1) := e0
        clear e0
        go_wp2
        go_quiet ((go_at_call 22; exact Calls.quiet_of (CM _)))
        clear CM
        go_wp2
        go_roundw
        case rel => exact ⟨k + 1, by omega, by go_num, fun j hj => by
          by_cases e : j = k
          · rw [e, E0.out]; omega
          · exact hl.out j (by omega), by obtain ⟨q, hw⟩ := hq.out; exact ⟨q + nq, by rw [hw, World.drewN_drewN]⟩⟩
        case measure => simp [intOf]; omega
      · have CM := rcompare_is _ _ _ e0 (HF.out k hk0)
        have E0 : Hid (cmpB (f k) (f (k + 1)) = 0) := e0
        clear e0
        go_wp2
        go_quiet ((go_at_call 22; exact Calls.quiet_of (CM _)))
        clear CM
        go_wp2
        go_ret
        exact ⟨⟨_, rfl, Or.inr ⟨k, by go_num, hlt, by rw [E0.out]; omega, hl.out⟩⟩, by obtain ⟨q, hw⟩ := hq.out; exact ⟨q + nq, by rw [hw, World.drewN_drewN]⟩⟩
      · have CM := rcompare_is _ _ _ e0 (HF.out k hk0)
        have E0 : Hid (cmpB (f k) (f (k + 1)) = 1) := e0
        clear e0
        go_wp2
        go_quiet ((go_at_call 22; exact Calls.quiet_of (CM _)))
        clear CM
        go_wp2
        go_ret
        exact ⟨⟨_, rfl, Or.inr ⟨k, by go_num, hlt, by rw [E0.out]; omega, hl.out⟩⟩, by obtain ⟨q, hw⟩ := hq.out; exact ⟨q + nq, by rw [hw, World.drewN_drewN]⟩⟩
    · go_wp2
      go_ret
      exact ⟨⟨_, rfl, Or.inl ⟨rfl, fun i hi => hl.out i (by omega)⟩⟩, hq.out⟩

theorem Brk.one {f : Nat → ByteArray} {n : Nat} {r r' : Int} (h : Brk f n r) (h' : Brk f n r') : r = r' := by
  rcases h with ⟨h1, h2⟩ | ⟨i, h1, h2, h3, h4⟩
  · rw [h1, h'.none h2]
  · rw [h1, h'.of h2 h3 h4]

theorem joinB_one (x : ByteArray) : joinB [x] = x := by
  unfold joinB
  rw [List.map_cons, List.map_nil, Lib.join_one, Lib.mk_data]
theorem joinB_snoc (L : List ByteArray) (x : ByteArray) (h : L ≠ []) : joinB (L ++ [x]) = joinB L ++ ⟨#[47]⟩ ++ x := by
  cases L with
  | nil => exact absurd rfl h
  | cons y r =>
    unfold joinB
    rw [List.map_append, List.map_cons, List.cons_append, Lib.join_cons, Lib.join_cons]
    have e : Lib.joinTail [47] (r.map (·.data.toList) ++ [x].map (·.data.toList)) = Lib.joinTail [47] (r.map (·.data.toList)) ++ [47] ++ x.data.toList := by
      simp [Lib.joinTail]
    rw [e]
    apply ByteArray.ext
    simp [ByteArray.data_append]
theorem take_nth (L : List ByteArray) (k : Nat) (h : k < L.length) : L.take (k + 1) = L.take k ++ [nth L k] := by
  rw [List.take_succ_eq_append_getElem h]; simp [nth, h]

set_option maxHeartbeats 1000000 in
theorem rjoin_any (x : Option Addr) (n c : Nat) (L : List ByteArray) (w : World) (hn : n ≤ 140737488351232) (hL0 : L.length = n) (h : SIs w x n (nth L)) :
    Calls Tryd.prog 13 #[.slice x n c] w fun e w' => e = .returned (.tuple #[.string (jS L), .int .i64 (jF L).1, .int .i64 (jF L).2]) ∧ w' = w := by
  have HS : Hid (SIs w x n (nth L)) := h
  have HL : Hid (L.length = n) := hL0
  clear h hL0
  go_enter Tryd.func13, Tryd.ntmps13
  go_wp2
  go_loop [5, 6] (fun xp xi => ∃ (k : Nat) (P : ByteArray), k ≤ n ∧ xi = .int .i64 k ∧ xp = .string P ∧ P.size ≤ k * 256 ∧ k ≤ 31 ∧ Hid (P = joinB (L.take k)) ∧ Hid (jF L = jscan (L.drop k) k)) (fun _ i => n - (intOf i).toNat)
  case atStart => exact ⟨0, ⟨#[]⟩, Nat.zero_le _, rfl, rfl, by decide, by decide, rfl, rfl⟩
  case round =>
    obtain ⟨k, P, hk, rfl, rfl, hsz, h31, hP, hsc⟩ := hrel
    by_cases hlt : k < n
    · obtain ⟨a, rfl, d0⟩ := HS.out k hlt
      have hlt' : k < L.length := by rw [HL.out]; exact hlt
      have hdr : L.drop k = nth L k :: L.drop (k + 1) := by
        rw [List.drop_eq_getElem_cons hlt']; congr 1; simp [nth, hlt']
      have hsc2 := hsc.out
      rw [hdr] at hsc2
      have cv := chk_vals (nth L k)
      clear hdr
      by_cases hk31 : k = 31
      · rw [jscan_deep _ _ _ (by omega)] at hsc2
        have HR : Hid (jF L = (61, (k : Int))) := hsc2
        have HE : Hid (jS L = ⟨#[]⟩) := by unfold Hid jS; rw [HR.out, if_neg (show ¬ (61 : Int) = 0 by decide)]
        have hb : ((k : Int) == 31) = true := by rw [hk31]; rfl
        clear hsc2 hsc cv hk31
        go_wp2
        go_ret3
        exact ⟨by rw [HR.out, HE.out]; rfl, rfl⟩
      · have hb : ((k : Int) == 31) = false := by rw [beq_eq_false_iff_ne]; omega
        have CK := fun w => rcheck_any (nth L k) w
        by_cases hc0 : chk (nth L k) = 0
        · rw [hc0] at CK
          rw [jscan_good _ _ _ (by omega) hc0] at hsc2
          have HS2 : Hid (jF L = jscan (L.drop (k + 1)) (k + 1)) := hsc2
          have hx := chk_short _ hc0
          have htk := take_nth L k hlt'
          clear hsc2 hsc hc0 cv
          by_cases hk0 : k = 0
          · have HP2 : Hid (P ++ nth L k = joinB (L.take (k + 1))) := by unfold Hid; rw [htk, hP.out, hk0, List.take_zero, List.nil_append, joinB_one]; show (⟨#[]⟩ : ByteArray) ++ _ = _; exact ByteArray.empty_append
            have hk0' : ¬ (0 : Int) < (k : Int) := by omega
            clear htk hlt' hk0
            go_wp2_with (first | (go_at_call 19; refine (CK _).mono ?_; rintro e w' ⟨rfl, rfl⟩))
            go_round
            case rel => exact ⟨k + 1, _, by omega, by go_num, rfl, by rw [ByteArray.size_append]; omega, by omega, HP2, HS2⟩
            case measure => simp [intOf]; omega
          · have HP2 : Hid (P ++ ⟨#[47]⟩ ++ nth L k = joinB (L.take (k + 1))) := by
              unfold Hid
              rw [htk, joinB_snoc _ _ (by intro e; have := congrArg List.length e; rw [List.length_take, List.length_nil] at this; omega), hP.out]
            clear htk hlt'
            go_wp2_with (first | (go_at_call 19; refine (CK _).mono ?_; rintro e w' ⟨rfl, rfl⟩))
            go_round
            case rel => exact ⟨k + 1, _, by omega, by go_num, rfl, by rw [ByteArray.size_append, ByteArray.size_append]; show P.size + 1 + _ ≤ _; omega, by omega, HP2, HS2⟩
            case measure => simp [intOf]; omega
        · rw [jscan_bad _ _ _ (by omega) hc0] at hsc2
          have HR : Hid (jF L = (chk (nth L k), (k : Int))) := hsc2
          have HE : Hid (jS L = ⟨#[]⟩) := by unfold Hid jS; rw [HR.out, if_neg hc0]
          have hb : (chk (nth L k) != 0) = true := by rw [bne_iff_ne]; exact hc0
          clear hsc2 hsc hc0
          generalize chk (nth L k) = C at *
          go_wp2_with (first | (go_at_call 19; refine (CK _).mono ?_; rintro e w' ⟨rfl, rfl⟩))
          go_ret3
          exact ⟨by rw [HR.out, HE.out]; rfl, rfl⟩
    · obtain rfl : k = n := by omega
      have hsc2 := hsc.out
      rw [← HL.out, List.drop_length] at hsc2
      have HR : Hid (jF L = (0, 0)) := hsc2
      have HE : Hid (jS L = P) := by unfold Hid jS; rw [HR.out, if_pos rfl, hP.out, ← HL.out, List.take_length]
      clear hsc2 hsc
      go_wp2
      go_ret3
      exact ⟨by rw [HR.out, HE.out]; rfl, rfl⟩

end Go.Proofs.YtdmkkkfdigeinaaDoor
