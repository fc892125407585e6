/- Items from a place on; the reader's state behind any calls. -/
import Derived.Test.YtjlbbnjcdickgaaWsF
namespace Go.Proofs.Ytjlbbnjcdickgaa
open Go.RowKit

set_option maxHeartbeats 2000000 in
theorem same_from (r v : Value) (X L : List It) (w : World) (OI : OwnI w 0 r L) (OJ : OwnJ w 0 v (X ++ L)) (hlen : X.length + L.length ≤ 1073741824) :
    Calls Try.prog 19 #[r, v, .int .i64 (X.length : Int)] w fun e w' => e = .returned (.bool true) ∧ Below w.heap.size w w' := by
  obtain ⟨x, cap, rfl, hx⟩ : ∃ x cap, r = .slice x L.length cap ∧ (∀ k (hk : k < L.length), ∃ g, x = some ⟨g, 0, none⟩ ∧ g < w.heap.size ∧ w.cell? ⟨g, k * 3, none⟩ = some (.bool (L[k]).isInt) ∧ w.cell? ⟨g, k * 3 + 1, none⟩ = some (.int .u64 ((L[k]).num : Int)) ∧ w.cell? ⟨g, k * 3 + 2, none⟩ = some (.string (ba (L[k]).text))) := by
    rcases OI.open with ⟨rfl, rfl⟩ | ⟨g, cap, rfl, -, hg, -, hcell⟩
    · exact ⟨none, 0, rfl, fun k hk => absurd hk (by simp)⟩
    · exact ⟨_, _, rfl, fun k hk => ⟨g, rfl, hg, by rw [Nat.mul_comm]; exact (hcell k hk).1, by rw [Nat.mul_comm]; exact (hcell k hk).2.1, by rw [Nat.mul_comm]; exact (hcell k hk).2.2⟩⟩
  obtain ⟨y, cap2, rfl, hy⟩ : ∃ x cap, v = .slice x (X.length + L.length) cap ∧ (∀ k (hk : k < L.length), ∃ g, x = some ⟨g, 0, none⟩ ∧ g < w.heap.size ∧ w.cell? ⟨g, (X.length + k) * 3, none⟩ = some (.bool (L[k]).isInt) ∧ w.cell? ⟨g, (X.length + k) * 3 + 1, none⟩ = some (.int .u64 ((L[k]).num : Int)) ∧ w.cell? ⟨g, (X.length + k) * 3 + 2, none⟩ = some (.string (ba (L[k]).text))) := by
    rcases OJ.open with ⟨rfl, h⟩ | ⟨g, cap, rfl, -, hg, -, hcell⟩
    · obtain ⟨rfl, rfl⟩ := List.append_eq_nil_iff.1 h
      exact ⟨none, 0, rfl, fun k hk => absurd hk (by simp)⟩
    · refine ⟨_, _, by rw [List.length_append], fun k hk => ⟨g, rfl, hg, ?_⟩⟩
      have h := hcell (X.length + k) (by rw [List.length_append]; omega)
      have e : (X ++ L)[X.length + k]'(by rw [List.length_append]; omega) = L[k] := by
        rw [List.getElem_append_right (by omega)]
        simp
      rw [e, Nat.mul_comm] at h
      exact h
  have HX : Hid _ := hx
  have HY : Hid _ := hy
  clear hx hy OI OJ
  go_enter Try.func19, Try.ntmps19
  go_wp2
  go_loopw [19] (fun i wr => ∃ k : Nat, k ≤ L.length ∧ i = .int .i64 k ∧ Hid (Below w.heap.size w wr)) (fun i _ => L.length - (intOf i).toNat)
  case atStart => exact ⟨0, Nat.zero_le _, rfl, Below.refl _ _⟩
  case round =>
    obtain ⟨k, hk, rfl, hB⟩ := hrel
    by_cases hlt : k < L.length
    · obtain ⟨g, rfl, hg, c0, c1, c2⟩ := HX.out k hlt
      obtain ⟨f, rfl, hf, p0, p1, p2⟩ := HY.out k hlt
      have d0 : wr.cell? ⟨g, k * 3, none⟩ = _ := (hB.out.cell (p := ⟨g, k * 3, none⟩) hg).trans c0
      have d1 : wr.cell? ⟨g, k * 3 + 1, none⟩ = _ := (hB.out.cell (p := ⟨g, k * 3 + 1, none⟩) hg).trans c1
      have d2 : wr.cell? ⟨g, k * 3 + 2, none⟩ = _ := (hB.out.cell (p := ⟨g, k * 3 + 2, none⟩) hg).trans c2
      have q0 : wr.cell? ⟨f, (X.length + k) * 3, none⟩ = _ := (hB.out.cell (p := ⟨f, (X.length + k) * 3, none⟩) hf).trans p0
      have q1 : wr.cell? ⟨f, (X.length + k) * 3 + 1, none⟩ = _ := (hB.out.cell (p := ⟨f, (X.length + k) * 3 + 1, none⟩) hf).trans p1
      have q2 : wr.cell? ⟨f, (X.length + k) * 3 + 2, none⟩ = _ := (hB.out.cell (p := ⟨f, (X.length + k) * 3 + 2, none⟩) hf).trans p2
      have hwz := hB.out.size
      have hgn : g ≠ wr.heap.size := by omega
      have hfn : f ≠ wr.heap.size := by omega
      have hfn1 : f ≠ wr.heap.size + 1 := by omega
      have hgn1 : g ≠ wr.heap.size + 1 := by omega
      have hfl : f < wr.heap.size := by omega
      generalize L[k] = it at *
      clear c0 c1 c2 p0 p1 p2
      go_wp2
      go_roundw
      case rel => exact ⟨k + 1, by omega, by go_num, (hB.out.alloc hB.out.size _).alloc (by rw [World.size_alloc]; have := hB.out.size; omega) _⟩
      case measure => simp [intOf]; omega
    · obtain rfl : k = L.length := by omega
      go_wp2
      go_ret
      exact ⟨rfl, hB.out⟩

/-- The reader's state: the bytes fed in while it was on, and whether it is shut. -/
def stP (pl : List UInt8) (m : Nat) (A : List UInt8) (sh : Bool) : RS := if sh then ((rsNew pl m).run A).shut else (rsNew pl m).run A
theorem shut_shut (s : RS) : s.shut.shut = s.shut := by
  by_cases h : s.code = 0 ∧ s.ph ≠ 4
  · have e : s.shut = { (s.fl 4 s.tk) with cl := true } := by unfold RS.shut; rw [if_pos h]
    rw [e]
    unfold RS.shut
    rw [if_neg (fun c => absurd c.1 (show ¬ 4 = 0 by decide))]
  · have e : s.shut = { s with cl := true } := by unfold RS.shut; rw [if_neg h]
    rw [e]
    unfold RS.shut
    rw [if_neg h]
theorem shut_tk (s : RS) : s.shut.tk = s.tk := by
  unfold RS.shut
  split <;> rfl
theorem shut_offs (s : RS) : s.shut.off = true := by
  unfold RS.shut RS.off
  rfl
theorem stP_shut (pl : List UInt8) (m : Nat) (A : List UInt8) (sh : Bool) : (stP pl m A sh).shut = stP pl m A true := by
  cases sh
  · rfl
  · exact shut_shut _
theorem stP_on (pl : List UInt8) (m : Nat) (A t : List UInt8) : (stP pl m A false).run t = stP pl m (A ++ t) false := by
  unfold stP
  exact (RS.run_append _ _ _).symm
theorem stP_off (pl : List UInt8) (m : Nat) (A t : List UInt8) : (stP pl m A true).run t = stP pl m A true := RS.run_off _ (shut_offs _) _
theorem stP_tk (pl : List UInt8) (m : Nat) (A : List UInt8) (sh : Bool) : (stP pl m A sh).tk ≤ A.length := by
  have h : ((rsNew pl m).run A).tk ≤ A.length := by
    have := RS.run_tk (rsNew pl m) A
    rw [(rsNew_tk pl m).1] at this
    omega
  cases sh
  · exact h
  · show (((rsNew pl m).run A).shut).tk ≤ _
    rw [shut_tk]
    exact h
theorem stP_out (pl : List UInt8) (m : Nat) (A : List UInt8) : (stP pl m A true).out = (stP pl m A false).out ∧ (stP pl m A true).tk = (stP pl m A false).tk := ⟨shut_out _, shut_tk _⟩
theorem stP_read (pl : List UInt8) (m : Nat) (A : List UInt8) : readR A pl m = (stP pl m A false).got := readR_got A pl m
theorem stP_closed (pl : List UInt8) (m : Nat) (A : List UInt8) : clC (readR A pl m) pl.length = (stP pl m A true).code ∧ clA (readR A pl m) pl.length = (stP pl m A true).fat := ⟨(closed_sp A pl m).1, (closed_sp A pl m).2.1⟩

theorem RS.beg_out (s : RS) : s.beg.out = s.out := by
  obtain ⟨tk, code, fat, plan, most, cl, ph, lack, word, tx, out⟩ := s
  cases plan <;> rfl
theorem RS.fin_out (s : RS) : s.fin.out.length ≤ s.out.length + 1 := by
  unfold RS.fin
  split
  · rw [RS.push_out]; simp
  · split
    · exact Nat.le_succ _
    · split
      · exact Nat.le_succ _
      · rw [RS.push_out]; simp
theorem RS.adv_out (s : RS) : s.adv.out.length ≤ s.out.length + 1 := by
  unfold RS.adv
  split
  · exact Nat.le_succ _
  · exact RS.fin_out s.tick
theorem RS.step_out (s : RS) (b : UInt8) : (s.step b).out.length ≤ s.out.length + 1 := by
  unfold RS.step RS.take
  split
  · omega
  split
  · exact Nat.le_succ _
  split
  · split
    · exact RS.adv_out s
    · exact Nat.le_succ _
  split
  · exact RS.adv_out (s.tput b)
  split
  · exact Nat.le_succ _
  · exact RS.adv_out (s.wput b)
theorem RS.run_out (s : RS) (l : List UInt8) : (s.run l).out.length ≤ s.out.length + l.length := by
  induction l generalizing s with
  | nil => exact Nat.le_refl _
  | cons b l ih =>
    have := ih (s.step b)
    have := RS.step_out s b
    rw [RS.run_cons, List.length_cons]
    omega
theorem stP_outs (pl : List UInt8) (m : Nat) (A : List UInt8) (sh : Bool) : (stP pl m A sh).out.length ≤ A.length := by
  have h : ((rsNew pl m).run A).out.length ≤ A.length := by
    have := RS.run_out (rsNew pl m) A
    rw [(rsNew_tk pl m).2] at this
    simpa using this
  cases sh
  · exact h
  · show (((rsNew pl m).run A).shut).out.length ≤ _
    rw [shut_out]
    exact h

set_option maxHeartbeats 2000000 in
theorem same_none (x y : Option Addr) (c cy n : Nat) (w : World) :
    Calls Try.prog 19 #[.slice x 0 c, .slice y n cy, .int .i64 (n : Int)] w fun e w' => e = .returned (.bool true) ∧ Below w.heap.size w w' := by
  go_enter Try.func19, Try.ntmps19
  go_wp2
  go_loopw [19] (fun i wr => i = .int .i64 0 ∧ wr = w) (fun _ _ => 0)
  case atStart => exact ⟨rfl, rfl⟩
  case round =>
    obtain ⟨rfl, rfl⟩ := hrel
    go_wp2
    go_ret
    exact ⟨rfl, Below.refl _ _⟩

end Go.Proofs.Ytjlbbnjcdickgaa
