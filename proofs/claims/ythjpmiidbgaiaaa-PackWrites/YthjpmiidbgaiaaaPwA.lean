/- The document's four and chains (for PackWrites). -/
import Derived.Test.YthjpmiidbgaiaaaPwP
import Derived.Test.YthjpmiidbgaiaaaPkW
import Derived.BigQuiet
namespace Go.Proofs.Ythjpmiidbgaiaaa
open Go.RowKit

theorem cut_four (s : List UInt8) (a : Nat) (h : a + 4 ≤ s.length) : cutL s a (a + 4) = fourAt s a := by
  unfold cutL fourAt
  rw [show a + 4 - a = 4 by omega, List.drop_eq_getElem_cons (by omega), List.drop_eq_getElem_cons (by omega), List.drop_eq_getElem_cons (by omega), List.drop_eq_getElem_cons (by omega)]
  have g : ∀ j (hj : j < s.length), s.getD j 0 = s[j] := fun j hj => by rw [List.getD_eq_getElem?_getD, List.getElem?_eq_getElem hj]; rfl
  rw [g a (by omega), g (a + 1) (by omega), g (a + 2) (by omega), g (a + 3) (by omega)]
  rfl

set_option maxHeartbeats 1000000 in
theorem rfour_any (s : List UInt8) (a b : Nat) (w : World) (hs : s.length ≤ 1048576) (ha : a + 4 ≤ s.length) (hb : b + 4 ≤ s.length) :
    Calls Try.prog 30 #[.string (ba s), .int .i64 (a : Int), .int .i64 (b : Int)] w fun e w' => e = .returned (.bool (decide (fourAt s a = fourAt s b))) ∧ ∃ q, w' = w.drewN q := by
  have hsz := ba_size s
  have h1 : (ba s).extract a (a + 4) = ba (fourAt s a) := by rw [ba_cut s a (a + 4) (by omega) ha, cut_four s a ha]
  have h2 : (ba s).extract b (b + 4) = ba (fourAt s b) := by rw [ba_cut s b (b + 4) (by omega) hb, cut_four s b hb]
  have h3 : ((ba (fourAt s a)).toList == (ba (fourAt s b)).toList) = decide (fourAt s a = fourAt s b) := by
    rw [Bool.eq_iff_iff, beq_iff_eq, decide_eq_true_iff]
    refine ⟨fun h => ?_, fun h => by rw [h]⟩
    have e : ∀ l : List UInt8, (ba l).toList = l := fun l => by rw [ByteArray.toList_eq]; simp [ba]
    rw [e, e] at h
    exact h
  generalize fourAt s a = FA at *
  generalize fourAt s b = FB at *
  have hA : (a : Int) + 4 ≤ (s.length : Int) := by omega
  have hB : (b : Int) + 4 ≤ (s.length : Int) := by omega
  have HD : Hid (((ba FA).toList == (ba FB).toList) = decide (FA = FB)) := h3
  clear h3
  go_enter Try.func30, Try.ntmps30
  go_wp2_with fail
  go_quiet (fail)
  go_wp2
  go_ret
  exact ⟨by rw [← HD.out]; rfl, _, rfl⟩

end Go.Proofs.Ythjpmiidbgaiaaa
