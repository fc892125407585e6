/- strings.HasPrefix, CutPrefix at any prefix; a signer's name. -/
import Derived.Test.YtjhbfkckkinfjaaDoorPtS
import Derived.Test.YtjhbfkckkinfjaaDoorB32C
namespace Go.Proofs.YtjhbfkckkinfjaaDoor
open Go.RowKit

/-- Does p begin with q? -/
def hpQ (p q : ByteArray) : Bool := decide (q.size ≤ p.size) && ((p.extract 0 q.size).toList == q.toList)
/-- What stands behind q, or all. -/
def cpQ (p q : ByteArray) : ByteArray := if hpQ p q then p.extract q.size p.size else p
theorem cpQ_no {p q : ByteArray} (h : hpQ p q = false) : cpQ p q = p := by unfold cpQ; rw [h]; rfl
theorem cpQ_yes {p q : ByteArray} (h : hpQ p q = true) : cpQ p q = p.extract q.size p.size := by unfold cpQ; rw [h]; rfl
theorem hpQ_le {p q : ByteArray} (h : hpQ p q = true) : q.size ≤ p.size := by
  unfold hpQ at h
  rw [Bool.and_eq_true, decide_eq_true_eq] at h
  exact h.1

set_option maxHeartbeats 400000 in
theorem hasQ_any (p q : ByteArray) (w : World) :
    Calls Tryd.prog 51 #[.string p, .string q] w fun e w' => e = .returned (.bool (hpQ p q)) ∧ w' = w := by
  by_cases h0 : q.size ≤ p.size
  · cases h : ((p.extract 0 q.size).toList == q.toList)
    · have hh : Hid (hpQ p q = false) := by unfold Hid hpQ; rw [h]; simp
      have h0' : (q.size : Int) ≤ (p.size : Int) := by omega
      go_enter Tryd.func51, Tryd.ntmps51
      go_wp2
      go_ret
      exact ⟨by rw [hh.out]; rfl, rfl⟩
    · have hh : Hid (hpQ p q = true) := by unfold Hid hpQ; rw [h, decide_eq_true h0]; rfl
      have h0' : (q.size : Int) ≤ (p.size : Int) := by omega
      go_enter Tryd.func51, Tryd.ntmps51
      go_wp2
      go_ret
      exact ⟨by rw [hh.out]; rfl, rfl⟩
  · have hh : Hid (hpQ p q = false) := by unfold Hid hpQ; rw [decide_eq_false h0]; rfl
    have h0' : ¬ (q.size : Int) ≤ (p.size : Int) := by omega
    go_enter Tryd.func51, Tryd.ntmps51
    go_wp2
    go_ret
    exact ⟨by rw [hh.out]; rfl, rfl⟩

set_option maxHeartbeats 400000 in
theorem hasPS_any (p q : ByteArray) (w : World) :
    Calls Tryd.prog 38 #[.string p, .string q] w fun e w' => e = .returned (.bool (hpQ p q)) ∧ w' = w := by
  go_enter Tryd.func38, Tryd.ntmps38
  go_wp2_with fail
  refine (hasQ_any _ _ _).mono ?_
  rintro e w1 ⟨rfl, rfl⟩
  go_wp2
  go_ret
  exact ⟨rfl, rfl⟩

set_option maxHeartbeats 400000 in
theorem scutQ_any (p q : ByteArray) (w : World) :
    Calls Tryd.prog 43 #[.string p, .string q] w fun e w' => e = .returned (.tuple #[.string (cpQ p q), .bool (hpQ p q)]) ∧ w' = w := by
  cases h : hpQ p q
  · have H : Hid (hpQ p q = false) := h
    rw [cpQ_no h]
    clear h
    go_enter Tryd.func43, Tryd.ntmps43
    go_wp2_with fail
    refine (hasQ_any _ _ _).mono ?_
    rintro e w1 ⟨rfl, rfl⟩
    rw [H.out]
    go_wp2
    go_ret2
    exact ⟨rfl, rfl⟩
  · have H : Hid (hpQ p q = true) := h
    have h13 : q.size ≤ p.size := hpQ_le h
    rw [cpQ_yes h]
    clear h
    go_enter Tryd.func43, Tryd.ntmps43
    go_wp2_with fail
    refine (hasQ_any _ _ _).mono ?_
    rintro e w1 ⟨rfl, rfl⟩
    rw [H.out]
    go_wp2
    go_ret2
    exact ⟨rfl, rfl⟩

set_option maxHeartbeats 400000 in
theorem cutQ_any (p q : ByteArray) (w : World) :
    Calls Tryd.prog 29 #[.string p, .string q] w fun e w' => e = .returned (.tuple #[.string (cpQ p q), .bool (hpQ p q)]) ∧ w' = w := by
  go_enter Tryd.func29, Tryd.ntmps29
  go_wp2_with fail
  refine (scutQ_any _ _ _).mono ?_
  rintro e w1 ⟨rfl, rfl⟩
  go_wp2
  go_ret2
  exact ⟨rfl, rfl⟩

/-- May a signer's name have this byte? -/
def sgB (c : Int) : Bool := decide ((97 ≤ c ∧ c ≤ 122) ∨ (48 ≤ c ∧ c ≤ 57) ∨ c = 46 ∨ c = 45)
def sgOk (s : ByteArray) : Prop := 1 ≤ s.size ∧ s.size ≤ 32 ∧ ∀ k, k < s.size → sgB (bt s k) = true
instance (s : ByteArray) : Decidable (sgOk s) := inferInstanceAs (Decidable (_ ∧ _ ∧ _))
def sgC (s : ByteArray) : Int := if sgOk s then 0 else 151
theorem sgC_no {s : ByteArray} (h : ¬ sgOk s) : sgC s = 151 := if_neg h
theorem sgC_yes {s : ByteArray} (h : sgOk s) : sgC s = 0 := if_pos h

set_option maxHeartbeats 400000 in
theorem inS_any (r : Int) (w : World) :
    Calls Tryd.prog 81 #[.int .u8 r] w fun e w' => e = .returned (.bool (sgB r)) ∧ w' = w := by
  by_cases b1 : 97 ≤ r ∧ r ≤ 122
  · have hh : Hid (sgB r = true) := by unfold Hid sgB; exact decide_eq_true (Or.inl b1)
    obtain ⟨c1, c2⟩ := b1
    go_enter Tryd.func81, Tryd.ntmps81
    go_wp2
    go_ret
    exact ⟨by rw [hh.out]; rfl, rfl⟩
  · by_cases b2 : 48 ≤ r ∧ r ≤ 57
    · have hh : Hid (sgB r = true) := by unfold Hid sgB; exact decide_eq_true (Or.inr (Or.inl b2))
      obtain ⟨c1, c2⟩ := b2
      have c3 : ¬ 97 ≤ r := by omega
      clear b1
      go_enter Tryd.func81, Tryd.ntmps81
      go_wp2
      go_ret
      exact ⟨by rw [hh.out]; rfl, rfl⟩
    · by_cases b3 : r = 46
      · have hh : Hid (sgB r = true) := by unfold Hid sgB; exact decide_eq_true (Or.inr (Or.inr (Or.inl b3)))
        subst b3
        clear b1 b2
        go_enter Tryd.func81, Tryd.ntmps81
        go_wp2
        go_ret
        exact ⟨by rw [hh.out]; rfl, rfl⟩
      · by_cases b4 : r = 45
        · have hh : Hid (sgB r = true) := by unfold Hid sgB; exact decide_eq_true (Or.inr (Or.inr (Or.inr b4)))
          subst b4
          clear b1 b2 b3
          go_enter Tryd.func81, Tryd.ntmps81
          go_wp2
          go_ret
          exact ⟨by rw [hh.out]; rfl, rfl⟩
        · have hh : Hid (sgB r = false) := by unfold Hid sgB; exact decide_eq_false (by omega)
          have k1 : ¬ 97 ≤ r ∨ ¬ r ≤ 122 := by omega
          have k2 : ¬ 48 ≤ r ∨ ¬ r ≤ 57 := by omega
          have k3 : (r == 46) = false := by rw [beq_eq_false_iff_ne]; exact b3
          have k4 : (r == 45) = false := by rw [beq_eq_false_iff_ne]; exact b4
          clear b1 b2 b3 b4
          rcases k1 with k1 | k1
          all_goals rcases k2 with k2 | k2
          all_goals first
            | (exfalso; omega)
            | (go_enter Tryd.func81, Tryd.ntmps81
               go_wp2
               go_ret
               exact ⟨by rw [hh.out]; rfl, rfl⟩)

set_option maxHeartbeats 400000 in
theorem ckS_any (s : ByteArray) (w : World) :
    Calls Tryd.prog 72 #[.string s] w fun e w' => e = .returned (.int .i64 (sgC s)) ∧ w' = w := by
  by_cases hz : s.size = 0
  · have hh : Hid (sgC s = 151) := sgC_no (fun h => by have := h.1; omega)
    have he : s.toList.isEmpty = true := (empty_iff s).2 hz
    have he2 : s = ⟨#[]⟩ := bytes_ext (by rw [hz]; rfl) (fun k hk => absurd hk (by omega))
    clear hz
    subst he2
    go_enter Tryd.func72, Tryd.ntmps72
    go_wp2
    go_ret
    exact ⟨by rw [hh.out]; rfl, rfl⟩
  · have he : s.toList.isEmpty = false := by
      cases h : s.toList.isEmpty
      · rfl
      · exact absurd ((empty_iff s).1 h) hz
    have he2 : (s.toList == []) = false := by rw [beq_eq_false_iff_ne]; intro h; rw [h] at he; exact Bool.noConfusion he
    have he3 : ¬ s.toList = [] := fun h => by rw [h] at he; exact Bool.noConfusion he
    by_cases h32 : 32 < s.size
    · have hh : Hid (sgC s = 151) := sgC_no (fun h => by have := h.2.1; omega)
      have h32' : (32 : Int) < (s.size : Int) := by omega
      clear hz
      go_enter Tryd.func72, Tryd.ntmps72
      go_wp2
      go_ret
      exact ⟨by rw [hh.out]; rfl, rfl⟩
    · have h32' : ¬ (32 : Int) < (s.size : Int) := by omega
      have HZ : Hid (s.size ≠ 0) := hz
      have H32 : Hid (¬ 32 < s.size) := h32
      have hb := get_bt s
      clear hz h32
      go_enter Tryd.func72, Tryd.ntmps72
      go_wp2
      clear he he2 he3 h32'
      go_loop [13] (fun i => ∃ k : Nat, k ≤ s.size ∧ i = .int .i64 k ∧ Hid (∀ j, j < k → sgB (bt s j) = true)) (fun i => s.size - (intOf i).toNat)
      case atStart => exact ⟨0, Nat.zero_le _, rfl, fun j hj => absurd hj (by omega)⟩
      case round =>
        obtain ⟨k, hk, rfl, hok⟩ := hrel
        by_cases hlt : k < s.size
        · have hk32 : k < 32 := by have := H32.out; omega
          cases hv : sgB (bt s k)
          · have hh : Hid (sgC s = 151) := sgC_no (fun h => by have := h.2.2 k hlt; rw [hv] at this; exact Bool.noConfusion this)
            go_wp2_with fail
            refine (inS_any _ _).mono ?_
            rintro e w1 ⟨rfl, rfl⟩
            rw [hv]
            go_wp2
            go_ret
            exact ⟨by rw [hh.out]; rfl, rfl⟩
          · have HV : Hid (sgB (bt s k) = true) := hv
            clear hv
            go_wp2_with fail
            refine (inS_any _ _).mono ?_
            rintro e w1 ⟨rfl, rfl⟩
            rw [HV.out]
            go_wp2
            go_round
            case rel => exact ⟨k + 1, by omega, by go_num, fun j hj => by
              by_cases e : j = k
              · rw [e]; exact HV.out
              · exact hok.out j (by omega)⟩
            case measure => simp [intOf]; omega
        · have hh : Hid (sgC s = 0) := sgC_yes ⟨by have := HZ.out; omega, by have := H32.out; omega, fun j hj => hok.out j (by omega)⟩
          go_wp2
          go_ret
          exact ⟨by rw [hh.out]; rfl, rfl⟩

end Go.Proofs.YtjhbfkckkinfjaaDoor
