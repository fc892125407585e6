/- The law GaugeParts, walked. -/
import Derived.Test.YtjlbbnjcdickgabDoorPPd
namespace Go.Proofs.YtjlbbnjcdickgabDoor
open Go.RowKit

set_option maxHeartbeats 1000000 in
theorem parts_walk (x : Int) (w : World) (h0 : 0 ≤ x) (h1 : x ≤ 18446744073709551615) (h : DT w) :
    Calls Tryd.prog 3 #[.int .u64 x] w fun e w' => e = .returned (.bool true) ∧ Below w.heap.size w w' := by
  have HD : Hid (DT w) := h
  clear h
  have f1 := from_run x
  by_cases he : exF x = 2047
  · have P1 := fun w => parts_odd x w h0 h1 he
    have P2 := fun w => rparts_odd x w h0 h1 he
    generalize (if frF x = 0 then (if sgF x then (2 : Int) else 1) else 3) = c at *
    generalize x.toNat = X at *
    clear he
    go_enter Tryd.func3, Tryd.ntmps3
    go_wp2_with fail
    refine (awake_any _ HD.out).mono ?_
    rintro r w1 ⟨rfl, rfl⟩
    go_wp2_with fail
    refine (P1 _).mono ?_
    rintro r w1 ⟨rfl, rfl⟩
    clear P1
    go_wp2_with fail
    refine (P2 _).mono ?_
    rintro r w1 ⟨rfl, rfl⟩
    clear P2
    go_wp2
    go_ret
    exact ⟨rfl, Below.refl _ _⟩
  · by_cases hm : mgF x = 0
    · have hz : exF x = 0 ∧ frF x = 0 := by
        have := frF_bd x
        unfold mgF at hm
        split at hm
        · exact ⟨by assumption, hm⟩
        · omega
      have P1 := fun w => parts_zero x w h0 h1 he hm
      have P2 := fun w => rparts_zero x w h0 h1 hz.1 hz.2
      generalize x.toNat = X at *
      clear he hm hz
      go_enter Tryd.func3, Tryd.ntmps3
      go_wp2_with fail
      refine (awake_any _ HD.out).mono ?_
      rintro r w1 ⟨rfl, rfl⟩
      go_wp2_with fail
      refine (P1 _).mono ?_
      rintro r w1 ⟨rfl, rfl⟩
      clear P1
      go_wp2_with fail
      refine (P2 _).mono ?_
      rintro r w1 ⟨rfl, rfl⟩
      clear P2
      go_wp2
      go_ret
      exact ⟨rfl, Below.refl _ _⟩
    · have P1 := fun w hd => parts_num x w h0 h1 he hm hd
      have P2 := fun w => rparts_num x w h0 h1 he hm
      generalize x.toNat = X at *
      generalize mgF x = M at *
      generalize plF x = Q at *
      generalize sgF x = s at *
      clear he hm
      go_enter Tryd.func3, Tryd.ntmps3
      go_wp2_with fail
      refine (awake_any _ HD.out).mono ?_
      rintro r w1 ⟨rfl, rfl⟩
      go_wp2_with fail
      refine (P1 _ HD.out).mono ?_
      rintro r w1 ⟨⟨o, t, ho, _, hM, _, rfl⟩, rfl⟩
      clear P1
      have G : ∃ G : Int, (if s = true then -o else o) = G := ⟨_, rfl⟩
      obtain ⟨G, hG⟩ := G
      rw [hG]
      obtain ⟨E, hE⟩ : ∃ E : Int, Q + (t : Int) = E := ⟨_, rfl⟩
      rw [hE]
      have HO : Hid (o % 2 = 1) := ho
      have HM : Hid (o * 2 ^ t = M) := hM
      have HG : Hid ((if s = true then -o else o) = G) := hG
      have HE : Hid (Q + (t : Int) = E) := hE
      clear ho hM hG hE
      go_wp2_with fail
      refine (P2 _).mono ?_
      rintro r w1 ⟨⟨p, u, hp, _, hM2, _, rfl⟩, rfl⟩
      obtain ⟨rfl, rfl⟩ := odd_unique o p t u HO.out hp (by rw [HM.out, hM2])
      rw [HG.out, HE.out]
      clear P2 hp hM2
      go_wp2
      go_ret
      exact ⟨rfl, Below.refl _ _⟩

end Go.Proofs.YtjlbbnjcdickgabDoor
