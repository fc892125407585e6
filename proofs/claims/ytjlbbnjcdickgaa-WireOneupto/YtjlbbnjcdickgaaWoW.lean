/- The law WireOne. -/
import Derived.Test.YtjlbbnjcdickgaaWrG
namespace Go.Proofs.Ytjlbbnjcdickgaa
open Go.RowKit

set_option maxHeartbeats 4000000 in
theorem one_walk (tl pl : List UInt8) (most : Int) (w : World) (ht : tl.length ≤ 1048576) (hl : pl.length ≤ 1048576) (hm1 : most ≤ 9223372036854775807) :
    Calls Try.prog 8 #[.string (ba tl), .string (ba pl), .int .i64 most] w fun e w' => e = .returned (.bool true) ∧ Below w.heap.size w w' := by
  go_enter Try.func8, Try.ntmps8
  go_wp2_with fail
  refine (awake_any w).mono ?_
  rintro e w1 ⟨rfl, b1⟩
  go_wp2_with fail
  refine (split_any tl pl most _ (by omega) (by omega) hm1).mono ?_
  rintro e w2 ⟨r, L, rfl, O, hL, hN, b2⟩
  have B2 : Hid (Below w.heap.size w w2) := b1.trans (b2.mono b1.size)
  have HP := one_pure tl pl most.toNat
  clear b1 b2
  generalize sp tl pl most.toNat = S at hL hN HP ⊢
  by_cases h0 : S.code = 0
  · have hL' := hL h0
    subst hL'
    obtain ⟨p1, p2, p3⟩ := HP h0
    rw [h0]
    have hlen : S.out.length = pl.length := by rw [← p2, List.length_map]
    have FC : Hid (∀ w : World, OwnI w 0 r S.out → Calls Try.prog 28 #[r] w fun e w' => e = .returned (.tuple #[.string (ba tl), .string (ba pl)]) ∧ Below w.heap.size w w') := fun w O => by
      have h := frm_any r S.out w O (fun i hi => ⟨(p3 i hi).1, by have := (p3 i hi).2; omega⟩) (by omega) (by rw [p1]; omega)
      rw [p1, p2] at h
      exact h
    have HO : Hid (OwnI w2 0 r S.out) := O.mono (Nat.zero_le _)
    clear p1 p2 p3 hlen hN HP hL O
    go_wp2_with fail
    refine (FC.out _ (HO.out.alloc _)).mono ?_
    rintro e w3 ⟨rfl, b3⟩
    have B3 : Hid (Below w.heap.size w w3) := (B2.out.alloc B2.out.size _).trans (b3.mono (by rw [World.size_alloc]; have := B2.out.size; omega))
    clear b3
    go_wp2
    go_ret
    exact ⟨rfl, B3.out⟩
  · obtain ⟨-, rfl⟩ := hN h0
    have g0 : ((S.code : Int) == 0) = false := by simp; omega
    have g1 : (S.code : Int) ≠ 0 := by omega
    clear hL HP O
    go_wp2
    go_ret
    exact ⟨rfl, B2.out.alloc B2.out.size _⟩

theorem one_walkF (s p : ByteArray) (m : Int) (w : World) (hs : s.size ≤ 1048576) (hp : p.size ≤ 1048576) (_ : -9223372036854775808 ≤ m) (hm1 : m ≤ 9223372036854775807) :
    Calls Try.prog 8 #[.string s, .string p, .int .i64 m] w fun e w' => e = .returned (.bool true) ∧ Below w.heap.size w w' := by
  have h := one_walk s.data.toList p.data.toList m w (by rw [← ba_size, ba_list]; exact hs) (by rw [← ba_size, ba_list]; exact hp) hm1
  rw [ba_list, ba_list] at h
  exact h

end Go.Proofs.Ytjlbbnjcdickgaa
