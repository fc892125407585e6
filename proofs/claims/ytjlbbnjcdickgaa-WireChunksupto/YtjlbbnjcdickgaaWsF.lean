/- The law WireSplits. -/
import Derived.Test.YtjlbbnjcdickgaaWsE
import Derived.Test.YtjlbbnjcdickgaaWrW
namespace Go.Proofs.Ytjlbbnjcdickgaa
open Go.RowKit

set_option maxHeartbeats 2000000 in
theorem same_any (r v : Value) (L : List It) (w : World) (OI : OwnI w 0 r L) (OJ : OwnJ w 0 v L) (hlen : L.length ≤ 1073741824) :
    Calls Try.prog 19 #[r, v, .int .i64 0] w fun e w' => e = .returned (.bool true) ∧ Below w.heap.size w w' := by
  obtain ⟨x, cap, rfl, hx⟩ : ∃ x cap, r = .slice x L.length cap ∧ (∀ k (hk : k < L.length), ∃ g, x = some ⟨g, 0, none⟩ ∧ g < w.heap.size ∧ w.cell? ⟨g, k * 3, none⟩ = some (.bool (L[k]).isInt) ∧ w.cell? ⟨g, k * 3 + 1, none⟩ = some (.int .u64 ((L[k]).num : Int)) ∧ w.cell? ⟨g, k * 3 + 2, none⟩ = some (.string (ba (L[k]).text))) := by
    rcases OI.open with ⟨rfl, rfl⟩ | ⟨g, cap, rfl, -, hg, -, hcell⟩
    · exact ⟨none, 0, rfl, fun k hk => absurd hk (by simp)⟩
    · exact ⟨_, _, rfl, fun k hk => ⟨g, rfl, hg, by rw [Nat.mul_comm]; exact (hcell k hk).1, by rw [Nat.mul_comm]; exact (hcell k hk).2.1, by rw [Nat.mul_comm]; exact (hcell k hk).2.2⟩⟩
  obtain ⟨y, cap2, rfl, hy⟩ : ∃ x cap, v = .slice x L.length cap ∧ (∀ k (hk : k < L.length), ∃ g, x = some ⟨g, 0, none⟩ ∧ g < w.heap.size ∧ w.cell? ⟨g, k * 3, none⟩ = some (.bool (L[k]).isInt) ∧ w.cell? ⟨g, k * 3 + 1, none⟩ = some (.int .u64 ((L[k]).num : Int)) ∧ w.cell? ⟨g, k * 3 + 2, none⟩ = some (.string (ba (L[k]).text))) := by
    rcases OJ.open with ⟨rfl, rfl⟩ | ⟨g, cap, rfl, -, hg, -, hcell⟩
    · exact ⟨none, 0, rfl, fun k hk => absurd hk (by simp)⟩
    · exact ⟨_, _, rfl, fun k hk => ⟨g, rfl, hg, by rw [Nat.mul_comm]; exact (hcell k hk).1, by rw [Nat.mul_comm]; exact (hcell k hk).2.1, by rw [Nat.mul_comm]; exact (hcell k hk).2.2⟩⟩
  have HX : Hid _ := hx
  have HY : Hid _ := hy
  clear hx hy OI OJ
  go_enter Try.func19, Try.ntmps19
  go_wp2
  go_loopw [19] (fun i wr => ∃ k : Nat, k ≤ L.length ∧ i = .int .i64 k ∧ Hid (Below w.heap.size w wr)) (fun i _ => L.length - (intOf i).toNat)
  case atStart => exact ⟨0, Nat.zero_le _, rfl, Below.refl _ _⟩
  case round =>
    obtain ⟨k, hk, rfl, hB⟩ := hrel
    by_cases hlt : k < L.length
    · obtain ⟨g, rfl, hg, c0, c1, c2⟩ := HX.out k hlt
      obtain ⟨f, rfl, hf, p0, p1, p2⟩ := HY.out k hlt
      have d0 : wr.cell? ⟨g, k * 3, none⟩ = _ := (hB.out.cell (p := ⟨g, k * 3, none⟩) hg).trans c0
      have d1 : wr.cell? ⟨g, k * 3 + 1, none⟩ = _ := (hB.out.cell (p := ⟨g, k * 3 + 1, none⟩) hg).trans c1
      have d2 : wr.cell? ⟨g, k * 3 + 2, none⟩ = _ := (hB.out.cell (p := ⟨g, k * 3 + 2, none⟩) hg).trans c2
      have q0 : wr.cell? ⟨f, k * 3, none⟩ = _ := (hB.out.cell (p := ⟨f, k * 3, none⟩) hf).trans p0
      have q1 : wr.cell? ⟨f, k * 3 + 1, none⟩ = _ := (hB.out.cell (p := ⟨f, k * 3 + 1, none⟩) hf).trans p1
      have q2 : wr.cell? ⟨f, k * 3 + 2, none⟩ = _ := (hB.out.cell (p := ⟨f, k * 3 + 2, none⟩) hf).trans p2
      have hwz := hB.out.size
      have hgn : g ≠ wr.heap.size := by omega
      have hfn : f ≠ wr.heap.size := by omega
      have hfn1 : f ≠ wr.heap.size + 1 := by omega
      have hgn1 : g ≠ wr.heap.size + 1 := by omega
      have hfl : f < wr.heap.size := by omega
      generalize L[k] = it at *
      clear c0 c1 c2 p0 p1 p2
      go_wp2
      go_roundw
      case rel => exact ⟨k + 1, by omega, by go_num, (hB.out.alloc hB.out.size _).alloc (by rw [World.size_alloc]; have := hB.out.size; omega) _⟩
      case measure => simp [intOf]; omega
    · obtain rfl : k = L.length := by omega
      go_wp2
      go_ret
      exact ⟨rfl, hB.out⟩

set_option maxHeartbeats 4000000 in
theorem splits_walk (tl pl : List UInt8) (most : Int) (w : World) (ht : tl.length ≤ 1048576) (hl : pl.length ≤ 1048576) (hm : most ≤ 9223372036854775807) :
    Calls Try.prog 4 #[.string (ba tl), .string (ba pl), .int .i64 most] w fun e w' => e = .returned (.bool true) ∧ Below w.heap.size w w' := by
  obtain ⟨P1, P2, P3⟩ := closed_sp tl pl most.toNat
  have CC := fun w => closed_any tl pl most w (by omega) (by omega) hm
  have RC := fun w => read_any tl pl most w (by omega) (by omega) hm
  have LB : (sp tl pl most.toNat).code = 0 → (sp tl pl most.toNat).out.length ≤ 1073741824 := fun h => by
    have := (one_pure tl pl most.toNat h).2.1
    have e := congrArg List.length this
    rw [List.length_map] at e
    omega
  go_enter Try.func4, Try.ntmps4
  go_wp2_with fail
  refine (awake_any w).mono ?_
  rintro e w1 ⟨rfl, b1⟩
  go_wp2_with fail
  refine (split_any tl pl most _ (by omega) (by omega) hm).mono ?_
  rintro e w2 ⟨r, L, rfl, O, hL, hN, b2⟩
  have B2 : Hid (Below w.heap.size w w2) := b1.trans (b2.mono b1.size)
  have HO : Hid (OwnI w2 0 r L) := O.mono (Nat.zero_le _)
  have HP : Hid (clC (readR tl pl most.toNat) pl.length = (sp tl pl most.toNat).code ∧ clA (readR tl pl most.toNat) pl.length = (sp tl pl most.toNat).fat ∧ (readR tl pl most.toNat).out = (sp tl pl most.toNat).out) := ⟨P1, P2, P3⟩
  have HC : Hid _ := CC
  have HRC : Hid _ := RC
  have HLB : Hid _ := LB
  have HL : Hid _ := hL
  have HN : Hid _ := hN
  clear P1 P2 P3 CC RC LB hL hN O b1 b2
  go_wp2_with fail
  refine (HRC.out _).mono ?_
  rintro e w3 ⟨v, rfl, OJ, b3⟩
  have B3 : Hid (Below w.heap.size w w3) := (B2.out.alloc B2.out.size _).trans (b3.mono (by rw [World.size_alloc]; have := B2.out.size; omega))
  have HO3 : Hid (OwnI w3 0 r L) := (HO.out.alloc (.cells #[.int .i64 ((sp tl pl most.toNat).code : Int), .int .i64 ((sp tl pl most.toNat).fat : Int)] 31)).same (fun k hk => b3.block k ((HO.out.alloc _).lt k hk).2)
  have HJ3 : Hid (OwnJ w3 0 v (readR tl pl most.toNat).out) := OJ.mono (Nat.zero_le _)
  have fz : ∀ j, w3.cell? ⟨w2.heap.size, j, none⟩ = #[Value.int .i64 ((sp tl pl most.toNat).code : Int), Value.int .i64 ((sp tl pl most.toNat).fat : Int)][j]? := fun j => (b3.cell (p := ⟨w2.heap.size, j, none⟩) (by rw [World.size_alloc]; show w2.heap.size < _; omega)).trans (World.cell?_alloc_new w2 _ _ j)
  have f0 := (fz 0).trans rfl
  have f1 := (fz 1).trans rfl
  have hz3 : w2.heap.size + 1 ≤ w3.heap.size := by have := b3.size; rw [World.size_alloc] at this; exact this
  obtain ⟨x, c, rfl⟩ : ∃ x c, v = .slice x (readR tl pl most.toNat).out.length c := by
    rcases OJ.open with ⟨h, h2⟩ | ⟨g, cap, h, _⟩
    · exact ⟨none, 0, by rw [h, h2]; rfl⟩
    · exact ⟨_, _, h⟩
  clear fz OJ b3
  unfold gotV
  go_wp2_with fail
  refine (HC.out _).mono ?_
  rintro e w4 ⟨rfl, b4⟩
  rw [HP.out.1, HP.out.2.1]
  have hz4 : (w3.alloc (.cells #[.slice x (readR tl pl most.toNat).out.length c, .int .i64 ((readR tl pl most.toNat).code : Int), .int .i64 ((readR tl pl most.toNat).fat : Int), .int .i64 ((readR tl pl most.toNat).tk : Int)] 36)).heap.size = w3.heap.size + 1 := World.size_alloc _ _
  have HO4 : Hid (OwnI w4 0 r L) := (HO3.out.alloc _).same (fun k hk => b4.block k ((HO3.out.alloc _).lt k hk).2)
  have HJ4 : Hid (OwnJ w4 0 (.slice x (readR tl pl most.toNat).out.length c) (sp tl pl most.toNat).out) := by
    have h := (HJ3.out.alloc (.cells #[.slice x (readR tl pl most.toNat).out.length c, .int .i64 ((readR tl pl most.toNat).code : Int), .int .i64 ((readR tl pl most.toNat).fat : Int), .int .i64 ((readR tl pl most.toNat).tk : Int)] 36))
    have h2 := h.same (w' := w4) (fun k hk => b4.block k (h.lt k hk).2)
    rw [HP.out.2.2] at h2 ⊢
    exact h2
  have f0' : w4.cell? ⟨w2.heap.size, 0, none⟩ = some (.int .i64 ((sp tl pl most.toNat).code : Int)) := (b4.cell (p := ⟨w2.heap.size, 0, none⟩) (by rw [hz4]; show w2.heap.size < _; omega)).trans ((World.cell?_alloc_old _ _ _ (by show w2.heap.size ≠ _; omega)).trans f0)
  have f1' : w4.cell? ⟨w2.heap.size, 1, none⟩ = some (.int .i64 ((sp tl pl most.toNat).fat : Int)) := (b4.cell (p := ⟨w2.heap.size, 1, none⟩) (by rw [hz4]; show w2.heap.size < _; omega)).trans ((World.cell?_alloc_old _ _ _ (by show w2.heap.size ≠ _; omega)).trans f1)
  have y0 : w4.cell? ⟨w3.heap.size, 0, none⟩ = some (.slice x (readR tl pl most.toNat).out.length c) := (b4.cell (p := ⟨w3.heap.size, 0, none⟩) (by rw [hz4]; show w3.heap.size < _; omega)).trans ((World.cell?_alloc_new w3 _ _ 0).trans rfl)
  have B4 : Hid (Below w.heap.size w w4) := (B3.out.alloc B3.out.size _).trans (b4.mono (by rw [hz4]; have := B3.out.size; omega))
  have SC : Hid ((sp tl pl most.toNat).code = 0 → Calls Try.prog 19 #[r, .slice x (readR tl pl most.toNat).out.length c, .int .i64 0] w4 fun e w' => e = .returned (.bool true) ∧ Below w4.heap.size w4 w') := fun h => by
    have hl := HL.out h
    exact same_any r _ L w4 HO4.out (by rw [hl]; exact HJ4.out) (by rw [hl]; exact HLB.out h)
  clear b4 f0 f1 hz4 HO4 HJ4 HO3 HJ3 HL HLB HP HC HRC
  generalize (readR tl pl most.toNat).out.length = nR at y0 SC ⊢
  generalize hSS : sp tl pl most.toNat = S at f0' f1' SC HN ⊢
  clear hSS
  by_cases h0 : S.code = 0
  · have SC' := SC.out h0
    rw [h0] at f0' ⊢
    clear SC
    go_wp2_with fail
    refine SC'.mono ?_
    rintro e w5 ⟨rfl, b5⟩
    go_wp2
    go_ret
    exact ⟨rfl, B4.out.trans (b5.mono B4.out.size)⟩
  · obtain ⟨-, rfl⟩ := HN.out h0
    have g0 : ((S.code : Int) == 0) = false := by simp; omega
    have g1 : (S.code : Int) ≠ 0 := by omega
    clear SC HN
    go_wp2
    go_ret
    exact ⟨rfl, B4.out⟩

theorem splits_walkF (s p : ByteArray) (m : Int) (w : World) (hs : s.size ≤ 1048576) (hp : p.size ≤ 1048576) (_ : -9223372036854775808 ≤ m) (hm1 : m ≤ 9223372036854775807) :
    Calls Try.prog 4 #[.string s, .string p, .int .i64 m] w fun e w' => e = .returned (.bool true) ∧ Below w.heap.size w w' := by
  have h := splits_walk s.data.toList p.data.toList m w (by rw [← ba_size, ba_list]; exact hs) (by rw [← ba_size, ba_list]; exact hp) hm1
  rw [ba_list, ba_list] at h
  exact h

end Go.Proofs.Ytjlbbnjcdickgaa
