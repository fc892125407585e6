/- The law NarOne, walked (own text of the verifier). -/
import Derived.Test.YtpbgmknebhnonaaNwA
namespace Go.Proofs.Ytpbgmknebhnonaa
open Go.RowKit

/-- Two blocks with a node and a fault. -/
theorem two_blk (w : World) (T : Tr) (v : Value) (F1 F2 : Int) : St ((w.alloc (.cells #[.int .i64 T.k, .bool T.e, .string T.t, v] 25)).alloc (.cells #[.int .i64 F1, .int .i64 F2] 34)) w.heap.size [.int .i64 T.k, .bool T.e, .string T.t, v] ∧ St ((w.alloc (.cells #[.int .i64 T.k, .bool T.e, .string T.t, v] 25)).alloc (.cells #[.int .i64 F1, .int .i64 F2] 34)) (w.heap.size + 1) [.int .i64 F1, .int .i64 F2] ∧ Below w.heap.size w ((w.alloc (.cells #[.int .i64 T.k, .bool T.e, .string T.t, v] 25)).alloc (.cells #[.int .i64 F1, .int .i64 F2] 34)) := by
  refine ⟨(St.new w _ _).same (by simp only [World.size_alloc]; omega) (Below.heap_alloc _ _ _ (by rw [World.size_alloc]; omega)), ?_, ((Below.refl _ _).alloc (Nat.le_refl _) _).alloc (by rw [World.size_alloc]; omega) _⟩
  have := St.new (w.alloc (.cells #[.int .i64 T.k, .bool T.e, .string T.t, v] 25)) #[.int .i64 F1, .int .i64 F2] 34
  rw [World.size_alloc] at this
  exact this
theorem at_zero (w : World) : At w 1 (.agg #[.int .i64 0, .bool false, .string ⟨#[]⟩, .slice none 0 0]) (.mk 0 false ⟨#[]⟩ [] []) := ⟨none, 0, 0, rfl, rfl, rfl, Nat.le_refl _, by decide, Or.inl rfl⟩
theorem ln_zero : lnT (.mk 0 false ⟨#[]⟩ [] []) := by rw [lnT]; exact ⟨by decide, by rw [lnL]; trivial⟩

set_option maxHeartbeats 16000000 in
set_option maxRecDepth 10000 in
theorem none_walk (b : ByteArray) (w : World) (hb : b.size ≤ 1048576) :
    Calls Try.prog 8 #[.string b] w fun en w' => en = .returned (.bool true) ∧ Below w.heap.size w w' := by
  obtain ⟨l, rfl⟩ : ∃ l, b = NB.ba l := ⟨b.data.toList, (NB.ba_list b).symm⟩
  have hz1 : (NB.ba l).size = l.length := NB.ba_size l
  have hl : l.length ≤ 1048576 := by rw [hz1] at hb; exact hb
  clear hb
  go_enter Try.func8, Try.ntmps8
  go_wp2_with fail
  refine (awN w).mono ?_
  rintro e1 w1 ⟨rfl, b1⟩
  have HB1 : Hid (Below w.heap.size w w1) := b1
  clear b1
  have CP := parse_any l w1 (by omega)
  go_wp2_with fail
  refine CP.mono ?_
  rintro e2 w2 ⟨⟨v, fr, rfl, hT, _⟩, b2⟩
  clear CP
  have HB2 : Hid (Below w.heap.size w w2) := HB1.out.trans (b2.mono HB1.out.size)
  obtain ⟨xx, nn, cc, rfl⟩ : ∃ x n c, v = .slice x n c := by obtain ⟨x, c, h⟩ := hT.shape; exact ⟨x, _, c, h⟩
  have HT : Hid (TrV w2 w1.heap.size (prs l).ansT (.slice xx nn cc) fr) := hT
  have HA := prs_ans l
  clear hT b2 HB1
  rcases HA with ⟨a1, a2, a3, a4, a5, a6, a7⟩ | ⟨a1, a2, a3, a4⟩
  · rw [a2] at HT
    rw [a1, a2]
    clear a1 a2
    generalize (prs l).c.root = T at *
    obtain ⟨s1, s2, b3⟩ := two_blk w2 T (.slice xx nn cc) 0 0
    obtain ⟨M, hM⟩ := TrV.at T _ fr HT.out a7
    have HM : Hid (At ((w2.alloc (.cells #[.int .i64 T.k, .bool T.e, .string T.t, .slice xx nn cc] 25)).alloc (.cells #[.int .i64 0, .int .i64 0] 34)) M (.agg #[.int .i64 T.k, .bool T.e, .string T.t, .slice xx nn cc]) T) := hM.below b3
    have HB3 : Hid (Below w.heap.size w ((w2.alloc (.cells #[.int .i64 T.k, .bool T.e, .string T.t, .slice xx nn cc] 25)).alloc (.cells #[.int .i64 0, .int .i64 0] 34))) := HB2.out.trans (b3.mono HB2.out.size)
    have HS : Hid (smT T ∧ wfT T) := ⟨a4, a5⟩
    have hser : serT T = (NB.ba l, 0) := by unfold serT; rw [if_neg (by omega), ← a3]
    clear hM HT HB2 b3 a3 a4 a5 a7
    go_upto_region 4 with fail
    obtain ⟨D, hD⟩ : ∃ D, w2.heap.size = D := ⟨_, rfl⟩
    rw [hD] at s1 s2 ⊢
    clear hD
    generalize (w2.alloc (.cells #[.int .i64 T.k, .bool T.e, .string T.t, .slice xx nn cc] 25)).alloc (.cells #[.int .i64 0, .int .i64 0] 34) = w3 at *
    have HS1 : Hid (St w3 D [.int .i64 T.k, .bool T.e, .string T.t, .slice xx nn cc]) := s1
    have y0 := s2.get 0 _ rfl
    have y1 := s2.get 1 _ rfl
    have u0 := s1.get 0 _ rfl
    have u1 := s1.get 1 _ rfl
    have u2 := s1.get 2 _ rfl
    have u3 := s1.get 3 _ rfl
    clear s1 s2
    have CK := check_tree M _ T w3 HM.out HS.out.1
    rw [a6] at CK
    obtain ⟨P, hP⟩ : ∃ P, (ckT T).1 = P := ⟨_, rfl⟩
    rw [hP] at CK
    clear hP
    go_wp2_with fail
    refine CK.mono ?_
    rintro e4 w4 ⟨rfl, b4⟩
    clear CK u0 u1 u2 u3 y0 y1
    have HS4 : Hid (St w4 D [.int .i64 T.k, .bool T.e, .string T.t, .slice xx nn cc]) := HS1.out.same b4.size (b4.block _ HS1.out.lt)
    have HM4 : Hid (At w4 M (.agg #[.int .i64 T.k, .bool T.e, .string T.t, .slice xx nn cc]) T) := HM.out.below b4
    have HB4 : Hid (Below w.heap.size w w4) := HB3.out.trans (b4.mono HB3.out.size)
    clear b4 HS1 HM HB3
    have u0 := HS4.out.get 0 _ rfl
    have u1 := HS4.out.get 1 _ rfl
    have u2 := HS4.out.get 2 _ rfl
    have u3 := HS4.out.get 3 _ rfl
    have CS := nserial_any M _ _ _ _ _ _ T w4 HM4.out HS.out.1 HS.out.2
    rw [hser] at CS
    go_wp2_with fail
    refine CS.mono ?_
    rintro e5 w5 ⟨rfl, b5⟩
    have HB5 : Hid (Below w.heap.size w w5) := HB4.out.trans (b5.mono HB4.out.size)
    clear CS b5 u0 u1 u2 u3 HB4 HM4 HS4
    go_wp2
    go_ret
    exact ⟨rfl, HB5.out⟩
  · rw [a4] at HT
    rw [a4]
    obtain ⟨F, hF⟩ : ∃ F, (prs l).ansF = F := ⟨_, rfl⟩
    rw [hF] at a1 a2 a3 ⊢
    clear hF a4
    dsimp only [Tr.k, Tr.e, Tr.t]
    obtain ⟨c, a⟩ := F
    dsimp only at a1 a2 a3 ⊢
    obtain ⟨s1, s2, b3⟩ := two_blk w2 (.mk 0 false ⟨#[]⟩ [] []) (.slice xx nn cc) c a
    obtain ⟨M, hM⟩ := TrV.at _ _ fr HT.out ln_zero
    have HM : Hid (At ((w2.alloc (.cells #[.int .i64 0, .bool false, .string ⟨#[]⟩, .slice xx nn cc] 25)).alloc (.cells #[.int .i64 c, .int .i64 a] 34)) M (.agg #[.int .i64 0, .bool false, .string ⟨#[]⟩, .slice xx nn cc]) (.mk 0 false ⟨#[]⟩ [] [])) := hM.below b3
    have HB3 : Hid (Below w.heap.size w ((w2.alloc (.cells #[.int .i64 0, .bool false, .string ⟨#[]⟩, .slice xx nn cc] 25)).alloc (.cells #[.int .i64 c, .int .i64 a] 34))) := HB2.out.trans (b3.mono HB2.out.size)
    clear hM HT HB2 b3
    have s1' : St ((w2.alloc (.cells #[.int .i64 0, .bool false, .string ⟨#[]⟩, .slice xx nn cc] 25)).alloc (.cells #[.int .i64 c, .int .i64 a] 34)) w2.heap.size [.int .i64 0, .bool false, .string ⟨#[]⟩, .slice xx nn cc] := s1
    have s2' : St ((w2.alloc (.cells #[.int .i64 0, .bool false, .string ⟨#[]⟩, .slice xx nn cc] 25)).alloc (.cells #[.int .i64 c, .int .i64 a] 34)) (w2.heap.size + 1) [.int .i64 c, .int .i64 a] := s2
    clear s1 s2
    have hcb : (c != 0) = true := by simp [a1]
    go_upto_region 4 with fail
    obtain ⟨D, hD⟩ : ∃ D, w2.heap.size = D := ⟨_, rfl⟩
    rw [hD] at s1' s2' ⊢
    clear hD
    generalize (w2.alloc (.cells #[.int .i64 0, .bool false, .string ⟨#[]⟩, .slice xx nn cc] 25)).alloc (.cells #[.int .i64 c, .int .i64 a] 34) = w3 at *
    have y0 := s2'.get 0 _ rfl
    have y1 := s2'.get 1 _ rfl
    have u0 := s1'.get 0 _ rfl
    have u1 := s1'.get 1 _ rfl
    have u2 := s1'.get 2 _ rfl
    have u3 := s1'.get 3 _ rfl
    clear s1'
    have CE := requal_any (max M 1) _ _ (.mk 0 false ⟨#[]⟩ [] []) (.mk 0 false ⟨#[]⟩ [] []) w3 (HM.out.upto (Nat.le_max_left _ _)) ((at_zero w3).upto (Nat.le_max_right _ _))
    have g0 : decide (a ≥ 0) = true := by simp; omega
    have g1 : decide (a ≤ (l.length : Int)) = true := by simp; omega
    go_wp2_with fail
    refine CE.mono ?_
    rintro e4 w4 ⟨⟨r, rfl, hr⟩, b4⟩
    have hrt : r = true := by simpa using hr
    subst hrt
    have HB4 : Hid (Below w.heap.size w w4) := HB3.out.trans (b4.mono HB3.out.size)
    have z1 := (s2'.same b4.size (b4.block _ s2'.lt)).get 1 _ rfl
    clear CE b4 hr HB3 HM s2' u0 u1 u2 u3 y0 y1
    go_wp2
    go_ret
    exact ⟨rfl, HB4.out⟩
end Go.Proofs.Ytpbgmknebhnonaa
