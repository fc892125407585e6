/- The law TableInts, walked. -/
import Derived.Test.YtokdcnpfbdddpaaTzA
namespace Go.Proofs.Ytokdcnpfbdddpaa
namespace TI
open Go.RowKit

set_option maxRecDepth 100000 in
set_option maxHeartbeats 8000000 in
theorem ints_walk (x y : Option Addr) (n m c d : Nat) (f g : Nat → Int) (w : World) (hn : n ≤ 17592186043904) (hnc : n ≤ c) (_hm : m ≤ 17592186043904) (hx : ISl w x n f) (hy : ISl w y m g) :
    Calls Try.prog 4 #[.slice x n c, .slice y m d] w fun e w' => e = .returned (.bool true) ∧ Below w.heap.size w w' := by
  have HX : Hid (ISl w x n f) := hx
  have HY : Hid (ISl w y m g) := hy
  clear hx hy
  have q1 : decide (((BT.E : BT Int).cnt : Int) < ((BT.wth ltK 5 1 .E).cnt : Int)) = true := by decide
  have q2 : decide (((BT.wth ltK 5 1 .E).cnt : Int) < ((BT.wth ltK 5 2 (BT.wth ltK 5 1 .E)).cnt : Int)) = false := by decide
  have q3 : decide (((BT.wtout ltK (BT.wth ltK 5 2 (BT.wth ltK 5 1 .E)) 5).cnt : Int) < ((BT.wth ltK 5 2 (BT.wth ltK 5 1 .E)).cnt : Int)) = true := by decide
  have q4 : decide (((BT.wtout ltK (BT.wtout ltK (BT.wth ltK 5 2 (BT.wth ltK 5 1 .E)) 5) 5).cnt : Int) < ((BT.wtout ltK (BT.wth ltK 5 2 (BT.wth ltK 5 1 .E)) 5).cnt : Int)) = false := by decide
  have q5 : BT.wtout ltK (BT.wtout ltK (BT.wth ltK 5 2 (BT.wth ltK 5 1 .E)) 5) 5 = .E := by rfl
  have Q1 : Hid (_ = _) := q1
  have Q2 : Hid (_ = _) := q2
  have Q3 : Hid (_ = _) := q3
  have Q4 : Hid (_ = _) := q4
  have Q5 : Hid (_ = _) := q5
  clear q1 q2 q3 q4 q5
  go_enter Try.func4, Try.ntmps4
  go_wp2_with fail
  refine (new_any w).mono ?_
  rintro e w1 ⟨T, rfl, hT1, hT2, t1, b1⟩
  have HT : Hid (w.heap.size ≤ T) := hT1
  clear hT1 hT2
  go_wp2_with fail
  have CC := put_any T .E 5 1 w1 t1 (by decide)
  refine CC.mono ?_
  clear CC
  rintro e w2 ⟨rfl, t2, _, b2⟩
  rw [Q1.out]
  have B2 : Below w.heap.size w w2 := b1.trans (b2 _ HT.out)
  clear b1 b2 t1
  go_wp2_with fail
  have CC := put_any T _ 5 2 w2 t2 (by decide)
  refine CC.mono ?_
  clear CC
  rintro e w3 ⟨rfl, t3, _, b3⟩
  rw [Q2.out]
  have B3 : Below w.heap.size w w3 := B2.trans (b3 _ HT.out)
  clear b3 t2 B2
  go_wp2_with fail
  have CC := cut_any T _ 5 w3 t3 (by decide)
  refine CC.mono ?_
  clear CC
  rintro e w4 ⟨rfl, t4, _, b4⟩
  rw [Q3.out]
  have B4 : Below w.heap.size w w4 := B3.trans (b4 _ HT.out)
  clear b4 t3 B3
  go_wp2_with fail
  have CC := cut_any T _ 5 w4 t4 (by decide)
  refine CC.mono ?_
  clear CC
  rintro e w5 ⟨rfl, t5, _, b5⟩
  rw [Q4.out]
  rw [Q5.out] at t5
  have B5 : Hid (Below w.heap.size w w5) := B4.trans (b5 _ HT.out)
  have T5 : Hid (Tab w5 T .E) := t5
  clear b5 t4 B4 t5 Q1 Q2 Q3 Q4 Q5
  go_wp2
  -- @1
  go_loopw [53] (fun xi wr => ∃ (j : Nat) (u : BT Int), j ≤ n ∧ xi = .int .i64 (j : Int) ∧ Hid (Tab wr T u) ∧ Hid (S1 f j u) ∧ Hid (Below w.heap.size w wr)) (fun i _ => n - (intOf i).toNat)
  case atStart => exact ⟨0, .E, Nat.zero_le _, rfl, T5, S1.zero f, B5⟩
  case round =>
    obtain ⟨j, u, hj, rfl, TU, SU, BU⟩ := hrel
    by_cases hlt : j < n
    · obtain ⟨a, rfl, c0⟩ := HX.out.below BU.out (Nat.le_refl _) j hlt
      have CC := put_any T u (f j) (j : Int) wr TU.out (by have := SU.out.cnt; omega)
      have hok : u.Ok := by obtain ⟨_, _, _, _, ok⟩ := TU.out; exact ok
      have SU' : Hid (S1 f (j + 1) (BT.wth ltK (f j) (j : Int) u)) := SU.out.put hok
      clear hok SU
      go_wp2_with fail
      refine CC.mono ?_
      clear CC
      rintro e w6 ⟨rfl, t6, _, b6⟩
      have T6 : Hid (Tab w6 T (BT.wth ltK (f j) (j : Int) u)) := t6
      have B6 : Hid (Below w.heap.size w w6) := BU.out.trans (b6 _ HT.out)
      clear t6 b6 c0 TU BU
      generalize BT.wth ltK (f j) (j : Int) u = u' at SU' T6
      go_wp2
      go_roundw
      case rel => exact ⟨j + 1, u', by omega, by go_num, T6, SU', B6⟩
      case measure => simp [intOf]; omega
    · obtain rfl : j = n := by omega
      have S20 : Hid (S2 f j g 0 u) := S2.zero g SU.out
      clear SU T5 B5
      go_wp2
      -- @2
      go_loopw [65] (fun xi wr => ∃ (i : Nat) (u : BT Int), i ≤ m ∧ xi = .int .i64 (i : Int) ∧ Hid (Tab wr T u) ∧ Hid (S2 f j g i u) ∧ Hid (Below w.heap.size w wr)) (fun i _ => m - (intOf i).toNat)
      case atStart => exact ⟨0, u, Nat.zero_le _, rfl, TU, S20, BU⟩
      case round =>
        clear TU S20 BU
        obtain ⟨i, u, hi, rfl, TU, SU, BU⟩ := hrel
        by_cases hlt2 : i < m
        · obtain ⟨a, rfl, c0⟩ := HY.out.below BU.out (Nat.le_refl _) i hlt2
          have CC := cut_any T u (g i) wr TU.out (by have := SU.out.cnt; omega)
          have hok : u.Ok := by obtain ⟨_, _, _, _, ok⟩ := TU.out; exact ok
          have SU' : Hid (S2 f j g (i + 1) (BT.wtout ltK u (g i))) := SU.out.cut hok
          clear hok SU
          go_wp2_with fail
          refine CC.mono ?_
          clear CC
          rintro e w6 ⟨rfl, t6, _, b6⟩
          have T6 : Hid (Tab w6 T (BT.wtout ltK u (g i))) := t6
          have B6 : Hid (Below w.heap.size w w6) := BU.out.trans (b6 _ HT.out)
          clear t6 b6 c0 TU BU
          generalize BT.wtout ltK u (g i) = u' at SU' T6
          have hg0 : Hid (gb (BT.fnd ltK (g i) u') = false) := get_none SU'.out.srt (by rw [SU'.out.lk, if_pos (inU_last g i)])
          go_wp2_with fail
          have CC := get_any T u' (g i) w6 T6.out
          refine CC.mono ?_
          clear CC
          rintro e w7 ⟨rfl, b7⟩
          rw [hg0.out]
          have T7 : Hid (Tab w7 T u') := T6.out.below b7 (Nat.le_refl _)
          have B7 : Hid (Below w.heap.size w w7) := B6.out.trans (b7.mono B6.out.size)
          clear b7 T6 B6
          go_wp2
          go_roundw
          case rel => exact ⟨i + 1, u', by omega, by go_num, T7, SU', B7⟩
          case measure => simp [intOf]; omega
        · obtain rfl : i = m := by omega
          have hok : u.Ok := by obtain ⟨_, _, _, _, ok⟩ := TU.out; exact ok
          have hlen : u.toL.length = u.cnt := (BT.cnt_toL u hok).symm
          have hcn : u.cnt ≤ j := SU.out.cnt
          -- @3
          go_wp2_with fail
          have CC := keys_any T u wr TU.out (by omega)
          refine CC.mono ?_
          clear CC
          rintro e w8 ⟨v8, rfl, o8, b8⟩
          obtain ⟨z, cz, rfl, hz⟩ := own_keys o8
          have T8 : Hid (Tab w8 T u) := TU.out.below b8 (Nat.le_refl _)
          have B8 : Hid (Below w.heap.size w w8) := BU.out.trans (b8.mono BU.out.size)
          have HZ : Hid (ISl w8 z u.toL.length (kf u)) := hz
          clear o8 b8 hz TU BU
          have LE := len_any T u w8 T8.out
          rw [hlen] at HZ ⊢
          have qn : ((u.cnt : Int) != (u.cnt : Int)) = false := by simp
          go_wp2_with fail
          refine LE.mono ?_
          clear LE
          rintro e w9 ⟨rfl, rfl⟩
          go_wp2
          -- @4
          have HOK : Hid u.Ok := hok
          clear hok qn
          go_loopw [89] (fun xi wr => ∃ s : Nat, s ≤ u.cnt ∧ xi = .int .i64 (s : Int) ∧ Hid (Below w9.heap.size w9 wr)) (fun i _ => u.cnt - (intOf i).toNat)
          case atStart => exact ⟨0, Nat.zero_le _, rfl, Below.refl _ _⟩
          case round =>
            obtain ⟨s, hs, rfl, BS⟩ := hrel
            have TS : Hid (Tab wr T u) := T8.out.below BS.out (Nat.le_refl _)
            by_cases hlt3 : s < u.cnt
            · have IZ := HZ.out.below BS.out (Nat.le_refl _)
              obtain ⟨a, rfl, c0⟩ := IZ s hlt3
              have CA := tAt_any T u s wr TS.out hlt3 (by omega)
              have hcu : u.cnt ≤ 1152921504606846976 := by omega
              rcases (show s = 0 ∨ ∃ s', s = s' + 1 from by cases s with | zero => exact Or.inl rfl | succ s' => exact Or.inr ⟨s', rfl⟩) with hs0 | ⟨s', hs1⟩
              · subst hs0
                rw [addr_zero] at c0
                clear IZ
                go_wp2_with fail
                refine CA.mono ?_
                clear CA
                rintro e wA ⟨⟨k, v, rfl, hk⟩, bA⟩
                have ek := kf_is hk
                obtain ⟨hl1, hl2⟩ := get_some SU.out.srt (BT.look_at ordI SU.out.srt hk).1
                have hrk : Hid (BT.rnk ltK k u = 0) := rank_at SU.out.srt HOK.out hk
                have TA : Hid (Tab wA T u) := TS.out.below bA (Nat.le_refl _)
                have BA : Hid (Below w9.heap.size w9 wA) := BS.out.trans (bA.mono BS.out.size)
                have CG := get_any T u k wA TA.out
                rw [hl1, hl2] at CG
                clear bA TS BS hl1 hl2 hk
                rw [ek] at *
                go_wp2_with fail
                refine CG.mono ?_
                clear CG
                rintro e wB ⟨rfl, bB⟩
                have TB : Hid (Tab wB T u) := TA.out.below bB (Nat.le_refl _)
                have BB : Hid (Below w9.heap.size w9 wB) := BA.out.trans (bB.mono BA.out.size)
                have CR := tRank_any T u k wB TB.out hcu
                rw [hrk.out] at CR
                clear bB TA BA
                have z1 : (k != k) = false := by simp
                have z2 : (v != v) = false := by simp
                go_wp2_with fail
                refine CR.mono ?_
                clear CR
                rintro e wC ⟨rfl, rfl⟩
                go_wp2
                go_roundw
                case rel => exact ⟨1, by omega, by go_num, BB⟩
                case measure => simp [intOf]; omega
              · subst hs1
                obtain ⟨a', ha', c1⟩ := IZ s' (by omega)
                obtain rfl := Option.some.inj ha'
                rw [addr_succ] at c0
                have hrise := kf_rise SU.out.srt (i := s') (by omega)
                clear IZ ha'
                have hj0 : (0 : Int) < (s' : Int) + 1 := by omega
                have hj1 : (s' : Int) + 1 < (u.cnt : Int) := by omega
                have hj3 : s' < u.cnt := by omega
                have hj4 : ((s' : Int) + 1).toNat = s' + 1 := by omega
                have hj5 : ¬ ((s' : Int) + 1 < 0) := by omega
                have hj6 : IntKind.i64.wrap ((s' : Nat) : Int) = (s' : Int) := by rw [IntKind.wrap_i64]; omega
                go_wp2_with fail
                refine CA.mono ?_
                clear CA
                rintro e wA ⟨⟨k, v, rfl, hk⟩, bA⟩
                have ek := kf_is hk
                obtain ⟨hl1, hl2⟩ := get_some SU.out.srt (BT.look_at ordI SU.out.srt hk).1
                have hrk : Hid (BT.rnk ltK k u = s' + 1) := rank_at SU.out.srt HOK.out hk
                have TA : Hid (Tab wA T u) := TS.out.below bA (Nat.le_refl _)
                have BA : Hid (Below w9.heap.size w9 wA) := BS.out.trans (bA.mono BS.out.size)
                have e1 : wA.cell? (a.add s') = some (.int .i64 (kf u s')) := by rw [bA.cell (World.block_lt_of_cell? _ _ c1)]; exact c1
                have CG := get_any T u k wA TA.out
                rw [hl1, hl2] at CG
                have hrise2 : ¬ k ≤ kf u s' := by rw [ek] at hrise; omega
                clear bA TS BS hl1 hl2 hk c0 c1 hrise
                rw [ek] at *
                go_wp2_with fail
                refine CG.mono ?_
                clear CG
                rintro e wB ⟨rfl, bB⟩
                have TB : Hid (Tab wB T u) := TA.out.below bB (Nat.le_refl _)
                have BB : Hid (Below w9.heap.size w9 wB) := BA.out.trans (bB.mono BA.out.size)
                have e2 : wB.cell? (a.add s') = some (.int .i64 (kf u s')) := by rw [bB.cell (World.block_lt_of_cell? _ _ e1)]; exact e1
                have CR := tRank_any T u k wB TB.out hcu
                rw [hrk.out] at CR
                clear bB TA BA e1
                have z1 : (k != k) = false := by simp
                have z2 : (v != v) = false := by simp
                go_wp2_with fail
                refine CR.mono ?_
                clear CR
                rintro e wC ⟨rfl, rfl⟩
                have z3 : (((s' + 1 : Nat) : Int) != (s' : Int) + 1) = false := by simp
                go_wp2
                go_roundw
                case rel => exact ⟨s' + 1 + 1, by omega, by go_num, BB⟩
                case measure => simp [intOf]; omega
            · clear HZ
              go_wp2
              -- @5
              have B9 : Hid (Below w.heap.size w wr) := B8.out.trans (BS.out.mono B8.out.size)
              clear T8 B8 BS
              go_loopw [146] (fun xi wr' => ∃ r : Nat, r ≤ j ∧ xi = .int .i64 (r : Int) ∧ Hid (Tab wr' T u) ∧ Hid (Below w.heap.size w wr')) (fun i _ => j - (intOf i).toNat)
              case atStart => exact ⟨0, Nat.zero_le _, rfl, TS, B9⟩
              case round =>
                clear TS B9
                obtain ⟨r, hr, rfl, TR, BR⟩ := hrel
                by_cases hlt4 : r < j
                · obtain ⟨a, rfl, c0⟩ := HX.out.below BR.out (Nat.le_refl _) r hlt4
                  go_wp2
                  -- @6
                  go_loop [22, 153] (fun gx xi => ∃ q : Nat, q ≤ i ∧ xi = .int .i64 (q : Int) ∧ gx = .bool (inU g q (f r))) (fun _ x => i - (intOf x).toNat)
                  case atStart => exact ⟨0, Nat.zero_le _, rfl, rfl⟩
                  case round =>
                    obtain ⟨q, hq, rfl, rfl⟩ := hrel
                    by_cases hlt5 : q < i
                    · obtain ⟨b, rfl, d0⟩ := HY.out.below BR.out (Nat.le_refl _) q hlt5
                      cases hu1 : inU g q (f r)
                      · have HS' : Hid (inU g (q + 1) (f r) = (g q == f r)) := by unfold Hid; rw [inU, hu1, Bool.false_or]
                        clear hu1
                        go_wp2
                        go_round
                        case rel => exact ⟨q + 1, by omega, by go_num, by rw [HS'.out]⟩
                        case measure => simp [intOf]; omega
                      · have HS' : Hid (inU g (q + 1) (f r) = true) := by unfold Hid; rw [inU, hu1, Bool.true_or]
                        clear hu1
                        go_wp2
                        go_round
                        case rel => exact ⟨q + 1, by omega, by go_num, by rw [HS'.out]⟩
                        case measure => simp [intOf]; omega
                    · obtain rfl : q = i := by omega
                      have hr4 : r + 1 ≤ j := by omega
                      have hsl := fun w => run_dropI (some a) j c (r + 1) hr4 w
                      have hcast : ((r + 1 : Nat) : Int) = (r : Int) + 1 := by omega
                      rw [hcast] at hsl
                      have IX : ISl wr (dropA (some a) c (r + 1)) (j - (r + 1)) (fun i => f (r + 1 + i)) := (HX.out.below BR.out (Nat.le_refl _)).drop hnc (r + 1)
                      generalize dropA (some a) c (r + 1) = X at hsl IX
                      have HIX : Hid (ISl wr X (j - (r + 1)) (fun i => f (r + 1 + i))) := IX
                      obtain ⟨L, hL⟩ : ∃ L, j - (r + 1) = L := ⟨_, rfl⟩
                      have HLL : Hid (j - (r + 1) = L) := hL
                      have hLb : L ≤ 17592186043904 := by omega
                      rw [hL] at hsl HIX
                      clear IX hL hcast
                      go_wp2
                      -- @7
                      clear hsl
                      go_loop [23, 169] (fun lx xi => ∃ d : Nat, d ≤ L ∧ xi = .int .i64 (d : Int) ∧ lx = .bool (noneIn f r (f r) d)) (fun _ x => L - (intOf x).toNat)
                      case atStart => exact ⟨0, Nat.zero_le _, rfl, rfl⟩
                      case round =>
                        obtain ⟨d, hd, rfl, rfl⟩ := hrel
                        by_cases hlt6 : d < L
                        · obtain ⟨b, rfl, e0⟩ := HIX.out d hlt6
                          cases hu1 : noneIn f r (f r) d
                          · have HS' : Hid (noneIn f r (f r) (d + 1) = false) := by unfold Hid; rw [noneIn, hu1, Bool.false_and]
                            clear hu1
                            go_wp2
                            go_round
                            case rel => exact ⟨d + 1, by omega, by go_num, by rw [HS'.out]⟩
                            case measure => simp [intOf]; omega
                          · have HS' : Hid (noneIn f r (f r) (d + 1) = (f (r + 1 + d) != f r)) := by unfold Hid; rw [noneIn, hu1, Bool.true_and]
                            clear hu1
                            go_wp2
                            go_round
                            case rel => exact ⟨d + 1, by omega, by go_num, by rw [HS'.out]⟩
                            case measure => simp [intOf]; omega
                        · obtain rfl : d = L := by omega
                          have CG := get_any T u (f r) wr TR.out
                          have hlk := SU.out.lk (f r)
                          clear HIX
                          -- @8
                          cases hgone : inU g q (f r)
                          · rw [hgone, if_neg (by decide)] at hlk
                            obtain ⟨v, hv⟩ := lastIx_some (f := f) hlt4
                            rw [hv] at hlk
                            obtain ⟨hg1, hg2⟩ := get_some SU.out.srt hlk
                            rw [hg1, hg2] at CG
                            cases hlast : noneIn f r (f r) d
                            · clear hgone hlast hlk hg1 hg2 hv
                              go_wp2_with fail
                              refine CG.mono ?_
                              clear CG
                              rintro e wD ⟨rfl, bD⟩
                              have TD : Hid (Tab wD T u) := TR.out.below bD (Nat.le_refl _)
                              have BD : Hid (Below w.heap.size w wD) := BR.out.trans (bD.mono BR.out.size)
                              clear bD TR BR c0
                              go_wp2
                              go_roundw
                              case rel => exact ⟨r + 1, by omega, by go_num, TD, BD⟩
                              case measure => simp [intOf]; omega
                            · have hvi : v = (r : Int) := by
                                have := lastIx_is d hlast
                                rw [show r + 1 + d = j from by have := HLL.out; omega, hv] at this
                                exact Option.some.inj this
                              subst hvi
                              have z2 : ((r : Int) != (r : Int)) = false := by simp
                              clear hgone hlast hlk hg1 hg2 hv
                              go_wp2_with fail
                              refine CG.mono ?_
                              clear CG
                              rintro e wD ⟨rfl, bD⟩
                              have TD : Hid (Tab wD T u) := TR.out.below bD (Nat.le_refl _)
                              have BD : Hid (Below w.heap.size w wD) := BR.out.trans (bD.mono BR.out.size)
                              clear bD TR BR c0
                              go_wp2
                              go_roundw
                              case rel => exact ⟨r + 1, by omega, by go_num, TD, BD⟩
                              case measure => simp [intOf]; omega
                          · rw [hgone, if_pos rfl] at hlk
                            have hg1 := get_none SU.out.srt hlk
                            rw [hg1] at CG
                            cases hlast : noneIn f r (f r) d
                            all_goals
                              clear hgone hlast hlk hg1
                              go_wp2_with fail
                              refine CG.mono ?_
                              clear CG
                              rintro e wD ⟨rfl, bD⟩
                              have TD : Hid (Tab wD T u) := TR.out.below bD (Nat.le_refl _)
                              have BD : Hid (Below w.heap.size w wD) := BR.out.trans (bD.mono BR.out.size)
                              clear bD TR BR c0
                              go_wp2
                              go_roundw
                              case rel => exact ⟨r + 1, by omega, by go_num, TD, BD⟩
                              case measure => simp [intOf]; omega
                · go_wp2
                  go_ret
                  exact ⟨rfl, BR.out⟩

end TI
end Go.Proofs.Ytokdcnpfbdddpaa
