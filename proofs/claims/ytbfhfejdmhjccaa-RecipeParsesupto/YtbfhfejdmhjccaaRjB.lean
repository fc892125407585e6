/- The document's str, walked. -/
import Derived.Test.YtbfhfejdmhjccaaRjA
namespace Go.Proofs.Ytbfhfejdmhjccaa
open Go.RowKit

/-- What the document's str answers. -/
def StrP (s : List UInt8) (R : Rs (List UInt8)) (e : Ending) : Prop :=
  match R with
  | .ok t m => e = .returned (.tuple #[.string (ba t), .int .i64 ((s.length - m.length : Nat) : Int), .bool true]) ∧ Sf s m
  | .bad m => e = .returned (.tuple #[.string ⟨#[]⟩, .int .i64 ((s.length - m.length : Nat) : Int), .bool false]) ∧ Sf s m
theorem row_txt {w : World} {B : Nat} {v : Value} {out : List UInt8} (h : w.ownsRow B 5 1 v out.length (Lib.byteCells out)) : (convert 66 9 v).run Try.prog w = .ok (.string (ba out)) w := by
  rcases h.2 with ⟨rfl, h0⟩ | ⟨k, cap, cur, rfl, hb, hg, hn, hm, hz, ht⟩
  · have e : out = [] := List.eq_nil_of_length_eq_zero h0
    rw [e]
    exact run_convert_bytes_nil w 66 5 Try.underlying66 Try.underlying5 0 0 9 Try.underlying9
  · have r := run_string_row (P := Try.prog) (w := w) (src := 66) (dst := 9) (c := cap) Try.underlying66 Try.underlying5 Try.underlying9 (f := bt (ba out)) (g := k) (n := out.length) ⟨fun j hj => by
      have := h.cells (g := k) rfl j (.int .u8 ((out[j]'hj).toNat : Int)) (by simp [Lib.byteCells, hj])
      rw [bt_ba _ _ hj]
      have e : (⟨k, 0, none⟩ : Addr).add j = ⟨k, j, none⟩ := by simp [Addr.add]; exact fun h => h.symm
      rw [e] at this
      exact this, fun j hj => Lib.frozen_of_heap hg j⟩
    rw [r, ← ba_size, strFn_bt]
theorem row_put {w : World} {B : Nat} {v : Value} {out : List UInt8} (h : w.ownsRow B 5 1 v out.length (Lib.byteCells out)) (hB : B ≤ w.heap.size) (b : UInt8) (hl : out.length ≤ 1073741824) :
    ∃ p c w', (Builtin.append_ #[66, 66] 66 #[v, .slice (some ⟨w.heap.size, 0, none⟩) 1 1]).run Try.prog (w.alloc (.cells #[.int .u8 (b.toNat : Int)] 5)) = .ok (.slice p (out.length + 1) c) w' ∧ w'.ownsRow B 5 1 (.slice p (out.length + 1) c) (out ++ [b]).length (Lib.byteCells (out ++ [b])) ∧ w.grownBy w' v.ownBlock := by
  obtain ⟨i0, hi, hz0, hz1, hz2⟩ := info_parts infoU8
  obtain ⟨v', w2, hr, hown', hgrow, -, -⟩ := run_append_own_at (P := Try.prog) (w.alloc (.cells #[.int .u8 (b.toNat : Int)] 5)) B 66 66 5 i0 (.int .u8 0) 1 1 undTB hi hz0 hz1 hz2 rfl (by decide) v out.length (Lib.byteCells out) (h.alloc _) ⟨w.heap.size, 0, none⟩ 1 1 [.int .u8 (b.toNat : Int)] rfl (fun j u hj => by
      match j, hj with
      | 0, hj => simp at hj; subst hj; exact (World.cell?_alloc_new w _ _ 0).trans rfl) (by intro u hu; simp at hu; subst hu; rfl) (by unfold maxLen; omega) (by omega) (by rw [World.size_alloc]; omega)
  obtain ⟨p, c, rfl⟩ := slice_of_row hown'
  exact ⟨p, c, w2, hr, by rw [← bytes_app, List.length_append]; exact hown', (World.grownBy_alloc w _ _).trans hgrow⟩

theorem u8ne {x c : UInt8} (h : x ≠ c) : ((x.toNat : Int) == (c.toNat : Int)) = false := by
  rw [beq_eq_false_iff_ne]
  intro e
  exact h (UInt8.toNat_inj.1 (Int.ofNat_inj.1 e))

set_option maxHeartbeats 16000000 in
theorem str_any (s l : List UInt8) (w : World) (hs : s.length ≤ 16777216) (h : Sf s l) :
    Calls Try.prog 20 #[.string (ba s), .int .i64 ((s.length - l.length : Nat) : Int)] w fun e w' => StrP s (quo l) e ∧ Below w.heap.size w w' := by
  have hsz := ba_size s
  have hgs : ∀ (n : Nat) (h : n < (ba s).size), (((ba s)[n]'h).toNat : Int) = bt (ba s) n := get_bt (ba s)
  have e34 : ba [34] = ⟨#[34]⟩ := rfl
  have WC := word_any s l [34] w hs (by decide) h
  rw [e34] at WC
  generalize hR : quo l = R
  have HR : Hid ((ex [34] l).bind (fun _ l => qt l) = R) := hR
  clear hR h
  go_enter Try.func20, Try.ntmps20
  go_wp2_with fail
  refine WC.mono ?_
  rintro e w1 ⟨hW, q, rfl⟩
  clear WC
  cases hx : ex [34] l with
  | bad m =>
    rw [hx] at hW HR
    obtain ⟨rfl, hSf⟩ := hW
    go_wp2
    try rw [Exit.noGoto_ret]
    go_ret3
    rw [← HR.out]
    exact ⟨⟨rfl, hSf⟩, bel_drewN (Below.refl _ _) q⟩
  | ok u m =>
    rw [hx] at hW HR
    obtain ⟨rfl, hSf⟩ := hW
    have HS1 : Hid (Sf s m) := hSf
    have HE1 : Hid (qt m = R) := HR.out
    have HB1 : Hid (Below w.heap.size w (w.drewN q)) := bel_drewN (Below.refl _ _) q
    have hml := hSf.le
    clear hx HR hSf
    generalize w.drewN q = w1 at HB1 ⊢
    go_wp2_with fail
    go_loopg [1, 8, 9] m.length (fun gk av ov u9 wr => ∃ (n t : List UInt8) (p : Option Addr) (c : Nat), n.length ≤ gk ∧ av = .int .i64 ((s.length - n.length : Nat) : Int) ∧ ov = .slice p t.length c ∧ Hid ((qt n).pre t = R) ∧ Hid (Sf s n) ∧ Hid (wr.ownsRow w.heap.size 5 1 (.slice p t.length c) t.length (Lib.byteCells t)) ∧ Hid (Below w.heap.size w wr) ∧ Hid (t.length + n.length ≤ s.length))
    case atStart => exact ⟨m, [], none, 0, Nat.le_refl _, rfl, rfl, by unfold Hid; rw [pre_nil]; exact HE1.out, HS1, World.ownsRow_nil _ _ _ _, HB1, by show 0 + m.length ≤ _; omega⟩
    case round =>
      obtain ⟨n, t, p, c, hgk, rfl, rfl, hE, hS, hO, hB, hL⟩ := hrel
      clear HE1 HS1 HB1
      have hL' := hL.out
      cases n with
      | nil =>
        have HB : Hid (R = .bad []) := hE.out.symm
        rw [show s.length - ([] : List UInt8).length = s.length from rfl]
        have hlt : ¬ (s.length : Int) < (s.length : Int) := by omega
        have HBx : Hid (Below w.heap.size w wr) := hB
        go_wp2
        try rw [Exit.noGoto_ret]
        go_ret3
        rw [HB.out]
        exact ⟨⟨rfl, hS.out⟩, HBx.out⟩
      | cons x n =>
        obtain ⟨k1, k2, k3, k4⟩ := hS.out.cons
        have HS5 : Hid (Sf s n) := k4
        have HK3 : Hid (s.length - n.length = s.length - (x :: n).length + 1) := k3
        generalize hat : s.length - (x :: n).length = a at k1 k2 HK3 ⊢
        have HAT : Hid (s.length - (x :: n).length = a) := hat
        clear k3 k4 hat
        have hal : (a : Int) < (s.length : Int) := by omega
        simp only [List.length_cons] at hgk hL'
        by_cases e1 : x = 34
        · subst e1
          have HB : Hid (R = .ok t n) := by
            have := hE.out
            rw [qt_end] at this
            unfold Hid
            rw [← this]
            show Rs.ok (t ++ []) n = Rs.ok t n
            rw [List.append_nil]
          have hcv := row_txt hO.out
          rw [show ((34 : UInt8).toNat : Int) = 34 from rfl] at k2
          have HBx := hB
          clear hO hB
          go_wp2_with (rw [hcv])
          try rw [Exit.noGoto_ret]
          go_ret3
          rw [HB.out]
          exact ⟨⟨by rw [HK3.out]; rfl, HS5.out⟩, HBx.out⟩
        · have f1 : ((x.toNat : Int) == 34) = false := u8ne e1
          by_cases e2 : x = 10
          · subst e2
            have HB : Hid (R = .bad (10 :: n)) := by
              have := hE.out
              rw [qt_step _ (by show some (10 : UInt8) ≠ some 34; decide), wth_pl 10 n (by decide), if_pos (by decide)] at this
              exact this.symm
            rw [show ((10 : UInt8).toNat : Int) = 10 from rfl] at k2
            have HBx : Hid (Below w.heap.size w wr) := hB
            go_wp2
            try rw [Exit.noGoto_ret]
            go_ret3
            rw [HB.out]
            exact ⟨⟨by rw [HAT.out]; rfl, hS.out⟩, HBx.out⟩
          · have f2 : ((x.toNat : Int) == 10) = false := u8ne e2
            by_cases e3 : x = 9
            · subst e3
              have HB : Hid (R = .bad (9 :: n)) := by
                have := hE.out
                rw [qt_step _ (by show some (9 : UInt8) ≠ some 34; decide), wth_pl 9 n (by decide), if_pos (by decide)] at this
                exact this.symm
              rw [show ((9 : UInt8).toNat : Int) = 9 from rfl] at k2
              have HBx : Hid (Below w.heap.size w wr) := hB
              go_wp2
              try rw [Exit.noGoto_ret]
              go_ret3
              rw [HB.out]
              exact ⟨⟨by rw [HAT.out]; rfl, hS.out⟩, HBx.out⟩
            · have f3 : ((x.toNat : Int) == 9) = false := u8ne e3
              by_cases e4 : x = 92
              · subst e4
                rw [show ((92 : UInt8).toNat : Int) = 92 from rfl] at k2
                cases n with
                | nil =>
                  have HB : Hid (R = .bad []) := by
                    have := hE.out
                    rw [qt_step _ (by show some (92 : UInt8) ≠ some 34; decide), wth_one] at this
                    exact this.symm
                  have hk3 : s.length = a + 1 := HK3.out
                  have heq : ((a : Int) + 1 == (s.length : Int)) = true := by rw [beq_iff_eq]; omega
                  have HHK : Hid (s.length = a + 1) := hk3
                  clear hk3
                  have HBx : Hid (Below w.heap.size w wr) := hB
                  go_wp2
                  try rw [Exit.noGoto_ret]
                  go_ret3
                  rw [HB.out]
                  exact ⟨⟨by rw [show s.length - ([] : List UInt8).length = a + 1 from HHK.out]; rfl, HS5.out⟩, HBx.out⟩
                | cons y n =>
                  have HSy := HS5
                  obtain ⟨j1, j2, j3, j4⟩ := HS5.out.cons
                  rw [HK3.out] at j1 j2 j3
                  have HK6 : Hid (s.length - n.length = a + 1 + 1) := j3
                  have HK5 := HK3
                  clear HS5 j3
                  have HS5 : Hid (Sf s n) := j4
                  clear j4
                  have heq : ((a : Int) + 1 == (s.length : Int)) = false := by rw [beq_eq_false_iff_ne]; omega
                  have haz : (a : Int) + 1 < (s.length : Int) := by omega
                  simp only [List.length_cons] at hgk hL'
                  by_cases g110 : y = 110
                  · subst g110
                    rw [show ((110 : UInt8).toNat : Int) = 110 from rfl] at j2
                    have HE5 : Hid ((qt n).pre (t ++ [(10 : UInt8)]) = R) := by
                      have := hE.out
                      rw [qt_step _ (by show some (92 : UInt8) ≠ some 34; decide), wth_esc, show une 110 = some 10 from rfl] at this
                      unfold Hid
                      rw [← pre_cons]
                      exact this
                    obtain ⟨p5, c5, w5, hr5, T5, G5⟩ := row_put hO.out hB.out.size (10 : UInt8) (by omega)
                    have hh : (t ++ [(10 : UInt8)]).length = t.length + 1 := by rw [List.length_append]; rfl
                    have HT5 : Hid (w5.ownsRow w.heap.size 5 1 (.slice p5 (t ++ [10]).length c5) (t ++ [10]).length (Lib.byteCells (t ++ [10]))) := by unfold Hid; rw [hh] at T5 ⊢; exact T5
                    have HB5 : Hid (Below w.heap.size w w5) := hB.out.grown G5 hB.out.size (fun k hk => (hO.out.lt k hk).1)
                    have HL5 : Hid ((t ++ [10]).length + n.length ≤ s.length) := by unfold Hid; rw [hh]; omega
                    have HH5 : Hid ((t ++ [(10 : UInt8)]).length = t.length + 1) := hh
                    clear T5 G5 hO hB hh
                    go_wp2_with (first | (refine wpList_app_is (by rfl) 66 66 (.tmp 62) (.tmp 64) (by rfl) _ _ _ _ (by rfl) (by rfl) hr5 ?_))
                    go_roundg (gk - 1)
                    case measure => omega
                    case rel => exact ⟨n, t ++ [10], p5, c5, by omega, by rw [HK6.out]; go_num, by rw [HH5.out], HE5, HS5, HT5, HB5, HL5⟩
                  · have m1 : ((y.toNat : Int) == 110) = false := u8ne g110
                    by_cases g116 : y = 116
                    · subst g116
                      rw [show ((116 : UInt8).toNat : Int) = 116 from rfl] at j2
                      have HE5 : Hid ((qt n).pre (t ++ [(9 : UInt8)]) = R) := by
                        have := hE.out
                        rw [qt_step _ (by show some (92 : UInt8) ≠ some 34; decide), wth_esc, show une 116 = some 9 from rfl] at this
                        unfold Hid
                        rw [← pre_cons]
                        exact this
                      obtain ⟨p5, c5, w5, hr5, T5, G5⟩ := row_put hO.out hB.out.size (9 : UInt8) (by omega)
                      have hh : (t ++ [(9 : UInt8)]).length = t.length + 1 := by rw [List.length_append]; rfl
                      have HT5 : Hid (w5.ownsRow w.heap.size 5 1 (.slice p5 (t ++ [9]).length c5) (t ++ [9]).length (Lib.byteCells (t ++ [9]))) := by unfold Hid; rw [hh] at T5 ⊢; exact T5
                      have HB5 : Hid (Below w.heap.size w w5) := hB.out.grown G5 hB.out.size (fun k hk => (hO.out.lt k hk).1)
                      have HL5 : Hid ((t ++ [9]).length + n.length ≤ s.length) := by unfold Hid; rw [hh]; omega
                      have HH5 : Hid ((t ++ [(9 : UInt8)]).length = t.length + 1) := hh
                      clear T5 G5 hO hB hh
                      go_wp2_with (first | (refine wpList_app_is (by rfl) 66 66 (.tmp 62) (.tmp 64) (by rfl) _ _ _ _ (by rfl) (by rfl) hr5 ?_))
                      go_roundg (gk - 1)
                      case measure => omega
                      case rel => exact ⟨n, t ++ [9], p5, c5, by omega, by rw [HK6.out]; go_num, by rw [HH5.out], HE5, HS5, HT5, HB5, HL5⟩
                    · have m2 : ((y.toNat : Int) == 116) = false := u8ne g116
                      by_cases g34 : y = 34
                      · subst g34
                        rw [show ((34 : UInt8).toNat : Int) = 34 from rfl] at j2
                        have HE5 : Hid ((qt n).pre (t ++ [(34 : UInt8)]) = R) := by
                          have := hE.out
                          rw [qt_step _ (by show some (92 : UInt8) ≠ some 34; decide), wth_esc, show une 34 = some 34 from rfl] at this
                          unfold Hid
                          rw [← pre_cons]
                          exact this
                        obtain ⟨p5, c5, w5, hr5, T5, G5⟩ := row_put hO.out hB.out.size (34 : UInt8) (by omega)
                        have hh : (t ++ [(34 : UInt8)]).length = t.length + 1 := by rw [List.length_append]; rfl
                        have HT5 : Hid (w5.ownsRow w.heap.size 5 1 (.slice p5 (t ++ [34]).length c5) (t ++ [34]).length (Lib.byteCells (t ++ [34]))) := by unfold Hid; rw [hh] at T5 ⊢; exact T5
                        have HB5 : Hid (Below w.heap.size w w5) := hB.out.grown G5 hB.out.size (fun k hk => (hO.out.lt k hk).1)
                        have HL5 : Hid ((t ++ [34]).length + n.length ≤ s.length) := by unfold Hid; rw [hh]; omega
                        have HH5 : Hid ((t ++ [(34 : UInt8)]).length = t.length + 1) := hh
                        clear T5 G5 hO hB hh
                        go_wp2_with (first | (refine wpList_app_is (by rfl) 66 66 (.tmp 62) (.tmp 64) (by rfl) _ _ _ _ (by rfl) (by rfl) hr5 ?_))
                        go_roundg (gk - 1)
                        case measure => omega
                        case rel => exact ⟨n, t ++ [34], p5, c5, by omega, by rw [HK6.out]; go_num, by rw [HH5.out], HE5, HS5, HT5, HB5, HL5⟩
                      · have m3 : ((y.toNat : Int) != 34) = true := by rw [bne_iff_ne]; intro e; exact g34 (UInt8.toNat_inj.1 (Int.ofNat_inj.1 e))
                        by_cases g92 : y = 92
                        · subst g92
                          rw [show ((92 : UInt8).toNat : Int) = 92 from rfl] at j2
                          have HE5 : Hid ((qt n).pre (t ++ [(92 : UInt8)]) = R) := by
                            have := hE.out
                            rw [qt_step _ (by show some (92 : UInt8) ≠ some 34; decide), wth_esc, show une 92 = some 92 from rfl] at this
                            unfold Hid
                            rw [← pre_cons]
                            exact this
                          obtain ⟨p5, c5, w5, hr5, T5, G5⟩ := row_put hO.out hB.out.size (92 : UInt8) (by omega)
                          have hh : (t ++ [(92 : UInt8)]).length = t.length + 1 := by rw [List.length_append]; rfl
                          have HT5 : Hid (w5.ownsRow w.heap.size 5 1 (.slice p5 (t ++ [92]).length c5) (t ++ [92]).length (Lib.byteCells (t ++ [92]))) := by unfold Hid; rw [hh] at T5 ⊢; exact T5
                          have HB5 : Hid (Below w.heap.size w w5) := hB.out.grown G5 hB.out.size (fun k hk => (hO.out.lt k hk).1)
                          have HL5 : Hid ((t ++ [92]).length + n.length ≤ s.length) := by unfold Hid; rw [hh]; omega
                          have HH5 : Hid ((t ++ [(92 : UInt8)]).length = t.length + 1) := hh
                          clear T5 G5 hO hB hh
                          go_wp2_with (first | (refine wpList_app_is (by rfl) 66 66 (.tmp 62) (.tmp 64) (by rfl) _ _ _ _ (by rfl) (by rfl) hr5 ?_))
                          go_roundg (gk - 1)
                          case measure => omega
                          case rel => exact ⟨n, t ++ [92], p5, c5, by omega, by rw [HK6.out]; go_num, by rw [HH5.out], HE5, HS5, HT5, HB5, HL5⟩
                        · have m4 : ((y.toNat : Int) != 92) = true := by rw [bne_iff_ne]; intro e; exact g92 (UInt8.toNat_inj.1 (Int.ofNat_inj.1 e))
                          have m3' : ((y.toNat : Int) == 34) = false := u8ne g34
                          have m4' : ((y.toNat : Int) == 92) = false := u8ne g92
                          have HB : Hid (R = .bad (y :: n)) := by
                            have := hE.out
                            rw [qt_step _ (by show some (92 : UInt8) ≠ some 34; decide), wth_esc, show une y = none by unfold une; rw [if_neg g34, if_neg g92, if_neg g110, if_neg g116]] at this
                            exact this.symm
                          have HBx : Hid (Below w.heap.size w wr) := hB
                          go_wp2
                          try rw [Exit.noGoto_ret]
                          go_ret3
                          rw [HB.out]
                          exact ⟨⟨by rw [HK5.out]; rfl, HSy.out⟩, HBx.out⟩
              · have f4 : ((x.toNat : Int) == 92) = false := u8ne e4
                have HE5 : Hid ((qt n).pre (t ++ [x]) = R) := by
                  have := hE.out
                  rw [qt_step _ (fun c => e1 (by injection c)), wth_pl x n e4, if_neg (fun c => by rcases c with c | c | c <;> contradiction)] at this
                  unfold Hid
                  rw [← pre_cons]
                  exact this
                obtain ⟨p5, c5, w5, hr5, T5, G5⟩ := row_put hO.out hB.out.size x (by omega)
                have hh : (t ++ [(x : UInt8)]).length = t.length + 1 := by rw [List.length_append]; rfl
                have HT5 : Hid (w5.ownsRow w.heap.size 5 1 (.slice p5 (t ++ [x]).length c5) (t ++ [x]).length (Lib.byteCells (t ++ [x]))) := by unfold Hid; rw [hh] at T5 ⊢; exact T5
                have HB5 : Hid (Below w.heap.size w w5) := hB.out.grown G5 hB.out.size (fun k hk => (hO.out.lt k hk).1)
                have HL5 : Hid ((t ++ [x]).length + n.length ≤ s.length) := by unfold Hid; rw [hh]; omega
                have HH5 : Hid ((t ++ [(x : UInt8)]).length = t.length + 1) := hh
                clear T5 G5 hO hB hh
                go_wp2_with (first | (refine wpList_app_is (by rfl) 66 66 (.tmp 62) (.tmp 64) (by rfl) _ _ _ _ (by rfl) (by rfl) hr5 ?_))
                go_roundg (gk - 1)
                case measure => omega
                case rel => exact ⟨n, t ++ [x], p5, c5, by omega, by rw [HK3.out]; go_num, by rw [HH5.out], HE5, HS5, HT5, HB5, HL5⟩

end Go.Proofs.Ytbfhfejdmhjccaa
