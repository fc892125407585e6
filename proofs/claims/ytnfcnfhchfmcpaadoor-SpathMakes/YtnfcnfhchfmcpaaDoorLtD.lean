/- What the document's own Base32 answers: as the program's. -/
import Derived.Test.YtnfcnfhchfmcpaaDoorLtC
namespace Go.Proofs.YtnfcnfhchfmcpaaDoor
open Go.RowKit

set_option maxHeartbeats 2000000 in
theorem rb32_go (s : ByteArray) (w : World) (hs : s.size ≤ 1048576) (hp : 0 < s.size) :
    Calls Tryd.prog 25 #[.string s] w fun e w' => e = .returned (.string (b32Str s)) ∧ Below w.heap.size w w' := by
  obtain ⟨i0, hi, hz0, hz1, hz2⟩ := info_parts Tryd.hinfo5
  have hl : 5 * lf s.size ≤ 8 * s.size + 4 := by unfold lf; omega
  have hl2 : 8 * s.size ≤ 5 * lf s.size := by unfold lf; omega
  go_enter Tryd.func25, Tryd.ntmps25
  go_wp2_with fail
  refine (bits_any s w hs).mono ?_
  rintro e w1 ⟨v, rfl, O1, -, B1⟩
  obtain ⟨g, cap, rfl, hg0, hg1, hcap, RA⟩ := O1.open (by omega)
  clear O1
  have hd : Hid (b32Str s = strFn (lf s.size) (b32Fn s)) := rfl
  have hfn : Hid (∀ i, b32Fn s i = lt32 (fb s (5 * (lf s.size - 1 - i)))) := fun i => rfl
  generalize lf s.size = m at hl hl2 hd hfn
  go_wp2
  go_loopw [4, 5] (fun v i wr => ∃ k : Nat, k ≤ m ∧ i = .int .i64 (5 * (k : Int)) ∧ Own .u8 5 wr w1.heap.size v k (fun t => lt32 (fb s (5 * t))) ∧ Below w1.heap.size w1 wr) (fun _ i _ => 5 * m - (intOf i).toNat)
  case atStart => exact ⟨0, Nat.zero_le _, by simp, Own.nil _ _ _ _ _, Below.refl _ _⟩
  case round =>
    obtain ⟨k, hk, rfl, O, B⟩ := hrel
    have R := RA.below B hg1
    by_cases hlt : k < m
    · go_wp2
      go_loop [6, 7] (fun x j => ∃ c : Nat, c ≤ 5 ∧ j = .int .i64 (4 - (c : Int)) ∧ x = .int .i64 (accF s (5 * k) c)) (fun _ j => ((intOf j) + 1).toNat)
      case atStart => exact ⟨0, by omega, rfl, rfl⟩
      case round =>
        obtain ⟨c, hc, rfl, rfl⟩ := hrel
        have hy := accF_bd s (5 * k) c hc
        by_cases hc5 : c < 5
        · obtain ⟨d, hcd⟩ : ∃ d : Nat, c + d = 4 := ⟨4 - c, by omega⟩
          have hstep : Hid (accF s (5 * k) (c + 1) = accF s (5 * k) c * 2 + bitF s (5 * k + d)) := by
            unfold Hid; rw [accF, show 4 - c = d from by omega]
          rw [show (4 - (c : Int)) = (d : Int) from by omega]
          have hbb := bitF_bd s (5 * k + d)
          by_cases hin : 5 * k + d < 8 * s.size
          · have c1 := R.cell (5 * k + d) hin
            generalize accF s (5 * k) c = y at hy hstep ⊢
            generalize bitF s (5 * k + d) = z at hbb hstep c1 ⊢
            go_wp2
            go_round
            case rel => exact ⟨c + 1, by omega, by congr 1; omega, by rw [hstep.out]⟩
            case measure => simp [intOf]
          · have hz : Hid (bitF s (5 * k + d) = 0) := bitF_zero s _ (by omega)
            generalize accF s (5 * k) c = y at hy hstep ⊢
            go_wp2
            go_round
            case rel => exact ⟨c + 1, by omega, by congr 1; omega, by rw [hstep.out, hz.out, Int.add_zero]⟩
            case measure => simp [intOf]
        · obtain rfl : c = 5 := by omega
          have hd2 := get_bt ⟨#[48, 49, 50, 51, 52, 53, 54, 55, 56, 57, 97, 98, 99, 100, 102, 103, 104, 105, 106, 107, 108, 109, 110, 112, 113, 114, 115, 118, 119, 120, 121, 122]⟩
          have he : Hid (bt ⟨#[48, 49, 50, 51, 52, 53, 54, 55, 56, 57, 97, 98, 99, 100, 102, 103, 104, 105, 106, 107, 108, 109, 110, 112, 113, 114, 115, 118, 119, 120, 121, 122]⟩ (accF s (5 * k) 5).toNat = lt32 (fb s (5 * k))) := by
            unfold Hid
            rw [accF_fb]
            rfl
          generalize accF s (5 * k) 5 = y at hy he ⊢
          have hsz := B.size
          go_wp2_with (at_builtin; refine wpList_append_one _ rfl _ _ 39 rfl w1.heap.size 5 i0 .u8 1 Tryd.underlying39 hi hz0 hz1 hz2 (by decide) _ k _ rfl (O.alloc _) _ 1 _ rfl ?c1 he.out (by omega) (by simp; omega) ?_)
          intro v' w2 O' b' _
          have B' : Below w1.heap.size w1 w2 := (B.alloc hsz _).trans b'
          clear O B b' R
          go_wp2
          go_roundw
          case rel => exact ⟨k + 1, by omega, by congr 1, O', B'⟩
          case measure => simp [intOf]; omega
    · obtain rfl : k = m := by omega
      obtain ⟨gt, capt, rfl, hgt0, hgt1, hcapt, RT⟩ := O.open (by omega)
      have BW : Below w.heap.size w wr := B1.trans (B.mono B1.size)
      clear O B R
      go_wp2_with fail
      rw [run_make (P := Tryd.prog) wr 39 5 i0 (.int .u8 0) Tryd.underlying39 hi hz0 .i64 .i64 _ _ (by omega) (by omega) (by rw [hz2]; omega) (by omega)]
      have R0 : Row .u8 (wr.alloc (.cells (madeCells (Value.int .u8 0).cells ((k : Int).toNat * i0.size)) 5)) wr.heap.size k (fun _ => 0) := Row.made (by rw [hz1]; omega)
      have RT0 : Row .u8 (wr.alloc (.cells (madeCells (Value.int .u8 0).cells ((k : Int).toNat * i0.size)) 5)) gt k (fun t => lt32 (fb s (5 * t))) := RT.alloc hgt1 _
      have B0 : Below w.heap.size w (wr.alloc (.cells (madeCells (Value.int .u8 0).cells ((k : Int).toNat * i0.size)) 5)) := BW.alloc BW.size _
      have hG : w.heap.size ≤ wr.heap.size := BW.size
      generalize wr.alloc (.cells (madeCells (Value.int .u8 0).cells ((k : Int).toNat * i0.size)) 5) = W1 at R0 B0 RT0 ⊢
      rw [Int.toNat_natCast]
      clear hi hz0 hz1 hz2 RT BW RA B1
      generalize wr.heap.size = go_ at *
      go_wp2
      go_loopw [9] (fun i wq => ∃ j : Nat, j ≤ k ∧ i = .int .i64 j ∧ Row .u8 wq go_ k (fun t => if k - j ≤ t then b32Fn s t else 0) ∧ Row .u8 wq gt k (fun t => lt32 (fb s (5 * t))) ∧ Below w.heap.size w wq) (fun i _ => k - (intOf i).toNat)
      case atStart => exact ⟨0, Nat.zero_le _, rfl, R0.congr (fun j hj => by rw [if_neg (by omega)]), RT0, B0⟩
      case round =>
        obtain ⟨j, hj, rfl, R, RT, B⟩ := hrel
        by_cases hjl : j < k
        · have c1 := R.cell (k - 1 - j) (by omega)
          have f1 := R.free (k - 1 - j) (by omega)
          have c2 := RT.cell j hjl
          have he : Hid (lt32 (fb s (5 * j)) = b32Fn s (k - 1 - j)) := by
            unfold Hid
            rw [hfn.out, show k - 1 - (k - 1 - j) = j from by omega]
          go_wp2
          go_roundw
          case rel =>
            rw [he.out]
            refine ⟨j + 1, by omega, by go_num, (R.set (k - 1 - j) _ (by omega)).congr (fun t ht => ?_), RT.other _ _ (by simp; omega), B.setCell hG _⟩
            by_cases a1 : t = k - 1 - j
            · rw [if_pos a1, if_pos (by omega), a1]
            · rw [if_neg a1]
              by_cases h : k - j ≤ t
              · rw [if_pos h, if_pos (by omega)]
              · rw [if_neg h, if_neg (by omega)]
          case measure => simp [intOf]; omega
        · have c1 := run_string_row (P := Tryd.prog) (src := 39) (dst := 9) (c := k) Tryd.underlying39 Tryd.underlying5 Tryd.underlying9 R
          obtain rfl : j = k := by omega
          rw [show strFn j (fun t => if j - j ≤ t then b32Fn s t else 0) = b32Str s from by rw [hd.out]; exact strFn_congr (fun t ht => by rw [if_pos (by omega)])] at c1
          go_wp2
          go_ret
          exact ⟨rfl, B⟩

theorem rb32_any (s : ByteArray) (w : World) (hs : s.size ≤ 1048576) :
    Calls Tryd.prog 25 #[.string s] w fun e w' => e = .returned (.string (b32Str s)) ∧ Below w.heap.size w w' := by
  by_cases h : s.size = 0
  · have e : b32Str s = ⟨#[]⟩ := by unfold b32Str; rw [h]; rfl
    rw [e]
    exact rb32_zero s w h
  · exact rb32_go s w hs (by omega)
#print axioms rb32_any
end Go.Proofs.YtnfcnfhchfmcpaaDoor
