/- What the document's own FromBase32 answers: as the program's. -/
import Derived.Test.YtgnlkggodchlbaaDoorLtF
namespace Go.Proofs.YtgnlkggodchlbaaDoor
open Go.RowKit

set_option maxHeartbeats 4000000 in
set_option maxRecDepth 100000 in
theorem rfb32_go (s : ByteArray) (w : World) (hs : s.size ≤ 1048576) (hp : 0 < s.size) :
    Calls Tryd.prog 42 #[.string s] w fun e w' => e = .returned (.tuple #[.string (fbStr s), .int .i64 (fbErr s)]) ∧ Below w.heap.size w w' := by
  obtain ⟨i0, hi, hz0, hz1, hz2⟩ := info_parts Tryd.hinfo5
  obtain ⟨i3, hi3, hz03, hz13, hz23⟩ := info_parts Tryd.hinfo3
  have hlen : Hid (lf (5 * s.size / 8) ≠ s.size → fbStr s = ⟨#[]⟩ ∧ fbErr s = 21) := fun h => by
    have e : fbErr s = 21 := by unfold fbErr; rw [if_neg h]
    refine ⟨?_, e⟩
    unfold fbStr; rw [e, if_neg (by omega)]
  have hbad : Hid (lf (5 * s.size / 8) = s.size → fbOk s s.size = false → fbStr s = ⟨#[]⟩ ∧ fbErr s = 20) := fun hl h => by
    have e : fbErr s = 20 := by unfold fbErr; rw [if_pos hl, h, if_neg (by simp)]
    refine ⟨?_, e⟩
    unfold fbStr; rw [e, if_neg (by omega)]
  have hspare : Hid (lf (5 * s.size / 8) = s.size → fbOk s s.size = true → fbFn (vnum s s.size) (5 * s.size / 8) ≠ 0 → fbStr s = ⟨#[]⟩ ∧ fbErr s = 22) := fun hl h g => by
    have e : fbErr s = 22 := by unfold fbErr; rw [if_pos hl, h, if_pos rfl, if_neg (by unfold fbFn at g; omega)]
    refine ⟨?_, e⟩
    unfold fbStr; rw [e, if_neg (by omega)]
  have hgood : Hid (lf (5 * s.size / 8) = s.size → fbOk s s.size = true → fbFn (vnum s s.size) (5 * s.size / 8) = 0 → fbStr s = strFn (5 * s.size / 8) (fbFn (vnum s s.size)) ∧ fbErr s = 0) := fun hl h g => by
    have e : fbErr s = 0 := by unfold fbErr; rw [if_pos hl, h, if_pos rfl, if_pos (by unfold fbFn at g; omega)]
    refine ⟨?_, e⟩
    unfold fbStr; rw [e, if_pos rfl]
  go_enter Tryd.func42, Tryd.ntmps42
  go_wp2
  go_loop [4] (fun i => ∃ k : Nat, k ≤ s.size ∧ i = .int .i64 k ∧ (k = 0 ∨ (8 * (k - 1) + 4) / 5 < s.size)) (fun i => s.size - (intOf i).toNat)
  case atStart => exact ⟨0, Nat.zero_le _, rfl, .inl rfl⟩
  case round =>
    obtain ⟨n, hn, rfl, hlow⟩ := hrel
    have HLOW : Hid (n = 0 ∨ (8 * (n - 1) + 4) / 5 < s.size) := hlow
    clear hlow
    by_cases h1 : (8 * n + 4) / 5 < s.size
    · clear hi hz0 hz1 hz2 hi3 hz03 hz13 hz23
      go_wp2
      go_round
      case rel => exact ⟨n + 1, by omega, by go_num, .inr (by rw [Nat.add_sub_cancel]; exact h1)⟩
      case measure => simp [intOf]; omega
    · by_cases h2 : (8 * n + 4) / 5 = s.size
      · have hnn : Hid (5 * s.size / 8 = n) := by unfold Hid; omega
        have hlf : Hid (lf (5 * s.size / 8) = s.size) := by unfold Hid lf; rw [hnn.out]; exact h2
        have hm : 5 * s.size ≤ 8 * n + 4 := by omega
        have hm2 : 8 * n ≤ 5 * s.size := by omega
        have t1 : ((8 * (n : Int) + 4) / 5 != (s.size : Int)) = false := by simp; omega
        have t2 : ¬ (8 * (n : Int) + 4) / 5 < (s.size : Int) := by omega
        clear h1 h2 HLOW
        go_wp2
        go_loopw [5, 6] (fun v i wr => ∃ k : Nat, k ≤ s.size ∧ i = .int .i64 ((s.size : Int) - 1 - (k : Int)) ∧ (∀ j, j < k → 0 ≤ vl (bt s (s.size - 1 - j))) ∧ Own .i64 3 wr w.heap.size v (5 * k) (vbF s) ∧ Below w.heap.size w wr) (fun _ i _ => (intOf i + 1).toNat)
        case atStart => exact ⟨0, Nat.zero_le _, by simp, fun j hj => absurd hj (by omega), Own.nil _ _ _ _ _, Below.refl _ _⟩
        case round =>
          obtain ⟨k, hk, rfl, hok, O, B⟩ := hrel
          have HOK : Hid (∀ j, j < k → 0 ≤ vl (bt s (s.size - 1 - j))) := hok
          clear hok
          by_cases hlt : k < s.size
          · obtain ⟨d, hd⟩ : ∃ d : Nat, k + d + 1 = s.size := ⟨s.size - 1 - k, by omega⟩
            have hb := get_bt s
            have hbd := bt_bd s d
            have hds : d < s.size := by omega
            rw [show ((s.size : Int) - 1 - (k : Int)) = (d : Int) from by omega]
            go_wp2_with fail
            refine (rvalue_any _ _ hbd.1 hbd.2).mono ?_
            rintro e w2 ⟨rfl, rfl⟩
            have hx := vl_spec _ hbd
            have hx0 : -1 ≤ vl (bt s d) := by omega
            have hx1 : vl (bt s d) < 32 := by omega
            clear hx
            by_cases g : vl (bt s d) < 0
            · have HB := hbad.out hlf.out (fbOk_no s s.size d hds g)
              go_wp2
              go_ret2
              rw [HB.1, HB.2]
              exact ⟨rfl, B⟩
            · have hx2 : 0 ≤ vl (bt s d) := by omega
              clear g hx0
              go_wp2
              go_loopw [5, 7, 8] (fun v x j wi => ∃ (c : Nat) (y : Int), c ≤ 5 ∧ j = .int .i64 c ∧ x = .int .i64 y ∧ 0 ≤ y ∧ y < 32 ∧ y = vl (bt s d) / 2 ^ c ∧ Own .i64 3 wi w.heap.size v (5 * k + c) (vbF s) ∧ Below w.heap.size w wi) (fun _ _ j _ => 5 - (intOf j).toNat)
              case atStart => exact ⟨0, vl (bt s d), by omega, rfl, rfl, hx2, hx1, by simp, O, B⟩
              case round =>
                obtain ⟨c, y, hc, rfl, rfl, hy0, hy1, hy, O, B⟩ := hrel
                have HY : Hid (y = vl (bt s d) / 2 ^ c) := hy
                have HX : Hid (0 ≤ vl (bt s d)) := hx2
                clear hy hbd hx1 hx2
                by_cases hcl : c < 5
                · have hbit : Hid (y % 2 = vbF s (5 * k + c)) := vbF_at s k d c hd hcl y HY.out
                  have hhalf : Hid (y / 2 = vl (bt s d) / 2 ^ (c + 1)) := half_at _ c y HY.out
                  have hsz := B.size
                  go_wp2_with (at_builtin; refine wpList_append_one _ rfl _ _ 107 rfl w.heap.size 3 i3 .i64 8 Tryd.underlying107 hi3 hz03 hz13 hz23 (by decide) _ (5 * k + c) (vbF s) rfl (O.alloc _) _ 1 (y % 2) rfl ?c1 hbit.out (by omega) (by simp; omega) ?_)
                  case c1 => simp
                  intro v' w1 O' b' _
                  have B' : Below w.heap.size w w1 := (B.alloc hsz _).trans b'
                  clear O B b'
                  go_wp2
                  go_roundw
                  case rel => exact ⟨c + 1, y / 2, by omega, by go_num, by go_num, by omega, by omega, hhalf.out, O', B'⟩
                  case measure => simp [intOf]; omega
                · obtain rfl : c = 5 := by omega
                  go_wp2
                  go_roundw
                  case rel =>
                    refine ⟨k + 1, by omega, by congr 1; omega, fun j hj => ?_, by rw [show 5 * (k + 1) = 5 * k + 5 from by omega]; exact O, B⟩
                    by_cases e : j = k
                    · rw [e, show s.size - 1 - k = d from by omega]; exact HX.out
                    · exact HOK.out j (by omega)
                  case measure => simp [intOf]
          · obtain rfl : k = s.size := by omega
            have hall : Hid (∀ j, j < s.size → 0 ≤ vl (bt s j)) := fun j hj => by
              have := HOK.out (s.size - 1 - j) (by omega)
              rw [show s.size - 1 - (s.size - 1 - j) = j from by omega] at this
              exact this
            clear HOK
            obtain ⟨ga, capa, rfl, hga0, hga1, hcapa, RA⟩ := O.open (by omega)
            have hokk : Hid (fbOk s s.size = true) := (fbOk_iff s s.size).2 hall.out
            have hxv : Hid (xN s (5 * s.size) = vnum s s.size) := xN_vnum s s.size (Nat.le_refl _) hall.out
            clear O hi3 hz03 hz13 hz23 t1 t2 hlen hbad
            go_wp2_with fail
            rw [run_make (P := Tryd.prog) wr 69 5 i0 (.int .u8 0) Tryd.underlying69 hi hz0 .i64 .i64 _ _ (by omega) (by omega) (by rw [hz2]; omega) (by omega)]
            have R0 : Row .u8 (wr.alloc (.cells (madeCells (Value.int .u8 0).cells ((n : Int).toNat * i0.size)) 5)) wr.heap.size n (fun _ => 0) := Row.made (by rw [hz1]; omega)
            have RA0 : Row .i64 (wr.alloc (.cells (madeCells (Value.int .u8 0).cells ((n : Int).toNat * i0.size)) 5)) ga (5 * s.size) (vbF s) := RA.alloc hga1 _
            have B0 : Below w.heap.size w (wr.alloc (.cells (madeCells (Value.int .u8 0).cells ((n : Int).toNat * i0.size)) 5)) := B.alloc B.size _
            have hG : w.heap.size ≤ wr.heap.size := B.size
            generalize wr.alloc (.cells (madeCells (Value.int .u8 0).cells ((n : Int).toNat * i0.size)) 5) = W1 at R0 B0 RA0 ⊢
            rw [Int.toNat_natCast]
            clear hi hz0 hz1 hz2 RA B
            generalize wr.heap.size = go_ at *
            go_wp2
            go_loopw [10] (fun i wq => ∃ k : Nat, k ≤ 5 * s.size ∧ i = .int .i64 k ∧ xN s k < 256 ^ n ∧ Row .u8 wq go_ n (fbFn (xN s k)) ∧ Row .i64 wq ga (5 * s.size) (vbF s) ∧ Below w.heap.size w wq) (fun i _ => 5 * s.size - (intOf i).toNat)
            case atStart => exact ⟨0, Nat.zero_le _, rfl, Nat.pow_pos (by omega), R0.congr (fun j _ => by simp [fbFn, xN, num]), RA0, B0⟩
            case round =>
              obtain ⟨k, hk, rfl, hroom, R, RA, B⟩ := hrel
              have HR : Hid (xN s k < 256 ^ n) := hroom
              clear hroom
              by_cases hlt2 : k < 5 * s.size
              · have c1 := RA.cell k hlt2
                have hvb := vbF_bd s k
                by_cases hz : vbF s k = 0
                · have t3 : (vbF s k == 0) = true := by rw [hz]; rfl
                  have HZ : Hid (vbF s k = 0) := hz
                  clear hz
                  go_wp2
                  go_roundw
                  case rel => exact ⟨k + 1, by omega, by go_num, by rw [xN_zero s k HZ.out]; exact HR.out, by rw [xN_zero s k HZ.out]; exact R, RA, B⟩
                  case measure => simp [intOf]; omega
                · have t3 : (vbF s k == 0) = false := by rw [beq_eq_false_iff_ne]; exact hz
                  have HZ : Hid (vbF s k = 1) := by unfold Hid; omega
                  clear hz
                  by_cases h8 : 8 * n ≤ k
                  · have HB := hspare.out hlf.out hokk.out (by rw [hnn.out, ← hxv.out]; exact spare_bad s n k hlt2 HZ.out h8 hm)
                    have HB1 : Hid (fbStr s = ⟨#[]⟩) := HB.1
                    have HB2 : Hid (fbErr s = 22) := HB.2
                    clear HB
                    go_wp2
                    go_ret2
                    rw [HB1.out, HB2.out]
                    exact ⟨rfl, B⟩
                  · have hlt8 : k / 8 < n := by omega
                    have c2 := R.cell (k / 8) hlt8
                    have f2 := R.free (k / 8) hlt8
                    have hbd := step2_bd (xN s k) k (xN_lt s k)
                    have hst : Hid (∀ t, (if t = k / 8 then fbFn (xN s k) (k / 8) + 2 ^ (k % 8) else fbFn (xN s k) t) = fbFn (xN s (k + 1)) t) := fun t => by
                      rw [xN_one s k HZ.out]; exact step2 (xN s k) k (xN_lt s k) t
                    have hroom2 : Hid (xN s (k + 1) < 256 ^ n) := pow_room k n (by omega) _ (xN_lt s (k + 1))
                    go_wp2
                    go_roundw
                    case rel => exact ⟨k + 1, by omega, by go_num, hroom2.out, (R.set (k / 8) _ hlt8).congr (fun t _ => hst.out t), RA.other _ _ (by simp; omega), B.setCell hG _⟩
                    case measure => simp [intOf]; omega
              · obtain rfl : k = 5 * s.size := by omega
                have hfin := hgood.out hlf.out hokk.out (by rw [hnn.out, ← hxv.out]; exact spare_good _ n HR.out)
                rw [hnn.out, ← hxv.out] at hfin
                have HF1 : Hid (fbStr s = strFn n (fbFn (xN s (5 * s.size)))) := hfin.1
                have HF2 : Hid (fbErr s = 0) := hfin.2
                clear hfin
                have c1 := run_string_row (P := Tryd.prog) (src := 69) (dst := 9) (c := n) Tryd.underlying69 Tryd.underlying5 Tryd.underlying9 R
                go_wp2
                go_ret2
                rw [HF1.out, HF2.out]
                exact ⟨rfl, B⟩
      · have hlf : Hid (lf (5 * s.size / 8) ≠ s.size) := fun h => by
          unfold lf at h
          have h3 := HLOW.out
          generalize 5 * s.size / 8 = q at h
          have h4 : q ≤ n - 1 := by omega
          have h5 : (8 * q + 4) / 5 ≤ (8 * (n - 1) + 4) / 5 := Nat.div_le_div_right (by omega)
          omega
        have t1 : ((8 * (n : Int) + 4) / 5 != (s.size : Int)) = true := by simp; omega
        have t2 : ¬ (8 * (n : Int) + 4) / 5 < (s.size : Int) := by omega
        clear h1 h2 HLOW hi hz0 hz1 hz2 hi3 hz03 hz13 hz23
        go_wp2
        go_ret2
        rw [(hlen.out hlf.out).1, (hlen.out hlf.out).2]
        exact ⟨rfl, Below.refl _ _⟩
#print axioms rfb32_go
end Go.Proofs.YtgnlkggodchlbaaDoor
