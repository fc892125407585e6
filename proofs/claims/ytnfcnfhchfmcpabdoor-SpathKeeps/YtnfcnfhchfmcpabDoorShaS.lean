/- What sha.schedule and the reference's words answer: the same sixty-four words. -/
import Derived.Test.YtnfcnfhchfmcpabDoorShaA
import Derived.Test.YtnfcnfhchfmcpabDoorShaM
namespace Go.Proofs.YtnfcnfhchfmcpabDoor
open Go.RowKit
theorem Tryd.sz48 : (Tryd.prog.info? 48).map (·.size) = some 8 := by kernel_rfl
theorem Tryd.sz52 : (Tryd.prog.info? 52).map (·.size) = some 64 := by kernel_rfl
theorem Tryd.sz67 : (Tryd.prog.info? 67).map (·.size) = some 64 := by kernel_rfl

/-- Word k of a block, the first byte highest. -/
def wd (b : Nat → Int) (k : Nat) : Int := b (4 * k) * 16777216 + b (4 * k + 1) * 65536 + b (4 * k + 2) * 256 + b (4 * k + 3)
def s0 (x : Int) : Int := xo (xo (rot x 7) (rot x 18)) (x / 8)
def s1 (x : Int) : Int := xo (xo (rot x 17) (rot x 19)) (x / 1024)
/-- The word that comes to place k, the places before it filled. -/
def nxt (b f : Nat → Int) (k : Nat) : Int := if k < 16 then wd b k else pl (pl (pl (f (k - 16)) (s0 (f (k - 15)))) (f (k - 7))) (s1 (f (k - 2)))
/-- The schedule while k words are filled. -/
def sch (b : Nat → Int) : Nat → Nat → Int
  | 0, _ => 0
  | k + 1, j => if j = k then nxt b (sch b k) k else sch b k j

theorem start3 (w : World) (b : Nat → Int) (e1 e2 e3 : TypeId) (A2 A3 : Array Value) (h2 : A2 = Array.replicate 64 (.int .u32 0)) (h3 : A3 = Array.replicate 64 (.int .u32 0)) :
    Row .u8 (((w.alloc (.cells (cs .u8 64 b) e1)).alloc (.cells A2 e2)).alloc (.cells A3 e3)) w.heap.size 64 b ∧
    Row .u32 (((w.alloc (.cells (cs .u8 64 b) e1)).alloc (.cells A2 e2)).alloc (.cells A3 e3)) (w.heap.size + 1) 64 (fun _ => 0) ∧
    Row .u32 (((w.alloc (.cells (cs .u8 64 b) e1)).alloc (.cells A2 e2)).alloc (.cells A3 e3)) (w.heap.size + 1 + 1) 64 (fun _ => 0) ∧
    Below w.heap.size w (((w.alloc (.cells (cs .u8 64 b) e1)).alloc (.cells A2 e2)).alloc (.cells A3 e3)) ∧ w.heap.size + 1 + 1 < (((w.alloc (.cells (cs .u8 64 b) e1)).alloc (.cells A2 e2)).alloc (.cells A3 e3)).heap.size := by
  have z1 : (w.alloc (.cells (cs .u8 64 b) e1)).heap.size = w.heap.size + 1 := World.size_alloc _ _
  have r1 : Row .u8 (w.alloc (.cells (cs .u8 64 b) e1)) w.heap.size 64 b := Row.box
  have b1 : Below w.heap.size w (w.alloc (.cells (cs .u8 64 b) e1)) := (Below.refl _ _).alloc (Nat.le_refl _) _
  generalize w.alloc (.cells (cs .u8 64 b) e1) = w1 at z1 r1 b1 ⊢
  have z2 : (w1.alloc (.cells A2 e2)).heap.size = w1.heap.size + 1 := World.size_alloc _ _
  have r2 : Row .u32 (w1.alloc (.cells A2 e2)) w1.heap.size 64 (fun _ => 0) := Row.rep h2
  have q1 := r1.alloc (by omega) (.cells A2 e2)
  have b2 := b1.alloc (by omega) (.cells A2 e2)
  rw [z1] at r2 z2
  generalize w1.alloc (.cells A2 e2) = w2 at z2 r2 q1 b2 ⊢
  have z3 : (w2.alloc (.cells A3 e3)).heap.size = w2.heap.size + 1 := World.size_alloc _ _
  have r3 : Row .u32 (w2.alloc (.cells A3 e3)) w2.heap.size 64 (fun _ => 0) := Row.rep h3
  rw [z2] at r3 z3
  exact ⟨q1.alloc (by omega) _, r2.alloc (by omega) _, r3, b2.alloc (by omega) _, by omega⟩

theorem or4 (a b c d : Int) (ha : 0 ≤ a ∧ a < 256) (hb : 0 ≤ b ∧ b < 256) (hc : 0 ≤ c ∧ c < 256) (hd : 0 ≤ d ∧ d < 256) :
    bits .or .u32 (bits .or .u32 (bits .or .u32 (a * 16777216) (b * 65536)) (c * 256)) d = a * 16777216 + b * 65536 + c * 256 + d := by
  have e : ∀ (i x y : Nat), x % 2 ^ i = 0 → y < 2 ^ i → x < 4294967296 → y < 4294967296 → bits .or .u32 (x : Int) (y : Int) = ((x + y : Nat) : Int) := fun i x y h1 h2 h3 h4 => by
    rw [u32_or_nat x y h3 h4, nat_join i x y h1 h2]
  obtain ⟨a, rfl⟩ := Int.eq_ofNat_of_zero_le ha.1
  obtain ⟨b, rfl⟩ := Int.eq_ofNat_of_zero_le hb.1
  obtain ⟨c, rfl⟩ := Int.eq_ofNat_of_zero_le hc.1
  obtain ⟨d, rfl⟩ := Int.eq_ofNat_of_zero_le hd.1
  rw [show ((a : Int) * 16777216) = ((a * 16777216 : Nat) : Int) from by omega, show ((b : Int) * 65536) = ((b * 65536 : Nat) : Int) from by omega, show ((c : Int) * 256) = ((c * 256 : Nat) : Int) from by omega]
  rw [e 24 _ _ (by omega) (by omega) (by omega) (by omega), e 16 _ _ (by omega) (by omega) (by omega) (by omega), e 8 _ _ (by omega) (by omega) (by omega) (by omega)]
  omega

theorem sch_word (b : Nat → Int) (k j : Nat) (h : k < 16) : (if j = k then b (4 * k) * 16777216 + b (4 * k + 1) * 65536 + b (4 * k + 2) * 256 + b (4 * k + 3) else sch b k j) = sch b (k + 1) j := by
  rw [sch]
  by_cases e : j = k
  · rw [if_pos e, if_pos e]; unfold nxt; rw [if_pos h]; rfl
  · rw [if_neg e, if_neg e]

theorem sch_next (b : Nat → Int) (k j : Nat) (v : Int) (h : v = nxt b (sch b k) k) : (if j = k then v else sch b k j) = sch b (k + 1) j := by
  rw [sch, h]

theorem pl4 (a b c d : Int) : (a + b + c + d) % 4294967296 = pl (pl (pl a b) c) d := by unfold pl; omega

theorem sch_w (b : Nat → Int) (hb : ∀ j, 0 ≤ b j ∧ b j < 256) (k j : Nat) : W32 (sch b k j) := by
  induction k with
  | zero => exact ⟨by simp [sch], by simp [sch]⟩
  | succ k ih =>
    rw [sch]
    split
    · unfold nxt
      split
      · have h0 := hb (4 * k)
        have h1 := hb (4 * k + 1)
        have h2 := hb (4 * k + 2)
        have h3 := hb (4 * k + 3)
        unfold wd
        exact ⟨by omega, by omega⟩
      · exact pl_bd _ _
    · exact ih

theorem turn7 (x : Int) (w : World) (h0 : 0 ≤ x) (h1 : x < 4294967296) : Calls Tryd.prog 42 #[.int .u32 x, .int .i64 7] w fun e w' => e = .returned (.int .u32 (rot x 7)) ∧ w' = w := turned_any x 7 w h0 h1 (by omega) (by omega)
theorem turn17 (x : Int) (w : World) (h0 : 0 ≤ x) (h1 : x < 4294967296) : Calls Tryd.prog 42 #[.int .u32 x, .int .i64 17] w fun e w' => e = .returned (.int .u32 (rot x 17)) ∧ w' = w := turned_any x 17 w h0 h1 (by omega) (by omega)
theorem turn18 (x : Int) (w : World) (h0 : 0 ≤ x) (h1 : x < 4294967296) : Calls Tryd.prog 42 #[.int .u32 x, .int .i64 18] w fun e w' => e = .returned (.int .u32 (rot x 18)) ∧ w' = w := turned_any x 18 w h0 h1 (by omega) (by omega)
theorem turn19 (x : Int) (w : World) (h0 : 0 ≤ x) (h1 : x < 4294967296) : Calls Tryd.prog 42 #[.int .u32 x, .int .i64 19] w fun e w' => e = .returned (.int .u32 (rot x 19)) ∧ w' = w := turned_any x 19 w h0 h1 (by omega) (by omega)

set_option maxHeartbeats 4000000 in
theorem schedule_any (b : Nat → Int) (w : World) (hb : ∀ j, 0 ≤ b j ∧ b j < 256) :
    Calls Tryd.prog 36 #[.agg (cs .u8 64 b)] w fun e w' => e = .returned (.agg (cs .u32 64 (sch b 64))) ∧ Below w.heap.size w w' := by
  go_enter Tryd.func36, Tryd.ntmps36
  go_wp2
  go_loopw [8] (fun i wr => ∃ k : Nat, k ≤ 16 ∧ i = .int .i64 k ∧ Row .u8 wr w.heap.size 64 b ∧ Row .u32 wr (w.heap.size + 1) 64 (fun _ => 0) ∧ Row .u32 wr (w.heap.size + 1 + 1) 64 (sch b k) ∧ Below w.heap.size w wr ∧ w.heap.size + 1 + 1 < wr.heap.size) (fun i _ => 16 - (intOf i).toNat)
  case atStart =>
    obtain ⟨h1, h2, h3, h4, h5⟩ := start3 w b 52 67 67 _ _ rfl rfl
    exact ⟨0, by omega, rfl, h1, h2, h3.congr (fun j _ => rfl), h4, h5⟩
  case round =>
    obtain ⟨k, hk, rfl, RB, RZ, RS, B, hz⟩ := hrel
    by_cases hlt : k < 16
    · have c0 := RB.cell (4 * k) (by omega)
      have c1 := RB.cell (4 * k + 1) (by omega)
      have c2 := RB.cell (4 * k + 2) (by omega)
      have c3 := RB.cell (4 * k + 3) (by omega)
      have d0 := RS.cell k (by omega)
      have f0 := RS.free k (by omega)
      have b0 := hb (4 * k)
      have b1 := hb (4 * k + 1)
      have b2 := hb (4 * k + 2)
      have b3 := hb (4 * k + 3)
      have HB : Hid (∀ j, 0 ≤ b j ∧ b j < 256) := hb
      clear hb
      go_wp2
      go_region
      all_goals go_wp2
      all_goals
        go_roundw
        case rel =>
          rw [or4 _ _ _ _ b0 b1 b2 b3]
          refine ⟨k + 1, by omega, by go_num, (RB.other _ _ (show w.heap.size ≠ w.heap.size + 1 + 1 by omega)).drew, (RZ.other _ _ (show w.heap.size + 1 ≠ w.heap.size + 1 + 1 by omega)).drew, ((RS.set k _ (by omega)).congr (fun j _ => ?_)).drew, (B.setCell (show w.heap.size ≤ w.heap.size + 1 + 1 by omega) _).drew, by simp; omega⟩
          exact sch_word b k j hlt
        case measure => simp [intOf]; omega
    · obtain rfl : k = 16 := by omega
      have HB : Hid (∀ j, 0 ≤ b j ∧ b j < 256) := hb
      clear hb
      go_wp2
      go_loopw [5] (fun i wr => ∃ k : Nat, 16 ≤ k ∧ k ≤ 64 ∧ i = .int .i64 k ∧ Row .u32 wr (w.heap.size + 1) 64 (fun _ => 0) ∧ Row .u32 wr (w.heap.size + 1 + 1) 64 (sch b k) ∧ Below w.heap.size w wr ∧ w.heap.size + 1 + 1 < wr.heap.size) (fun i _ => 64 - (intOf i).toNat)
      case atStart => exact ⟨16, by omega, by omega, rfl, RZ, RS, B, hz⟩
      case round =>
        obtain ⟨k, hk0, hk, rfl, RZ, RS, B, hz⟩ := hrel
        by_cases hlt : k < 64
        · have c2 := RS.cell (k - 2) (by omega)
          have c7 := RS.cell (k - 7) (by omega)
          have c15 := RS.cell (k - 15) (by omega)
          have c16 := RS.cell (k - 16) (by omega)
          have c0 := RS.cell k (by omega)
          have f0 := RS.free k (by omega)
          have b2 := sch_w b HB.out k (k - 2)
          have b15 := sch_w b HB.out k (k - 15)
          have hst : Hid (pl (pl (pl (sch b k (k - 16)) (s0 (sch b k (k - 15)))) (sch b k (k - 7))) (s1 (sch b k (k - 2))) = nxt b (sch b k) k) := by unfold Hid nxt; rw [if_neg (by omega)]
          generalize sch b k (k - 2) = x2 at c2 b2 hst
          generalize sch b k (k - 7) = x7 at c7 hst
          generalize sch b k (k - 15) = x15 at c15 b15 hst
          generalize sch b k (k - 16) = x16 at c16 hst
          have m2 : (2 : Int) ≤ (k : Int) := by omega
          have m3 : (k : Int) < 66 := by omega
          have i2 : (0 : Int) ≤ k - 2 ∧ (k : Int) - 2 < 64 := by omega
          have i7 : (0 : Int) ≤ k - 7 ∧ (k : Int) - 7 < 64 := by omega
          have i15 : (0 : Int) ≤ k - 15 ∧ (k : Int) - 15 < 64 := by omega
          have i16 : (0 : Int) ≤ k - 16 ∧ (k : Int) - 16 < 64 := by omega
          have l2 := b2.1
          have u2 := b2.2
          have l15 := b15.1
          have u15 := b15.2
          go_wp2
          go_quiet (first | (go_at_call_of 42 (Value.int IntKind.i64 7); exact Calls.quiet_of_same (turn7 _ _ l15 u15)) | (go_at_call_of 42 (Value.int IntKind.i64 18); exact Calls.quiet_of_same (turn18 _ _ l15 u15)))
          go_wp2
          have hd : ∀ a, (wr.drewN nq).cell? a = wr.cell? a := fun _ => rfl
          have hf : ∀ a, (wr.drewN nq).frozen? a = wr.frozen? a := fun _ => rfl
          rw [← hd] at c0 c2 c7 c15 c16
          rw [← hf] at f0
          clear hd hf
          have RZ1 := RZ.drewN nq
          have RS1 := RS.drewN nq
          have B1 := bel_drewN B nq
          have hz1 : w.heap.size + 1 + 1 < (wr.drewN nq).heap.size := hz
          generalize wr.drewN nq = wq at RZ1 RS1 B1 hz1 c0 c2 c7 c15 c16 f0 ⊢
          go_quiet (first | (go_at_call_of 42 (Value.int IntKind.i64 17); exact Calls.quiet_of_same (turn17 _ _ l2 u2)) | (go_at_call_of 42 (Value.int IntKind.i64 19); exact Calls.quiet_of_same (turn19 _ _ l2 u2)))
          go_wp2
          go_wp2
          go_region
          all_goals go_wp2
          all_goals
            go_roundw
            case rel =>
              refine ⟨k + 1, by omega, by omega, by go_num, (RZ1.drewN _).other _ _ (show w.heap.size + 1 ≠ w.heap.size + 1 + 1 by omega), ((RS1.drewN _).set k _ (by omega)).congr (fun j _ => ?_), (bel_drewN B1 _).setCell (show w.heap.size ≤ w.heap.size + 1 + 1 by omega) _, by rw [World.size_setCell]; exact hz1⟩
              refine sch_next b k j _ ?_
              rw [← hst.out]
              exact pl4 _ _ _ _
            case measure => simp [intOf]; omega
        · obtain rfl : k = 64 := by omega
          go_wp2_with (first | (refine wpList_load_arr (by rfl) 67 (.tmp 3) (by rfl) (w.heap.size + 1 + 1) (by rfl) RS Tryd.underlying67 Tryd.sz67 ?_) | (refine wpList_store_arr (by rfl) 67 (.tmp 2) (.tmp 96) (by rfl) (w.heap.size + 1) (by rfl) (by rfl) RZ Tryd.sz67 (by rfl) ?_))
          exact bodyPost_ret (results_arr Tryd.results36 _ _ rfl (put_row RZ) Tryd.underlying67 Tryd.sz67) rfl ⟨rfl, put_below B (by omega)⟩
#print axioms schedule_any
end Go.Proofs.YtnfcnfhchfmcpabDoor
