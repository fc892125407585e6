/- What sha.Block answers: the eight words behind one block. -/
import Derived.Test.YtnfcnfhchfmcpabDoorShaS
namespace Go.Proofs.YtnfcnfhchfmcpabDoor
open Go.RowKit
/-- The round constants. -/
def kl : List Int := [1116352408, 1899447441, 3049323471, 3921009573, 961987163, 1508970993, 2453635748, 2870763221, 3624381080, 310598401, 607225278, 1426881987, 1925078388, 2162078206, 2614888103, 3248222580, 3835390401, 4022224774, 264347078, 604807628, 770255983, 1249150122, 1555081692, 1996064986, 2554220882, 2821834349, 2952996808, 3210313671, 3336571891, 3584528711, 113926993, 338241895, 666307205, 773529912, 1294757372, 1396182291, 1695183700, 1986661051, 2177026350, 2456956037, 2730485921, 2820302411, 3259730800, 3345764771, 3516065817, 3600352804, 4094571909, 275423344, 430227734, 506948616, 659060556, 883997877, 958139571, 1322822218, 1537002063, 1747873779, 1955562222, 2024104815, 2227730452, 2361852424, 2428436474, 2756734187, 3204031479, 3329325298]
def kk (i : Nat) : Int := kl.getD i 0

/-- One round's two sums, and the eight words behind it. -/
def t1 (v : Nat → Int) (x : Int) : Int := (v 7 + hmx (v 4) + cho (v 4) (v 5) (v 6) + x) % 4294967296
def t2 (v : Nat → Int) : Int := (lmx (v 0) + maj (v 0) (v 1) (v 2)) % 4294967296
def stp (v : Nat → Int) (x : Int) : Nat → Int
  | 0 => (t1 v x + t2 v) % 4294967296
  | 1 => v 0
  | 2 => v 1
  | 3 => v 2
  | 4 => (v 3 + t1 v x) % 4294967296
  | 5 => v 4
  | 6 => v 5
  | 7 => v 6
  | _ => 0
def rnd (q h s : Nat → Int) : Nat → Nat → Int
  | 0 => h
  | i + 1 => stp (rnd q h s i) (pl (q i) (s i))
/-- The block function, its constants q. -/
def blk (q h b : Nat → Int) (j : Nat) : Int := pl (h j) (rnd q h (sch b 64) 64 j)

theorem stp_w (v : Nat → Int) (x : Int) (hv : ∀ j, W32 (v j)) : ∀ j, W32 (stp v x j)
  | 0 => pl_bd _ _
  | 1 => hv 0
  | 2 => hv 1
  | 3 => hv 2
  | 4 => pl_bd _ _
  | 5 => hv 4
  | 6 => hv 5
  | 7 => hv 6
  | _ + 8 => ⟨by simp [stp], by simp [stp]⟩
theorem rnd_w (q h s : Nat → Int) (hh : ∀ j, W32 (h j)) (i : Nat) : ∀ j, W32 (rnd q h s i j) := by
  induction i with
  | zero => exact hh
  | succ i ih => exact stp_w _ _ ih
theorem blk_w (q h b : Nat → Int) (j : Nat) : W32 (blk q h b j) := pl_bd _ _

/-- The package's table of constants lies in its variable. -/
def KT (w : World) : Prop := ∀ i, i < 64 → w.cell? ⟨0, i, none⟩ = some (.int .u32 (kk i))
theorem KT.lt {w : World} (h : KT w) : 0 < w.heap.size := block_lt_of_cell (h 0 (by omega))
theorem KT.below {w w' : World} (h : KT w) (b : Below w.heap.size w w') : KT w' := fun i hi => by
  have e := b.cell (p := ⟨0, i, none⟩) h.lt
  rw [e]; exact h i hi

theorem startB (w : World) (h b : Nat → Int) (e1 e2 e3 : TypeId) (A : Array Value) (hA : A = Array.replicate 8 (.int .u32 0)) :
    Row .u32 (((w.alloc (.cells (cs .u32 8 h) e1)).alloc (.cells (cs .u8 64 b) e2)).alloc (.cells A e3)) w.heap.size 8 h ∧
    Row .u8 (((w.alloc (.cells (cs .u32 8 h) e1)).alloc (.cells (cs .u8 64 b) e2)).alloc (.cells A e3)) (w.heap.size + 1) 64 b ∧
    Row .u32 (((w.alloc (.cells (cs .u32 8 h) e1)).alloc (.cells (cs .u8 64 b) e2)).alloc (.cells A e3)) (w.heap.size + 1 + 1) 8 (fun _ => 0) ∧
    Below w.heap.size w (((w.alloc (.cells (cs .u32 8 h) e1)).alloc (.cells (cs .u8 64 b) e2)).alloc (.cells A e3)) ∧ (((w.alloc (.cells (cs .u32 8 h) e1)).alloc (.cells (cs .u8 64 b) e2)).alloc (.cells A e3)).heap.size = w.heap.size + 3 := by
  have z1 : (w.alloc (.cells (cs .u32 8 h) e1)).heap.size = w.heap.size + 1 := World.size_alloc _ _
  have r1 : Row .u32 (w.alloc (.cells (cs .u32 8 h) e1)) w.heap.size 8 h := Row.box
  have b1 : Below w.heap.size w (w.alloc (.cells (cs .u32 8 h) e1)) := (Below.refl _ _).alloc (Nat.le_refl _) _
  generalize w.alloc (.cells (cs .u32 8 h) e1) = w1 at z1 r1 b1 ⊢
  have z2 : (w1.alloc (.cells (cs .u8 64 b) e2)).heap.size = w1.heap.size + 1 := World.size_alloc _ _
  have r2 : Row .u8 (w1.alloc (.cells (cs .u8 64 b) e2)) w1.heap.size 64 b := Row.box
  have q1 := r1.alloc (by omega) (.cells (cs .u8 64 b) e2)
  have b2 := b1.alloc (by omega) (.cells (cs .u8 64 b) e2)
  rw [z1] at r2 z2
  generalize w1.alloc (.cells (cs .u8 64 b) e2) = w2 at z2 r2 q1 b2 ⊢
  have z3 : (w2.alloc (.cells A e3)).heap.size = w2.heap.size + 1 := World.size_alloc _ _
  have r3 : Row .u32 (w2.alloc (.cells A e3)) w2.heap.size 8 (fun _ => 0) := Row.rep hA
  rw [z2] at r3 z3
  exact ⟨q1.alloc (by omega) _, r2.alloc (by omega) _, r3, b2.alloc (by omega) _, by omega⟩

set_option maxHeartbeats 4000000 in
theorem block_any (h b : Nat → Int) (w : World) (hh : ∀ j, W32 (h j)) (hb : ∀ j, 0 ≤ b j ∧ b j < 256) (hk : KT w) :
    Calls Tryd.prog 31 #[.agg (cs .u32 8 h), .agg (cs .u8 64 b)] w fun e w' => e = .returned (.agg (cs .u32 8 (blk kk h b))) ∧ Below w.heap.size w w' := by
  have HH : Hid (∀ j, W32 (h j)) := hh
  have HB : Hid (∀ j, 0 ≤ b j ∧ b j < 256) := hb
  have HK : Hid (KT w) := hk
  have h0 := hk.lt
  clear hh hb hk
  go_enter Tryd.func31, Tryd.ntmps31
  go_wp2_with (refine wpList_load_arr (by rfl) 52 (.tmp 3) (by rfl) (w.heap.size + 1) (by rfl) (startB w h b _ _ _ _ rfl).2.1 Tryd.underlying52 Tryd.sz52 ?_)
  obtain ⟨RH, RB, RR, B, hz⟩ := startB w h b 48 52 48 #[.int .u32 0, .int .u32 0, .int .u32 0, .int .u32 0, .int .u32 0, .int .u32 0, .int .u32 0, .int .u32 0] rfl
  generalize ((w.alloc (.cells (cs .u32 8 h) 48)).alloc (.cells (cs .u8 64 b) 52)).alloc (.cells #[.int .u32 0, .int .u32 0, .int .u32 0, .int .u32 0, .int .u32 0, .int .u32 0, .int .u32 0, .int .u32 0] 48) = W at RH RB RR B hz ⊢
  refine (schedule_any b _ HB.out).mono ?_
  rintro e w1 ⟨rfl, b1⟩
  have RH1 := RH.below b1 (by omega)
  have RR1 := RR.below b1 (by omega)
  have B1 : Below w.heap.size w w1 := B.trans (b1.mono (by omega))
  have hz1 : w.heap.size + 3 ≤ w1.heap.size := by have := b1.size; omega
  clear RH RB RR B hz b1
  go_wp2_with (refine wpList_store_any (by rfl) 67 (.tmp 5) (.tmp 18) (by rfl) w1.heap.size (by rfl) (by rfl) (Row.rep (n := 64) (z := 0) rfl) Tryd.sz67 (by rfl) ?_; intro W2 RS2 U2)
  have RH2 := (RH1.alloc (by omega) _).upd U2 (by rw [World.size_alloc]; omega) (by omega)
  have RR2 := (RR1.alloc (by omega) _).upd U2 (by rw [World.size_alloc]; omega) (by omega)
  have B2 : Below w.heap.size w W2 := U2.below (B1.alloc (by omega) _) (by omega) (by rw [World.size_alloc]; omega)
  have hz2 : w1.heap.size < W2.heap.size := by rw [U2.size, World.size_alloc]; omega
  have K2 := HK.out.below B2
  clear RH1 RR1 B1 U2
  have c0 := RH2.cell 0 (by omega)
  have c1 := RH2.cell 1 (by omega)
  have c2 := RH2.cell 2 (by omega)
  have c3 := RH2.cell 3 (by omega)
  have c4 := RH2.cell 4 (by omega)
  have c5 := RH2.cell 5 (by omega)
  have c6 := RH2.cell 6 (by omega)
  have c7 := RH2.cell 7 (by omega)
  go_quiet (fail)
  go_wp2
  clear c0 c1 c2 c3 c4 c5 c6 c7
  go_loopw [6, 7, 8, 9, 10, 11, 12, 13, 35] (fun a0 a1 a2 a3 a4 a5 a6 a7 i wr => ∃ k : Nat, k ≤ 64 ∧ i = .int .i64 k ∧ a0 = .int .u32 (rnd kk h (sch b 64) k 0) ∧ a1 = .int .u32 (rnd kk h (sch b 64) k 1) ∧ a2 = .int .u32 (rnd kk h (sch b 64) k 2) ∧ a3 = .int .u32 (rnd kk h (sch b 64) k 3) ∧ a4 = .int .u32 (rnd kk h (sch b 64) k 4) ∧ a5 = .int .u32 (rnd kk h (sch b 64) k 5) ∧ a6 = .int .u32 (rnd kk h (sch b 64) k 6) ∧ a7 = .int .u32 (rnd kk h (sch b 64) k 7) ∧
      KT wr ∧ Row .u32 wr w.heap.size 8 h ∧ Row .u32 wr (w.heap.size + 1 + 1) 8 (fun _ => 0) ∧ Row .u32 wr w1.heap.size 64 (sch b 64) ∧ Below w.heap.size w wr) (fun _ _ _ _ _ _ _ _ i _ => 64 - (intOf i).toNat)
  case atStart => exact ⟨0, by omega, rfl, rfl, rfl, rfl, rfl, rfl, rfl, rfl, rfl, K2, RH2.drewN _, RR2.drewN _, RS2.drewN _, bel_drewN B2 _⟩
  case round =>
    obtain ⟨k, hk, rfl, rfl, rfl, rfl, rfl, rfl, rfl, rfl, rfl, K, RH, RR, RS, B⟩ := hrel
    clear K2 RH2 RR2 RS2 B2
    by_cases hlt : k < 64
    · have hst : Hid (stp (rnd kk h (sch b 64) k) (pl (kk k) (sch b 64 k)) = rnd kk h (sch b 64) (k + 1)) := rfl
      have hv := rnd_w kk h (sch b 64) HH.out k
      have ck := K k hlt
      have cw := RS.cell k (by omega)
      have l4 := (hv 4).1
      have r4 := (hv 4).2
      have l0 := (hv 0).1
      have r0 := (hv 0).2
      clear hv
      have KH : Hid (KT wr) := K
      clear K
      generalize rnd kk h (sch b 64) k = v at hst l4 r4 l0 r0 ⊢
      generalize hwk : sch b 64 k = wk at hst cw
      generalize hkk : kk k = qk at hst ck
      clear hwk hkk
      go_wp2
      go_quiet (first | (go_at_call 37; exact Calls.quiet_of_same (highMix_any _ _ l4 r4)) | (go_at_call 38; exact Calls.quiet_of_same (choice_any _ _ _ _)))
      go_wp2_with fail
      refine (lowMix_any _ _ l0 r0).mono ?_
      rintro e w3 ⟨rfl, rfl⟩
      go_wp2_with fail
      refine (majority_any _ _ _ _).mono ?_
      rintro e w4 ⟨rfl, rfl⟩
      go_wp2
      go_roundw
      case rel =>
        have e1 : (v 7 + hmx (v 4) + cho (v 4) (v 5) (v 6) + qk + wk) % 4294967296 = t1 v (pl qk wk) := by unfold t1 pl; omega
        refine ⟨k + 1, by omega, by go_num, ?_, ?_, ?_, ?_, ?_, ?_, ?_, ?_, fun i hi => KH.out i hi, RH.drewN _, RR.drewN _, RS.drewN _, bel_drewN B _⟩
        · rw [← hst.out, e1]; rfl
        · rw [← hst.out]; rfl
        · rw [← hst.out]; rfl
        · rw [← hst.out]; rfl
        · rw [← hst.out, e1]; rfl
        · rw [← hst.out]; rfl
        · rw [← hst.out]; rfl
        · rw [← hst.out]; rfl
      case measure => simp [intOf]; omega
    · obtain rfl : k = 64 := by omega
      have hbl : Hid (∀ j, (h j + rnd kk h (sch b 64) 64 j) % 4294967296 = blk kk h b j) := fun j => rfl
      clear K RS
      generalize rnd kk h (sch b 64) 64 = v at hbl ⊢
      have c0 := RH.cell 0 (by omega)
      have c1 := RH.cell 1 (by omega)
      have c2 := RH.cell 2 (by omega)
      have c3 := RH.cell 3 (by omega)
      have c4 := RH.cell 4 (by omega)
      have c5 := RH.cell 5 (by omega)
      have c6 := RH.cell 6 (by omega)
      have c7 := RH.cell 7 (by omega)
      have d0 := RR.cell 0 (by omega)
      have f0 := RR.free 0 (by omega)
      have d1 := RR.cell 1 (by omega)
      have f1 := RR.free 1 (by omega)
      have d2 := RR.cell 2 (by omega)
      have f2 := RR.free 2 (by omega)
      have d3 := RR.cell 3 (by omega)
      have f3 := RR.free 3 (by omega)
      have d4 := RR.cell 4 (by omega)
      have f4 := RR.free 4 (by omega)
      have d5 := RR.cell 5 (by omega)
      have f5 := RR.free 5 (by omega)
      have d6 := RR.cell 6 (by omega)
      have f6 := RR.free 6 (by omega)
      have d7 := RR.cell 7 (by omega)
      have f7 := RR.free 7 (by omega)
      go_wp2
      refine bodyPost_ret (results_arr Tryd.results31 _ _ rfl (row8 RR _ _ _ _ _ _ _ _) Tryd.underlying48 Tryd.sz48) rfl ⟨?_, bel8 B (by omega) _ _ _ _ _ _ _ _⟩
      rw [cs_congr .u32 8 (fun j hj => (vec8_of (fun j => (h j + v j) % 4294967296) j hj).trans (hbl.out j))]
#print axioms block_any
end Go.Proofs.YtnfcnfhchfmcpabDoor
