/- Gathered: ShaB ShaR ShaT ShaU PadA PadB PadC OfA OfC. -/
import Derived.Test.YtdjjleahfciipaaGreatDoorProg
import Derived.Test.YtdjjleahfciipaaGreatDoorQa
import Derived.Test.YtdjjleahfciipaaGreatDoorQB
/- What sha.Block answers: the eight words behind one block. -/
namespace Go.Proofs.YtdjjleahfciipaaGreatDoor
open Go.RowKit
/-- The round constants. -/
def kl : List Int := [1116352408, 1899447441, 3049323471, 3921009573, 961987163, 1508970993, 2453635748, 2870763221, 3624381080, 310598401, 607225278, 1426881987, 1925078388, 2162078206, 2614888103, 3248222580, 3835390401, 4022224774, 264347078, 604807628, 770255983, 1249150122, 1555081692, 1996064986, 2554220882, 2821834349, 2952996808, 3210313671, 3336571891, 3584528711, 113926993, 338241895, 666307205, 773529912, 1294757372, 1396182291, 1695183700, 1986661051, 2177026350, 2456956037, 2730485921, 2820302411, 3259730800, 3345764771, 3516065817, 3600352804, 4094571909, 275423344, 430227734, 506948616, 659060556, 883997877, 958139571, 1322822218, 1537002063, 1747873779, 1955562222, 2024104815, 2227730452, 2361852424, 2428436474, 2756734187, 3204031479, 3329325298]
def kk (i : Nat) : Int := kl.getD i 0

/-- One round's two sums, and the eight words behind it. -/
def t1 (v : Nat → Int) (x : Int) : Int := (v 7 + hmx (v 4) + cho (v 4) (v 5) (v 6) + x) % 4294967296
def t2 (v : Nat → Int) : Int := (lmx (v 0) + maj (v 0) (v 1) (v 2)) % 4294967296
def stp (v : Nat → Int) (x : Int) : Nat → Int
  | 0 => (t1 v x + t2 v) % 4294967296
  | 1 => v 0
  | 2 => v 1
  | 3 => v 2
  | 4 => (v 3 + t1 v x) % 4294967296
  | 5 => v 4
  | 6 => v 5
  | 7 => v 6
  | _ => 0
def rnd (q h s : Nat → Int) : Nat → Nat → Int
  | 0 => h
  | i + 1 => stp (rnd q h s i) (pl (q i) (s i))
/-- The block function, its constants q. -/
def blk (q h b : Nat → Int) (j : Nat) : Int := pl (h j) (rnd q h (sch b 64) 64 j)

theorem stp_w (v : Nat → Int) (x : Int) (hv : ∀ j, W32 (v j)) : ∀ j, W32 (stp v x j)
  | 0 => pl_bd _ _
  | 1 => hv 0
  | 2 => hv 1
  | 3 => hv 2
  | 4 => pl_bd _ _
  | 5 => hv 4
  | 6 => hv 5
  | 7 => hv 6
  | _ + 8 => ⟨by simp [stp], by simp [stp]⟩
theorem rnd_w (q h s : Nat → Int) (hh : ∀ j, W32 (h j)) (i : Nat) : ∀ j, W32 (rnd q h s i j) := by
  induction i with
  | zero => exact hh
  | succ i ih => exact stp_w _ _ ih
theorem blk_w (q h b : Nat → Int) (j : Nat) : W32 (blk q h b j) := pl_bd _ _

/-- The package's table of constants lies in its variable. -/
def KT (w : World) : Prop := ∀ i, i < 64 → w.cell? ⟨0, i, none⟩ = some (.int .u32 (kk i))
theorem KT.lt {w : World} (h : KT w) : 0 < w.heap.size := block_lt_of_cell (h 0 (by omega))
theorem KT.below {w w' : World} (h : KT w) (b : Below w.heap.size w w') : KT w' := fun i hi => by
  have e := b.cell (p := ⟨0, i, none⟩) h.lt
  rw [e]; exact h i hi

theorem startB (w : World) (h b : Nat → Int) (e1 e2 e3 : TypeId) (A : Array Value) (hA : A = Array.replicate 8 (.int .u32 0)) :
    Row .u32 (((w.alloc (.cells (cs .u32 8 h) e1)).alloc (.cells (cs .u8 64 b) e2)).alloc (.cells A e3)) w.heap.size 8 h ∧
    Row .u8 (((w.alloc (.cells (cs .u32 8 h) e1)).alloc (.cells (cs .u8 64 b) e2)).alloc (.cells A e3)) (w.heap.size + 1) 64 b ∧
    Row .u32 (((w.alloc (.cells (cs .u32 8 h) e1)).alloc (.cells (cs .u8 64 b) e2)).alloc (.cells A e3)) (w.heap.size + 1 + 1) 8 (fun _ => 0) ∧
    Below w.heap.size w (((w.alloc (.cells (cs .u32 8 h) e1)).alloc (.cells (cs .u8 64 b) e2)).alloc (.cells A e3)) ∧ (((w.alloc (.cells (cs .u32 8 h) e1)).alloc (.cells (cs .u8 64 b) e2)).alloc (.cells A e3)).heap.size = w.heap.size + 3 := by
  have z1 : (w.alloc (.cells (cs .u32 8 h) e1)).heap.size = w.heap.size + 1 := World.size_alloc _ _
  have r1 : Row .u32 (w.alloc (.cells (cs .u32 8 h) e1)) w.heap.size 8 h := Row.box
  have b1 : Below w.heap.size w (w.alloc (.cells (cs .u32 8 h) e1)) := (Below.refl _ _).alloc (Nat.le_refl _) _
  generalize w.alloc (.cells (cs .u32 8 h) e1) = w1 at z1 r1 b1 ⊢
  have z2 : (w1.alloc (.cells (cs .u8 64 b) e2)).heap.size = w1.heap.size + 1 := World.size_alloc _ _
  have r2 : Row .u8 (w1.alloc (.cells (cs .u8 64 b) e2)) w1.heap.size 64 b := Row.box
  have q1 := r1.alloc (by omega) (.cells (cs .u8 64 b) e2)
  have b2 := b1.alloc (by omega) (.cells (cs .u8 64 b) e2)
  rw [z1] at r2 z2
  generalize w1.alloc (.cells (cs .u8 64 b) e2) = w2 at z2 r2 q1 b2 ⊢
  have z3 : (w2.alloc (.cells A e3)).heap.size = w2.heap.size + 1 := World.size_alloc _ _
  have r3 : Row .u32 (w2.alloc (.cells A e3)) w2.heap.size 8 (fun _ => 0) := Row.rep hA
  rw [z2] at r3 z3
  exact ⟨q1.alloc (by omega) _, r2.alloc (by omega) _, r3, b2.alloc (by omega) _, by omega⟩

set_option maxRecDepth 10000 in
set_option maxHeartbeats 4000000 in
theorem block_any (h b : Nat → Int) (w : World) (hh : ∀ j, W32 (h j)) (hb : ∀ j, 0 ≤ b j ∧ b j < 256) (hk : KT w) :
    Calls Tryz.prog 75 #[.agg (cs .u32 8 h), .agg (cs .u8 64 b)] w fun e w' => e = .returned (.agg (cs .u32 8 (blk kk h b))) ∧ Below w.heap.size w w' := by
  have HH : Hid (∀ j, W32 (h j)) := hh
  have HB : Hid (∀ j, 0 ≤ b j ∧ b j < 256) := hb
  have HK : Hid (KT w) := hk
  have h0 := hk.lt
  clear hh hb hk
  go_enter Tryz.func75, Tryz.ntmps75
  go_wp2_with (refine wpList_load_arr (by rfl) 110 (.tmp 3) (by rfl) (w.heap.size + 1) (by rfl) (startB w h b _ _ _ _ rfl).2.1 Tryz.underlying110 Tryz.sz110 ?_)
  obtain ⟨RH, RB, RR, B, hz⟩ := startB w h b 106 110 106 #[.int .u32 0, .int .u32 0, .int .u32 0, .int .u32 0, .int .u32 0, .int .u32 0, .int .u32 0, .int .u32 0] rfl
  generalize ((w.alloc (.cells (cs .u32 8 h) 106)).alloc (.cells (cs .u8 64 b) 110)).alloc (.cells #[.int .u32 0, .int .u32 0, .int .u32 0, .int .u32 0, .int .u32 0, .int .u32 0, .int .u32 0, .int .u32 0] 106) = W at RH RB RR B hz ⊢
  refine (schedule_any b _ HB.out).mono ?_
  rintro e w1 ⟨rfl, b1⟩
  have RH1 := RH.below b1 (by omega)
  have RR1 := RR.below b1 (by omega)
  have B1 : Below w.heap.size w w1 := B.trans (b1.mono (by omega))
  have hz1 : w.heap.size + 3 ≤ w1.heap.size := by have := b1.size; omega
  clear RH RB RR B hz b1
  go_wp2_with (refine wpList_store_any (by rfl) 165 (.tmp 5) (.tmp 18) (by rfl) w1.heap.size (by rfl) (by rfl) (Row.rep (n := 64) (z := 0) rfl) Tryz.sz165 (by rfl) ?_; intro W2 RS2 U2)
  have RH2 := (RH1.alloc (by omega) _).upd U2 (by rw [World.size_alloc]; omega) (by omega)
  have RR2 := (RR1.alloc (by omega) _).upd U2 (by rw [World.size_alloc]; omega) (by omega)
  have B2 : Below w.heap.size w W2 := U2.below (B1.alloc (by omega) _) (by omega) (by rw [World.size_alloc]; omega)
  have hz2 : w1.heap.size < W2.heap.size := by rw [U2.size, World.size_alloc]; omega
  have K2 := HK.out.below B2
  clear RH1 RR1 B1 U2
  have c0 := RH2.cell 0 (by omega)
  have c1 := RH2.cell 1 (by omega)
  have c2 := RH2.cell 2 (by omega)
  have c3 := RH2.cell 3 (by omega)
  have c4 := RH2.cell 4 (by omega)
  have c5 := RH2.cell 5 (by omega)
  have c6 := RH2.cell 6 (by omega)
  have c7 := RH2.cell 7 (by omega)
  go_quiet (fail)
  go_wp2
  clear c0 c1 c2 c3 c4 c5 c6 c7
  go_loopw [6, 7, 8, 9, 10, 11, 12, 13, 35] (fun a0 a1 a2 a3 a4 a5 a6 a7 i wr => ∃ k : Nat, k ≤ 64 ∧ i = .int .i64 k ∧ a0 = .int .u32 (rnd kk h (sch b 64) k 0) ∧ a1 = .int .u32 (rnd kk h (sch b 64) k 1) ∧ a2 = .int .u32 (rnd kk h (sch b 64) k 2) ∧ a3 = .int .u32 (rnd kk h (sch b 64) k 3) ∧ a4 = .int .u32 (rnd kk h (sch b 64) k 4) ∧ a5 = .int .u32 (rnd kk h (sch b 64) k 5) ∧ a6 = .int .u32 (rnd kk h (sch b 64) k 6) ∧ a7 = .int .u32 (rnd kk h (sch b 64) k 7) ∧
      KT wr ∧ Row .u32 wr w.heap.size 8 h ∧ Row .u32 wr (w.heap.size + 1 + 1) 8 (fun _ => 0) ∧ Row .u32 wr w1.heap.size 64 (sch b 64) ∧ Below w.heap.size w wr) (fun _ _ _ _ _ _ _ _ i _ => 64 - (intOf i).toNat)
  case atStart => exact ⟨0, by omega, rfl, rfl, rfl, rfl, rfl, rfl, rfl, rfl, rfl, K2, RH2.drewN _, RR2.drewN _, RS2.drewN _, bel_drewN B2 _⟩
  case round =>
    obtain ⟨k, hk, rfl, rfl, rfl, rfl, rfl, rfl, rfl, rfl, rfl, K, RH, RR, RS, B⟩ := hrel
    clear K2 RH2 RR2 RS2 B2
    by_cases hlt : k < 64
    · have hst : Hid (stp (rnd kk h (sch b 64) k) (pl (kk k) (sch b 64 k)) = rnd kk h (sch b 64) (k + 1)) := rfl
      have hv := rnd_w kk h (sch b 64) HH.out k
      have ck := K k hlt
      have cw := RS.cell k (by omega)
      have l4 := (hv 4).1
      have r4 := (hv 4).2
      have l0 := (hv 0).1
      have r0 := (hv 0).2
      clear hv
      have KH : Hid (KT wr) := K
      clear K
      generalize rnd kk h (sch b 64) k = v at hst l4 r4 l0 r0 ⊢
      generalize hwk : sch b 64 k = wk at hst cw
      generalize hkk : kk k = qk at hst ck
      clear hwk hkk
      go_wp2
      go_quiet (first | (go_at_call 101; exact Calls.quiet_of_same (highMix_any _ _ l4 r4)) | (go_at_call 102; exact Calls.quiet_of_same (choice_any _ _ _ _)))
      go_wp2_with fail
      refine (lowMix_any _ _ l0 r0).mono ?_
      rintro e w3 ⟨rfl, rfl⟩
      go_wp2_with fail
      refine (majority_any _ _ _ _).mono ?_
      rintro e w4 ⟨rfl, rfl⟩
      go_wp2
      go_roundw
      case rel =>
        have e1 : (v 7 + hmx (v 4) + cho (v 4) (v 5) (v 6) + qk + wk) % 4294967296 = t1 v (pl qk wk) := by unfold t1 pl; omega
        refine ⟨k + 1, by omega, by go_num, ?_, ?_, ?_, ?_, ?_, ?_, ?_, ?_, fun i hi => KH.out i hi, RH.drewN _, RR.drewN _, RS.drewN _, bel_drewN B _⟩
        · rw [← hst.out, e1]; rfl
        · rw [← hst.out]; rfl
        · rw [← hst.out]; rfl
        · rw [← hst.out]; rfl
        · rw [← hst.out, e1]; rfl
        · rw [← hst.out]; rfl
        · rw [← hst.out]; rfl
        · rw [← hst.out]; rfl
      case measure => simp [intOf]; omega
    · obtain rfl : k = 64 := by omega
      have hbl : Hid (∀ j, (h j + rnd kk h (sch b 64) 64 j) % 4294967296 = blk kk h b j) := fun j => rfl
      clear K RS
      generalize rnd kk h (sch b 64) 64 = v at hbl ⊢
      have c0 := RH.cell 0 (by omega)
      have c1 := RH.cell 1 (by omega)
      have c2 := RH.cell 2 (by omega)
      have c3 := RH.cell 3 (by omega)
      have c4 := RH.cell 4 (by omega)
      have c5 := RH.cell 5 (by omega)
      have c6 := RH.cell 6 (by omega)
      have c7 := RH.cell 7 (by omega)
      have d0 := RR.cell 0 (by omega)
      have f0 := RR.free 0 (by omega)
      have d1 := RR.cell 1 (by omega)
      have f1 := RR.free 1 (by omega)
      have d2 := RR.cell 2 (by omega)
      have f2 := RR.free 2 (by omega)
      have d3 := RR.cell 3 (by omega)
      have f3 := RR.free 3 (by omega)
      have d4 := RR.cell 4 (by omega)
      have f4 := RR.free 4 (by omega)
      have d5 := RR.cell 5 (by omega)
      have f5 := RR.free 5 (by omega)
      have d6 := RR.cell 6 (by omega)
      have f6 := RR.free 6 (by omega)
      have d7 := RR.cell 7 (by omega)
      have f7 := RR.free 7 (by omega)
      go_wp2
      refine bodyPost_ret (results_arr Tryz.results75 _ _ rfl (row8 RR _ _ _ _ _ _ _ _) Tryz.underlying106 Tryz.sz106) rfl ⟨?_, bel8 B (by omega) _ _ _ _ _ _ _ _⟩
      rw [cs_congr .u32 8 (fun j hj => (vec8_of (fun j => (h j + v j) % 4294967296) j hj).trans (hbl.out j))]
#print axioms block_any
end Go.Proofs.YtdjjleahfciipaaGreatDoor
/- What the reference's words, constants, step and Block answer. -/
namespace Go.Proofs.YtdjjleahfciipaaGreatDoor
open Go.RowKit
/-- Word k while m of its bytes are in. -/
def prt (b : Nat → Int) (k : Nat) : Nat → Int
  | 0 => 0
  | m + 1 => prt b k m * 256 + b (4 * k + m)
theorem prt_w (b : Nat → Int) (hb : ∀ j, 0 ≤ b j ∧ b j < 256) (k : Nat) : 0 ≤ prt b k 3 ∧ prt b k 3 < 16777216 ∧ 0 ≤ prt b k 2 ∧ prt b k 2 < 65536 ∧ 0 ≤ prt b k 1 ∧ prt b k 1 < 256 := by
  have h0 := hb (4 * k + 0)
  have h1 := hb (4 * k + 1)
  have h2 := hb (4 * k + 2)
  simp only [prt]
  omega
theorem prt_bd (b : Nat → Int) (hb : ∀ j, 0 ≤ b j ∧ b j < 256) (k m : Nat) (h : m < 4) : 0 ≤ prt b k m ∧ prt b k m < 16777216 := by
  have := prt_w b hb k
  rcases (show m = 0 ∨ m = 1 ∨ m = 2 ∨ m = 3 from by omega) with rfl | rfl | rfl | rfl
  · exact ⟨by simp [prt], by simp [prt]⟩
  all_goals omega
theorem prt_word (b : Nat → Int) (k : Nat) : prt b k 4 = wd b k := by
  simp only [prt, wd, Nat.add_zero]
  omega

end Go.Proofs.YtdjjleahfciipaaGreatDoor
/- What the reference's constants, step and Block answer. -/
namespace Go.Proofs.YtdjjleahfciipaaGreatDoor
open Go.RowKit

theorem startT (w : World) (v : Nat → Int) (e1 e2 : TypeId) (A : Array Value) (hA : A = Array.replicate 8 (.int .u32 0)) :
    Row .u32 ((w.alloc (.cells (cs .u32 8 v) e1)).alloc (.cells A e2)) w.heap.size 8 v ∧ Row .u32 ((w.alloc (.cells (cs .u32 8 v) e1)).alloc (.cells A e2)) (w.heap.size + 1) 8 (fun _ => 0) ∧
    Below w.heap.size w ((w.alloc (.cells (cs .u32 8 v) e1)).alloc (.cells A e2)) := by
  have z1 : (w.alloc (.cells (cs .u32 8 v) e1)).heap.size = w.heap.size + 1 := World.size_alloc _ _
  have r1 : Row .u32 (w.alloc (.cells (cs .u32 8 v) e1)) w.heap.size 8 v := Row.box
  have b1 : Below w.heap.size w (w.alloc (.cells (cs .u32 8 v) e1)) := (Below.refl _ _).alloc (Nat.le_refl _) _
  generalize w.alloc (.cells (cs .u32 8 v) e1) = w1 at z1 r1 b1 ⊢
  have r3 : Row .u32 (w1.alloc (.cells A e2)) w1.heap.size 8 (fun _ => 0) := Row.rep hA
  rw [z1] at r3
  exact ⟨r1.alloc (by omega) _, r3, b1.alloc (by omega) _⟩

theorem step_vec (v : Nat → Int) (x : Int) (hv : ∀ j, W32 (v j)) (j : Nat) (hj : j < 8) :
    vec8 ((v 7 + xo (xo (rot (v 4) 6) (rot (v 4) 11)) (rot (v 4) 25) + bits .or .u32 (an (v 4) (v 5)) (an (no (v 4)) (v 6)) + x + (xo (xo (rot (v 0) 2) (rot (v 0) 13)) (rot (v 0) 22) + bits .or .u32 (bits .or .u32 (an (v 0) (v 1)) (an (v 0) (v 2))) (an (v 1) (v 2)))) % 4294967296)
      (v 0) (v 1) (v 2) ((v 3 + (v 7 + xo (xo (rot (v 4) 6) (rot (v 4) 11)) (rot (v 4) 25) + bits .or .u32 (an (v 4) (v 5)) (an (no (v 4)) (v 6)) + x)) % 4294967296) (v 4) (v 5) (v 6) j = stp v x j := by
  rw [or_choose _ _ _ (hv 4) (hv 5) (hv 6), or_most _ _ _ (hv 0) (hv 1) (hv 2), ← vec8_of (stp v x) j hj]
  have e0 : (v 7 + xo (xo (rot (v 4) 6) (rot (v 4) 11)) (rot (v 4) 25) + cho (v 4) (v 5) (v 6) + x + (xo (xo (rot (v 0) 2) (rot (v 0) 13)) (rot (v 0) 22) + maj (v 0) (v 1) (v 2))) % 4294967296 = stp v x 0 := by
    show _ = (t1 v x + t2 v) % 4294967296
    unfold t1 t2 hmx lmx
    omega
  have e4 : (v 3 + (v 7 + xo (xo (rot (v 4) 6) (rot (v 4) 11)) (rot (v 4) 25) + cho (v 4) (v 5) (v 6) + x)) % 4294967296 = stp v x 4 := by
    show _ = (v 3 + t1 v x) % 4294967296
    unfold t1 hmx
    omega
  rw [e0, e4]
  rfl

end Go.Proofs.YtdjjleahfciipaaGreatDoor
/- What the reference's Block answers: as the program's. -/
namespace Go.Proofs.YtdjjleahfciipaaGreatDoor
open Go.RowKit

theorem oth8 {k : IntKind} {w : World} {g n gv : Nat} {f : Nat → Int} (h : Row k w g n f) (hne : g ≠ gv) (x0 x1 x2 x3 x4 x5 x6 x7 : Value) :
    Row k ((((((((w.setCell ⟨gv, 0, none⟩ x0).setCell ⟨gv, 1, none⟩ x1).setCell ⟨gv, 2, none⟩ x2).setCell ⟨gv, 3, none⟩ x3).setCell ⟨gv, 4, none⟩ x4).setCell ⟨gv, 5, none⟩ x5).setCell ⟨gv, 6, none⟩ x6).setCell ⟨gv, 7, none⟩ x7) g n f :=
  (((((((h.other _ _ hne).other _ _ hne).other _ _ hne).other _ _ hne).other _ _ hne).other _ _ hne).other _ _ hne).other _ _ hne

end Go.Proofs.YtdjjleahfciipaaGreatDoor
/- The program's padding: what sha.Pad answers for every n from 0 on. -/
namespace Go.Proofs.YtdjjleahfciipaaGreatDoor
open Go.RowKit
theorem Tryz.infoS5 : (Tryz.prog.info? 5).map (fun i => (i.zero, i.size, i.bytes)) = some (some (.int .u8 0), 1, 1) := by kernel_rfl
/-- Byte j of the padding behind n bytes, z noughts in it, its last k bytes written. -/
def padFn (n : Int) (z k j : Nat) : Int := if j = 0 then 128 else if z + 9 - k ≤ j then (8 * n) % 18446744073709551616 / 2 ^ (8 * (z + 8 - j)) % 256 else 0
theorem padFn_step (n : Int) (z k j : Nat) (hk : k < 8) : (if j = z + 8 - k then 8 * n % 18446744073709551616 / 2 ^ (8 * k) % 256 else padFn n z k j) = padFn n z (k + 1) j := by
  unfold padFn
  by_cases e : j = z + 8 - k
  · subst e
    rw [if_pos rfl, if_neg (by omega), if_pos (by omega)]
    rw [show z + 8 - (z + 8 - k) = k from by omega]
  · rw [if_neg e]
    by_cases e0 : j = 0
    · rw [if_pos e0, if_pos e0]
    · rw [if_neg e0, if_neg e0]
      by_cases e1 : z + 9 - k ≤ j
      · rw [if_pos e1, if_pos (by omega)]
      · rw [if_neg e1, if_neg (by omega)]
set_option maxRecDepth 10000 in
set_option maxHeartbeats 400000 in
theorem pad_any (n : Int) (z : Nat) (w : World) (h0 : 0 ≤ n) (h1 : n ≤ 9223372036854775807) (hz : (z : Int) = (119 - n % 64) % 64) :
    Calls Tryz.prog 49 #[.int .i64 n] w fun e w' => e = .returned (.string (strFn (z + 9) (padFn n z 8))) ∧ Below w.heap.size w w' := by
  obtain ⟨i0, hi, hz0, hz1, hz2⟩ := info_parts Tryz.infoS5
  have hz' : z < 64 := by omega
  have HZ : Hid ((z : Int) = (119 - n % 64) % 64) := hz
  have e1 : (1 + (119 - n) % 64 + 8 : Int) = ((z + 9 : Nat) : Int) := by omega
  have E1 : Hid ((1 + (119 - n) % 64 + 8 : Int) = ((z + 9 : Nat) : Int)) := e1
  clear e1 hz
  go_enter Tryz.func49, Tryz.ntmps49
  go_wp2_with fail
  rw [E1.out]
  rw [run_make (P := Tryz.prog) w 45 5 i0 (.int .u8 0) Tryz.underlying45 hi hz0 .i64 .i64 _ _ (by omega) (by omega) (by rw [hz2]; omega) (by omega)]
  have R0 : Row .u8 (w.alloc (.cells (madeCells (Value.int .u8 0).cells ((((z + 9 : Nat) : Int)).toNat * i0.size)) 5)) w.heap.size (z + 9) (fun _ => 0) := Row.made (by rw [hz1]; omega)
  have B0 : Below w.heap.size w (w.alloc (.cells (madeCells (Value.int .u8 0).cells ((((z + 9 : Nat) : Int)).toNat * i0.size)) 5)) := (Below.refl _ _).alloc (Nat.le_refl _) _
  have S0 : w.heap.size < (w.alloc (.cells (madeCells (Value.int .u8 0).cells ((((z + 9 : Nat) : Int)).toNat * i0.size)) 5)).heap.size := by simp
  generalize w.alloc (.cells (madeCells (Value.int .u8 0).cells ((((z + 9 : Nat) : Int)).toNat * i0.size)) 5) = W1 at R0 B0 S0 ⊢
  rw [Int.toNat_natCast]
  have c0 := R0.cell 0 (by omega)
  have f0 := R0.free 0 (by omega)
  clear hi hz0 hz1 hz2
  go_wp2
  have B1 : Hid (IntKind.u64.wrap (8 * n) = (8 * n) % 18446744073709551616) := by unfold Hid; rw [IntKind.wrap_u64]
  go_loopw [22] (fun i wr => ∃ k : Nat, k ≤ 8 ∧ i = .int .i64 k ∧ Row .u8 wr w.heap.size (z + 9) (padFn n z k) ∧ Below w.heap.size w wr) (fun i _ => 8 - (intOf i).toNat)
  case atStart =>
    refine ⟨0, by omega, rfl, (R0.set 0 128 (by omega)).congr (fun j hj => ?_), B0.setCell (Nat.le_refl _) _⟩
    unfold padFn
    by_cases e : j = 0
    · simp [e]
    · simp [e]; omega
  case round =>
    obtain ⟨k, hk, rfl, R, B⟩ := hrel
    by_cases hlt : k < 8
    · have c1 := R.cell (z + 8 - k) (by omega)
      have f1 := R.free (z + 8 - k) (by omega)
      go_wp2
      go_roundw
      case rel =>
        refine ⟨k + 1, by omega, by go_num, (R.set (z + 8 - k) _ (by omega)).congr (fun j hj => ?_), B.setCell (Nat.le_refl _) _⟩
        rw [B1.out]
        exact padFn_step n z k j hlt
      case measure => simp [intOf]; omega
    · have c1 := run_string_row (P := Tryz.prog) (src := 45) (dst := 9) (c := z + 9) Tryz.underlying45 Tryz.underlying5 Tryz.underlying9 R
      obtain rfl : k = 8 := by omega
      go_wp2
      go_ret
      exact ⟨rfl, B⟩
#print axioms pad_any
end Go.Proofs.YtdjjleahfciipaaGreatDoor
/- The document's padding: what the reference's Pad answers for every n from 0 on: the same string. -/
namespace Go.Proofs.YtdjjleahfciipaaGreatDoor
open Go.RowKit
theorem padFn_low (n : Int) (z j : Nat) (h : j < z + 1) : padFn n z 0 j = padFn n z 8 j := by
  unfold padFn
  by_cases e : j = 0
  · rw [if_pos e, if_pos e]
  · rw [if_neg e, if_neg e, if_neg (by omega), if_neg (by omega)]

end Go.Proofs.YtdjjleahfciipaaGreatDoor
/- The padding as a function of n. -/
namespace Go.Proofs.YtdjjleahfciipaaGreatDoor
open Go.RowKit
set_option maxRecDepth 10000 in
set_option maxHeartbeats 400000 in
theorem pad_neg (n : Int) (w : World) (h0 : n < 0) : Calls Tryz.prog 49 #[.int .i64 n] w fun e w' => e = .returned (.string ⟨#[]⟩) ∧ Below w.heap.size w w' := by
  go_enter Tryz.func49, Tryz.ntmps49
  go_wp2
  go_ret
  exact ⟨rfl, Below.refl _ _⟩
/-- The padding as a function of n. -/
def padStr (n : Int) : ByteArray := if n < 0 then ⟨#[]⟩ else strFn (((119 - n % 64) % 64).toNat + 9) (padFn n ((119 - n % 64) % 64).toNat 8)
theorem pad_all (n : Int) (w : World) (h1 : n ≤ 9223372036854775807) : Calls Tryz.prog 49 #[.int .i64 n] w fun e w' => e = .returned (.string (padStr n)) ∧ Below w.heap.size w w' := by
  unfold padStr
  by_cases h : n < 0
  · rw [if_pos h]; exact pad_neg n w h
  · rw [if_neg h]; exact pad_any n _ w (by omega) h1 (by omega)

end Go.Proofs.YtdjjleahfciipaaGreatDoor
/- The words with which a digest begins; the words behind a message's blocks; the digest's bytes. -/
namespace Go.Proofs.YtdjjleahfciipaaGreatDoor
open Go.RowKit
def stl : List Int := [1779033703, 3144134277, 1013904242, 2773480762, 1359893119, 2600822924, 528734635, 1541459225]
def stw (i : Nat) : Int := stl.getD i 0
theorem stw_w (j : Nat) : W32 (stw j) := by
  by_cases h : j < 8
  · rcases (show j = 0 ∨ j = 1 ∨ j = 2 ∨ j = 3 ∨ j = 4 ∨ j = 5 ∨ j = 6 ∨ j = 7 from by omega) with rfl | rfl | rfl | rfl | rfl | rfl | rfl | rfl
    all_goals exact ⟨by decide, by decide⟩
  · have : stw j = 0 := by
      unfold stw stl
      rw [List.getD_eq_getElem?_getD, List.getElem?_eq_none (by simp; omega)]
      rfl
    rw [this]
    exact ⟨by decide, by decide⟩
/-- The words behind t blocks of the bytes m. -/
def hw (m : Nat → Int) : Nat → Nat → Int
  | 0 => stw
  | t + 1 => blk kk (hw m t) (fun j => m (64 * t + j))
theorem hw_w (m : Nat → Int) (t j : Nat) : W32 (hw m t j) := by
  cases t with
  | zero => exact stw_w j
  | succ t => exact blk_w _ _ _ _
/-- Byte i of the digest that eight words are. -/
def dg (h : Nat → Int) (i : Nat) : Int := h (i / 4) / 2 ^ (8 * (3 - i % 4)) % 256
/-- The first n of f, noughts behind. -/
def upF (f : Nat → Int) (n x : Nat) : Int := if x < n then f x else 0
theorem upF_set (f : Nat → Int) (n x : Nat) : (if x = n then f n else upF f n x) = upF f (n + 1) x := by
  unfold upF
  by_cases e : x = n
  · rw [if_pos e, if_pos (by omega), e]
  · rw [if_neg e]
    by_cases h : x < n
    · rw [if_pos h, if_pos (by omega)]
    · rw [if_neg h, if_neg (by omega)]
theorem upF_all (f : Nat → Int) (n x : Nat) (h : x < n) : upF f n x = f x := by unfold upF; rw [if_pos h]
theorem upF_zero (f : Nat → Int) (x : Nat) : upF f 0 x = 0 := by unfold upF; rw [if_neg (by omega)]

set_option maxRecDepth 100000 in
set_option maxHeartbeats 4000000 in
theorem startWords_any (w : World) : Calls Tryz.prog 46 #[] w fun e w' => e = .returned (.agg (cs .u32 8 stw)) ∧ Below w.heap.size w w' := by
  go_enter Tryz.func46, Tryz.ntmps46
  go_wp2_with (refine wpList_store_any (f := stw) (by rfl) 106 (.tmp 0) (.tmp 1) (by rfl) w.heap.size (by rfl) (by rfl) (Row.rep (n := 8) (z := 0) rfl) Tryz.sz106 (by rfl) ?_; intro W2 RS2 U2)
  exact bodyPost_ret (results_arr Tryz.results46 _ _ rfl RS2 Tryz.underlying106 Tryz.sz106) rfl ⟨rfl, U2.below ((Below.refl _ _).alloc (Nat.le_refl _) _) (Nat.le_refl _) (by rw [World.size_alloc]; omega)⟩

/-- The message with its padding. -/
def msg (s : ByteArray) : ByteArray := s ++ padStr s.size
theorem padStr_size (n : Nat) : (padStr n).size = ((119 - (n : Int) % 64) % 64).toNat + 9 := by
  unfold padStr
  rw [if_neg (by omega), strFn_size]
/-- How many blocks the message has. -/
def nb (s : ByteArray) : Nat := (s.size + 72) / 64
theorem msg_size (s : ByteArray) : (msg s).size = 64 * nb s := by
  unfold msg nb
  rw [ByteArray.size_append, padStr_size]
  omega
#print axioms startWords_any
#print axioms msg_size
end Go.Proofs.YtdjjleahfciipaaGreatDoor
/- What sha.digestOf answers. -/
namespace Go.Proofs.YtdjjleahfciipaaGreatDoor
open Go.RowKit
theorem Tryz.sz31 : (Tryz.prog.info? 31).map (·.size) = some 32 := by kernel_rfl
theorem Tryz.und31 : Tryz.prog.underlying 31 = some (.array 32 5) := by kernel_rfl
theorem run_part_cs' {P : Program} (w : World) (e : TypeId) (k k' : IntKind) (n : Nat) (f : Nat → Int) (he : P.underlying e = some (.int k')) (j : Nat) (hj : j < n) : (part e (cs k n f) j).run P w = .ok (.int k (f j)) w := by
  simp [part, isAgg, run_underlying he, cs_get k n f j hj]

theorem run_index_cs {P : Program} (w : World) (t e : TypeId) (k k' : IntKind) (n : Nat) (f : Nat → Int) {i : TypeInfo} (hu : P.underlying t = some (.array n e)) (he : P.underlying e = some (.int k')) (hi : P.info? e = some i) (h1 : i.size = 1) (j : Nat) (hj : j < n) :
    (Instr.index t (.agg (cs k n f)) (.int .i64 j)).run P w = .ok (.int k (f j)) w := by
  simp [Instr.index, asIntOf, run_underlying hu, sizeOf, typeInfo, hi, h1, run_part_cs' w e k k' n f he j hj]
  omega
theorem dg_step (h : Nat → Int) (k : Nat) (h0 : 0 ≤ h k) (h1 : h k < 4294967296) (x : Nat) :
    (if x = 4 * k + 3 then h k % 256 else if x = 4 * k + 2 then h k / 256 % 256 else if x = 4 * k + 1 then h k / 65536 % 256 else if x = 4 * k then h k / 16777216 else upF (dg h) (4 * k) x) = upF (dg h) (4 * (k + 1)) x := by
  have e0 : dg h (4 * k) = h k / 16777216 := by
    unfold dg
    rw [show 4 * k / 4 = k from by omega, show 4 * k % 4 = 0 from by omega]
    show h k / 16777216 % 256 = _
    omega
  have e1 : dg h (4 * k + 1) = h k / 65536 % 256 := by
    unfold dg
    rw [show (4 * k + 1) / 4 = k from by omega, show (4 * k + 1) % 4 = 1 from by omega]
    rfl
  have e2 : dg h (4 * k + 2) = h k / 256 % 256 := by
    unfold dg
    rw [show (4 * k + 2) / 4 = k from by omega, show (4 * k + 2) % 4 = 2 from by omega]
    rfl
  have e3 : dg h (4 * k + 3) = h k % 256 := by
    unfold dg
    rw [show (4 * k + 3) / 4 = k from by omega, show (4 * k + 3) % 4 = 3 from by omega]
    show h k / 1 % 256 = _
    rw [Int.ediv_one]
  rw [← e0, ← e1, ← e2, ← e3, upF_set, upF_set, upF_set, upF_set]
  rfl

set_option maxRecDepth 100000 in
set_option maxHeartbeats 4000000 in
theorem digestOf_any (h : Nat → Int) (w : World) (hh : ∀ j, W32 (h j)) :
    Calls Tryz.prog 50 #[.agg (cs .u32 8 h)] w fun e w' => e = .returned (.agg (cs .u8 32 (dg h))) ∧ Below w.heap.size w w' := by
  have HW : Hid (∀ j, W32 (h j)) := hh
  clear hh
  obtain ⟨i27, hi27, hs27⟩ : ∃ i, Tryz.prog.info? 105 = some i ∧ i.size = 1 := by
    have h : (Tryz.prog.info? 105).map (·.size) = some 1 := by kernel_rfl
    obtain ⟨i, h1, h2⟩ := Option.map_eq_some_iff.1 h
    exact ⟨i, h1, h2⟩
  go_enter Tryz.func50, Tryz.ntmps50
  go_wp2_with (refine wpList_load_arr (by rfl) 106 (.tmp 1) (by rfl) w.heap.size (by rfl) (((Row.box (e := 106)).alloc (by rw [World.size_alloc]; omega) _).alloc (by rw [World.size_alloc, World.size_alloc]; omega) _) Tryz.underlying106 Tryz.sz106 ?_)
  go_loopw [7] (fun i wr => ∃ k : Nat, k ≤ 8 ∧ i = .int .i64 k ∧ Row .u8 wr (w.heap.size + 1 + 1) 32 (upF (dg h) (4 * k)) ∧ Row .u8 wr (w.heap.size + 1) 32 (fun _ => 0) ∧ Below w.heap.size w wr ∧ w.heap.size + 1 + 1 < wr.heap.size) (fun i _ => 8 - (intOf i).toNat)
  case atStart =>
    refine ⟨0, Nat.zero_le _, rfl, ?_, ?_, ?_, ?_⟩
    · have r : Row .u8 (((w.alloc (.cells (cs .u32 8 h) 106)).alloc (.cells (Array.replicate 32 (.int .u8 0)) 31)).alloc (.cells (Array.replicate 32 (.int .u8 0)) 31)) ((w.alloc (.cells (cs .u32 8 h) 106)).alloc (.cells (Array.replicate 32 (.int .u8 0)) 31)).heap.size 32 (fun _ => 0) := Row.rep rfl
      rw [World.size_alloc, World.size_alloc] at r
      exact r.congr (fun x _ => (upF_zero _ x).symm)
    · have r : Row .u8 ((w.alloc (.cells (cs .u32 8 h) 106)).alloc (.cells (Array.replicate 32 (.int .u8 0)) 31)) (w.alloc (.cells (cs .u32 8 h) 106)).heap.size 32 (fun _ => 0) := Row.rep rfl
      rw [World.size_alloc] at r
      exact r.alloc (by rw [World.size_alloc, World.size_alloc]; omega) _
    · exact (((Below.refl _ _).alloc (Nat.le_refl _) _).alloc (by rw [World.size_alloc]; omega) _).alloc (by rw [World.size_alloc, World.size_alloc]; omega) _
    · rw [World.size_alloc, World.size_alloc, World.size_alloc]; omega
  case round =>
    obtain ⟨k, hk, rfl, RD, R, B, z⟩ := hrel
    by_cases hlt : k < 8
    · have hcs := run_index_cs (P := Tryz.prog) wr 106 105 .u32 .u32 8 h Tryz.underlying106 Tryz.underlying105 hi27 hs27 k hlt
      have hx0 := (HW.out k).1
      have hx1 := (HW.out k).2
      have c0 := RD.cell (4 * k) (by omega)
      have f0 := RD.free (4 * k) (by omega)
      have c1 := RD.cell (4 * k + 1) (by omega)
      have f1 := RD.free (4 * k + 1) (by omega)
      have c2 := RD.cell (4 * k + 2) (by omega)
      have f2 := RD.free (4 * k + 2) (by omega)
      have c3 := RD.cell (4 * k + 3) (by omega)
      have f3 := RD.free (4 * k + 3) (by omega)
      go_wp2
      go_roundw
      case rel =>
        refine ⟨k + 1, by omega, by go_num, ((((RD.set (4 * k) _ (by omega)).set (4 * k + 1) _ (by omega)).set (4 * k + 2) _ (by omega)).set (4 * k + 3) _ (by omega)).congr (fun x _ => dg_step h k hx0 hx1 x),
          (((R.other _ _ (by simp)).other _ _ (by simp)).other _ _ (by simp)).other _ _ (by simp), (((B.setCell (by simp; omega) _).setCell (by simp; omega) _).setCell (by simp; omega) _).setCell (by simp; omega) _, by simp only [World.size_setCell]; exact z⟩
      case measure => simp [intOf]; omega
    · obtain rfl : k = 8 := by omega
      have RD' : Row .u8 wr (w.heap.size + 1 + 1) 32 (dg h) := RD.congr (fun x hx => upF_all _ (4 * 8) x (by omega))
      clear RD
      go_wp2_with (first | refine wpList_load_arr (by rfl) 31 (.tmp 3) (by rfl) (w.heap.size + 1 + 1) (by rfl) RD' Tryz.und31 Tryz.sz31 ?_ | (refine wpList_store_any (by rfl) 31 (.tmp 2) (.tmp 38) (by rfl) (w.heap.size + 1) (by rfl) (by rfl) R Tryz.sz31 (by rfl) ?_; intro W7 R7 U7))
      exact bodyPost_ret (results_arr Tryz.results50 _ _ rfl R7 Tryz.und31 Tryz.sz31) rfl ⟨rfl, U7.below B (by omega) (by omega)⟩
#print axioms digestOf_any
end Go.Proofs.YtdjjleahfciipaaGreatDoor
