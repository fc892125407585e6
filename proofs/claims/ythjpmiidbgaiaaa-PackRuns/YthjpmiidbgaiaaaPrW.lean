/- The law PackRuns, walked. -/
import Derived.Test.YthjpmiidbgaiaaaPrP
import Derived.Test.YthjpmiidbgaiaaaPkW
namespace Go.Proofs.Ythjpmiidbgaiaaa
open Go.RowKit

theorem make_bytes (w : World) (n : Nat) (hn : n ≤ 1073741824) : (Instr.makeSlice 45 (.int .i64 (n : Int)) (.int .i64 (n : Int))).run Try.prog w = .ok (.slice (some ⟨w.heap.size, 0, none⟩) n n) (w.alloc (.cells (madeCells (Value.int .u8 0).cells n) 5)) := by
  obtain ⟨i0, hi, hz0, hz1, hz2⟩ := info_parts infoU8
  rw [run_make (P := Try.prog) w 45 5 i0 (.int .u8 0) Try.underlying45 hi hz0 .i64 .i64 _ _ (by omega) (by omega) (by rw [hz2]; omega) (by omega), Int.toNat_natCast, hz1, Nat.mul_one]


theorem rep_conv (w : World) (Q n : Nat) (x : UInt8) (V : Row .u8 w Q n (fun _ => (x.toNat : Int))) : (convert 45 9 (.slice (some ⟨Q, 0, none⟩) n n)).run Try.prog w = .ok (.string (ba (List.replicate n x))) w := by
  have r := run_string_row (P := Try.prog) (w := w) (src := 45) (dst := 9) (c := n) Try.underlying45 Try.underlying5 Try.underlying9 (f := bt (ba (List.replicate n x))) (g := Q) (n := n) (V.congr (fun j hj => by
    rw [bt_ba _ _ (by rw [List.length_replicate]; exact hj), List.getElem_replicate]))
  have e : strFn n (bt (ba (List.replicate n x))) = ba (List.replicate n x) := by
    have := strFn_bt (ba (List.replicate n x))
    rw [ba_size, List.length_replicate] at this
    exact this
  rw [r, e]

set_option maxHeartbeats 8000000 in
set_option maxRecDepth 10000 in
theorem runs_neg (x : UInt8) (nn : Int) (s : ByteArray) (w : World) (hs : s.size ≤ 9223372036854775807) (h0 : nn < 0) : Calls Try.prog 8 #[.int .u8 (x.toNat : Int), .int .i64 nn, .string s] w fun e w' => e = .returned (.bool true) ∧ Below w.heap.size w w' := by
  have HMK : Hid (∀ w : World, (Instr.makeSlice 45 (.int .i64 0) (.int .i64 0)).run Try.prog w = .ok (.slice (some ⟨w.heap.size, 0, none⟩) 0 0) (w.alloc (.cells (madeCells (Value.int .u8 0).cells 0) 5))) := fun w => make_bytes w 0 (by omega)
  have PC1 := fun w => pack_any (List.replicate 0 x) w (by rw [List.length_replicate]; omega)
  have hr1 := pk_rep 0 x
  have ho1 := (pk_len (List.replicate 0 x)).2
  rw [List.length_replicate] at ho1
  have hp1 := ba_size (pk (List.replicate 0 x))
  have HCV : Hid (∀ (w : World) (Q : Nat), Row .u8 w Q 0 (fun _ => (x.toNat : Int)) → (convert 45 9 (.slice (some ⟨Q, 0, none⟩) 0 0)).run Try.prog w = .ok (.string (ba (List.replicate 0 x))) w) := fun w Q V => rep_conv w Q 0 x V
  generalize pk (List.replicate 0 x) = P1 at PC1 hr1 ho1 hp1
  have hP1b : P1.length ≤ 2097152 := by omega
  clear ho1
  clear hr1
  go_enter Try.func8, Try.ntmps8
  go_wp2_with fail
  refine (awake_any _).mono ?_
  rintro e w1 ⟨rfl, B1⟩
  have HB1 : Hid (Below w.heap.size w w1) := B1
  clear B1
  go_wp2_with fail
  rw [HMK.out]
  have V3 : Hid (Row .u8 (w1.alloc (.cells (madeCells (Value.int .u8 0).cells 0) 5)) w1.heap.size 0 (fun j => if j < 0 then (x.toNat : Int) else 0)) := (Row.made rfl).congr (fun j _ => by rw [if_neg (Nat.not_lt_zero _)])
  have B3 : Hid (Below w.heap.size w (w1.alloc (.cells (madeCells (Value.int .u8 0).cells 0) 5))) := HB1.out.alloc HB1.out.size _
  have hwQ : w.heap.size ≤ w1.heap.size := HB1.out.size
  generalize w1.alloc (.cells (madeCells (Value.int .u8 0).cells 0) 5) = w3 at *
  generalize w1.heap.size = Q at *
  clear HB1 HMK
  go_wp2
  go_loopw [8, 24] (fun _ ix wr => ∃ k : Nat, k ≤ 0 ∧ ix = .int .i64 k ∧ Hid (Row .u8 wr Q 0 (fun j => if j < k then (x.toNat : Int) else 0)) ∧ Hid (Below w.heap.size w wr)) (fun _ i _ => 0 - (intOf i).toNat)
  case atStart => exact ⟨0, Nat.zero_le _, rfl, V3, B3⟩
  case round =>
    clear V3 B3
    obtain ⟨k, hk, rfl, hV, hB⟩ := hrel
    by_cases hlt : k < 0
    · exact absurd hlt (Nat.not_lt_zero _)
    · obtain rfl : k = 0 := by omega
      have cv := HCV.out wr Q (hV.out.congr (fun j hj => by rw [if_pos hj]))
      go_wp2_with fail
      refine (PC1 _).mono ?_
      rintro e w5 ⟨rfl, B5⟩
      have HB5 : Hid (Below w.heap.size w w5) := bel_trans hB.out B5
      clear B5 hV hB cv PC1 HCV
      by_cases hbig : 32768 < s.size
      · obtain ⟨l, rfl⟩ : ∃ l, s = ba l := ⟨s.data.toList, (ba_list s).symm⟩
        have hsl := ba_size l
        rw [hsl] at hbig hs
        have hbig' : (32768 : Int) < (l.length : Int) := by omega
        have htl : (l.take 32768).length = 32768 := by rw [List.length_take]; omega
        have hex : (ba l).extract 0 32768 = ba (l.take 32768) := by
          have := ba_cut l 0 32768 (by omega) (by omega)
          rw [this]
          rfl
        have h32 : (32768 : Int) ≤ (l.length : Int) := by omega
        have hszl : (ba (l.take 32768)).size = 32768 := by rw [ba_size]; exact htl
        have PC2 := fun w => pack_any (l.take 32768) w (by rw [htl]; omega)
        have PC3 := fun w => pack_any ((l.take 32768) ++ (l.take 32768)) w (by rw [List.length_append, htl]; omega)
        have htw := pk_twice (l.take 32768) (by rw [htl]; omega)
        have ho := pk_len (l.take 32768)
        have hp2 := ba_size (pk (l.take 32768))
        have hp3 := ba_size (pk ((l.take 32768) ++ (l.take 32768)))
        rw [htl] at htw ho
        rw [ba_append] at PC3
        generalize pk ((l.take 32768) ++ (l.take 32768)) = P3 at PC3 htw hp3
        generalize pk (l.take 32768) = P2 at PC2 htw hp2 ho
        obtain ⟨y4, hy4⟩ : ∃ y : Nat, 32768 / 4 = y := ⟨_, rfl⟩
        have hyq : (32768 : Int) / 4 = (y4 : Int) := by omega
        have hfin : (P3.length : Int) ≤ (P2.length : Int) + 14 + 3 * (y4 : Int) := by omega
        have hfin3 : decide ((P3.length : Int) ≤ (P2.length : Int) + 14 + 24576) = true := decide_eq_true (by omega)
        have hfin2 : decide ((P3.length : Int) ≤ (P2.length : Int) + 14 + 3 * (y4 : Int)) = true := decide_eq_true hfin
        have hP2b : P2.length ≤ 2097152 := by omega
        have hP3b : P3.length ≤ 4194304 := by omega
        have hy4b : y4 ≤ 32768 := by omega
        clear hy4 htw ho
        rw [← hex] at PC2 PC3 hszl
        clear hex htl
        go_wp2_with fail
        refine (PC2 _).mono ?_
        rintro e w6 ⟨rfl, B6⟩
        go_wp2_with fail
        refine (PC3 _).mono ?_
        rintro e w7 ⟨rfl, B7⟩
        have HB7 : Hid (Below w.heap.size w w7) := bel_trans (bel_trans HB5.out B6) B7
        clear B6 B7 PC2 PC3
        go_wp2
        go_ret
        exact ⟨rfl, HB7.out⟩
      · obtain ⟨l, rfl⟩ : ∃ l, s = ba l := ⟨s.data.toList, (ba_list s).symm⟩
        have hsl := ba_size l
        rw [hsl] at hbig hs
        have hbig' : ¬ (32768 : Int) < (l.length : Int) := by omega
        have htl : l.length = l.length := rfl
        have hszl : (ba l).size = l.length := ba_size l
        have PC2 := fun w => pack_any l w (by omega)
        have PC3 := fun w => pack_any (l ++ l) w (by rw [List.length_append]; omega)
        have htw := pk_twice l (by omega)
        have ho := pk_len l
        have hp2 := ba_size (pk l)
        have hp3 := ba_size (pk (l ++ l))
        rw [ba_append] at PC3
        generalize pk (l ++ l) = P3 at PC3 htw hp3
        generalize pk l = P2 at PC2 htw hp2 ho
        obtain ⟨y4, hy4⟩ : ∃ y : Nat, l.length / 4 = y := ⟨_, rfl⟩
        have hyq : (l.length : Int) / 4 = (y4 : Int) := by omega
        have hfin : (P3.length : Int) ≤ (P2.length : Int) + 14 + 3 * (y4 : Int) := by omega
        have hfin2 : decide ((P3.length : Int) ≤ (P2.length : Int) + 14 + 3 * (y4 : Int)) = true := decide_eq_true hfin
        have hP2b : P2.length ≤ 2097152 := by omega
        have hP3b : P3.length ≤ 4194304 := by omega
        have hy4b : y4 ≤ 32768 := by omega
        clear hy4 htw ho
        clear htl
        go_wp2_with fail
        refine (PC2 _).mono ?_
        rintro e w6 ⟨rfl, B6⟩
        go_wp2_with fail
        refine (PC3 _).mono ?_
        rintro e w7 ⟨rfl, B7⟩
        have HB7 : Hid (Below w.heap.size w w7) := bel_trans (bel_trans HB5.out B6) B7
        clear B6 B7 PC2 PC3
        go_wp2
        go_ret
        exact ⟨rfl, HB7.out⟩


set_option maxHeartbeats 8000000 in
set_option maxRecDepth 10000 in
theorem runs_zero (x : UInt8) (s : ByteArray) (w : World) (hs : s.size ≤ 9223372036854775807) : Calls Try.prog 8 #[.int .u8 (x.toNat : Int), .int .i64 ((0 : Nat) : Int), .string s] w fun e w' => e = .returned (.bool true) ∧ Below w.heap.size w w' := by
  have HMK : Hid (∀ w : World, (Instr.makeSlice 45 (.int .i64 0) (.int .i64 0)).run Try.prog w = .ok (.slice (some ⟨w.heap.size, 0, none⟩) 0 0) (w.alloc (.cells (madeCells (Value.int .u8 0).cells 0) 5))) := fun w => make_bytes w 0 (by omega)
  have PC1 := fun w => pack_any (List.replicate 0 x) w (by rw [List.length_replicate]; omega)
  have hr1 := pk_rep 0 x
  have ho1 := (pk_len (List.replicate 0 x)).2
  rw [List.length_replicate] at ho1
  have hp1 := ba_size (pk (List.replicate 0 x))
  have HCV : Hid (∀ (w : World) (Q : Nat), Row .u8 w Q 0 (fun _ => (x.toNat : Int)) → (convert 45 9 (.slice (some ⟨Q, 0, none⟩) 0 0)).run Try.prog w = .ok (.string (ba (List.replicate 0 x))) w) := fun w Q V => rep_conv w Q 0 x V
  generalize pk (List.replicate 0 x) = P1 at PC1 hr1 ho1 hp1
  have hP1b : P1.length ≤ 2097152 := by omega
  clear ho1
  clear hr1
  go_enter Try.func8, Try.ntmps8
  go_wp2_with fail
  refine (awake_any _).mono ?_
  rintro e w1 ⟨rfl, B1⟩
  have HB1 : Hid (Below w.heap.size w w1) := B1
  clear B1
  go_wp2_with fail
  rw [HMK.out]
  have V3 : Hid (Row .u8 (w1.alloc (.cells (madeCells (Value.int .u8 0).cells 0) 5)) w1.heap.size 0 (fun j => if j < 0 then (x.toNat : Int) else 0)) := (Row.made rfl).congr (fun j _ => by rw [if_neg (Nat.not_lt_zero _)])
  have B3 : Hid (Below w.heap.size w (w1.alloc (.cells (madeCells (Value.int .u8 0).cells 0) 5))) := HB1.out.alloc HB1.out.size _
  have hwQ : w.heap.size ≤ w1.heap.size := HB1.out.size
  generalize w1.alloc (.cells (madeCells (Value.int .u8 0).cells 0) 5) = w3 at *
  generalize w1.heap.size = Q at *
  clear HB1 HMK
  go_wp2
  go_loopw [8, 24] (fun _ ix wr => ∃ k : Nat, k ≤ 0 ∧ ix = .int .i64 k ∧ Hid (Row .u8 wr Q 0 (fun j => if j < k then (x.toNat : Int) else 0)) ∧ Hid (Below w.heap.size w wr)) (fun _ i _ => 0 - (intOf i).toNat)
  case atStart => exact ⟨0, Nat.zero_le _, rfl, V3, B3⟩
  case round =>
    clear V3 B3
    obtain ⟨k, hk, rfl, hV, hB⟩ := hrel
    by_cases hlt : k < 0
    · exact absurd hlt (Nat.not_lt_zero _)
    · obtain rfl : k = 0 := by omega
      have cv := HCV.out wr Q (hV.out.congr (fun j hj => by rw [if_pos hj]))
      go_wp2_with fail
      refine (PC1 _).mono ?_
      rintro e w5 ⟨rfl, B5⟩
      have HB5 : Hid (Below w.heap.size w w5) := bel_trans hB.out B5
      clear B5 hV hB cv PC1 HCV
      by_cases hbig : 32768 < s.size
      · obtain ⟨l, rfl⟩ : ∃ l, s = ba l := ⟨s.data.toList, (ba_list s).symm⟩
        have hsl := ba_size l
        rw [hsl] at hbig hs
        have hbig' : (32768 : Int) < (l.length : Int) := by omega
        have htl : (l.take 32768).length = 32768 := by rw [List.length_take]; omega
        have hex : (ba l).extract 0 32768 = ba (l.take 32768) := by
          have := ba_cut l 0 32768 (by omega) (by omega)
          rw [this]
          rfl
        have h32 : (32768 : Int) ≤ (l.length : Int) := by omega
        have hszl : (ba (l.take 32768)).size = 32768 := by rw [ba_size]; exact htl
        have PC2 := fun w => pack_any (l.take 32768) w (by rw [htl]; omega)
        have PC3 := fun w => pack_any ((l.take 32768) ++ (l.take 32768)) w (by rw [List.length_append, htl]; omega)
        have htw := pk_twice (l.take 32768) (by rw [htl]; omega)
        have ho := pk_len (l.take 32768)
        have hp2 := ba_size (pk (l.take 32768))
        have hp3 := ba_size (pk ((l.take 32768) ++ (l.take 32768)))
        rw [htl] at htw ho
        rw [ba_append] at PC3
        generalize pk ((l.take 32768) ++ (l.take 32768)) = P3 at PC3 htw hp3
        generalize pk (l.take 32768) = P2 at PC2 htw hp2 ho
        obtain ⟨y4, hy4⟩ : ∃ y : Nat, 32768 / 4 = y := ⟨_, rfl⟩
        have hyq : (32768 : Int) / 4 = (y4 : Int) := by omega
        have hfin : (P3.length : Int) ≤ (P2.length : Int) + 14 + 3 * (y4 : Int) := by omega
        have hfin3 : decide ((P3.length : Int) ≤ (P2.length : Int) + 14 + 24576) = true := decide_eq_true (by omega)
        have hfin2 : decide ((P3.length : Int) ≤ (P2.length : Int) + 14 + 3 * (y4 : Int)) = true := decide_eq_true hfin
        have hP2b : P2.length ≤ 2097152 := by omega
        have hP3b : P3.length ≤ 4194304 := by omega
        have hy4b : y4 ≤ 32768 := by omega
        clear hy4 htw ho
        rw [← hex] at PC2 PC3 hszl
        clear hex htl
        go_wp2_with fail
        refine (PC2 _).mono ?_
        rintro e w6 ⟨rfl, B6⟩
        go_wp2_with fail
        refine (PC3 _).mono ?_
        rintro e w7 ⟨rfl, B7⟩
        have HB7 : Hid (Below w.heap.size w w7) := bel_trans (bel_trans HB5.out B6) B7
        clear B6 B7 PC2 PC3
        go_wp2
        go_ret
        exact ⟨rfl, HB7.out⟩
      · obtain ⟨l, rfl⟩ : ∃ l, s = ba l := ⟨s.data.toList, (ba_list s).symm⟩
        have hsl := ba_size l
        rw [hsl] at hbig hs
        have hbig' : ¬ (32768 : Int) < (l.length : Int) := by omega
        have htl : l.length = l.length := rfl
        have hszl : (ba l).size = l.length := ba_size l
        have PC2 := fun w => pack_any l w (by omega)
        have PC3 := fun w => pack_any (l ++ l) w (by rw [List.length_append]; omega)
        have htw := pk_twice l (by omega)
        have ho := pk_len l
        have hp2 := ba_size (pk l)
        have hp3 := ba_size (pk (l ++ l))
        rw [ba_append] at PC3
        generalize pk (l ++ l) = P3 at PC3 htw hp3
        generalize pk l = P2 at PC2 htw hp2 ho
        obtain ⟨y4, hy4⟩ : ∃ y : Nat, l.length / 4 = y := ⟨_, rfl⟩
        have hyq : (l.length : Int) / 4 = (y4 : Int) := by omega
        have hfin : (P3.length : Int) ≤ (P2.length : Int) + 14 + 3 * (y4 : Int) := by omega
        have hfin2 : decide ((P3.length : Int) ≤ (P2.length : Int) + 14 + 3 * (y4 : Int)) = true := decide_eq_true hfin
        have hP2b : P2.length ≤ 2097152 := by omega
        have hP3b : P3.length ≤ 4194304 := by omega
        have hy4b : y4 ≤ 32768 := by omega
        clear hy4 htw ho
        clear htl
        go_wp2_with fail
        refine (PC2 _).mono ?_
        rintro e w6 ⟨rfl, B6⟩
        go_wp2_with fail
        refine (PC3 _).mono ?_
        rintro e w7 ⟨rfl, B7⟩
        have HB7 : Hid (Below w.heap.size w w7) := bel_trans (bel_trans HB5.out B6) B7
        clear B6 B7 PC2 PC3
        go_wp2
        go_ret
        exact ⟨rfl, HB7.out⟩


set_option maxHeartbeats 8000000 in
set_option maxRecDepth 10000 in
theorem runs_mid (x : UInt8) (n : Nat) (s : ByteArray) (w : World) (hs : s.size ≤ 9223372036854775807) (h0 : 0 < n) (h1 : n ≤ 1048576) : Calls Try.prog 8 #[.int .u8 (x.toNat : Int), .int .i64 (n : Int), .string s] w fun e w' => e = .returned (.bool true) ∧ Below w.heap.size w w' := by
  have hn1 : ¬ (n : Int) < 0 := by omega
  have hn2 : ¬ (1048576 : Int) < (n : Int) := by omega
  have hn3 : (0 : Int) < (n : Int) := by omega
  have HMK : Hid (∀ w : World, (Instr.makeSlice 45 (.int .i64 (n : Int)) (.int .i64 (n : Int))).run Try.prog w = .ok (.slice (some ⟨w.heap.size, 0, none⟩) n n) (w.alloc (.cells (madeCells (Value.int .u8 0).cells n) 5))) := fun w => make_bytes w n (by omega)
  have PC1 := fun w => pack_any (List.replicate n x) w (by rw [List.length_replicate]; omega)
  have hr1 := pk_rep n x
  have ho1 := (pk_len (List.replicate n x)).2
  rw [List.length_replicate] at ho1
  have hp1 := ba_size (pk (List.replicate n x))
  have HCV : Hid (∀ (w : World) (Q : Nat), Row .u8 w Q n (fun _ => (x.toNat : Int)) → (convert 45 9 (.slice (some ⟨Q, 0, none⟩) n n)).run Try.prog w = .ok (.string (ba (List.replicate n x))) w) := fun w Q V => rep_conv w Q n x V
  generalize pk (List.replicate n x) = P1 at PC1 hr1 ho1 hp1
  have hP1b : P1.length ≤ 2097152 := by omega
  clear ho1
  obtain ⟨xd, hxd⟩ : ∃ xd : Nat, (n - 1) / 131 = xd := ⟨_, rfl⟩
  have hq1 : ((n : Int) - 1) / 131 = (xd : Int) := by omega
  have hr2 := hr1 (by omega)
  have hle1 : ¬ (14 + 3 * (xd : Int)) < (P1.length : Int) := by omega
  have hxb : xd ≤ 1048576 := by omega
  clear hr1 hr2 hxd
  go_enter Try.func8, Try.ntmps8
  go_wp2_with fail
  refine (awake_any _).mono ?_
  rintro e w1 ⟨rfl, B1⟩
  have HB1 : Hid (Below w.heap.size w w1) := B1
  clear B1
  go_wp2_with fail
  rw [HMK.out]
  have V3 : Hid (Row .u8 (w1.alloc (.cells (madeCells (Value.int .u8 0).cells n) 5)) w1.heap.size n (fun j => if j < 0 then (x.toNat : Int) else 0)) := (Row.made rfl).congr (fun j _ => by rw [if_neg (Nat.not_lt_zero _)])
  have B3 : Hid (Below w.heap.size w (w1.alloc (.cells (madeCells (Value.int .u8 0).cells n) 5))) := HB1.out.alloc HB1.out.size _
  have hwQ : w.heap.size ≤ w1.heap.size := HB1.out.size
  generalize w1.alloc (.cells (madeCells (Value.int .u8 0).cells n) 5) = w3 at *
  generalize w1.heap.size = Q at *
  clear HB1 HMK
  go_wp2
  go_loopw [8, 24] (fun _ ix wr => ∃ k : Nat, k ≤ n ∧ ix = .int .i64 k ∧ Hid (Row .u8 wr Q n (fun j => if j < k then (x.toNat : Int) else 0)) ∧ Hid (Below w.heap.size w wr)) (fun _ i _ => n - (intOf i).toNat)
  case atStart => exact ⟨0, Nat.zero_le _, rfl, V3, B3⟩
  case round =>
    clear V3 B3
    obtain ⟨k, hk, rfl, hV, hB⟩ := hrel
    by_cases hlt : k < n
    · have d0 := hV.out.cell k hlt
      have z0 := hV.out.free k hlt
      go_wp2
      go_roundw
      case rel => exact ⟨k + 1, by omega, by go_num, (hV.out.set k (x.toNat : Int) hlt).congr (fun j _ => by
        by_cases e : j = k
        · rw [if_pos e, if_pos (by omega)]
        · rw [if_neg e]
          by_cases e2 : j < k
          · rw [if_pos e2, if_pos (by omega)]
          · rw [if_neg e2, if_neg (by omega)]), hB.out.setCell hwQ _⟩
      case measure => simp [intOf]; omega
    · obtain rfl : k = n := by omega
      have cv := HCV.out wr Q (hV.out.congr (fun j hj => by rw [if_pos hj]))
      go_wp2_with fail
      refine (PC1 _).mono ?_
      rintro e w5 ⟨rfl, B5⟩
      have HB5 : Hid (Below w.heap.size w w5) := bel_trans hB.out B5
      clear B5 hV hB cv PC1 HCV
      by_cases hbig : 32768 < s.size
      · obtain ⟨l, rfl⟩ : ∃ l, s = ba l := ⟨s.data.toList, (ba_list s).symm⟩
        have hsl := ba_size l
        rw [hsl] at hbig hs
        have hbig' : (32768 : Int) < (l.length : Int) := by omega
        have htl : (l.take 32768).length = 32768 := by rw [List.length_take]; omega
        have hex : (ba l).extract 0 32768 = ba (l.take 32768) := by
          have := ba_cut l 0 32768 (by omega) (by omega)
          rw [this]
          rfl
        have h32 : (32768 : Int) ≤ (l.length : Int) := by omega
        have hszl : (ba (l.take 32768)).size = 32768 := by rw [ba_size]; exact htl
        have PC2 := fun w => pack_any (l.take 32768) w (by rw [htl]; omega)
        have PC3 := fun w => pack_any ((l.take 32768) ++ (l.take 32768)) w (by rw [List.length_append, htl]; omega)
        have htw := pk_twice (l.take 32768) (by rw [htl]; omega)
        have ho := pk_len (l.take 32768)
        have hp2 := ba_size (pk (l.take 32768))
        have hp3 := ba_size (pk ((l.take 32768) ++ (l.take 32768)))
        rw [htl] at htw ho
        rw [ba_append] at PC3
        generalize pk ((l.take 32768) ++ (l.take 32768)) = P3 at PC3 htw hp3
        generalize pk (l.take 32768) = P2 at PC2 htw hp2 ho
        obtain ⟨y4, hy4⟩ : ∃ y : Nat, 32768 / 4 = y := ⟨_, rfl⟩
        have hyq : (32768 : Int) / 4 = (y4 : Int) := by omega
        have hfin : (P3.length : Int) ≤ (P2.length : Int) + 14 + 3 * (y4 : Int) := by omega
        have hfin3 : decide ((P3.length : Int) ≤ (P2.length : Int) + 14 + 24576) = true := decide_eq_true (by omega)
        have hfin2 : decide ((P3.length : Int) ≤ (P2.length : Int) + 14 + 3 * (y4 : Int)) = true := decide_eq_true hfin
        have hP2b : P2.length ≤ 2097152 := by omega
        have hP3b : P3.length ≤ 4194304 := by omega
        have hy4b : y4 ≤ 32768 := by omega
        clear hy4 htw ho
        rw [← hex] at PC2 PC3 hszl
        clear hex htl
        go_wp2_with fail
        refine (PC2 _).mono ?_
        rintro e w6 ⟨rfl, B6⟩
        go_wp2_with fail
        refine (PC3 _).mono ?_
        rintro e w7 ⟨rfl, B7⟩
        have HB7 : Hid (Below w.heap.size w w7) := bel_trans (bel_trans HB5.out B6) B7
        clear B6 B7 PC2 PC3
        go_wp2
        go_ret
        exact ⟨rfl, HB7.out⟩
      · obtain ⟨l, rfl⟩ : ∃ l, s = ba l := ⟨s.data.toList, (ba_list s).symm⟩
        have hsl := ba_size l
        rw [hsl] at hbig hs
        have hbig' : ¬ (32768 : Int) < (l.length : Int) := by omega
        have htl : l.length = l.length := rfl
        have hszl : (ba l).size = l.length := ba_size l
        have PC2 := fun w => pack_any l w (by omega)
        have PC3 := fun w => pack_any (l ++ l) w (by rw [List.length_append]; omega)
        have htw := pk_twice l (by omega)
        have ho := pk_len l
        have hp2 := ba_size (pk l)
        have hp3 := ba_size (pk (l ++ l))
        rw [ba_append] at PC3
        generalize pk (l ++ l) = P3 at PC3 htw hp3
        generalize pk l = P2 at PC2 htw hp2 ho
        obtain ⟨y4, hy4⟩ : ∃ y : Nat, l.length / 4 = y := ⟨_, rfl⟩
        have hyq : (l.length : Int) / 4 = (y4 : Int) := by omega
        have hfin : (P3.length : Int) ≤ (P2.length : Int) + 14 + 3 * (y4 : Int) := by omega
        have hfin2 : decide ((P3.length : Int) ≤ (P2.length : Int) + 14 + 3 * (y4 : Int)) = true := decide_eq_true hfin
        have hP2b : P2.length ≤ 2097152 := by omega
        have hP3b : P3.length ≤ 4194304 := by omega
        have hy4b : y4 ≤ 32768 := by omega
        clear hy4 htw ho
        clear htl
        go_wp2_with fail
        refine (PC2 _).mono ?_
        rintro e w6 ⟨rfl, B6⟩
        go_wp2_with fail
        refine (PC3 _).mono ?_
        rintro e w7 ⟨rfl, B7⟩
        have HB7 : Hid (Below w.heap.size w w7) := bel_trans (bel_trans HB5.out B6) B7
        clear B6 B7 PC2 PC3
        go_wp2
        go_ret
        exact ⟨rfl, HB7.out⟩


set_option maxHeartbeats 8000000 in
set_option maxRecDepth 10000 in
theorem runs_top (x : UInt8) (nn : Int) (s : ByteArray) (w : World) (hs : s.size ≤ 9223372036854775807) (h0 : 1048576 < nn) : Calls Try.prog 8 #[.int .u8 (x.toNat : Int), .int .i64 nn, .string s] w fun e w' => e = .returned (.bool true) ∧ Below w.heap.size w w' := by
  have hn1 : ¬ nn < 0 := by omega
  obtain ⟨n, hN⟩ : ∃ n : Nat, n = 1048576 := ⟨_, rfl⟩
  have HN : Hid (n = 1048576) := hN
  have h1 : n ≤ 1048576 := by omega
  clear hN
  have HMK : Hid (∀ w : World, (Instr.makeSlice 45 (.int .i64 1048576) (.int .i64 1048576)).run Try.prog w = .ok (.slice (some ⟨w.heap.size, 0, none⟩) n n) (w.alloc (.cells (madeCells (Value.int .u8 0).cells n) 5))) := fun w => by
    have h := make_bytes w n (by omega)
    rw [show ((n : Nat) : Int) = 1048576 by have := HN.out; omega] at h
    exact h
  have PC1 := fun w => pack_any (List.replicate n x) w (by rw [List.length_replicate]; omega)
  have hr1 := pk_rep n x
  have ho1 := (pk_len (List.replicate n x)).2
  rw [List.length_replicate] at ho1
  have hp1 := ba_size (pk (List.replicate n x))
  have HCV : Hid (∀ (w : World) (Q : Nat), Row .u8 w Q n (fun _ => (x.toNat : Int)) → (convert 45 9 (.slice (some ⟨Q, 0, none⟩) n n)).run Try.prog w = .ok (.string (ba (List.replicate n x))) w) := fun w Q V => rep_conv w Q n x V
  generalize pk (List.replicate n x) = P1 at PC1 hr1 ho1 hp1
  have hP1b : P1.length ≤ 2097152 := by omega
  clear ho1
  have hle1 : ¬ (24026 : Int) < (P1.length : Int) := by have := HN.out; have := hr1 (by omega); omega
  clear hr1
  go_enter Try.func8, Try.ntmps8
  go_wp2_with fail
  refine (awake_any _).mono ?_
  rintro e w1 ⟨rfl, B1⟩
  have HB1 : Hid (Below w.heap.size w w1) := B1
  clear B1
  go_wp2_with fail
  rw [HMK.out]
  have V3 : Hid (Row .u8 (w1.alloc (.cells (madeCells (Value.int .u8 0).cells n) 5)) w1.heap.size n (fun j => if j < 0 then (x.toNat : Int) else 0)) := (Row.made rfl).congr (fun j _ => by rw [if_neg (Nat.not_lt_zero _)])
  have B3 : Hid (Below w.heap.size w (w1.alloc (.cells (madeCells (Value.int .u8 0).cells n) 5))) := HB1.out.alloc HB1.out.size _
  have hwQ : w.heap.size ≤ w1.heap.size := HB1.out.size
  generalize w1.alloc (.cells (madeCells (Value.int .u8 0).cells n) 5) = w3 at *
  generalize w1.heap.size = Q at *
  clear HB1 HMK
  go_wp2
  go_loopw [8, 24] (fun _ ix wr => ∃ k : Nat, k ≤ n ∧ ix = .int .i64 k ∧ Hid (Row .u8 wr Q n (fun j => if j < k then (x.toNat : Int) else 0)) ∧ Hid (Below w.heap.size w wr)) (fun _ i _ => n - (intOf i).toNat)
  case atStart => exact ⟨0, Nat.zero_le _, rfl, V3, B3⟩
  case round =>
    clear V3 B3
    obtain ⟨k, hk, rfl, hV, hB⟩ := hrel
    by_cases hlt : k < n
    · have d0 := hV.out.cell k hlt
      have z0 := hV.out.free k hlt
      go_wp2
      go_roundw
      case rel => exact ⟨k + 1, by omega, by go_num, (hV.out.set k (x.toNat : Int) hlt).congr (fun j _ => by
        by_cases e : j = k
        · rw [if_pos e, if_pos (by omega)]
        · rw [if_neg e]
          by_cases e2 : j < k
          · rw [if_pos e2, if_pos (by omega)]
          · rw [if_neg e2, if_neg (by omega)]), hB.out.setCell hwQ _⟩
      case measure => simp [intOf]; omega
    · obtain rfl : k = n := by omega
      have cv := HCV.out wr Q (hV.out.congr (fun j hj => by rw [if_pos hj]))
      go_wp2_with fail
      refine (PC1 _).mono ?_
      rintro e w5 ⟨rfl, B5⟩
      have HB5 : Hid (Below w.heap.size w w5) := bel_trans hB.out B5
      clear B5 hV hB cv PC1 HCV
      by_cases hbig : 32768 < s.size
      · obtain ⟨l, rfl⟩ : ∃ l, s = ba l := ⟨s.data.toList, (ba_list s).symm⟩
        have hsl := ba_size l
        rw [hsl] at hbig hs
        have hbig' : (32768 : Int) < (l.length : Int) := by omega
        have htl : (l.take 32768).length = 32768 := by rw [List.length_take]; omega
        have hex : (ba l).extract 0 32768 = ba (l.take 32768) := by
          have := ba_cut l 0 32768 (by omega) (by omega)
          rw [this]
          rfl
        have h32 : (32768 : Int) ≤ (l.length : Int) := by omega
        have hszl : (ba (l.take 32768)).size = 32768 := by rw [ba_size]; exact htl
        have PC2 := fun w => pack_any (l.take 32768) w (by rw [htl]; omega)
        have PC3 := fun w => pack_any ((l.take 32768) ++ (l.take 32768)) w (by rw [List.length_append, htl]; omega)
        have htw := pk_twice (l.take 32768) (by rw [htl]; omega)
        have ho := pk_len (l.take 32768)
        have hp2 := ba_size (pk (l.take 32768))
        have hp3 := ba_size (pk ((l.take 32768) ++ (l.take 32768)))
        rw [htl] at htw ho
        rw [ba_append] at PC3
        generalize pk ((l.take 32768) ++ (l.take 32768)) = P3 at PC3 htw hp3
        generalize pk (l.take 32768) = P2 at PC2 htw hp2 ho
        obtain ⟨y4, hy4⟩ : ∃ y : Nat, 32768 / 4 = y := ⟨_, rfl⟩
        have hyq : (32768 : Int) / 4 = (y4 : Int) := by omega
        have hfin : (P3.length : Int) ≤ (P2.length : Int) + 14 + 3 * (y4 : Int) := by omega
        have hfin3 : decide ((P3.length : Int) ≤ (P2.length : Int) + 14 + 24576) = true := decide_eq_true (by omega)
        have hfin2 : decide ((P3.length : Int) ≤ (P2.length : Int) + 14 + 3 * (y4 : Int)) = true := decide_eq_true hfin
        have hP2b : P2.length ≤ 2097152 := by omega
        have hP3b : P3.length ≤ 4194304 := by omega
        have hy4b : y4 ≤ 32768 := by omega
        clear hy4 htw ho
        rw [← hex] at PC2 PC3 hszl
        clear hex htl
        go_wp2_with fail
        refine (PC2 _).mono ?_
        rintro e w6 ⟨rfl, B6⟩
        go_wp2_with fail
        refine (PC3 _).mono ?_
        rintro e w7 ⟨rfl, B7⟩
        have HB7 : Hid (Below w.heap.size w w7) := bel_trans (bel_trans HB5.out B6) B7
        clear B6 B7 PC2 PC3
        go_wp2
        go_ret
        exact ⟨rfl, HB7.out⟩
      · obtain ⟨l, rfl⟩ : ∃ l, s = ba l := ⟨s.data.toList, (ba_list s).symm⟩
        have hsl := ba_size l
        rw [hsl] at hbig hs
        have hbig' : ¬ (32768 : Int) < (l.length : Int) := by omega
        have htl : l.length = l.length := rfl
        have hszl : (ba l).size = l.length := ba_size l
        have PC2 := fun w => pack_any l w (by omega)
        have PC3 := fun w => pack_any (l ++ l) w (by rw [List.length_append]; omega)
        have htw := pk_twice l (by omega)
        have ho := pk_len l
        have hp2 := ba_size (pk l)
        have hp3 := ba_size (pk (l ++ l))
        rw [ba_append] at PC3
        generalize pk (l ++ l) = P3 at PC3 htw hp3
        generalize pk l = P2 at PC2 htw hp2 ho
        obtain ⟨y4, hy4⟩ : ∃ y : Nat, l.length / 4 = y := ⟨_, rfl⟩
        have hyq : (l.length : Int) / 4 = (y4 : Int) := by omega
        have hfin : (P3.length : Int) ≤ (P2.length : Int) + 14 + 3 * (y4 : Int) := by omega
        have hfin2 : decide ((P3.length : Int) ≤ (P2.length : Int) + 14 + 3 * (y4 : Int)) = true := decide_eq_true hfin
        have hP2b : P2.length ≤ 2097152 := by omega
        have hP3b : P3.length ≤ 4194304 := by omega
        have hy4b : y4 ≤ 32768 := by omega
        clear hy4 htw ho
        clear htl
        go_wp2_with fail
        refine (PC2 _).mono ?_
        rintro e w6 ⟨rfl, B6⟩
        go_wp2_with fail
        refine (PC3 _).mono ?_
        rintro e w7 ⟨rfl, B7⟩
        have HB7 : Hid (Below w.heap.size w w7) := bel_trans (bel_trans HB5.out B6) B7
        clear B6 B7 PC2 PC3
        go_wp2
        go_ret
        exact ⟨rfl, HB7.out⟩


theorem runs_walk (b nn : Int) (s : ByteArray) (w : World) (hb0 : 0 ≤ b) (hb1 : b ≤ 255) (_ : -9223372036854775808 ≤ nn) (_ : nn ≤ 9223372036854775807) (hs : s.size ≤ 140737488351232) : Calls Try.prog 8 #[.int .u8 b, .int .i64 nn, .string s] w fun e w' => e = .returned (.bool true) ∧ Below w.heap.size w w' := by
  obtain ⟨x, hx⟩ : ∃ x : UInt8, b = (x.toNat : Int) := ⟨UInt8.ofNat b.toNat, by rw [u8_of b.toNat (by omega)]; omega⟩
  subst hx
  by_cases h0 : nn < 0
  · exact runs_neg x nn s w (by omega) h0
  · by_cases h1 : 1048576 < nn
    · exact runs_top x nn s w (by omega) h1
    · obtain ⟨n, rfl⟩ : ∃ n : Nat, nn = (n : Int) := ⟨nn.toNat, by omega⟩
      by_cases hz : n = 0
      · subst hz
        exact runs_zero x s w (by omega)
      · exact runs_mid x n s w (by omega) (by omega) (by omega)

end Go.Proofs.Ythjpmiidbgaiaaa
