/- The law TreeFirst, walked (own text of the verifier). -/
import Derived.Test.YtmknnblogfpifaaDoorTxG
import Derived.Test.YtmknnblogfpifaaDoorTvL
namespace Go.Proofs.YtmknnblogfpifaaDoor
open Go.RowKit

theorem bAt_find (L : List RW) (s : List OE × Int) (j i : Nat) (h : bAt L s j = some i) : ∃ A r B s', L = A ++ r :: B ∧ runR spN A s = some s' ∧ addR spN r s'.1 s'.2 = none ∧ i = j + A.length := by
  induction L generalizing s j with
  | nil => cases h
  | cons a L ih =>
    rw [bAt] at h
    cases ha : addR spN a s.1 s.2 with
    | none =>
      rw [ha] at h
      cases h
      exact ⟨[], a, L, s, rfl, rfl, ha, rfl⟩
    | some t =>
      rw [ha] at h
      obtain ⟨A, r, B, s', h1, h2, h3, h4⟩ := ih t (j + 1) h
      refine ⟨a :: A, r, B, s', by rw [h1]; rfl, ?_, h3, by rw [h4, List.length_cons]; omega⟩
      rw [runR, ha]
      exact h2
/-- The first row that can't be is the first. -/
theorem bF_cases (L : List RW) (hL : L ≠ []) : bF L = (0, 0) ∨ ∃ i : Nat, i < L.length ∧ bF L = (64, (i : Int)) ∧ bF (L.take (i + 1)) = (64, (i : Int)) ∧ (0 < i → bF (L.take i) = (0, 0)) := by
  unfold bF
  rw [if_neg hL]
  cases h : bAt L ([], 24) 0 with
  | none => exact Or.inl rfl
  | some i =>
    right
    obtain ⟨A, r, B, s', h1, h2, h3, h4⟩ := bAt_find L _ _ _ h
    have h4 : i = A.length := by omega
    have t1 : L.take (i + 1) = A ++ [r] := by
      rw [h1, h4, List.take_append, List.take_of_length_le (by omega), show A.length + 1 - A.length = 1 by omega]
      rfl
    have t2 : L.take i = A := by rw [h1, h4, List.take_left]
    refine ⟨i, by rw [h1, h4, List.length_append, List.length_cons]; omega, rfl, ?_, fun hi => ?_⟩
    · rw [t1, if_neg (by simp)]
      have h9 := bAt_app A r [] ([], 24) s' 0 h2
      rw [h3] at h9
      dsimp only at h9
      rw [h9, h4, Nat.zero_add]
    · rw [t2, if_neg (fun g => by rw [g] at h4; simp at h4; omega), bAt_all A _ _ 0 h2]

theorem take_rows {w : World} {x : Option Addr} {L : List RW} (h : RIs w x L) (n : Nat) (hn : n ≤ L.length) : RIs w x (L.take n) ∧ (L.take n).length = n := ⟨h.take n, by rw [List.length_take]; omega⟩
theorem smR_take {L : List RW} (h : smR L) (n : Nat) : smR (L.take n) := fun r hr => h r (List.mem_of_mem_take hr)

set_option maxHeartbeats 16000000 in
set_option maxRecDepth 20000 in
theorem first_walk (x : Option Addr) (c : Nat) (L : List RW) (w : World) (hX : RIs w x L) (hn : L.length ≤ 1048576) (hsm : smR L) (hc : L.length ≤ c) :
    Calls Tryd.prog 4 #[.slice x L.length c] w fun e w' => e = .returned (.bool true) ∧ Below w.heap.size w w' := by
  have A0 := awake_any w
  have HX : Hid (RIs w x L) := hX
  have HSM : Hid (smR L) := hsm
  clear hX hsm
  go_enter Tryd.func4, Tryd.ntmps4
  go_wp2_with fail
  refine A0.mono ?_
  rintro en w1 ⟨rfl, L1⟩
  clear A0
  have C1 := build_any L x c w1 (HX.out.below L1 (Nat.le_refl _)) hn HSM.out
  go_wp2_with fail
  refine C1.mono ?_
  rintro en w2 ⟨⟨k, e, t, xx, nn, cc, rfl, -⟩, L2⟩
  have B2 : Below w.heap.size w w2 := L1.trans (L2.mono L1.size)
  clear C1 L1 L2
  by_cases hL : L = []
  · have hb : bF L = (50, 0) := by unfold bF; rw [if_pos hL]
    have hl0 : L.length = 0 := by rw [hL]; rfl
    rw [hb, hl0]
    have HBL : Hid (Below w.heap.size w ((w2.alloc (.cells #[.int .i64 k, .bool e, .string t, .slice xx nn cc] 25)).alloc (.cells #[.int .i64 50, .int .i64 0] 34))) := (B2.alloc B2.size _).alloc (by rw [World.size_alloc]; have := B2.size; omega) _
    clear hb hl0 hL
    go_wp2
    try rw [Exit.noGoto_ret]
    go_ret
    exact ⟨rfl, HBL.out⟩
  · have hlp : 0 < L.length := List.length_pos_iff.2 hL
    have hl0 : ((L.length : Int) == 0) = false := by rw [beq_eq_false_iff_ne]; omega
    have hl1 : ¬ (L.length : Int) = 0 := by omega
    rcases bF_cases L hL with hb | ⟨i, hi, hb, hb1, hb2⟩
    · rw [hb]
      have HBL : Hid (Below w.heap.size w ((w2.alloc (.cells #[.int .i64 k, .bool e, .string t, .slice xx nn cc] 25)).alloc (.cells #[.int .i64 0, .int .i64 0] 34))) := (B2.alloc B2.size _).alloc (by rw [World.size_alloc]; have := B2.size; omega) _
      clear hb hL
      go_wp2
      try rw [Exit.noGoto_ret]
      go_ret
      exact ⟨rfl, HBL.out⟩
    · rw [hb]
      have q1 := fun i' => World.cell?_alloc_new (w2.alloc (.cells #[.int .i64 k, .bool e, .string t, .slice xx nn cc] 25)) #[.int .i64 64, .int .i64 (i : Int)] 34 i'
      rw [World.size_alloc] at q1
      have f0 := q1 0
      have f1 := q1 1
      have B3 : Below w.heap.size w ((w2.alloc (.cells #[.int .i64 k, .bool e, .string t, .slice xx nn cc] 25)).alloc (.cells #[.int .i64 64, .int .i64 (i : Int)] 34)) := (B2.alloc B2.size _).alloc (by rw [World.size_alloc]; have := B2.size; omega) _
      have hz : w2.heap.size + 1 < ((w2.alloc (.cells #[.int .i64 k, .bool e, .string t, .slice xx nn cc] 25)).alloc (.cells #[.int .i64 64, .int .i64 (i : Int)] 34)).heap.size := by rw [World.size_alloc, World.size_alloc]; omega
      have HB1 : Hid (bF (L.take (i + 1)) = (64, (i : Int))) := hb1
      have HB2 : Hid (0 < i → bF (L.take i) = (0, 0)) := hb2
      have i0 : ¬ ((i : Int) < 0) := by omega
      have i0' : decide ((i : Int) < 0) = false := decide_eq_false i0
      have i1 : ¬ ((L.length : Int) ≤ (i : Int)) := by omega
      have i1' : decide ((L.length : Int) ≤ (i : Int)) = false := decide_eq_false i1
      have i2 : (i : Int) + 1 ≤ (c : Int) := by omega
      have i3 : i + 1 ≤ c := by omega
      have i4 : (i : Int) ≤ (c : Int) := by omega
      clear hb hb1 hb2 q1 hL
      go_wp2_with fail
      generalize (w2.alloc (.cells #[.int .i64 k, .bool e, .string t, .slice xx nn cc] 25)).alloc (.cells #[.int .i64 64, .int .i64 (i : Int)] 34) = W3 at f0 f1 B3 hz ⊢
      generalize w2.heap.size + 1 = nf at f0 f1 hz ⊢
      obtain ⟨R1, hl1'⟩ := take_rows (HX.out.below B3 (Nat.le_refl _)) (i + 1) (by omega)
      have C2 := build_any (L.take (i + 1)) x c W3 R1 (by omega) (smR_take HSM.out _)
      rw [hl1'] at C2
      refine C2.mono ?_
      rintro en w4 ⟨⟨k2, e2, t2, x2, n2, c2, rfl, -⟩, L4⟩
      rw [HB1.out]
      have g0 := (L4.cell (p := ⟨nf, 0, none⟩) hz).trans f0
      have g1 := (L4.cell (p := ⟨nf, 1, none⟩) hz).trans f1
      have B4 : Below w.heap.size w w4 := B3.trans (L4.mono B3.size)
      have hz4 : nf < w4.heap.size := Nat.lt_of_lt_of_le hz L4.size
      clear C2 L4 R1 f0 f1 hl1' hz B3
      have B5 : Below w.heap.size w ((w4.alloc (.cells #[.int .i64 k2, .bool e2, .string t2, .slice x2 n2 c2] 25)).alloc (.cells #[.int .i64 64, .int .i64 (i : Int)] 34)) := (B4.alloc B4.size _).alloc (by rw [World.size_alloc]; have := B4.size; omega) _
      by_cases hi0 : i = 0
      · have hi1 : ((i : Int) == 0) = true := by rw [hi0]; rfl
        have hi2 : (i : Int) = 0 := by omega
        have HB5 : Hid (Below w.heap.size w ((w4.alloc (.cells #[.int .i64 k2, .bool e2, .string t2, .slice x2 n2 c2] 25)).alloc (.cells #[.int .i64 64, .int .i64 (i : Int)] 34))) := B5
        rw [hi2] at g1 HB5 ⊢
        clear B5
        go_wp2
        try rw [Exit.noGoto_ret]
        go_ret
        exact ⟨rfl, HB5.out⟩
      · have hi1 : ((i : Int) == 0) = false := by rw [beq_eq_false_iff_ne]; omega
        have hi2 : ¬ (i : Int) = 0 := by omega
        have r1 := fun i' => World.cell?_alloc_new (w4.alloc (.cells #[.int .i64 k2, .bool e2, .string t2, .slice x2 n2 c2] 25)) #[.int .i64 64, .int .i64 (i : Int)] 34 i'
        rw [World.size_alloc] at r1
        have y0 := r1 0
        have y1 := r1 1
        have BA : Below w4.heap.size w4 ((w4.alloc (.cells #[.int .i64 k2, .bool e2, .string t2, .slice x2 n2 c2] 25)).alloc (.cells #[.int .i64 64, .int .i64 (i : Int)] 34)) := ((Below.refl _ _).alloc (Nat.le_refl _) _).alloc (by rw [World.size_alloc]; omega) _
        have h0 := (BA.cell (p := ⟨nf, 0, none⟩) hz4).trans g0
        have h1 := (BA.cell (p := ⟨nf, 1, none⟩) hz4).trans g1
        have hz5 : w4.heap.size + 1 < ((w4.alloc (.cells #[.int .i64 k2, .bool e2, .string t2, .slice x2 n2 c2] 25)).alloc (.cells #[.int .i64 64, .int .i64 (i : Int)] 34)).heap.size := by rw [World.size_alloc, World.size_alloc]; omega
        clear r1
        go_wp2_with fail
        generalize (w4.alloc (.cells #[.int .i64 k2, .bool e2, .string t2, .slice x2 n2 c2] 25)).alloc (.cells #[.int .i64 64, .int .i64 (i : Int)] 34) = W5 at y0 y1 B5 BA h0 h1 hz5 ⊢
        have hz6 : nf < W5.heap.size := Nat.lt_of_lt_of_le hz4 BA.size
        have hz7 : nf < w4.heap.size + 1 := by omega
        generalize w4.heap.size + 1 = ng at y0 y1 hz5 hz7 ⊢
        obtain ⟨R1, hl1'⟩ := take_rows (HX.out.below B5 (Nat.le_refl _)) i (by omega)
        have C3 := build_any (L.take i) x c W5 R1 (by omega) (smR_take HSM.out _)
        rw [hl1'] at C3
        refine C3.mono ?_
        rintro en w6 ⟨⟨k3, e3, t3, x3, n3, c3, rfl, -⟩, L6⟩
        rw [HB2.out (by omega)]
        have m0 := (L6.cell (p := ⟨nf, 0, none⟩) hz6).trans h0
        have m1 := (L6.cell (p := ⟨nf, 1, none⟩) hz6).trans h1
        have o0 := (L6.cell (p := ⟨ng, 0, none⟩) hz5).trans y0
        have o1 := (L6.cell (p := ⟨ng, 1, none⟩) hz5).trans y1
        have B6 : Below w.heap.size w w6 := B5.trans (L6.mono B5.size)
        have hz8 : nf < w6.heap.size := Nat.lt_of_lt_of_le hz6 L6.size
        have hz9 : ng < w6.heap.size := Nat.lt_of_lt_of_le hz5 L6.size
        have HB7 : Hid (Below w.heap.size w ((w6.alloc (.cells #[.int .i64 k3, .bool e3, .string t3, .slice x3 n3 c3] 25)).alloc (.cells #[.int .i64 0, .int .i64 0] 34))) := (B6.alloc B6.size _).alloc (by rw [World.size_alloc]; have := B6.size; omega) _
        have zz1 : nf ≠ w6.heap.size := by omega
        have zz2 : ng ≠ w6.heap.size := by omega
        have zz3 : nf ≠ w6.heap.size + 1 := by omega
        have zz4 : ng ≠ w6.heap.size + 1 := by omega
        clear C3 L6 R1 hl1' y0 y1 h0 h1 g0 g1 BA B5 B4
        go_wp2
        go_ret
        exact ⟨rfl, HB7.out⟩

end Go.Proofs.YtmknnblogfpifaaDoor
