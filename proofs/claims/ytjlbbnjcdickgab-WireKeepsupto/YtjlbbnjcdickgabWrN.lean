/- NewReader, Close, Taken, Fault. -/
import Derived.Test.YtjlbbnjcdickgabWrB
namespace Go.Proofs.Ytjlbbnjcdickgab
open Go.RowKit

theorem badAt_eq (l : List UInt8) (k : Nat) (hk : k ≤ l.length) (h1 : ∀ j (h : j < l.length), j < k → okL l[j] = true) (h2 : ∀ h : k < l.length, okL l[k] = false) : badAt l = k := by
  induction l generalizing k with
  | nil => have : k = 0 := by simpa using hk
           rw [this]; rfl
  | cons c r ih =>
    cases k with
    | zero =>
      have := h2 (by simp)
      unfold badAt
      rw [List.takeWhile_cons, if_neg (by simpa using this)]
      rfl
    | succ k =>
      have h0 := h1 0 (by simp) (by omega)
      have e := ih k (by simpa using hk) (fun j hj hjk => h1 (j + 1) (by simpa using hj) (by omega)) (fun h => h2 (by simpa using h))
      unfold badAt at e ⊢
      rw [List.takeWhile_cons, if_pos (by simpa using h0), List.length_cons, e]

theorem Rd.fresh (w : World) (l : List UInt8) (most : Nat) : Rd (w.alloc (.cells #[.int .i64 0, .int .i64 0, .int .i64 0, .string (ba l), .int .u64 (most : Int), .bool false, .int .i64 0, .int .i64 0, .int .u64 0, .slice none 0 0] 50)) w.heap.size (.slice none 0 0) (rs0 l most) := by
  have hc : ∀ j, (w.alloc (.cells #[.int .i64 0, .int .i64 0, .int .i64 0, .string (ba l), .int .u64 (most : Int), .bool false, .int .i64 0, .int .i64 0, .int .u64 0, .slice none 0 0] 50)).cell? ⟨w.heap.size, j, none⟩ = _ := fun j => World.cell?_alloc_new w _ _ j
  exact ⟨(hc 0).trans rfl, (hc 1).trans rfl, (hc 2).trans rfl, (hc 3).trans rfl, (hc 4).trans rfl, (hc 5).trans rfl, (hc 6).trans rfl, (hc 7).trans rfl, (hc 8).trans rfl, (hc 9).trans rfl, fun j _ => World.frozen?_alloc_new w _ _ _, by rw [World.size_alloc]; omega, Buf.nil _ _ _, by simp [Value.ownBlock]⟩

theorem okL_int (c : UInt8) : okL c = true ↔ (((c.toNat : Int) = 105) ∨ ((c.toNat : Int) = 116)) := by
  unfold okL
  rw [Bool.or_eq_true, beq_iff_eq, beq_iff_eq]
  constructor
  · rintro (rfl | rfl)
    · exact .inl rfl
    · exact .inr rfl
  · rintro (h | h)
    · exact .inl (UInt8.toNat_inj.1 (by have : c.toNat = 105 := by omega
                                        rw [this]; rfl))
    · exact .inr (UInt8.toNat_inj.1 (by have : c.toNat = 116 := by omega
                                        rw [this]; rfl))

theorem cell_set_alloc (w : World) (g i j : Nat) (x : Value) (C : Array Value) (T : TypeId) : ((w.setCell ⟨g, i, none⟩ x).alloc (.cells C T)).cell? ⟨w.heap.size, j, none⟩ = C[j]? := by
  have h := World.cell?_alloc_new (w.setCell ⟨g, i, none⟩ x) C T j
  rw [World.size_setCell] at h
  exact h

set_option maxHeartbeats 2000000 in
theorem newReader_pos (l : List UInt8) (mm : Nat) (w : World) (hl : l.length ≤ 1073741824) (hm1 : mm ≤ 9223372036854775807) :
    Calls Try.prog 11 #[.string (ba l), .int .i64 (mm : Int)] w fun e w' => e = .returned (.pointer (some ⟨w.heap.size, 0, none⟩)) ∧ Rd w' w.heap.size (.slice none 0 0) (rsNew l mm) ∧ Below w.heap.size w w' := by
  have hsz := ba_size l
  have hg : ∀ (n : Nat) (h : n < (ba l).size), (((ba l)[n]'h).toNat : Int) = bt (ba l) n := get_bt (ba l)
  have HB : Hid (∀ (k : Nat) (h : k < l.length), bt (ba l) k = ((l[k]'h).toNat : Int)) := fun k h => bt_ba l k h
  have R0 := Rd.fresh w l mm
  have B0 : Below w.heap.size w (w.alloc (.cells #[.int .i64 0, .int .i64 0, .int .i64 0, .string (ba l), .int .u64 (mm : Int), .bool false, .int .i64 0, .int .i64 0, .int .u64 0, .slice none 0 0] 50)) := (Below.refl _ _).alloc (Nat.le_refl _) _
  have HR0 : Hid (Rd (w.alloc (.cells #[.int .i64 0, .int .i64 0, .int .i64 0, .string (ba l), .int .u64 (mm : Int), .bool false, .int .i64 0, .int .i64 0, .int .u64 0, .slice none 0 0] 50)) w.heap.size (.slice none 0 0) (rs0 l mm)) := R0
  have HB0 : Hid (Below w.heap.size w (w.alloc (.cells #[.int .i64 0, .int .i64 0, .int .i64 0, .string (ba l), .int .u64 (mm : Int), .bool false, .int .i64 0, .int .i64 0, .int .u64 0, .slice none 0 0] 50))) := B0
  clear R0 B0
  have hG : Hid (w.heap.size = w.heap.size) := rfl
  go_enter Try.func11, Try.ntmps11
  go_wp2
  generalize w.alloc (.cells #[.int .i64 0, .int .i64 0, .int .i64 0, .string (ba l), .int .u64 (mm : Int), .bool false, .int .i64 0, .int .i64 0, .int .u64 0, .slice none 0 0] 50) = W1 at HR0 HB0 ⊢
  go_loop [15] (fun i => ∃ k : Nat, k ≤ l.length ∧ i = .int .i64 k ∧ Hid (∀ j (h : j < l.length), j < k → okL l[j] = true)) (fun i => l.length - (intOf i).toNat)
  case atStart => exact ⟨0, Nat.zero_le _, rfl, fun j _ h => absurd h (by omega)⟩
  case round =>
    obtain ⟨k, hk, rfl, hok⟩ := hrel
    by_cases hlt : k < l.length
    · have hb := HB.out k hlt
      by_cases ho : okL (l[k]'hlt) = true
      · have ho' : Hid (okL (l[k]'hlt) = true) := ho
        rcases (okL_int _).1 ho with h5 | h6
        · rw [h5] at hb
          clear h5 ho
          go_wp2
          go_round
          case rel => exact ⟨k + 1, by omega, by go_num, fun j hj hjk => if e : j = k then by subst e; exact ho'.out else hok.out j hj (by omega)⟩
          case measure => simp [intOf]; omega
        · rw [h6] at hb
          clear h6 ho
          go_wp2
          go_round
          case rel => exact ⟨k + 1, by omega, by go_num, fun j hj hjk => if e : j = k then by subst e; exact ho'.out else hok.out j hj (by omega)⟩
          case measure => simp [intOf]; omega
      · have hbad : Hid (badAt l = k) := badAt_eq l k hk hok.out (fun h => by simpa using ho)
        have n1 : (bt (ba l) k == 105) = false := by
          rw [hb]; simp; intro h; exact ho ((okL_int _).2 (.inl (by omega)))
        have n2 : (bt (ba l) k == 116) = false := by
          rw [hb]; simp; intro h; exact ho ((okL_int _).2 (.inr (by omega)))
        have n3 : bt (ba l) k ≠ 105 := by simpa using n1
        have n4 : bt (ba l) k ≠ 116 := by simpa using n2
        have n5 : (bt (ba l) k != 105) = true := by simpa using n3
        have n6 : (bt (ba l) k != 116) = true := by simpa using n4
        clear hb ho
        go_wp2_with fail
        refine (fail_any w.heap.size (.slice none 0 0) (rs0 l mm) 30 k _ HR0.out).mono ?_
        rintro e w2 ⟨rfl, R2, M2⟩
        have hR2 : Hid (Rd w2 w.heap.size (.slice none 0 0) ((rs0 l mm).fl 30 k)) := R2
        have hM2 : Hid (Mv W1 w2 w.heap.size (.slice none 0 0) (.slice none 0 0)) := M2
        clear R2 M2
        go_wp2
        go_ret
        refine ⟨rfl, hR2.out.cast ?_, HB0.out.trans (hM2.out.keeps w.heap.size HB0.out.size (Nat.le_refl _) (fun k h => by cases h))⟩
        unfold rsNew
        rw [hbad.out, if_pos hlt]
    · obtain rfl : k = l.length := by omega
      have hbad : Hid (badAt l = l.length) := badAt_eq l l.length hk hok.out (fun h => absurd h (by omega))
      go_wp2_with fail
      refine (begin_any w.heap.size (.slice none 0 0) (rs0 l mm) _ HR0.out).mono ?_
      rintro e w2 ⟨rfl, R2, M2⟩
      have hR2 : Hid (Rd w2 w.heap.size (.slice none 0 0) (rs0 l mm).beg) := R2
      have hM2 : Hid (Mv W1 w2 w.heap.size (.slice none 0 0) (.slice none 0 0)) := M2
      clear R2 M2
      go_wp2
      go_ret
      refine ⟨rfl, hR2.out.cast ?_, HB0.out.trans (hM2.out.keeps w.heap.size HB0.out.size (Nat.le_refl _) (fun k h => by cases h))⟩
      unfold rsNew
      rw [hbad.out, if_neg (Nat.lt_irrefl _)]

set_option maxHeartbeats 2000000 in
theorem newReader_neg (l : List UInt8) (most : Int) (w : World) (hl : l.length ≤ 1073741824) (hm1 : most < 0) :
    Calls Try.prog 11 #[.string (ba l), .int .i64 most] w fun e w' => e = .returned (.pointer (some ⟨w.heap.size, 0, none⟩)) ∧ Rd w' w.heap.size (.slice none 0 0) (rsNew l 0) ∧ Below w.heap.size w w' := by
  have hsz := ba_size l
  have hg : ∀ (n : Nat) (h : n < (ba l).size), (((ba l)[n]'h).toNat : Int) = bt (ba l) n := get_bt (ba l)
  have HB : Hid (∀ (k : Nat) (h : k < l.length), bt (ba l) k = ((l[k]'h).toNat : Int)) := fun k h => bt_ba l k h
  have R0 := Rd.fresh w l 0
  have B0 : Below w.heap.size w (w.alloc (.cells #[.int .i64 0, .int .i64 0, .int .i64 0, .string (ba l), .int .u64 0, .bool false, .int .i64 0, .int .i64 0, .int .u64 0, .slice none 0 0] 50)) := (Below.refl _ _).alloc (Nat.le_refl _) _
  have HR0 : Hid (Rd (w.alloc (.cells #[.int .i64 0, .int .i64 0, .int .i64 0, .string (ba l), .int .u64 0, .bool false, .int .i64 0, .int .i64 0, .int .u64 0, .slice none 0 0] 50)) w.heap.size (.slice none 0 0) (rs0 l 0)) := R0
  have HB0 : Hid (Below w.heap.size w (w.alloc (.cells #[.int .i64 0, .int .i64 0, .int .i64 0, .string (ba l), .int .u64 0, .bool false, .int .i64 0, .int .i64 0, .int .u64 0, .slice none 0 0] 50))) := B0
  clear R0 B0
  have hG : Hid (w.heap.size = w.heap.size) := rfl
  go_enter Try.func11, Try.ntmps11
  go_wp2
  generalize w.alloc (.cells #[.int .i64 0, .int .i64 0, .int .i64 0, .string (ba l), .int .u64 0, .bool false, .int .i64 0, .int .i64 0, .int .u64 0, .slice none 0 0] 50) = W1 at HR0 HB0 ⊢
  go_loop [15] (fun i => ∃ k : Nat, k ≤ l.length ∧ i = .int .i64 k ∧ Hid (∀ j (h : j < l.length), j < k → okL l[j] = true)) (fun i => l.length - (intOf i).toNat)
  case atStart => exact ⟨0, Nat.zero_le _, rfl, fun j _ h => absurd h (by omega)⟩
  case round =>
    obtain ⟨k, hk, rfl, hok⟩ := hrel
    by_cases hlt : k < l.length
    · have hb := HB.out k hlt
      by_cases ho : okL (l[k]'hlt) = true
      · have ho' : Hid (okL (l[k]'hlt) = true) := ho
        rcases (okL_int _).1 ho with h5 | h6
        · rw [h5] at hb
          clear h5 ho
          go_wp2
          go_round
          case rel => exact ⟨k + 1, by omega, by go_num, fun j hj hjk => if e : j = k then by subst e; exact ho'.out else hok.out j hj (by omega)⟩
          case measure => simp [intOf]; omega
        · rw [h6] at hb
          clear h6 ho
          go_wp2
          go_round
          case rel => exact ⟨k + 1, by omega, by go_num, fun j hj hjk => if e : j = k then by subst e; exact ho'.out else hok.out j hj (by omega)⟩
          case measure => simp [intOf]; omega
      · have hbad : Hid (badAt l = k) := badAt_eq l k hk hok.out (fun h => by simpa using ho)
        have n1 : (bt (ba l) k == 105) = false := by
          rw [hb]; simp; intro h; exact ho ((okL_int _).2 (.inl (by omega)))
        have n2 : (bt (ba l) k == 116) = false := by
          rw [hb]; simp; intro h; exact ho ((okL_int _).2 (.inr (by omega)))
        have n3 : bt (ba l) k ≠ 105 := by simpa using n1
        have n4 : bt (ba l) k ≠ 116 := by simpa using n2
        have n5 : (bt (ba l) k != 105) = true := by simpa using n3
        have n6 : (bt (ba l) k != 116) = true := by simpa using n4
        clear hb ho
        go_wp2_with fail
        refine (fail_any w.heap.size (.slice none 0 0) (rs0 l 0) 30 k _ HR0.out).mono ?_
        rintro e w2 ⟨rfl, R2, M2⟩
        have hR2 : Hid (Rd w2 w.heap.size (.slice none 0 0) ((rs0 l 0).fl 30 k)) := R2
        have hM2 : Hid (Mv W1 w2 w.heap.size (.slice none 0 0) (.slice none 0 0)) := M2
        clear R2 M2
        go_wp2
        go_ret
        refine ⟨rfl, hR2.out.cast ?_, HB0.out.trans (hM2.out.keeps w.heap.size HB0.out.size (Nat.le_refl _) (fun k h => by cases h))⟩
        unfold rsNew
        rw [hbad.out, if_pos hlt]
    · obtain rfl : k = l.length := by omega
      have hbad : Hid (badAt l = l.length) := badAt_eq l l.length hk hok.out (fun h => absurd h (by omega))
      go_wp2_with fail
      refine (begin_any w.heap.size (.slice none 0 0) (rs0 l 0) _ HR0.out).mono ?_
      rintro e w2 ⟨rfl, R2, M2⟩
      have hR2 : Hid (Rd w2 w.heap.size (.slice none 0 0) (rs0 l 0).beg) := R2
      have hM2 : Hid (Mv W1 w2 w.heap.size (.slice none 0 0) (.slice none 0 0)) := M2
      clear R2 M2
      go_wp2
      go_ret
      refine ⟨rfl, hR2.out.cast ?_, HB0.out.trans (hM2.out.keeps w.heap.size HB0.out.size (Nat.le_refl _) (fun k h => by cases h))⟩
      unfold rsNew
      rw [hbad.out, if_neg (Nat.lt_irrefl _)]

theorem newReader_any (l : List UInt8) (most : Int) (w : World) (hl : l.length ≤ 1073741824) (hm1 : most ≤ 9223372036854775807) :
    Calls Try.prog 11 #[.string (ba l), .int .i64 most] w fun e w' => e = .returned (.pointer (some ⟨w.heap.size, 0, none⟩)) ∧ Rd w' w.heap.size (.slice none 0 0) (rsNew l most.toNat) ∧ Below w.heap.size w w' := by
  by_cases h : most < 0
  · rw [show most.toNat = 0 by omega]
    exact newReader_neg l most w hl h
  · obtain ⟨m, rfl⟩ : ∃ m : Nat, most = m := ⟨most.toNat, by omega⟩
    rw [Int.toNat_natCast]
    exact newReader_pos l m w hl (by omega)

set_option maxHeartbeats 1000000 in
theorem close_any (g : Nat) (v : Value) (s : RS) (w : World) (R : Rd w g v s) :
    Calls Try.prog 13 #[.pointer (some ⟨g, 0, none⟩)] w fun e w' => ∃ v', e = .returned (.agg #[.int .i64 (s.shut.code : Int), .int .i64 (s.shut.fat : Int)]) ∧ Rd w' g v' s.shut ∧ Mv w w' g v v' := by
  have HR : Hid (Rd w g v s) := R
  have c0 := R.c0
  have c1 := R.c1
  have c2 := R.c2
  have c5 := R.c5
  have c6 := R.c6
  have f5 := R.fr 5 (by decide)
  have hl := R.lt
  have n0 := (R.newBlock w.heap.size (Nat.le_refl _))
  clear R
  by_cases h1 : s.code = 0
  · by_cases h4 : s.ph = 4
    · have HS : Hid (s.shut = s.s5 true) := by unfold Hid RS.shut; rw [if_neg (by omega)]; rfl
      rw [h1] at c1
      rw [h4] at c6
      go_enter Try.func13, Try.ntmps13
      have H1 : Hid (s.code = 0) := h1
      clear h1
      go_wp2
      have q0 : ((w.setCell ⟨g, 5, none⟩ (.bool true)).alloc (.cells #[.int .i64 0, .int .i64 (s.fat : Int)] 29)).cell? ⟨w.heap.size, 0, none⟩ = some (.int .i64 0) := cell_set_alloc w g 5 0 _ _ _
      have q1 : ((w.setCell ⟨g, 5, none⟩ (.bool true)).alloc (.cells #[.int .i64 0, .int .i64 (s.fat : Int)] 29)).cell? ⟨w.heap.size, 1, none⟩ = some (.int .i64 (s.fat : Int)) := cell_set_alloc w g 5 1 _ _ _
      have R4 : Hid (Rd ((w.setCell ⟨g, 5, none⟩ (.bool true)).alloc (.cells #[.int .i64 0, .int .i64 (s.fat : Int)] 29)) g v (s.s5 true)) := (HR.out.set5 true rfl).alloc _
      have M4 : Hid (Mv w ((w.setCell ⟨g, 5, none⟩ (.bool true)).alloc (.cells #[.int .i64 0, .int .i64 (s.fat : Int)] 29)) g v v) := ((Mv.refl _ _ _).store _ _).alloc _
      generalize (w.setCell ⟨g, 5, none⟩ (.bool true)).alloc (.cells #[.int .i64 0, .int .i64 (s.fat : Int)] 29) = W4 at q0 q1 R4 M4 ⊢
      exact bodyPost_ret (v := .agg #[.int .i64 0, .int .i64 (s.fat : Int)]) (by simp [results, Try.results13, go_sem, q0, q1]) rfl ⟨v, by rw [HS.out]; show _ = Ending.returned (.agg #[.int .i64 (s.code : Int), _]); rw [H1.out]; rfl, R4.out.cast HS.out.symm, M4.out⟩
    · have HS : Hid (s.shut = (s.fl 4 s.tk).s5 true) := by unfold Hid RS.shut; rw [if_pos ⟨h1, h4⟩]; rfl
      have g4 : ((s.ph : Int) == 4) = false := by simp; omega
      rw [h1] at c1
      clear h1
      go_enter Try.func13, Try.ntmps13
      go_wp2_with fail
      refine (fail_any g v s 4 s.tk _ (HR.out.alloc _)).mono ?_
      rintro e w3 ⟨rfl, R3, M3⟩
      have a1 : ∀ j, w3.cell? ⟨w.heap.size, j, none⟩ = #[Value.int .i64 0, Value.int .i64 0][j]? := fun j => by
        rw [M3.cell _ _ (by rw [World.size_alloc]; omega) n0.1 n0.2, World.cell?_alloc_new]
      have a2 : ∀ j, w3.frozen? ⟨w.heap.size, j, none⟩ = false := fun j => by
        rw [M3.free _ _ (by rw [World.size_alloc]; omega) n0.1 n0.2]
        exact World.frozen?_alloc_new w _ _ _
      have x0 := (a1 0).trans rfl
      have x1 := (a1 1).trans rfl
      have z0 := a2 0
      have z1 := a2 1
      have d1 := R3.c1
      have d2 := R3.c2
      have d5 := R3.c5
      have k5 := R3.fr 5 (by decide)
      rw [show (s.fl 4 s.tk).code = 4 from rfl] at d1
      rw [show (s.fl 4 s.tk).fat = s.tk from rfl] at d2
      have HR3 : Hid (Rd w3 g (.slice none 0 0) (s.fl 4 s.tk)) := R3
      have HM : Hid (Mv w w3 g v (.slice none 0 0)) := ((Mv.refl _ _ _).alloc _).trans M3
      have n00 := n0.1
      clear c0 c1 c2 c5 c6 f5 R3 M3 a1 a2 n0
      go_wp2
      have y0 : (w3.setCell ⟨g, 5, none⟩ (.bool true)).cell? ⟨w.heap.size, 0, none⟩ = some (.int .i64 0) := (World.cell?_of_block (w := w3) (a := ⟨w.heap.size, 0, none⟩) (Below.heap_setCell w3 _ _ _ n00)).trans x0
      have y1 : (w3.setCell ⟨g, 5, none⟩ (.bool true)).cell? ⟨w.heap.size, 1, none⟩ = some (.int .i64 0) := (World.cell?_of_block (w := w3) (a := ⟨w.heap.size, 1, none⟩) (Below.heap_setCell w3 _ _ _ n00)).trans x1
      have q0 : (((w3.setCell ⟨g, 5, none⟩ (.bool true)).setCell ⟨w.heap.size, 0, none⟩ (.int .i64 4)).setCell ⟨w.heap.size, 1, none⟩ (.int .i64 (s.tk : Int))).cell? ⟨w.heap.size, 0, none⟩ = some (.int .i64 4) := by
        rw [cell_other _ _ 0 1 _ (by decide)]
        exact World.cell?_setCell_same _ _ _ y0
      have q1 : (((w3.setCell ⟨g, 5, none⟩ (.bool true)).setCell ⟨w.heap.size, 0, none⟩ (.int .i64 4)).setCell ⟨w.heap.size, 1, none⟩ (.int .i64 (s.tk : Int))).cell? ⟨w.heap.size, 1, none⟩ = some (.int .i64 (s.tk : Int)) := World.cell?_setCell_same _ _ _ ((cell_other _ _ 1 0 _ (by decide)).trans y1)
      have R4 : Hid (Rd (((w3.setCell ⟨g, 5, none⟩ (.bool true)).setCell ⟨w.heap.size, 0, none⟩ (.int .i64 4)).setCell ⟨w.heap.size, 1, none⟩ (.int .i64 (s.tk : Int))) g (.slice none 0 0) ((s.fl 4 s.tk).s5 true)) := ((HR3.out.set5 true rfl).put _ _ _ (Ne.symm n00) (by simp [Value.ownBlock])).put _ _ _ (Ne.symm n00) (by simp [Value.ownBlock])
      have M4 : Hid (Mv w (((w3.setCell ⟨g, 5, none⟩ (.bool true)).setCell ⟨w.heap.size, 0, none⟩ (.int .i64 4)).setCell ⟨w.heap.size, 1, none⟩ (.int .i64 (s.tk : Int))) g v (.slice none 0 0)) := ((HM.out.store _ _).put _ _ _ (Nat.le_refl _)).put _ _ _ (Nat.le_refl _)
      generalize ((w3.setCell ⟨g, 5, none⟩ (.bool true)).setCell ⟨w.heap.size, 0, none⟩ (.int .i64 4)).setCell ⟨w.heap.size, 1, none⟩ (.int .i64 (s.tk : Int)) = W4 at q0 q1 R4 M4 ⊢
      exact bodyPost_ret (v := .agg #[.int .i64 4, .int .i64 (s.tk : Int)]) (by simp [results, Try.results13, go_sem, q0, q1]) rfl ⟨_, by rw [HS.out]; rfl, R4.out.cast HS.out.symm, M4.out⟩
  · have HS : Hid (s.shut = s.s5 true) := by unfold Hid RS.shut; rw [if_neg (by omega)]; rfl
    have g1 : ((s.code : Int) == 0) = false := by simp; omega
    go_enter Try.func13, Try.ntmps13
    go_wp2
    have q0 : ((w.setCell ⟨g, 5, none⟩ (.bool true)).alloc (.cells #[.int .i64 (s.code : Int), .int .i64 (s.fat : Int)] 29)).cell? ⟨w.heap.size, 0, none⟩ = some (.int .i64 (s.code : Int)) := cell_set_alloc w g 5 0 _ _ _
    have q1 : ((w.setCell ⟨g, 5, none⟩ (.bool true)).alloc (.cells #[.int .i64 (s.code : Int), .int .i64 (s.fat : Int)] 29)).cell? ⟨w.heap.size, 1, none⟩ = some (.int .i64 (s.fat : Int)) := cell_set_alloc w g 5 1 _ _ _
    have R4 : Hid (Rd ((w.setCell ⟨g, 5, none⟩ (.bool true)).alloc (.cells #[.int .i64 (s.code : Int), .int .i64 (s.fat : Int)] 29)) g v (s.s5 true)) := (HR.out.set5 true rfl).alloc _
    have M4 : Hid (Mv w ((w.setCell ⟨g, 5, none⟩ (.bool true)).alloc (.cells #[.int .i64 (s.code : Int), .int .i64 (s.fat : Int)] 29)) g v v) := ((Mv.refl _ _ _).store _ _).alloc _
    generalize (w.setCell ⟨g, 5, none⟩ (.bool true)).alloc (.cells #[.int .i64 (s.code : Int), .int .i64 (s.fat : Int)] 29) = W4 at q0 q1 R4 M4 ⊢
    exact bodyPost_ret (v := .agg #[.int .i64 (s.code : Int), .int .i64 (s.fat : Int)]) (by simp [results, Try.results13, go_sem, q0, q1]) rfl ⟨v, by rw [HS.out]; rfl, R4.out.cast HS.out.symm, M4.out⟩

end Go.Proofs.Ytjlbbnjcdickgab
