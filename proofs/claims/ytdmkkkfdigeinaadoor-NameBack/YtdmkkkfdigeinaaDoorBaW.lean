/- The law NameBack, walked. -/
import Derived.Test.YtdmkkkfdigeinaaDoorBaP
namespace Go.Proofs.YtdmkkkfdigeinaaDoor
open Go.RowKit

theorem SL.slx {w : World} {v : Value} {L : List ByteArray} (h : SL w v L) : ∃ x c, v = .slice x L.length c ∧ SLx w x L.length c L := by
  rcases h with ⟨h1, h2⟩ | ⟨g, c, h1, h2, h3⟩
  · subst h2; exact ⟨none, 0, h1, rfl, Nat.le_refl _, Or.inl rfl⟩
  · refine ⟨_, c, h1, rfl, h2, ?_⟩
    by_cases e : L.length = 0
    · exact Or.inl e
    · exact Or.inr ⟨g, 0, rfl, h3.lt (by omega), fun j hj => by rw [Nat.zero_add]; exact h3.cell j hj⟩

theorem SLx.at {w : World} {x : Option Addr} {n c : Nat} {L : List ByteArray} (h : SLx w x n c L) (j : Nat) (hj : j < n) : ∃ g o, x = some ⟨g, o, none⟩ ∧ w.cell? ⟨g, o + j, none⟩ = some (.string (nth L j)) := by
  rcases h.2.2 with e | ⟨g, o, h1, _, h3⟩
  · omega
  · exact ⟨g, o, h1, h3 j hj⟩

set_option maxHeartbeats 1000000 in
theorem alike_slx (x y : Option Addr) (n c d : Nat) (L : List ByteArray) (w : World) (hu : SLx w x n c L) (hv : SLx w y n d L) (hn : n ≤ 1000) :
    Calls Tryd.prog 10 #[.slice x n c, .slice y n d] w fun e w' => e = .returned (.bool true) ∧ Below w.heap.size w w' := by
  have HX : Hid (∀ j, j < n → ∃ g o, x = some ⟨g, o, none⟩ ∧ w.cell? ⟨g, o + j, none⟩ = some (.string (nth L j))) := hu.at
  have HY : Hid (∀ j, j < n → ∃ g o, y = some ⟨g, o, none⟩ ∧ w.cell? ⟨g, o + j, none⟩ = some (.string (nth L j))) := hv.at
  clear hu hv
  have hee : (((n : Nat) : Int) != ((n : Nat) : Int)) = false := by simp
  go_enter Tryd.func10, Tryd.ntmps10
  go_wp2
  go_loopw [13] (fun xi wr => ∃ k : Nat, k ≤ n ∧ xi = .int .i64 k ∧ Hid (∃ q, wr = w.drewN q)) (fun i _ => n - (intOf i).toNat)
  case atStart => exact ⟨0, Nat.zero_le _, rfl, 0, rfl⟩
  case round =>
    obtain ⟨k, hk, rfl, hq⟩ := hrel
    by_cases hlt : k < n
    · obtain ⟨g1, o1, rfl, c1⟩ := HX.out k hlt
      obtain ⟨g2, o2, rfl, c2⟩ := HY.out k hlt
      obtain ⟨q, hwr⟩ := hq.out
      have d1 : wr.cell? ⟨g1, o1 + k, none⟩ = some (.string (nth L k)) := by rw [hwr]; exact c1
      have d2 : wr.cell? ⟨g2, o2 + k, none⟩ = some (.string (nth L k)) := by rw [hwr]; exact c2
      clear c1 c2 hwr
      have he : ((nth L k).toList == (nth L k).toList) = true := by simp
      go_wp2
      go_quiet (fail)
      go_wp2
      go_roundw
      case rel => exact ⟨k + 1, by omega, by go_num, by obtain ⟨q, hw⟩ := hq.out; exact ⟨_, by rw [hw, World.drewN_drewN]⟩⟩
      case measure => simp [intOf]; omega
    · obtain ⟨q, rfl⟩ := hq.out
      go_wp2
      go_ret
      exact ⟨rfl, bel_drewN (Below.refl _ _) _⟩

theorem joinB_size (L : List ByteArray) (h : ∀ x ∈ L, chk x = 0) : (joinB L).size ≤ L.length * 256 := by
  induction L with
  | nil => exact Nat.le_refl _
  | cons x r ih =>
    have hx := chk_short x (h x (by simp))
    by_cases hr : r = []
    · subst hr; rw [joinB_one]; simp; omega
    · have := ih (fun y hy => h y (by simp [hy]))
      rw [joinB_cons x r hr, ByteArray.size_append, ByteArray.size_append, List.length_cons]
      show x.size + 1 + _ ≤ _
      omega
theorem jS_size (L : List ByteArray) : (jS L).size ≤ 140737488351232 := by
  unfold jS
  split
  · rename_i h
    obtain ⟨_, h2, h3⟩ := jscan_ok L 0 h
    have := joinB_size L h2
    rcases h3 with e | e
    · rw [e] at this ⊢; exact Nat.le_trans this (by decide)
    · omega
  · decide
theorem path_bad (p : ByteArray) (h : (pathF p).1 ≠ 0) : pathN p = [] := by
  unfold pathN
  split
  · rfl
  · first | rfl | rw [if_neg h]


set_option maxHeartbeats 2000000 in
theorem back_walk (p : ByteArray) (x : Option Addr) (n c : Nat) (L : List ByteArray) (w : World) (hp : p.size ≤ 140737488351232) (hn : n ≤ 140737488351232) (hx : SLx w x n c L) :
    Calls Tryd.prog 6 #[.string p, .slice x n c] w fun e w' => e = .returned (.bool true) ∧ Below w.heap.size w w' := by
  have HX : Hid (SLx w x n c L) := hx
  clear hx
  have SP := fun w => split_any p w hp
  have JN := fun (w : World) (h : SLx w x n c L) => join_any x n c L w hn h
  have HL := pathN_len p
  have SPJ := fun w => split_any (jS L) w (jS_size L)
  have JP := fun (x : Option Addr) (c : Nat) (w : World) (h : SLx w x (pathN p).length c (pathN p)) => join_any x (pathN p).length c (pathN p) w (by omega) h
  have H1 : Hid ((pathF p).1 = 0 → jF (pathN p) = (0, 0) ∧ jS (pathN p) = p) := back_one p
  have H2 : Hid ((pathF p).1 ≠ 0 → pathN p = []) := path_bad p
  have H3 : Hid ((jF L).1 = 0 → pathF (jS L) = (0, 0) ∧ pathN (jS L) = L) := back_two L
  have H4 : Hid ((jF L).1 ≠ 0 → jS L = ⟨#[]⟩) := fun h => by unfold jS; rw [if_neg h]
  have HLL : Hid ((jF L).1 = 0 → n ≤ 1000) := fun h => by
    rcases (jscan_ok L 0 h).2.2 with e | e
    · have := HX.out.1; rw [e] at this; simp at this; omega
    · have := HX.out.1; omega
  generalize hC : (pathF p).1 = C at *
  generalize hA : (pathF p).2 = A at *
  generalize hD : (jF L).1 = D at *
  generalize hE : (jF L).2 = E at *
  generalize hS : jS L = S at *
  generalize hN : pathN p = N at *
  clear hC hA hD hE hS hN
  go_enter Tryd.func6, Tryd.ntmps6
  go_wp2_with fail
  refine (awake_any _).mono ?_
  rintro e w1 ⟨rfl, B1⟩
  have X1 : Hid (SLx w1 x n c L) := HX.out.below B1
  clear HX
  go_wp2_with fail
  refine (SP _).mono ?_
  rintro e w2 ⟨v, rfl, S2, b2⟩
  have B2 : Below w.heap.size w w2 := B1.trans (b2.mono B1.size)
  have X2 : Hid (SLx w2 x n c L) := X1.out.below b2
  clear B1 b2 SP X1
  obtain ⟨xv, cv, rfl, V2⟩ := S2.slx
  clear S2
  by_cases hC : C = 0
  · obtain ⟨j1, j2⟩ := H1.out hC
    rw [j1, j2] at JP
    have hq : (C == 0) = true := by rw [hC]; rfl
    have hq2 : (p.toList != p.toList) = false := by simp
    clear H1 H2 j1 j2 hC
    go_wp2_with fail
    have BA : Below w2.heap.size w2 (w2.alloc (Obj.cells #[Value.int IntKind.i64 C, Value.int IntKind.i64 A] 26)) := (Below.refl _ _).alloc (Nat.le_refl _) _
    have V3 := V2.below BA
    have X3 : Hid (SLx (w2.alloc (Obj.cells #[Value.int IntKind.i64 C, Value.int IntKind.i64 A] 26)) x n c L) := X2.out.below BA
    have B3 : Below w.heap.size w (w2.alloc (Obj.cells #[Value.int IntKind.i64 C, Value.int IntKind.i64 A] 26)) := B2.trans (BA.mono B2.size)
    clear BA B2 V2 X2
    generalize w2.alloc (Obj.cells #[Value.int IntKind.i64 C, Value.int IntKind.i64 A] 26) = w3 at *
    refine (JP _ _ _ V3).mono ?_
    rintro e w4 ⟨rfl, b4⟩
    have X4 : Hid (SLx w4 x n c L) := X3.out.below b4
    have B4 : Below w.heap.size w w4 := B3.trans (b4.mono B3.size)
    clear b4 B3 X3 V3 JP
    go_wp2_with fail
    have BZ : Below w4.heap.size w4 (w4.alloc (Obj.cells #[Value.int IntKind.i64 0, Value.int IntKind.i64 0] 26)) := (Below.refl _ _).alloc (Nat.le_refl _) _
    have X5 : Hid (SLx (w4.alloc (Obj.cells #[Value.int IntKind.i64 0, Value.int IntKind.i64 0] 26)) x n c L) := X4.out.below BZ
    have B5 : Below w.heap.size w (w4.alloc (Obj.cells #[Value.int IntKind.i64 0, Value.int IntKind.i64 0] 26)) := B4.trans (BZ.mono B4.size)
    clear BZ B4 X4
    generalize (w4.alloc (Obj.cells #[Value.int IntKind.i64 0, Value.int IntKind.i64 0] 26)) = w5 at *
    refine (JN _ X5.out).mono ?_
    rintro e w6 ⟨rfl, b6⟩
    have X6 : Hid (SLx w6 x n c L) := X5.out.below b6
    have B6 : Below w.heap.size w w6 := B5.trans (b6.mono B5.size)
    clear b6 B5 X5 JN
    by_cases hD : D = 0
    · obtain ⟨j3, j4⟩ := H3.out hD
      rw [j3, j4] at SPJ
      have hnn := HLL.out hD
      have hr : (D != 0) = false := by rw [hD]; rfl
      clear hD H3 H4 j3 j4 HLL
      go_wp2_with fail
      have BA : Below w6.heap.size w6 (w6.alloc (Obj.cells #[Value.int IntKind.i64 D, Value.int IntKind.i64 E] 26)) := (Below.refl _ _).alloc (Nat.le_refl _) _
      have X7 : Hid (SLx (w6.alloc (Obj.cells #[Value.int IntKind.i64 D, Value.int IntKind.i64 E] 26)) x n c L) := X6.out.below BA
      have B7 : Below w.heap.size w (w6.alloc (Obj.cells #[Value.int IntKind.i64 D, Value.int IntKind.i64 E] 26)) := B6.trans (BA.mono B6.size)
      clear BA B6 X6
      generalize w6.alloc (Obj.cells #[Value.int IntKind.i64 D, Value.int IntKind.i64 E] 26) = w7 at *
      refine (SPJ _).mono ?_
      rintro e w8 ⟨v8, rfl, S8, b8⟩
      have X8 : Hid (SLx w8 x n c L) := X7.out.below b8
      have B8 : Below w.heap.size w w8 := B7.trans (b8.mono B7.size)
      obtain ⟨y8, d8, rfl, V8⟩ := S8.slx
      have hlen := X8.out.1
      rw [hlen] at V8 ⊢
      clear hlen
      clear b8 B7 X7 S8 SPJ
      go_wp2_with fail
      have BA : Below w8.heap.size w8 (w8.alloc (Obj.cells #[Value.int IntKind.i64 0, Value.int IntKind.i64 0] 26)) := (Below.refl _ _).alloc (Nat.le_refl _) _
      have X9 : SLx (w8.alloc (Obj.cells #[Value.int IntKind.i64 0, Value.int IntKind.i64 0] 26)) x n c L := X8.out.below BA
      have V9 := V8.below BA
      have B9 : Below w.heap.size w (w8.alloc (Obj.cells #[Value.int IntKind.i64 0, Value.int IntKind.i64 0] 26)) := B8.trans (BA.mono B8.size)
      clear BA B8 V8 X8
      generalize w8.alloc (Obj.cells #[Value.int IntKind.i64 0, Value.int IntKind.i64 0] 26) = w9 at *
      refine (alike_slx _ _ _ _ _ L _ V9 X9 hnn).mono ?_
      rintro e w10 ⟨rfl, b10⟩
      have B10 : Below w.heap.size w w10 := B9.trans (b10.mono B9.size)
      clear b10 B9 V9 X9
      go_wp2
      go_ret
      exact ⟨rfl, B10⟩
    · obtain rfl := H4.out hD
      have hr : (D != 0) = true := by rw [bne_iff_ne]; exact hD
      clear hD H3 H4 HLL SPJ X6
      go_wp2
      go_ret
      exact ⟨rfl, B6.alloc B6.size _⟩

  · obtain rfl := H2.out hC
    have hq : (C == 0) = false := by rw [beq_eq_false_iff_ne]; exact hC
    have hq2 : (((([] : List ByteArray).length : Nat) : Int) != 0) = false := rfl
    clear H1 H2 hC JP
    go_wp2_with fail
    have BZ : Below w2.heap.size w2 (w2.alloc (Obj.cells #[Value.int IntKind.i64 C, Value.int IntKind.i64 A] 26)) := (Below.refl _ _).alloc (Nat.le_refl _) _
    have X5 : Hid (SLx (w2.alloc (Obj.cells #[Value.int IntKind.i64 C, Value.int IntKind.i64 A] 26)) x n c L) := X2.out.below BZ
    have B5 : Below w.heap.size w (w2.alloc (Obj.cells #[Value.int IntKind.i64 C, Value.int IntKind.i64 A] 26)) := B2.trans (BZ.mono B2.size)
    clear BZ B2 X2
    generalize (w2.alloc (Obj.cells #[Value.int IntKind.i64 C, Value.int IntKind.i64 A] 26)) = w5 at *
    refine (JN _ X5.out).mono ?_
    rintro e w6 ⟨rfl, b6⟩
    have X6 : Hid (SLx w6 x n c L) := X5.out.below b6
    have B6 : Below w.heap.size w w6 := B5.trans (b6.mono B5.size)
    clear b6 B5 X5 JN
    by_cases hD : D = 0
    · obtain ⟨j3, j4⟩ := H3.out hD
      rw [j3, j4] at SPJ
      have hnn := HLL.out hD
      have hr : (D != 0) = false := by rw [hD]; rfl
      clear hD H3 H4 j3 j4 HLL
      go_wp2_with fail
      have BA : Below w6.heap.size w6 (w6.alloc (Obj.cells #[Value.int IntKind.i64 D, Value.int IntKind.i64 E] 26)) := (Below.refl _ _).alloc (Nat.le_refl _) _
      have X7 : Hid (SLx (w6.alloc (Obj.cells #[Value.int IntKind.i64 D, Value.int IntKind.i64 E] 26)) x n c L) := X6.out.below BA
      have B7 : Below w.heap.size w (w6.alloc (Obj.cells #[Value.int IntKind.i64 D, Value.int IntKind.i64 E] 26)) := B6.trans (BA.mono B6.size)
      clear BA B6 X6
      generalize w6.alloc (Obj.cells #[Value.int IntKind.i64 D, Value.int IntKind.i64 E] 26) = w7 at *
      refine (SPJ _).mono ?_
      rintro e w8 ⟨v8, rfl, S8, b8⟩
      have X8 : Hid (SLx w8 x n c L) := X7.out.below b8
      have B8 : Below w.heap.size w w8 := B7.trans (b8.mono B7.size)
      obtain ⟨y8, d8, rfl, V8⟩ := S8.slx
      have hlen := X8.out.1
      rw [hlen] at V8 ⊢
      clear hlen
      clear b8 B7 X7 S8 SPJ
      go_wp2_with fail
      have BA : Below w8.heap.size w8 (w8.alloc (Obj.cells #[Value.int IntKind.i64 0, Value.int IntKind.i64 0] 26)) := (Below.refl _ _).alloc (Nat.le_refl _) _
      have X9 : SLx (w8.alloc (Obj.cells #[Value.int IntKind.i64 0, Value.int IntKind.i64 0] 26)) x n c L := X8.out.below BA
      have V9 := V8.below BA
      have B9 : Below w.heap.size w (w8.alloc (Obj.cells #[Value.int IntKind.i64 0, Value.int IntKind.i64 0] 26)) := B8.trans (BA.mono B8.size)
      clear BA B8 V8 X8
      generalize w8.alloc (Obj.cells #[Value.int IntKind.i64 0, Value.int IntKind.i64 0] 26) = w9 at *
      refine (alike_slx _ _ _ _ _ L _ V9 X9 hnn).mono ?_
      rintro e w10 ⟨rfl, b10⟩
      have B10 : Below w.heap.size w w10 := B9.trans (b10.mono B9.size)
      clear b10 B9 V9 X9
      go_wp2
      go_ret
      exact ⟨rfl, B10⟩
    · obtain rfl := H4.out hD
      have hr : (D != 0) = true := by rw [bne_iff_ne]; exact hD
      clear hD H3 H4 HLL SPJ X6
      go_wp2
      go_ret
      exact ⟨rfl, B6.alloc B6.size _⟩


theorem back_walkF (p : ByteArray) (x : Option Addr) (n c : Nat) (f : Nat → ByteArray) (w : World) (hp : p.size ≤ 140737488351232) (hn : n ≤ 140737488351232) (h : SIs w x n f) (_ : ∀ i, i < n → (f i).size ≤ 140737488351232) (hc : n ≤ c) :
    Calls Tryd.prog 6 #[.string p, .slice x n c] w fun e w' => e = .returned (.bool true) ∧ Below w.heap.size w w' :=
  back_walk p x n c ((List.range n).map f) w hp hn (SIs.slx (fun i hi => by rw [nth_range f n i hi]; exact h i hi) (by simp) hc)

end Go.Proofs.YtdmkkkfdigeinaaDoor
