/- The law NameBelow, walked. -/
import Derived.Test.YtdmkkkfdigeinabDoorBeP
import Derived.Test.YtdmkkkfdigeinabDoorSpW
namespace Go.Proofs.YtdmkkkfdigeinabDoor
open Go.RowKit

theorem SL.slx {w : World} {v : Value} {L : List ByteArray} (h : SL w v L) : ∃ x c, v = .slice x L.length c ∧ SLx w x L.length c L := by
  rcases h with ⟨h1, h2⟩ | ⟨g, c, h1, h2, h3⟩
  · subst h2; exact ⟨none, 0, h1, rfl, Nat.le_refl _, Or.inl rfl⟩
  · refine ⟨_, c, h1, rfl, h2, ?_⟩
    by_cases e : L.length = 0
    · exact Or.inl e
    · exact Or.inr ⟨g, 0, rfl, h3.lt (by omega), fun j hj => by rw [Nat.zero_add]; exact h3.cell j hj⟩

theorem SLx.at {w : World} {x : Option Addr} {n c : Nat} {L : List ByteArray} (h : SLx w x n c L) (j : Nat) (hj : j < n) : ∃ g o, x = some ⟨g, o, none⟩ ∧ w.cell? ⟨g, o + j, none⟩ = some (.string (nth L j)) := by
  rcases h.2.2 with e | ⟨g, o, h1, _, h3⟩
  · omega
  · exact ⟨g, o, h1, h3 j hj⟩

/-- The cells of a slice of texts. -/
def Txt (w : World) (x : Option Addr) (n : Nat) (L : List ByteArray) : Prop := ∀ j, j < n → ∃ g o, x = some ⟨g, o, none⟩ ∧ w.cell? ⟨g, o + j, none⟩ = some (.string (nth L j))

set_option maxHeartbeats 1000000 in
theorem alike_gen (x y : Option Addr) (n c d : Nat) (L M : List ByteArray) (w : World) (hu : Txt w x n L) (hv : Txt w y n M) (hn : n ≤ 1000) :
    Calls Tryd.prog 9 #[.slice x n c, .slice y n d] w fun e w' => (∃ r, e = .returned (.bool r) ∧ (r = true ↔ ∀ j, j < n → nth L j = nth M j)) ∧ Below w.heap.size w w' := by
  have HX : Hid (Txt w x n L) := hu
  have HY : Hid (Txt w y n M) := hv
  clear hu hv
  have hee : (((n : Nat) : Int) != ((n : Nat) : Int)) = false := by simp
  go_enter Tryd.func9, Tryd.ntmps9
  go_wp2
  go_loopw [13] (fun xi wr => ∃ k : Nat, k ≤ n ∧ xi = .int .i64 k ∧ Hid (∀ j, j < k → nth L j = nth M j) ∧ Hid (∃ q, wr = w.drewN q)) (fun i _ => n - (intOf i).toNat)
  case atStart => exact ⟨0, Nat.zero_le _, rfl, fun j hj => absurd hj (by omega), 0, rfl⟩
  case round =>
    obtain ⟨k, hk, rfl, hl, hq⟩ := hrel
    by_cases hlt : k < n
    · obtain ⟨g1, o1, rfl, c1⟩ := HX.out k hlt
      obtain ⟨g2, o2, rfl, c2⟩ := HY.out k hlt
      obtain ⟨q, hwr⟩ := hq.out
      have d1 : wr.cell? ⟨g1, o1 + k, none⟩ = some (.string (nth L k)) := by rw [hwr]; exact c1
      have d2 : wr.cell? ⟨g2, o2 + k, none⟩ = some (.string (nth M k)) := by rw [hwr]; exact c2
      clear c1 c2 hwr
      by_cases hs : nth L k = nth M k
      · have HSM : Hid (nth L k = nth M k) := hs
        have he : ((nth L k).toList == (nth M k).toList) = true := by rw [hs]; simp
        clear hs
        go_wp2
        go_quiet (fail)
        go_wp2
        go_roundw
        case rel => exact ⟨k + 1, by omega, by go_num, fun j hj => by
          by_cases e : j = k
          · rw [e]; exact HSM.out
          · exact hl.out j (by omega), by obtain ⟨q, hw⟩ := hq.out; exact ⟨_, by rw [hw, World.drewN_drewN]⟩⟩
        case measure => simp [intOf]; omega
      · have he : ((nth L k).toList == (nth M k).toList) = false := by
          rw [beq_eq_false_iff_ne]; intro e; apply hs
          rw [Lib.toList_data, Lib.toList_data] at e
          apply ByteArray.ext; exact Array.toList_inj.1 e
        have HSM : Hid (¬ nth L k = nth M k) := hs
        clear hs
        go_wp2
        go_quiet (fail)
        go_wp2
        go_ret
        obtain ⟨q, rfl⟩ := hq.out
        exact ⟨⟨_, rfl, (fun h => by cases h), fun h => absurd (h k hlt) HSM.out⟩, by rw [World.drewN_drewN]; exact bel_drewN (Below.refl _ _) _⟩
    · obtain ⟨q, rfl⟩ := hq.out
      go_wp2
      go_ret
      exact ⟨⟨_, rfl, (fun _ j hj => hl.out j (by omega)), fun _ => rfl⟩, bel_drewN (Below.refl _ _) _⟩

theorem path_chk (p : ByteArray) : ∀ j, j < (pathN p).length → chk (nth (pathN p) j) = 0 := fun j hj => by
  have hm : nth (pathN p) j ∈ pathN p := by unfold nth; simp [hj]
  by_cases h : (pathF p).1 = 0
  · exact (path_parts p h).2 _ hm
  · have : pathN p = [] := by
      unfold pathN
      split
      · rfl
      · first | rfl | rw [if_neg h]
    rw [this] at hj; simp at hj

set_option maxHeartbeats 2000000 in
theorem below_walk (p t : ByteArray) (w : World) (hp : p.size ≤ 140737488351232) (ht : t.size ≤ 140737488351232) :
    Calls Tryd.prog 3 #[.string p, .string t] w fun e w' => e = .returned (.bool true) ∧ Below w.heap.size w w' := by
  have SP := fun w => split_any p w hp
  have ST := fun w => split_any t w ht
  have HL := pathN_len p
  have HM := pathN_len t
  have HU : Hid ((pathF p).1 = 0 → (pathF t).1 = 0 → (un p t = true ↔ (pathN t).length ≤ (pathN p).length ∧ ∀ j, j < (pathN t).length → nth (pathN p) j = nth (pathN t) j)) := fun h1 h2 => (under_iff p t h1 h2).trans (prefix_nth _ _)
  have HC : Hid (∀ j, j < (pathN p).length → chk (nth (pathN p) j) = 0) := path_chk p
  generalize (pathF p).1 = C at *
  generalize (pathF p).2 = A at *
  generalize (pathF t).1 = D at *
  generalize (pathF t).2 = E at *
  generalize pathN p = L at *
  generalize pathN t = M at *
  go_enter Tryd.func3, Tryd.ntmps3
  go_wp2_with fail
  refine (awake_any _).mono ?_
  rintro e w1 ⟨rfl, B1⟩
  go_wp2_with fail
  refine (SP _).mono ?_
  rintro e w2 ⟨v, rfl, S2, b2⟩
  have B2 : Below w.heap.size w w2 := B1.trans (b2.mono B1.size)
  clear B1 b2 SP
  obtain ⟨xv, cv, rfl, V2⟩ := S2.slx
  clear S2
  go_wp2_with fail
  have BA : Below w2.heap.size w2 (w2.alloc (Obj.cells #[Value.int IntKind.i64 C, Value.int IntKind.i64 A] 26)) := (Below.refl _ _).alloc (Nat.le_refl _) _
  have e0 : (w2.alloc (Obj.cells #[Value.int IntKind.i64 C, Value.int IntKind.i64 A] 26)).cell? ⟨w2.heap.size, 0, none⟩ = some (.int .i64 C) := by rw [World.cell?_alloc_new]; rfl
  have hz : w2.heap.size < (w2.alloc (Obj.cells #[Value.int IntKind.i64 C, Value.int IntKind.i64 A] 26)).heap.size := by rw [World.size_alloc]; omega
  have V3 := V2.below BA
  have B3 : Below w.heap.size w (w2.alloc (Obj.cells #[Value.int IntKind.i64 C, Value.int IntKind.i64 A] 26)) := B2.trans (BA.mono B2.size)
  clear V2 BA B2
  obtain ⟨k, hk⟩ : ∃ k, w2.heap.size = k := ⟨_, rfl⟩
  rw [hk] at e0 hz ⊢
  clear hk
  generalize w2.alloc (Obj.cells #[Value.int IntKind.i64 C, Value.int IntKind.i64 A] 26) = w3 at *
  refine (ST _).mono ?_
  rintro e w4 ⟨v4, rfl, S4, b4⟩
  obtain ⟨yv, dv, rfl, U4⟩ := S4.slx
  have V4 := V3.below b4
  have e4 : w4.cell? ⟨k, 0, none⟩ = some (.int .i64 C) := by rw [b4.cell (p := ⟨k, 0, none⟩) hz]; exact e0
  have hz4 : k < w4.heap.size := by have := b4.size; omega
  have B4 : Below w.heap.size w w4 := B3.trans (b4.mono B3.size)
  clear S4 V3 e0 hz b4 B3 ST
  have BA : Below w4.heap.size w4 (w4.alloc (Obj.cells #[Value.int IntKind.i64 D, Value.int IntKind.i64 E] 26)) := (Below.refl _ _).alloc (Nat.le_refl _) _
  have f0 : (w4.alloc (Obj.cells #[Value.int IntKind.i64 D, Value.int IntKind.i64 E] 26)).cell? ⟨w4.heap.size, 0, none⟩ = some (.int .i64 D) := by rw [World.cell?_alloc_new]; rfl
  have e5 : (w4.alloc (Obj.cells #[Value.int IntKind.i64 D, Value.int IntKind.i64 E] 26)).cell? ⟨k, 0, none⟩ = some (.int .i64 C) := by rw [BA.cell (p := ⟨k, 0, none⟩) hz4]; exact e4
  have V5 : Hid (Txt (w4.alloc (Obj.cells #[Value.int IntKind.i64 D, Value.int IntKind.i64 E] 26)) xv L.length L) := (V4.below BA).at
  have U5 : Hid (Txt (w4.alloc (Obj.cells #[Value.int IntKind.i64 D, Value.int IntKind.i64 E] 26)) yv M.length M) := (U4.below BA).at
  have cv1 := V4.2.1
  have cv2 := U4.2.1
  have B5 : Below w.heap.size w (w4.alloc (Obj.cells #[Value.int IntKind.i64 D, Value.int IntKind.i64 E] 26)) := B4.trans (BA.mono B4.size)
  clear BA B4 V4 U4 e4 hz4
  go_wp2
  obtain ⟨m, hm⟩ : ∃ m, w4.heap.size = m := ⟨_, rfl⟩
  rw [hm] at f0 ⊢
  clear hm
  generalize w4.alloc (Obj.cells #[Value.int IntKind.i64 D, Value.int IntKind.i64 E] 26) = w5 at *
  go_loop [26] (fun xi => ∃ j : Nat, j ≤ L.length ∧ xi = .int .i64 j) (fun i => L.length - (intOf i).toNat)
  case atStart => exact ⟨0, Nat.zero_le _, rfl⟩
  case round =>
    obtain ⟨j, hj, rfl⟩ := hrel
    by_cases hlt : j < L.length
    · obtain ⟨g1, o1, rfl, c1⟩ := V5.out j hlt
      have CK := fun w => check_any (nth L j) w
      rw [HC.out j hlt] at CK
      go_wp2_with (first | (go_at_call 8; refine (CK _).mono ?_; rintro e w' ⟨rfl, rfl⟩))
      go_round
      case rel => exact ⟨j + 1, by omega, by go_num⟩
      case measure => simp [intOf]; omega
    · by_cases hC : C = 0
      · have hc0 : (C != 0) = false := by rw [hC]; rfl
        by_cases hD : D = 0
        · have hd0 : (D != 0) = false := by rw [hD]; rfl
          have HQ : Hid (un p t = true ↔ M.length ≤ L.length ∧ ∀ j, j < M.length → nth L j = nth M j) := HU.out hC hD
          clear HU hC hD
          have UN := fun w => under_any p t w ht
          by_cases hle : M.length ≤ L.length
          · have hmin : ¬ ((L.length : Int) < (M.length : Int)) := by omega
            have hmin2 : ((L.length : Int) ≥ (M.length : Int)) := by omega
            go_wp2_with fail
            rw [show (min (L.length : Int) (M.length : Int)).toNat = M.length by omega]
            have VT : Txt w5 xv M.length L := fun j hj => V5.out j (by omega)
            refine (alike_gen xv yv M.length cv dv L M w5 VT U5.out HM).mono ?_
            rintro e w6 ⟨⟨r, rfl, hr⟩, b6⟩
            have hu : un p t = r := by
              rw [Bool.eq_iff_iff, HQ.out, hr]
              exact ⟨fun h => h.2, fun h => ⟨hle, h⟩⟩
            have B6 : Below w.heap.size w w6 := B5.trans (b6.mono B5.size)
            rw [hu] at UN
            have hrr : (r == r) = true := by simp
            clear hr hu b6 HQ VT V5 U5 e5 f0 B5
            go_wp2_with (first | (go_at_call 10; refine (UN _).mono ?_; rintro e w' ⟨rfl, rfl⟩))
            go_ret
            exact ⟨rfl, B6⟩
          · have hu : un p t = false := by
              rw [Bool.eq_false_iff]; intro e; exact hle (HQ.out.1 e).1
            rw [hu] at UN
            go_wp2_with (first | (go_at_call 10; refine (UN _).mono ?_; rintro e w' ⟨rfl, rfl⟩))
            go_ret
            exact ⟨rfl, B5⟩
        · have hd0 : (D != 0) = true := by rw [bne_iff_ne]; exact hD
          clear hC hD HU
          go_wp2
          go_ret
          exact ⟨rfl, B5⟩
      · have hc0 : (C != 0) = true := by rw [bne_iff_ne]; exact hC
        clear hC HU
        go_wp2
        go_ret
        exact ⟨rfl, B5⟩

end Go.Proofs.YtdmkkkfdigeinabDoor
