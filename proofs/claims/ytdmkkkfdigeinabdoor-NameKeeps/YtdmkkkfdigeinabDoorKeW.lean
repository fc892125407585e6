/- The law NameKeeps, walked. -/
import Derived.Test.YtdmkkkfdigeinabDoorKeA
namespace Go.Proofs.YtdmkkkfdigeinabDoor
open Go.RowKit

/-- The list with gaps behind it: what stands at j when the gaps reach up to k. -/
def gapF (L : List ByteArray) (n k j : Nat) : ByteArray := if j < n then nth L j else if j < k then ⟨#[103, 97, 112]⟩ else ByteArray.empty

set_option maxHeartbeats 4000000 in
theorem keeps_walk (x : Option Addr) (n c : Nat) (L : List ByteArray) (p : ByteArray) (w : World) (hn : n ≤ 8796093021952) (hp : p.size ≤ 140737488351232) (hx : SLx w x n c L) (hsx : SIs w x n (nth L)) :
    Calls Tryd.prog 5 #[.slice x n c, .string p] w fun e w' => e = .returned (.bool true) ∧ Below w.heap.size w w' := by
  have HX : Hid (SLx w x n c L) := hx
  have HSX : Hid (SIs w x n (nth L)) := hsx
  clear hx hsx
  have HMK : Hid (∀ w : World, (Instr.makeSlice 23 (.int .i64 ((n : Int) + 4)) (.int .i64 ((n : Int) + 4))).run Tryd.prog w = .ok (.slice (some ⟨w.heap.size, 0, none⟩) (n + 4) (n + 4)) (w.alloc (.cells (madeCells (Value.string ByteArray.empty).cells (n + 4)) 9))) := fun w => by
    obtain ⟨i0, hi, hz0, hz1, hz2⟩ := info_parts info_str
    rw [run_make (P := Tryd.prog) w 23 9 i0 (.string ByteArray.empty) Tryd.underlying23 hi hz0 .i64 .i64 _ _ (by omega) (by omega) (by rw [hz2]; omega) (by omega), show (((n : Int) + 4) : Int).toNat = n + 4 by omega, hz1, Nat.mul_one]
  go_enter Tryd.func5, Tryd.ntmps5
  go_wp2_with fail
  refine (awake_any _).mono ?_
  rintro e w1 ⟨rfl, B1⟩
  have X1 : Hid (SLx w1 x n c L) := HX.out.below B1
  have SX1 : Hid (SIs w1 x n (nth L)) := HSX.out.below B1 (Nat.le_refl _)
  clear HX HSX
  go_wp2_with fail
  rw [HMK.out]
  clear HMK
  have R2 : VRow (w1.alloc (.cells (madeCells (Value.string ByteArray.empty).cells (n + 4)) 9)) w1.heap.size (n + 4) (fun _ => .string ByteArray.empty) := VRow.made rfl rfl
  have b2 : Below w1.heap.size w1 (w1.alloc (.cells (madeCells (Value.string ByteArray.empty).cells (n + 4)) 9)) := (Below.refl _ _).alloc (Nat.le_refl _) _
  have X2 : Hid (SLx (w1.alloc (.cells (madeCells (Value.string ByteArray.empty).cells (n + 4)) 9)) x n c L) := X1.out.below b2
  have SX2 : Hid (SIs (w1.alloc (.cells (madeCells (Value.string ByteArray.empty).cells (n + 4)) 9)) x n (nth L)) := SX1.out.below b2 (Nat.le_refl _)
  generalize w1.alloc (.cells (madeCells (Value.string ByteArray.empty).cells (n + 4)) 9) = w2 at *
  go_wp2_with fail
  obtain ⟨w3, hrun, V3, b3⟩ := copy_texts w2 x n c (n + 4) w1.heap.size L _ 3 X2.out R2 (by omega)
  rw [hrun]
  clear hrun
  obtain ⟨g, hg⟩ : ∃ g, w1.heap.size = g := ⟨_, rfl⟩
  have B3 : Below w.heap.size w w3 := (B1.trans (b2.mono B1.size)).trans (b3 _ B1.size)
  have X3 : Hid (SLx w3 x n c L) := X1.out.below (b2.trans (b3 _ (Nat.le_refl _)))
  have SX3 : Hid (SIs w3 x n (nth L)) := SX1.out.below (b2.trans (b3 _ (Nat.le_refl _))) (Nat.le_refl _)
  have BG : Below g w1 w3 := hg ▸ (b2.trans (b3 _ (Nat.le_refl _)))
  have hwg : w.heap.size ≤ g := hg ▸ B1.size
  have hg1 : Hid (w1.heap.size = g) := hg
  clear X2 SX2 R2 b2 b3
  rw [hg] at V3 ⊢
  clear hg
  have V4 : Hid (VRow w3 g (n + 4) (fun j => .string (gapF L n n j))) := V3.congr (fun j _ => by unfold gapF; by_cases e : j < n; rw [if_pos e, if_pos e]; rw [if_neg e, if_neg e, if_neg e])
  clear V3
  go_wp2
  clear X3 SX3 B3
  have HB1 : Hid (Below w.heap.size w w1) := B1
  clear B1
  go_loopw [6] (fun xi wr => ∃ k : Nat, n ≤ k ∧ k ≤ n + 4 ∧ xi = .int .i64 k ∧ Hid (VRow wr g (n + 4) (fun j => .string (gapF L n k j))) ∧ Hid (Below g w1 wr)) (fun i _ => n + 4 - (intOf i).toNat)
  case atStart => exact ⟨n, Nat.le_refl _, by omega, rfl, V4, BG⟩
  case round =>
    obtain ⟨k, hk1, hk2, rfl, V, B⟩ := hrel
    by_cases hlt : k < n + 4
    · have c1 := V.out.cell k hlt
      have f1 := V.out.free k hlt
      go_wp2
      go_roundw
      case rel =>
        refine ⟨k + 1, by omega, by omega, by go_num, (V.out.set k _ hlt).congr (fun j _ => ?_), B.out.setCell (Nat.le_refl _) _⟩
        unfold gapF
        by_cases e : j = k
        · rw [if_pos e, if_neg (by omega), if_pos (by omega)]
        · rw [if_neg e]
          by_cases e2 : j < n
          · rw [if_pos e2, if_pos e2]
          · rw [if_neg e2, if_neg e2]
            by_cases e3 : j < k
            · rw [if_pos e3, if_pos (by omega)]
            · rw [if_neg e3, if_neg (by omega)]
      case measure => simp [intOf]; omega
    · obtain rfl : k = n + 4 := by omega
      clear hk1 hk2 V4 BG
      go_wp2_with fail
      have hgw : g < wr.heap.size := V.out.lt (by omega)
      have SL4 : SLx wr (some ⟨g, 0, none⟩) n (n + 4) L := ⟨X1.out.1, by omega, Or.inr ⟨g, 0, rfl, hgw, fun j hj => by rw [Nat.zero_add, V.out.cell j (by omega)]; unfold gapF; rw [if_pos hj]⟩⟩
      refine (join_any _ n (n + 4) L wr (by omega) SL4).mono ?_
      rintro e w5 ⟨rfl, b5⟩
      have V5 : Hid (VRow w5 g (n + 4) (fun j => .string (gapF L n (n + 4) j))) := V.out.below b5 hgw
      have B5 : Hid (Below g w1 w5) := B.out.trans (b5.mono (by omega))
      have SI5 : SIs w5 (some ⟨g, 0, none⟩) n (nth L) := fun j hj => ⟨_, rfl, by rw [Addr.add_lit, Nat.zero_add, V5.out.cell j (by omega)]; unfold gapF; rw [if_pos hj]⟩
      clear SL4 V B b5 hgw
      generalize jS L = S at *
      generalize (jF L).1 = D at *
      generalize (jF L).2 = E at *
      go_wp2_with fail
      refine (sorted_any _ n (n + 4) (nth L) w5 (by omega) SI5).mono ?_
      rintro e w6 ⟨⟨r, rfl, _⟩, q, rfl⟩
      have V6 : Hid (VRow (w5.drewN q) g (n + 4) (fun j => .string (gapF L n (n + 4) j))) := V5.out.drewN q
      have B6 : Hid (Below g w1 (w5.drewN q)) := bel_drewN B5.out q
      clear V5 B5 SI5
      generalize w5.drewN q = w6 at *
      have X6 : Hid (SIs w6 x n (nth L)) := SX1.out.below B6.out (by rw [hg1.out]; exact Nat.le_refl _)
      go_wp2
      go_loopw [47] (fun xi wr => ∃ k : Nat, k ≤ n + 4 ∧ xi = .int .i64 k ∧ Hid (∃ q, wr = w6.drewN q)) (fun i _ => n + 4 - (intOf i).toNat)
      case atStart => exact ⟨0, Nat.zero_le _, rfl, 0, rfl⟩
      case round =>
        obtain ⟨k, hk, rfl, hq⟩ := hrel
        by_cases hlt : k < n
        · obtain ⟨a, rfl, c0⟩ := X6.out k hlt
          obtain ⟨q, hwr⟩ := hq.out
          have d0 : wr.cell? (a.add k) = some (.string (nth L k)) := by rw [hwr]; exact c0
          have d1 : wr.cell? ⟨g, k, none⟩ = some (.string (nth L k)) := by
            rw [hwr]; refine (V6.out.cell k (by omega)).trans ?_
            unfold gapF; rw [if_pos hlt]
          clear c0 hwr
          have he : ((nth L k).toList == (nth L k).toList) = true := by simp
          have hlt4 : k < n + 4 := by omega
          go_wp2
          go_roundw
          case rel => exact ⟨k + 1, by omega, by go_num, hq⟩
          case measure => simp [intOf]; omega
        · by_cases hlt4 : k < n + 4
          · obtain ⟨q, hwr⟩ := hq.out
            have d1 : wr.cell? ⟨g, k, none⟩ = some (.string ⟨#[103, 97, 112]⟩) := by
              rw [hwr]; refine (V6.out.cell k (by omega)).trans ?_
              unfold gapF; rw [if_neg hlt, if_pos hlt4]
            clear hwr
            have he : ((ByteArray.mk #[103, 97, 112]).toList == (ByteArray.mk #[103, 97, 112]).toList) = true := by simp
            go_wp2
            go_roundw
            case rel => exact ⟨k + 1, by omega, by go_num, hq⟩
            case measure => simp [intOf]; omega
          · obtain ⟨q, rfl⟩ := hq.out
            have B7 : Below g w1 (w6.drewN q) := bel_drewN B6.out _
            clear X6 V6 B6
            generalize w6.drewN q = w7 at *
            have B8 : Below w.heap.size w w7 := HB1.out.trans (B7.mono hwg)
            clear B7
            go_wp2_with fail
            have SP := fun w => split_full p w hp
            have HLN := pathN_len p
            generalize (pathF p).1 = C at *
            generalize (pathF p).2 = A at *
            generalize pathN p = N at *
            refine (SP w7).mono ?_
            rintro e w8 ⟨va, rfl, SA, b8⟩
            have B9 : Below w.heap.size w w8 := B8.trans (b8.mono B8.size)
            have h87 : w.heap.size ≤ w7.heap.size := B8.size
            clear B8 b8
            rcases SA with ⟨rfl, rfl⟩ | ⟨ga, ca, rfl, hca, ⟨hga, hps⟩, VA⟩
            · clear h87
              go_wp2_with fail
              have BA : Below w.heap.size w (w8.alloc (Obj.cells #[Value.int IntKind.i64 C, Value.int IntKind.i64 A] 26)) := B9.alloc B9.size _
              clear B9
              obtain ⟨k8, hk8⟩ : ∃ k, w8.heap.size = k := ⟨_, rfl⟩
              rw [hk8]
              clear hk8
              generalize w8.alloc (Obj.cells #[Value.int IntKind.i64 C, Value.int IntKind.i64 A] 26) = w9 at *
              refine (SP w9).mono ?_
              rintro e w10 ⟨vb, rfl, SB, b10⟩
              have B10 : Below w.heap.size w w10 := BA.trans (b10.mono BA.size)
              clear BA b10 SP
              obtain rfl : vb = .slice none 0 0 := by
                rcases SB with ⟨h, _⟩ | ⟨_, _, _, _, ⟨_, hx0⟩, _⟩
                · exact h
                · simp at hx0
              clear SB
              go_wp2_with fail
              have BA : Below w.heap.size w (w10.alloc (Obj.cells #[Value.int IntKind.i64 C, Value.int IntKind.i64 A] 26)) := B10.alloc B10.size _
              clear B10
              obtain ⟨k10, hk10⟩ : ∃ k, w10.heap.size = k := ⟨_, rfl⟩
              rw [hk10]
              clear hk10
              generalize w10.alloc (Obj.cells #[Value.int IntKind.i64 C, Value.int IntKind.i64 A] 26) = w11 at *
              refine (alike_same (.slice none 0 0) (.slice none 0 0) [] w11 (Or.inl ⟨rfl, rfl⟩) (Or.inl ⟨rfl, rfl⟩) (by decide)).mono ?_
              rintro e w12 ⟨rfl, b12⟩
              have B12 : Below w.heap.size w w12 := BA.trans (b12.mono BA.size)
              clear BA b12
              go_wp2_with fail
              have B13 : Below w.heap.size w (w12.alloc (Obj.cells #[] 9)) := B12.alloc B12.size _
              obtain ⟨gz, hgz⟩ : ∃ k, w12.heap.size = k := ⟨_, rfl⟩
              rw [hgz]
              clear B12 hgz
              generalize w12.alloc (Obj.cells #[] 9) = w13 at *
              go_loop [94] (fun xi => xi = .int .i64 ((0 : Nat) : Int)) (fun _ => 0)
              case atStart => rfl
              case round =>
                subst hrel
                go_wp2_with fail
                have key : ∀ o1 o2, Below w.heap.size w (((w13.alloc o1).alloc o2).drewN 1) := fun o1 o2 => bel_drewN ((B13.alloc B13.size o1).alloc (B13.alloc B13.size o1).size o2) 1
                refine (alike_same (.slice none 0 0) (.slice (some ⟨gz, 0, none⟩) 0 0) [] _ (Or.inl ⟨rfl, rfl⟩) (Or.inr ⟨gz, 0, rfl, Nat.le_refl _, ⟨(fun j hj => absurd hj (by simp)), (fun j hj => absurd hj (by simp))⟩⟩) (by decide)).mono ?_
                rintro e w15 ⟨rfl, b15⟩
                have B15 : Below w.heap.size w w15 := (key _ _).trans (b15.mono (key _ _).size)
                clear key b15 B13
                go_wp2
                go_ret
                exact ⟨rfl, B15⟩
            · have hlt8 : ga < w8.heap.size := VA.lt (by omega)
              have hwga : w.heap.size ≤ ga := by omega
              clear h87 hga
              go_wp2_with fail
              have BA : Below w.heap.size w (w8.alloc (Obj.cells #[Value.int IntKind.i64 C, Value.int IntKind.i64 A] 26)) := B9.alloc B9.size _
              have VA9 := VA.alloc hlt8 (Obj.cells #[Value.int IntKind.i64 C, Value.int IntKind.i64 A] 26)
              have hlt9 : ga < (w8.alloc (Obj.cells #[Value.int IntKind.i64 C, Value.int IntKind.i64 A] 26)).heap.size := by rw [World.size_alloc]; omega
              clear B9 VA hlt8
              obtain ⟨k8, hk8⟩ : ∃ k, w8.heap.size = k := ⟨_, rfl⟩
              rw [hk8]
              clear hk8
              generalize w8.alloc (Obj.cells #[Value.int IntKind.i64 C, Value.int IntKind.i64 A] 26) = w9 at *
              refine (SP w9).mono ?_
              rintro e w10 ⟨vb, rfl, SB, b10⟩
              have B10 : Below w.heap.size w w10 := BA.trans (b10.mono BA.size)
              obtain ⟨gb, cb, rfl, hcb, ⟨hgb, _⟩, VB⟩ : ∃ g c, vb = .slice (some ⟨g, 0, none⟩) N.length c ∧ N.length ≤ c ∧ (w9.heap.size ≤ g ∧ 0 < N.length) ∧ VRow w10 g c (fun j => .string (nth N j)) := by
                rcases SB with ⟨_, hx0⟩ | h
                · rw [hx0] at hps; simp at hps
                · exact h
              clear SB
              have VA10 := VA9.below b10 hlt9
              have hne : ga ≠ gb := by omega
              have hltb : gb < w10.heap.size := VB.lt (by omega)
              have hlta : ga < w10.heap.size := by omega
              have VB10 := VB.take hcb
              clear BA b10 SP VA9 hlt9 hgb VB
              go_wp2_with fail
              have BA : Below w.heap.size w (w10.alloc (Obj.cells #[Value.int IntKind.i64 C, Value.int IntKind.i64 A] 26)) := B10.alloc B10.size _
              have VA11 := VA10.alloc hlta (Obj.cells #[Value.int IntKind.i64 C, Value.int IntKind.i64 A] 26)
              have VB11 := VB10.alloc hltb (Obj.cells #[Value.int IntKind.i64 C, Value.int IntKind.i64 A] 26)
              have h11 : w10.heap.size ≤ (w10.alloc (Obj.cells #[Value.int IntKind.i64 C, Value.int IntKind.i64 A] 26)).heap.size := by rw [World.size_alloc]; omega
              obtain ⟨k10, hk10⟩ : ∃ k, w10.heap.size = k := ⟨_, rfl⟩
              clear B10 VA10 VB10
              generalize w10.alloc (Obj.cells #[Value.int IntKind.i64 C, Value.int IntKind.i64 A] 26) = w11 at *
              rw [hk10] at h11 hlta hltb ⊢
              clear hk10
              refine (alike_same _ _ N w11 (Or.inr ⟨ga, ca, rfl, hca, VA11.take hca⟩) (Or.inr ⟨gb, cb, rfl, hcb, VB11⟩) HLN).mono ?_
              rintro e w12 ⟨rfl, b12⟩
              have B12 : Below w.heap.size w w12 := BA.trans (b12.mono BA.size)
              have VA12 := VA11.below b12 (by omega)
              have VB12 := VB11.below b12 (by omega)
              have hla : ga < w12.heap.size := by have := b12.size; omega
              have hlb : gb < w12.heap.size := by have := b12.size; omega
              clear BA b12 VA11 VB11 h11 hlta hltb
              obtain ⟨gw, cw, w14, hrun, hgw, hcw, VW, b14⟩ := append_copy (w12.alloc (Obj.cells #[] 9)) ga ca w12.heap.size N 23 hps HLN ((VA12.take hca).alloc hla _)
              have B13 : Below w.heap.size w (w12.alloc (Obj.cells #[] 9)) := B12.alloc B12.size _
              have VA13 := VA12.alloc hla (Obj.cells #[] 9)
              have VB13 := VB12.alloc hlb (Obj.cells #[] 9)
              have h13 : (w12.alloc (Obj.cells #[] 9)).heap.size = w12.heap.size + 1 := World.size_alloc _ _
              have VA14 := VA13.below b14 (by omega)
              have VB14 := VB13.below b14 (by omega)
              have B14 : Below w.heap.size w w14 := B13.trans (b14.mono B13.size)
              have hne2 : ga ≠ gw := by omega
              go_wp2_with (first | (refine wpList_append_is (by rfl) (.tmp 89) (.tmp 90) (by rfl) _ _ _ _ (by rfl) (by rfl) hrun ?_))
              have h14 : w12.heap.size + 1 ≤ w14.heap.size := by have := b14.size; omega
              have hgw14 : gw < w14.heap.size := VW.lt hps
              have LA : Hid (∃ f : Nat → ByteArray, VRow w14 ga ca (fun j => .string (f j))) := ⟨_, VA14⟩
              have LB : Hid (VRow w14 gb N.length (fun j => .string (nth N j))) := VB14
              have HCW : Hid (N.length ≤ cw) := hcw
              clear hcw
              have LW : Hid (VRow w14 gw N.length (fun j => .string (nth N j))) := VW
              have LZ : Hid (Below w.heap.size w w14 ∧ ga < w14.heap.size ∧ gb < w14.heap.size ∧ gw < w14.heap.size) := ⟨B14, by omega, by omega, hgw14⟩
              clear VA14 VB14 VW B14 h14 hgw14 VA13 VB13 B13 b14 h13 hgw hrun VA12 VB12 B12 hla hlb
              obtain ⟨gz, hgz⟩ : ∃ k, w12.heap.size = k := ⟨_, rfl⟩
              rw [hgz]
              clear hgz
              go_loopw [94] (fun xi wr => ∃ k : Nat, k ≤ N.length ∧ xi = .int .i64 k ∧ Hid (∃ f : Nat → ByteArray, VRow wr ga ca (fun j => .string (f j))) ∧ Hid (VRow wr gb N.length (fun j => .string (nth N j))) ∧ Hid (VRow wr gw N.length (fun j => .string (nth N j))) ∧ Hid (Below w.heap.size w wr ∧ ga < wr.heap.size ∧ gb < wr.heap.size ∧ gw < wr.heap.size)) (fun i _ => N.length - (intOf i).toNat)
              case atStart => exact ⟨0, Nat.zero_le _, rfl, LA, LB, LW, LZ⟩
              case round =>
                obtain ⟨k, hk, rfl, RA, RB, RW, RZ⟩ := hrel
                by_cases hlt : k < N.length
                · obtain ⟨f, VF⟩ := RA.out
                  have c1 := VF.cell k (by omega)
                  have f1 := VF.free k (by omega)
                  have VF2 : Hid (VRow wr ga ca (fun j => .string (f j))) := VF
                  clear VF
                  go_wp2
                  go_roundw
                  case rel =>
                    refine ⟨k + 1, by omega, by go_num, ⟨fun j => if j = k then ⟨#[109, 97, 114, 107, 101, 100]⟩ else f j, (VF2.out.set k _ (by omega)).congr (fun j _ => ?_)⟩, RB.out.other _ _ (Ne.symm hne), RW.out.other _ _ (Ne.symm hne2), RZ.out.1.setCell hwga _, ?_⟩
                    · by_cases e : j = k
                      · simp [e]
                      · simp [e]
                    · rw [World.size_setCell]; exact RZ.out.2
                  case measure => simp [intOf]; omega
                · obtain ⟨f, VF⟩ := RA.out
                  obtain ⟨BR, hra, hrb, hrw⟩ := RZ.out
                  have VF2 := VF.alloc hra (Obj.cells #[Value.string ⟨#[120]⟩, Value.string ⟨#[121]⟩, Value.string ⟨#[122]⟩] 9)
                  have VB2 := RB.out.alloc hrb (Obj.cells #[Value.string ⟨#[120]⟩, Value.string ⟨#[121]⟩, Value.string ⟨#[122]⟩] 9)
                  have VW2 := RW.out.alloc hrw (Obj.cells #[Value.string ⟨#[120]⟩, Value.string ⟨#[121]⟩, Value.string ⟨#[122]⟩] 9)
                  have BR2 : Below w.heap.size w (wr.alloc (Obj.cells #[Value.string ⟨#[120]⟩, Value.string ⟨#[121]⟩, Value.string ⟨#[122]⟩] 9)) := BR.alloc BR.size _
                  have hsz : (wr.alloc (Obj.cells #[Value.string ⟨#[120]⟩, Value.string ⟨#[121]⟩, Value.string ⟨#[122]⟩] 9)).heap.size = wr.heap.size + 1 := World.size_alloc _ _
                  obtain ⟨x', c', w16, hrun, h16, hbl, bg⟩ := append_three (wr.alloc (Obj.cells #[Value.string ⟨#[120]⟩, Value.string ⟨#[121]⟩, Value.string ⟨#[122]⟩] 9)) ga ca N.length wr.heap.size 23 f (.string ⟨#[120]⟩) (.string ⟨#[121]⟩) (.string ⟨#[122]⟩) HLN hca VF2 (fun j u hj => by
                    rw [World.cell?_alloc_new, ← hj]
                    simp) (fun u hu => by
                    simp at hu
                    rcases hu with rfl | rfl | rfl <;> rfl)
                  have VB3 := VB2.same (hbl gb (by omega) (Ne.symm hne))
                  have VW3 := VW2.same (hbl gw (by omega) (Ne.symm hne2))
                  have B3 : Below w.heap.size w w16 := BR2.trans ((bg (by omega)).mono hwga)
                  clear VB2 VW2 BR2 bg hbl VF2 VF hsz
                  go_wp2_with (first
                    | (refine wpList_append_is (by rfl) (.tmp 101) (.tmp 102) (by rfl) _ _ _ _ (by rfl) (by rfl) hrun ?_)
                    | (go_at_call 9
                       refine (alike_same _ _ N w16 (Or.inr ⟨gb, cb, rfl, hcb, VB3⟩) (Or.inr ⟨gw, cw, rfl, HCW.out, VW3⟩) HLN).mono ?_
                       rintro e w17 ⟨rfl, b17⟩
                       have B17 : Below w.heap.size w w17 := B3.trans (b17.mono B3.size)))
                  go_ret
                  exact ⟨rfl, B17⟩

theorem nth_rangeK (f : Nat → ByteArray) (n i : Nat) (hi : i < n) : nth ((List.range n).map f) i = f i := by simp [nth, hi]
theorem keeps_walkF (x : Option Addr) (n c : Nat) (f : Nat → ByteArray) (p : ByteArray) (w : World) (hn : n ≤ 8796093021952) (h : SIs w x n f) (_ : ∀ i, i < n → (f i).size ≤ 140737488351232) (hc : n ≤ c) (hp : p.size ≤ 140737488351232) :
    Calls Tryd.prog 5 #[.slice x n c, .string p] w fun e w' => e = .returned (.bool true) ∧ Below w.heap.size w w' :=
  have h' : SIs w x n (nth ((List.range n).map f)) := fun i hi => by rw [nth_rangeK f n i hi]; exact h i hi
  keeps_walk x n c ((List.range n).map f) p w hn hp (SIs.slx h' (by simp) hc) h'

end Go.Proofs.YtdmkkkfdigeinabDoor
