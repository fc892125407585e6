/- The law SpathKeeps, walked. -/
import Derived.Test.YtnfcnfhchfmcpabDoorPtM
import Derived.Test.YtnfcnfhchfmcpabDoorVr
import Derived.ArgAppend
import Derived.Deep.Upon
import Derived.Deep.RegionHeld3
import Derived.Laws.IdiomCopy
namespace Go.Proofs.YtnfcnfhchfmcpabDoor
open Go.RowKit

theorem Tryd.szL23 : (Tryd.prog.info? 23).map (·.size) = some 32 := by kernel_rfl
theorem info_str : (Tryd.prog.info? 9).map (fun i => (i.zero, i.size, i.bytes)) = some (some (.string ByteArray.empty), 1, 16) := by kernel_rfl
theorem info_one : (Tryd.prog.info? 9).map (·.size) = some 1 := by kernel_rfl

theorem yieldsIf_arr {P : Program} {ops : Array Oper} {S : World → Prop} {op : Oper} {a : Act} {k : IntKind} {n e : Nat} {f : Nat → Int} (hw : Region.wanted op (yielded ops a.tmps) = true) (ty : TypeId) (x : Operand) (ho : op.op = .load ty x)
    (g : Nat) (hx : a.eval x = .pointer (some ⟨g, 0, none⟩)) (hS : ∀ w, S w → Row k w g n f) (hu : P.underlying ty = some (.array n e)) (hi : (P.info? ty).map (·.size) = some n) : YieldsIf P ops S op (.agg (cs k n f)) a := by
  have h := yieldsIf_load_mid (P := P) (ops := ops) (S := S) hw ty x ho g 0 hx (cs k n f).toList (.array n e) (fun w hs => (hS w hs).range) hu rfl (by rw [hi]; simp [cs_size])
  simpa using h

theorem below_setCells (b : Nat) (vs : List Value) (o : Nat) {B : Nat} (hB : B ≤ b) {w0 w : World} (h : Below B w0 w) : Below B w0 (w.setCells b o vs) := by
  induction vs generalizing o w with
  | nil => exact h
  | cons v vs ih => exact ih (o + 1) (h.setCell hB _)

/-- copy(mine, refs). -/
theorem copy_S (w : World) (x : Option Addr) (n c m g : Nat) (f : Nat → ByteArray) (F : Nat → Value) (ty : TypeId) (hx : SIs w x n f) (V : VRow w g m F) (hm : n ≤ m) :
    ∃ w', (Builtin.copy_ #[22, 22] ty #[.slice (some ⟨g, 0, none⟩) m m, .slice x n c]).run Tryd.prog w = .ok (goInt n) w' ∧ VRow w' g m (fun j => if j < n then .string (f j) else F j) ∧ ∀ B, B ≤ g → Below B w w' := by
  by_cases hn : n = 0
  · subst hn
    exact ⟨w, run_copy_none (P := Tryd.prog) w 22 22 ty 9 _ _ m m 0 c Tryd.underlying22 info_one (by simp), V.congr (fun j _ => by simp), fun B _ => Below.refl _ _⟩
  · obtain ⟨a, rfl, _⟩ := hx 0 (by omega)
    have hl : ((List.range n).map (fun i => Value.string (f i))).length = n := by simp
    have hsrc : ∀ j v, ((List.range n).map (fun i => Value.string (f i)))[j]? = some v → w.cell? (a.add j) = some v := fun j v hj => by
      have hjn : j < n := by rw [← hl]; exact (List.getElem?_eq_some_iff.1 hj).1
      obtain ⟨a', ha', hc⟩ := hx j hjn
      obtain rfl := Option.some.inj ha'
      rw [hc, ← hj]
      simp [hjn]
    have hrun := run_copy_cells (P := Tryd.prog) w 22 22 ty 9 g 0 m m a n c ((List.range n).map (fun i => Value.string (f i))) Tryd.underlying22 info_one (by rw [hl]; exact (Nat.min_eq_left hm).symm) hsrc
      (fun j hj => by rw [Nat.zero_add, V.cell j (by omega)]; rfl) (fun j hj => by rw [Nat.zero_add]; exact V.free j (by omega)) (fun v hv => by obtain ⟨y, _, rfl⟩ := List.mem_map.1 hv; rfl)
    rw [hl] at hrun
    refine ⟨_, hrun, ⟨fun j hj => ?_, fun j hj => ?_⟩, fun B hB => below_setCells g _ 0 hB (Below.refl _ _)⟩
    · by_cases e : j < n
      · rw [if_pos e]
        have := World.cell?_setCells_in g ((List.range n).map (fun i => Value.string (f i))) 0 w (fun i hi => by rw [Nat.zero_add, V.cell i (by omega)]; rfl) j (by omega)
        rw [Nat.zero_add] at this
        rw [this]
        simp
      · rw [if_neg e, World.cell?_setCells_out g _ 0 w _ (fun _ _ => by right; rw [hl]; show 0 + n ≤ j; omega)]
        exact V.cell j hj
    · rw [World.frozen?_setCells]; exact V.free j hj

/-- The list with gaps behind it: what stands at j when the gaps reach up to k. -/
def gapF (f : Nat → ByteArray) (n k j : Nat) : ByteArray := if j < n then f j else if j < k then ⟨#[103, 97, 112]⟩ else ByteArray.empty

set_option maxRecDepth 100000 in
set_option maxHeartbeats 4000000 in
theorem keeps_walk (x : Option Addr) (n c : Nat) (f : Nat → ByteArray) (D : Nat → Int) (w : World) (hn : n ≤ 8796093021952) (hS : SIs w x n f) (hK : KT w) :
    Calls Tryd.prog 3 #[.slice x n c, .agg (cs .u8 32 D)] w fun e w' => e = .returned (.bool true) ∧ Below w.heap.size w w' := by
  have HK : Hid (KT w) := hK
  have HS : Hid (SIs w x n f) := hS
  have z0 : 0 < w.heap.size := hK.lt
  clear hK hS
  have HMK : Hid (∀ w : World, (Instr.makeSlice 22 (.int .i64 ((n : Int) + 8)) (.int .i64 ((n : Int) + 8))).run Tryd.prog w = .ok (.slice (some ⟨w.heap.size, 0, none⟩) (n + 8) (n + 8)) (w.alloc (.cells (madeCells (Value.string ByteArray.empty).cells (n + 8)) 9))) := fun w => by
    obtain ⟨i0, hi, hz0, hz1, hz2⟩ := info_parts info_str
    rw [run_make (P := Tryd.prog) w 22 9 i0 (.string ByteArray.empty) Tryd.underlying22 hi hz0 .i64 .i64 _ _ (by omega) (by omega) (by rw [hz2]; omega) (by omega), show (((n : Int) + 8) : Int).toNat = n + 8 by omega, hz1, Nat.mul_one]
  go_enter Tryd.func3, Tryd.ntmps3
  go_wp2_with fail
  refine (awake_any _).mono ?_
  rintro e w1 ⟨rfl, b1⟩
  have R1 : Hid (Row .u8 w1 w.heap.size 32 D) := Row.below Row.box b1 (by rw [World.size_alloc]; omega)
  have B1 : Hid (Below w.heap.size w w1) := ((Below.refl _ _).alloc (Nat.le_refl _) _).trans (b1.mono (by rw [World.size_alloc]; omega))
  have z1 : Hid (w.heap.size < w1.heap.size) := by have := b1.size; rw [World.size_alloc] at this; unfold Hid; omega
  have S1 : Hid (SIs w1 x n f) := HS.out.below B1.out (Nat.le_refl _)
  have K1 : Hid (KT w1) := HK.out.below B1.out
  clear b1 HS HK
  go_wp2_with fail
  rw [HMK.out]
  clear HMK
  have R2 : VRow (w1.alloc (.cells (madeCells (Value.string ByteArray.empty).cells (n + 8)) 9)) w1.heap.size (n + 8) (fun _ => .string ByteArray.empty) := VRow.made rfl rfl
  have b2 : Below w1.heap.size w1 (w1.alloc (.cells (madeCells (Value.string ByteArray.empty).cells (n + 8)) 9)) := (Below.refl _ _).alloc (Nat.le_refl _) _
  have S2 : Hid (SIs (w1.alloc (.cells (madeCells (Value.string ByteArray.empty).cells (n + 8)) 9)) x n f) := S1.out.below b2 (Nat.le_refl _)
  generalize w1.alloc (.cells (madeCells (Value.string ByteArray.empty).cells (n + 8)) 9) = w2 at R2 b2 S2 ⊢
  go_wp2_with fail
  obtain ⟨w3, hrun, V3, b3⟩ := copy_S w2 x n c (n + 8) w1.heap.size f _ 3 S2.out R2 (by omega)
  rw [hrun]
  clear hrun
  have BG : Below w1.heap.size w1 w3 := b2.trans (b3 _ (Nat.le_refl _))
  have V4 : Hid (VRow w3 w1.heap.size (n + 8) (fun j => .string (gapF f n n j))) := V3.congr (fun j _ => by unfold gapF; by_cases e : j < n; rw [if_pos e, if_pos e]; rw [if_neg e, if_neg e, if_neg e])
  clear V3 S2 R2 b2 b3
  obtain ⟨g, hg⟩ : ∃ g, w1.heap.size = g := ⟨_, rfl⟩
  have HG : Hid (w1.heap.size = g) := hg
  rw [hg] at V4 BG ⊢
  clear hg
  have hgd : Hid (w.heap.size < g) := by rw [← HG.out]; exact z1.out
  have HBG : Hid (Below g w1 w3) := BG
  clear BG
  go_wp2
  go_loopw [6] (fun xi wr => ∃ k : Nat, n ≤ k ∧ k ≤ n + 8 ∧ xi = .int .i64 k ∧ Hid (VRow wr g (n + 8) (fun j => .string (gapF f n k j))) ∧ Hid (Below g w1 wr)) (fun i _ => n + 8 - (intOf i).toNat)
  case atStart => exact ⟨n, Nat.le_refl _, by omega, rfl, V4, HBG⟩
  case round =>
    obtain ⟨k, hk1, hk2, rfl, V, B⟩ := hrel
    by_cases hlt : k < n + 8
    · have c1 := V.out.cell k hlt
      have f1 := V.out.free k hlt
      go_wp2
      go_roundw
      case rel =>
        refine ⟨k + 1, by omega, by omega, by go_num, (V.out.set k _ hlt).congr (fun j _ => ?_), B.out.setCell (Nat.le_refl _) _⟩
        unfold gapF
        by_cases e : j = k
        · rw [if_pos e, if_neg (by omega), if_pos (by omega)]
        · rw [if_neg e]
          by_cases e2 : j < n
          · rw [if_pos e2, if_pos e2]
          · rw [if_neg e2, if_neg e2]
            by_cases e3 : j < k
            · rw [if_pos e3, if_pos (by omega)]
            · rw [if_neg e3, if_neg (by omega)]
      case measure => simp [intOf]; omega
    · obtain rfl : k = n + 8 := by omega
      clear hk1 hk2 V4 HBG
      have hgw : Hid (g < wr.heap.size) := V.out.lt (by omega)
      have R5 : Hid (Row .u8 wr w.heap.size 32 D) := R1.out.below B.out hgd.out
      have K5 : Hid (KT wr) := K1.out.below (HG.out ▸ B.out : Below w1.heap.size w1 wr)
      have SM5 : Hid (SIs wr (some ⟨g, 0, none⟩) n f) := fun j hj => ⟨_, rfl, by rw [Addr.add_lit, Nat.zero_add, V.out.cell j (by omega)]; unfold gapF; rw [if_pos hj]⟩
      have hgd2 : Hid (w.heap.size < wr.heap.size) := Nat.lt_trans hgd.out hgw.out
      obtain ⟨PA, hPA⟩ : ∃ q, iffy (mkC f n ⟨#[97]⟩) (mkS f n D ⟨#[97]⟩) = q := ⟨_, rfl⟩
      obtain ⟨PC, hPC⟩ : ∃ q, mkC f n ⟨#[97]⟩ = q := ⟨_, rfl⟩
      have CM : Hid (∀ W, Below wr.heap.size wr W → Calls Tryd.prog 5 #[.slice (some ⟨g, 0, none⟩) n (n + 8), .agg (cs .u8 32 D), .string ⟨#[97]⟩] W fun e w' => e = .returned (.tuple #[.string PA, .int .i64 PC]) ∧ Below W.heap.size W w') := fun W hb => by
        rw [← hPA, ← hPC]; exact make_any (some ⟨g, 0, none⟩) n (n + 8) f D ⟨#[97]⟩ W (SM5.out.below hb (Nat.le_refl _)) (K5.out.below hb)
      have CM2 : Hid (∀ W, SIs W x n f → KT W → Calls Tryd.prog 5 #[.slice x n c, .agg (cs .u8 32 D), .string ⟨#[97]⟩] W fun e w' => e = .returned (.tuple #[.string PA, .int .i64 PC]) ∧ Below W.heap.size W w') := fun W hs hk => by
        rw [← hPA, ← hPC]; exact make_any x n c f D ⟨#[97]⟩ W hs hk
      clear hPA hPC
      have hl1 : (n : Int) ≤ ((n + 8 : Nat) : Int) := by omega
      have hl2 : (n : Int) ≤ (n : Int) + 8 := by omega
      have hl3 : n ≤ n + 8 := by omega
      have hl4 : (0 : Int) ≤ (n : Int) := by omega
      have b0 : Below wr.heap.size wr wr := Below.refl _ _
      have hD : Below wr.heap.size wr wr.drew := b0.drew
      go_wp2
      -- @1
      refine wp_region_held_drew (S := fun W => Below wr.heap.size wr W) (by kernel_rfl) hD (fun hH => ?_)
      refine wpAnyH_take (i := 0) (oi := { dst := some 34, op := Op.move (Operand.tmp 5), type := 22, pos := "law.go:113", after := #[], guard := none }) (v := .slice (some ⟨g, 0, none⟩) (n + 8) (n + 8)) rfl (by kernel_rfl) (by kernel_rfl) (by kernel_rfl) (fun _ _ _ h => h) (Or.inl ⟨by rfl, by intro w _; go_simp⟩) hH ?_
      simp only [Act.put, List.setIfInBounds_toArray, List.set_cons_zero, List.set_cons_succ]
      refine wpAnyH_take (i := 1) (oi := { dst := some 35, op := Op.move (Operand.tmp 0), type := 22, pos := "law.go:113", after := #[], guard := none }) (v := .slice x n c) rfl (by kernel_rfl) (by kernel_rfl) (by kernel_rfl) (fun _ _ _ h => h) (Or.inl ⟨by rfl, by intro w _; go_simp⟩) hH ?_
      simp only [Act.put, List.setIfInBounds_toArray, List.set_cons_zero, List.set_cons_succ]
      -- @2
      refine wpAnyH_take (i := 2) (oi := { dst := some 36, op := Op.call { callee := Callee.builtin Builtin.len, args := #[Operand.tmp 35], argTypes := #[22] }, type := 3, pos := "law.go:113", after := #[{ on := 1, ground := Ground.data }], guard := none }) (v := .int .i64 (n : Int)) rfl (by kernel_rfl) (by kernel_rfl) (by kernel_rfl) (fun _ _ _ h => h) (Or.inl ⟨by rfl, by intro w _; go_simp⟩) hH ?_
      simp only [Act.put, List.setIfInBounds_toArray, List.set_cons_zero, List.set_cons_succ]
      refine wpAnyH_take (i := 3) (oi := { dst := some 37, op := Op.slice 22 (Operand.tmp 34) none (some (Operand.tmp 36)) none, type := 22, pos := "law.go:113", after := #[{ on := 0, ground := Ground.data }, { on := 2, ground := Ground.data }], guard := none }) (v := .slice (some ⟨g, 0, none⟩) n (n + 8)) rfl (by kernel_rfl) (by kernel_rfl) (by kernel_rfl) (fun _ _ _ h => h) (Or.inl ⟨by rfl, by intro w _; go_simp⟩) hH ?_
      simp only [Act.put, List.setIfInBounds_toArray, List.set_cons_zero, List.set_cons_succ]
      -- @3
      refine wpAnyH_take (i := 4) (oi := { dst := some 38, op := Op.load 23 (Operand.tmp 3), type := 23, pos := "law.go:113", after := #[], guard := none }) rfl (by kernel_rfl) (by kernel_rfl) (by kernel_rfl) (fun _ _ _ h => h) (yieldsIf_arr (by rfl) 23 (.tmp 3) rfl w.heap.size rfl (fun w' s => R5.out.below s hgd2.out) Tryd.underlying23 Tryd.szL23) hH ?_
      simp only [Act.put, List.setIfInBounds_toArray, List.set_cons_zero, List.set_cons_succ]
      -- @4
      refine wpAnyH_ready (rs := [5]) (by kernel_rfl) (by decide) (AllReadyH.cons rfl (fun K hK => ?_) AllReadyH.nil)
      rw [if_pos (by rfl)]
      go_simp
      refine (CM.out wr.drew hH).mono ?_
      rintro e w6 ⟨rfl, b6⟩
      have hH6 : Below wr.heap.size wr w6 := hH.trans (b6.mono hH.size)
      go_wp2_with fail
      -- @5
      refine hK.out _ _ hH6 (fun hH2 => ?_)
      clear hK K
      try simp only [Act.put, List.setIfInBounds_toArray, List.set_cons_zero, List.set_cons_succ]
      refine wpAnyH_take (i := 6) (oi := { dst := some 33, op := Op.move (Operand.tmp 39), type := 26, pos := "law.go:113", after := #[{ on := 5, ground := Ground.data }], guard := none }) (v := .tuple #[.string PA, .int .i64 PC]) rfl (by kernel_rfl) (by kernel_rfl) (by kernel_rfl) (fun _ _ _ h => h) (Or.inl ⟨by rfl, by intro w _; go_simp⟩) hH2 ?_
      simp only [Act.put, List.setIfInBounds_toArray, List.set_cons_zero, List.set_cons_succ]
      refine wpAnyH_take (i := 7) (oi := { dst := some 40, op := Op.extract (Operand.tmp 33) 0, type := 9, pos := "law.go:113", after := #[{ on := 6, ground := Ground.data }], guard := none }) (v := .string PA) rfl (by kernel_rfl) (by kernel_rfl) (by kernel_rfl) (fun _ _ _ h => h) (Or.inl ⟨by rfl, by intro w _; go_simp⟩) hH2 ?_
      simp only [Act.put, List.setIfInBounds_toArray, List.set_cons_zero, List.set_cons_succ]
      -- @6
      refine wpAnyH_take (i := 8) (oi := { dst := some 41, op := Op.extract (Operand.tmp 33) 1, type := 25, pos := "law.go:113", after := #[{ on := 6, ground := Ground.data }, { on := 9, ground := Ground.gcOnly Departure.lateStores }], guard := none }) (v := .int .i64 PC) rfl (by kernel_rfl) (by kernel_rfl) (by kernel_rfl) (fun _ _ _ h => h) (Or.inl ⟨by rfl, by intro w _; go_simp⟩) hH2 ?_
      simp only [Act.put, List.setIfInBounds_toArray, List.set_cons_zero, List.set_cons_succ]
      -- @7
      refine wpAnyH_ready (rs := [9]) (by kernel_rfl) (by decide) (AllReadyH.cons rfl (fun K hK => ?_) AllReadyH.nil)
      rw [if_pos (by rfl)]
      go_simp
      refine hK.out _ _ hH2 (fun hH3 => ?_)
      clear hK K
      try simp only [Act.put, List.setIfInBounds_toArray, List.set_cons_zero, List.set_cons_succ]
      -- @8
      refine wpAnyH_ready (rs := [10]) (by kernel_rfl) (by decide) (AllReadyH.cons rfl (fun K hK => ?_) AllReadyH.nil)
      rw [if_pos (by rfl)]
      go_simp
      refine hK.out _ _ hH3 (fun hH4 => ?_)
      clear hK K
      try simp only [Act.put, List.setIfInBounds_toArray, List.set_cons_zero, List.set_cons_succ]
      refine wpAnyH_done (by kernel_rfl) ?_ _
      -- @9
      have V6 : Hid (VRow w6 g (n + 8) (fun j => .string (gapF f n (n + 8) j))) := V.out.below hH6 hgw.out
      have B6 : Hid (Below g w1 w6) := B.out.trans (hH6.mono (Nat.le_of_lt hgw.out))
      have R6 : Hid (Row .u8 w6 w.heap.size 32 D) := R5.out.below hH6 hgd2.out
      have SM6 : Hid (SIs w6 (some ⟨g, 0, none⟩) n f) := SM5.out.below hH6 (Nat.le_refl _)
      have g6 : Hid (g < w6.heap.size) := Nat.lt_of_lt_of_le hgw.out hH6.size
      clear hH hH2 hH3 hH4 b6 b0 hD CM V B R5 SM5 K5 hgw hgd2 hH6
      go_wp2_with fail
      have CC := ckR_any (some ⟨g, 0, none⟩) n (n + 8) f w6 SM6.out
      refine CC.mono ?_
      clear CC
      rintro e w7 ⟨rfl, b7⟩
      have V7 : Hid (VRow w7 g (n + 8) (fun j => .string (gapF f n (n + 8) j))) := V6.out.below b7 g6.out
      have B7 : Hid (Below g w1 w7) := B6.out.trans (b7.mono (Nat.le_of_lt g6.out))
      have R7 : Hid (Row .u8 w7 w.heap.size 32 D) := R6.out.below b7 (Nat.lt_trans hgd.out g6.out)
      have S7 : Hid (SIs w7 x n f) := S1.out.below B7.out (by rw [HG.out]; exact Nat.le_refl _)
      have K7 : Hid (KT w7) := K1.out.below (HG.out ▸ B7.out : Below w1.heap.size w1 w7)
      have BB7 : Hid (Below w.heap.size w w7) := B1.out.trans (B7.out.mono (Nat.le_of_lt hgd.out))
      clear b7 V6 B6 R6 SM6 g6 S1 K1 R1
      go_wp2
      -- @A
      go_loop [49] (fun xi => ∃ k : Nat, k ≤ n + 8 ∧ xi = .int .i64 k) (fun i => n + 8 - (intOf i).toNat)
      case atStart => exact ⟨0, Nat.zero_le _, rfl⟩
      case round =>
        obtain ⟨k, hk, rfl⟩ := hrel
        by_cases hlt : k < n
        · obtain ⟨a, rfl, c0⟩ := S7.out k hlt
          have d1 : w7.cell? ⟨g, k, none⟩ = some (.string (f k)) := by
            refine (V7.out.cell k (by omega)).trans ?_
            unfold gapF; rw [if_pos hlt]
          have he : ((f k).toList == (f k).toList) = true := by simp
          have he2 : ((f k).toList != (f k).toList) = false := by simp
          have hk8 : k < n + 8 := by omega
          have hk9 : ¬ (n : Int) ≤ (k : Int) := by omega
          have hk10 : ¬ n ≤ k := by omega
          go_wp2
          go_round
          case rel => exact ⟨k + 1, by omega, by go_num⟩
          case measure => simp [intOf]; omega
        · by_cases hlt2 : k < n + 8
          · have d1 : w7.cell? ⟨g, k, none⟩ = some (.string ⟨#[103, 97, 112]⟩) := by
              refine (V7.out.cell k (by omega)).trans ?_
              unfold gapF; rw [if_neg hlt, if_pos hlt2]
            have hk9 : (n : Int) ≤ (k : Int) := by omega
            have hk10 : n ≤ k := by omega
            go_wp2
            go_round
            case rel => exact ⟨k + 1, by omega, by go_num⟩
            case measure => simp [intOf]; omega
          · obtain rfl : k = n + 8 := by omega
            have R7' := R7.out
            go_wp2_with (refine wpList_load_arr (by rfl) 23 (.tmp 3) (by rfl) w.heap.size (by rfl) R7' Tryd.underlying23 Tryd.szL23 ?_)
            have CC := CM2.out w7 S7.out K7.out
            refine CC.mono ?_
            clear CC
            rintro e w8 ⟨rfl, b8⟩
            have B8 : Hid (Below w.heap.size w w8) := below_next BB7.out b8
            clear b8 CM2 R7' V7 B7 R7 S7 K7
            have q1 : (PA.toList == PA.toList) = true := by simp
            have q2 : (PC == PC) = true := by simp
            go_wp2
            go_ret
            exact ⟨rfl, B8.out⟩

theorem keeps_walkF (x : Option Addr) (n c : Nat) (f : Nat → ByteArray) (D : Nat → Int) (w : World) (hn : n ≤ 8796093021952) (hS : SIs w x n f) (_ht : ∀ i, i < n → (f i).size ≤ 140737488351232) (_hy : n ≤ c) (_hD : ∀ j, 0 ≤ D j ∧ D j < 256) (hK : KT w) :
    Calls Tryd.prog 3 #[.slice x n c, .agg (cs .u8 32 D)] w fun e w' => e = .returned (.bool true) ∧ Below w.heap.size w w' := keeps_walk x n c f D w hn hS hK

end Go.Proofs.YtnfcnfhchfmcpabDoor
