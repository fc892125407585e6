/- Gathered: IoE InO ShaE InV IoF IqW. -/
import Derived.Deep.QuietTactic
import Derived.BigQuiet
import Derived.ChangeKeysEq
import Derived.BigFrame
import Derived.Test.YtgnlkggodchlbabDoorQd
import Derived.Test.YtgnlkggodchlbabDoorQj
/- slices.Equal, the laws' texts; info.Same; walked. -/
namespace Go.Proofs.YtgnlkggodchlbabDoor
open Go.RowKit Go.Shelf

/-- The same texts. -/
def eqT (f : Nat → ByteArray) (n : Nat) (h : Nat → ByteArray) (m : Nat) : Bool := decide (n = m ∧ ∀ i, i < n → f i = h i)
theorem eqT_ne {f h : Nat → ByteArray} {n m : Nat} (e : n ≠ m) : eqT f n h m = false := decide_eq_false (fun c => e c.1)
theorem eqT_at {f h : Nat → ByteArray} {n m k : Nat} (hk : k < n) (e : f k ≠ h k) : eqT f n h m = false := decide_eq_false (fun c => e (c.2 k hk))
theorem eqT_all {f h : Nat → ByteArray} {n : Nat} (e : ∀ i, i < n → f i = h i) : eqT f n h n = true := decide_eq_true ⟨rfl, e⟩

set_option maxHeartbeats 1000000 in
theorem slEq_any (x y : Option Addr) (n c m d : Nat) (f h : Nat → ByteArray) (w : World) (hx : SIs w x n f) (hy : SIs w y m h) (hn : n ≤ 1152921504606846976) (hm : m ≤ 1152921504606846976) :
    Calls Tryd.prog 22 #[.slice x n c, .slice y m d] w fun e w' => e = .returned (.bool (eqT f n h m)) ∧ Below w.heap.size w w' := by
  by_cases hnm : n = m
  · subst hnm
    have HX : Hid (SIs w x n f) := hx
    have HY : Hid (SIs w y n h) := hy
    clear hx hy
    have hee : (((n : Nat) : Int) != ((n : Nat) : Int)) = false := by simp
    generalize hE : eqT f n h n = E
    go_enter Tryd.func22, Tryd.ntmps22
    go_wp2
    go_loopw [13] (fun xi wr => ∃ k : Nat, k ≤ n ∧ xi = .int .i64 k ∧ Hid (∀ i, i < k → f i = h i) ∧ Hid (∃ q, wr = w.drewN q)) (fun i _ => n - (intOf i).toNat)
    case atStart => exact ⟨0, Nat.zero_le _, rfl, fun i hi => absurd hi (by omega), 0, rfl⟩
    case round =>
      obtain ⟨k, hk, rfl, hA, hq⟩ := hrel
      by_cases hlt : k < n
      · obtain ⟨a1, rfl, c1⟩ := HX.out k hlt
        obtain ⟨a2, rfl, c2⟩ := HY.out k hlt
        obtain ⟨q, hwr⟩ := hq.out
        have d1 : wr.cell? (a1.add k) = some (.string (f k)) := by rw [hwr]; exact c1
        have d2 : wr.cell? (a2.add k) = some (.string (h k)) := by rw [hwr]; exact c2
        clear c1 c2 hwr
        by_cases hfe : f k = h k
        · have hA2 : Hid (∀ i, i < k + 1 → f i = h i) := fun i hi => by
            by_cases e : i = k
            · rw [e]; exact hfe
            · exact hA.out i (by omega)
          rw [hfe] at d1
          have he : ((h k).toList == (h k).toList) = true := by simp
          clear hfe
          go_wp2
          go_quiet (fail)
          go_wp2
          go_roundw
          case rel => exact ⟨k + 1, by omega, by go_num, hA2, by obtain ⟨q, hw⟩ := hq.out; exact ⟨_, by rw [hw, World.drewN_drewN]⟩⟩
          case measure => simp [intOf]; omega
        · obtain rfl : E = false := hE.symm.trans (eqT_at hlt hfe)
          have he : ((f k).toList == (h k).toList) = false := by
            rw [beq_eq_false_iff_ne]; intro e; exact hfe (bytes_toList_inj e)
          go_wp2
          go_quiet (fail)
          go_wp2
          try rw [Exit.noGoto_ret]
          go_ret
          obtain ⟨q, rfl⟩ := hq.out
          exact ⟨rfl, bel_drewN (bel_drewN (Below.refl _ _) _) _⟩
      · obtain ⟨q, rfl⟩ := hq.out
        obtain rfl : E = true := hE.symm.trans (eqT_all (fun i hi => hA.out i (by omega)))
        go_wp2
        go_ret
        exact ⟨rfl, bel_drewN (Below.refl _ _) _⟩
  · rw [eqT_ne hnm]
    have hee : (((n : Nat) : Int) != ((m : Nat) : Int)) = true := by rw [bne_iff_ne]; omega
    clear hx hy
    go_enter Tryd.func22, Tryd.ntmps22
    go_wp2
    try rw [Exit.noGoto_ret]
    go_ret
    exact ⟨rfl, Below.refl _ _⟩

set_option maxHeartbeats 1000000 in
theorem texts_any (x y : Option Addr) (n c m d : Nat) (f h : Nat → ByteArray) (w : World) (hx : SIs w x n f) (hy : SIs w y m h) (hn : n ≤ 1152921504606846976) (hm : m ≤ 1152921504606846976) :
    Calls Tryd.prog 7 #[.slice x n c, .slice y m d] w fun e w' => e = .returned (.bool (eqT f n h m)) ∧ Below w.heap.size w w' := by
  by_cases hnm : n = m
  · subst hnm
    have HX : Hid (SIs w x n f) := hx
    have HY : Hid (SIs w y n h) := hy
    clear hx hy
    have hee : (((n : Nat) : Int) != ((n : Nat) : Int)) = false := by simp
    generalize hE : eqT f n h n = E
    go_enter Tryd.func7, Tryd.ntmps7
    go_wp2
    go_loopw [13] (fun xi wr => ∃ k : Nat, k ≤ n ∧ xi = .int .i64 k ∧ Hid (∀ i, i < k → f i = h i) ∧ Hid (∃ q, wr = w.drewN q)) (fun i _ => n - (intOf i).toNat)
    case atStart => exact ⟨0, Nat.zero_le _, rfl, fun i hi => absurd hi (by omega), 0, rfl⟩
    case round =>
      obtain ⟨k, hk, rfl, hA, hq⟩ := hrel
      by_cases hlt : k < n
      · obtain ⟨a1, rfl, c1⟩ := HX.out k hlt
        obtain ⟨a2, rfl, c2⟩ := HY.out k hlt
        obtain ⟨q, hwr⟩ := hq.out
        have d1 : wr.cell? (a1.add k) = some (.string (f k)) := by rw [hwr]; exact c1
        have d2 : wr.cell? (a2.add k) = some (.string (h k)) := by rw [hwr]; exact c2
        clear c1 c2 hwr
        by_cases hfe : f k = h k
        · have hA2 : Hid (∀ i, i < k + 1 → f i = h i) := fun i hi => by
            by_cases e : i = k
            · rw [e]; exact hfe
            · exact hA.out i (by omega)
          rw [hfe] at d1
          have he : ((h k).toList == (h k).toList) = true := by simp
          clear hfe
          go_wp2
          go_quiet (fail)
          go_wp2
          go_roundw
          case rel => exact ⟨k + 1, by omega, by go_num, hA2, by obtain ⟨q, hw⟩ := hq.out; exact ⟨_, by rw [hw, World.drewN_drewN]⟩⟩
          case measure => simp [intOf]; omega
        · obtain rfl : E = false := hE.symm.trans (eqT_at hlt hfe)
          have he : ((f k).toList == (h k).toList) = false := by
            rw [beq_eq_false_iff_ne]; intro e; exact hfe (bytes_toList_inj e)
          go_wp2
          go_quiet (fail)
          go_wp2
          try rw [Exit.noGoto_ret]
          go_ret
          obtain ⟨q, rfl⟩ := hq.out
          exact ⟨rfl, bel_drewN (bel_drewN (Below.refl _ _) _) _⟩
      · obtain ⟨q, rfl⟩ := hq.out
        obtain rfl : E = true := hE.symm.trans (eqT_all (fun i hi => hA.out i (by omega)))
        go_wp2
        go_ret
        exact ⟨rfl, bel_drewN (Below.refl _ _) _⟩
  · rw [eqT_ne hnm]
    have hee : (((n : Nat) : Int) != ((m : Nat) : Int)) = true := by rw [bne_iff_ne]; omega
    clear hx hy
    go_enter Tryd.func7, Tryd.ntmps7
    go_wp2
    try rw [Exit.noGoto_ret]
    go_ret
    exact ⟨rfl, Below.refl _ _⟩

end Go.Proofs.YtgnlkggodchlbabDoor
/- The laws' awake; walked. -/
namespace Go.Proofs.YtgnlkggodchlbabDoor
open Go.RowKit Go.Shelf

theorem inf_first : (#[.string fsP, .int .u8 0, .int .u8 0, .int .u8 0, .int .u8 0, .int .u8 0, .int .u8 0, .int .u8 0, .int .u8 0, .int .u8 0, .int .u8 0, .int .u8 0, .int .u8 0, .int .u8 0, .int .u8 0, .int .u8 0, .int .u8 0, .int .u8 0, .int .u8 0, .int .u8 0, .int .u8 0, .int .u8 0, .int .u8 0, .int .u8 0, .int .u8 0, .int .u8 0, .int .u8 0, .int .u8 0, .int .u8 0, .int .u8 0, .int .u8 0, .int .u8 0, .int .u8 0, .int .i64 96, .slice none 0 0, .string ⟨#[]⟩, .slice none 0 0] : Array Value) = infC fsP (fun _ => 0) 96 (.slice none 0 0) ⟨#[]⟩ (.slice none 0 0) := by rfl
theorem fs_ck : ckC fsP 96 (fun _ => emp) 0 ⟨#[]⟩ (fun _ => emp) 0 = 0 := by decide +kernel
theorem fs_pr : prT fsP (fun _ => 0) 96 (fun _ => emp) 0 ⟨#[]⟩ (fun _ => emp) 0 = lnT := by decide +kernel

set_option maxRecDepth 100000 in
set_option maxHeartbeats 4000000 in
theorem iaw_any (w : World) (hT : PT w) : Calls Tryd.prog 5 #[] w fun e w' => e = .returned (.bool true) ∧ Below w.heap.size w w' := by
  have CP := print_any fsP (fun _ => 0) 96 ⟨#[]⟩ none 0 0 (fun _ => emp) none 0 0 (fun _ => emp) w (fun i hi => absurd hi (by omega)) (fun i hi => absurd hi (by omega)) (Nat.le_refl _) (by omega) (fun i hi => absurd hi (by omega)) hT
  rw [fs_ck, prS_z rfl, fs_pr] at CP
  have e1 : (lnT.toList == lnT.toList) = true := by simp
  have e2 : (fsP.toList == fsP.toList) = true := by simp
  clear hT
  go_enter Tryd.func5, Tryd.ntmps5
  rw [show (⟨((List.append ([80, 97, 116, 104, 58, 32, 47, 100, 101, 112, 111, 116, 47, 115, 116, 111, 114, 101, 47, 48, 49, 50, 51, 52, 53, 54, 55, 56, 57, 97, 98, 99, 100] : List UInt8) [102, 103, 104, 105, 106, 107, 108, 109, 110, 112, 113, 114, 115, 118, 119, 120, 121, 122, 45, 97, 10, 72, 97, 115, 104, 58, 32, 115, 104, 97, 50, 53, 54, 58]).append (List.append ([48, 48, 48, 48, 48, 48, 48, 48, 48, 48, 48, 48, 48, 48, 48, 48, 48, 48, 48, 48, 48, 48, 48, 48, 48, 48, 48, 48, 48, 48, 48, 48, 48, 48] : List UInt8) [48, 48, 48, 48, 48, 48, 48, 48, 48, 48, 48, 48, 48, 48, 48, 48, 48, 48, 10, 83, 105, 122, 101, 58, 32, 57, 54, 10, 82, 101, 102, 115, 58, 10])).toArray⟩ : ByteArray) = lnT from rfl, show (⟨#[47, 100, 101, 112, 111, 116, 47, 115, 116, 111, 114, 101, 47, 48, 49, 50, 51, 52, 53, 54, 55, 56, 57, 97, 98, 99, 100, 102, 103, 104, 105, 106, 107, 108, 109, 110, 112, 113, 114, 115, 118, 119, 120, 121, 122, 45, 97]⟩ : ByteArray) = fsP from rfl]
  go_wp2_with fail
  rw [inf_first]
  refine CP.mono ?_
  rintro e w1 ⟨rfl, b1⟩
  clear CP
  go_wp2_with fail
  refine (parse_ln w1).mono ?_
  rintro e w2 ⟨rfl, b2⟩
  have B2 : Hid (Below w.heap.size w w2) := b1.trans (b2.mono b1.size)
  clear b1 b2
  generalize rhD ln1 = E
  have J0 : Inf ((w2.alloc (.cells (infC ⟨#[]⟩ (fun _ => 0) 0 (.slice none 0 0) ⟨#[]⟩ (.slice none 0 0)) 26)).alloc (.cells #[.int .i64 0, .int .i64 0] 35)) w2.heap.size ⟨#[]⟩ (fun _ => 0) 0 (.slice none 0 0) ⟨#[]⟩ (.slice none 0 0) := (Inf.box w2 26 _ _ _ _ _ _).same (Below.heap_alloc _ _ _ (by rw [World.size_alloc]; omega))
  have F0 : Hid (Row .i64 ((w2.alloc (.cells (infC ⟨#[]⟩ (fun _ => 0) 0 (.slice none 0 0) ⟨#[]⟩ (.slice none 0 0)) 26)).alloc (.cells #[.int .i64 0, .int .i64 0] 35)) (w2.heap.size + 1) 2 (fun _ => 0)) := by
    have := Row.arr (k := .i64) (w := w2.alloc (.cells (infC ⟨#[]⟩ (fun _ => 0) 0 (.slice none 0 0) ⟨#[]⟩ (.slice none 0 0)) 26)) (e := 35) (C := #[.int .i64 0, .int .i64 0]) (n := 2) (f := fun _ => 0) (fun j hj => by rcases (show j = 0 ∨ j = 1 from by omega) with rfl | rfl <;> rfl)
    rw [World.size_alloc] at this
    exact this
  have B3 : Hid (Below w.heap.size w ((w2.alloc (.cells (infC ⟨#[]⟩ (fun _ => 0) 0 (.slice none 0 0) ⟨#[]⟩ (.slice none 0 0)) 26)).alloc (.cells #[.int .i64 0, .int .i64 0] 35))) := (B2.out.alloc B2.out.size _).alloc (by rw [World.size_alloc]; have := B2.out.size; omega) _
  go_wp2_with (refine wpList_store_inf (by rfl) (.tmp 3) (.tmp 12) (by rfl) (by rfl) (by rfl) J0 rfl rfl (by rfl) ?_; intro W5 R5 U5; refine Hid.out ?_)
  unfold Hid
  have F5 : Row .i64 W5 (w2.heap.size + 1) 2 (fun _ => 0) := F0.out.upd U5 (by rw [World.size_alloc, World.size_alloc]; omega) (by omega)
  have B5 : Hid (Below w.heap.size w W5) := U5.below B3.out B2.out.size (by rw [World.size_alloc, World.size_alloc]; have := B2.out.size; omega)
  have hw : Hid (w.heap.size ≤ w2.heap.size) := B2.out.size
  have p0 : W5.cell? ⟨w2.heap.size, 0, none⟩ = some (.string fsP) := by have := R5 0 _ rfl; simpa using this
  have p33 : W5.cell? ⟨w2.heap.size, 33, none⟩ = some (.int .i64 96) := by have := R5 33 _ (infL_tail _ _ _ _ _ _ 0); simpa using this
  have d0 := F5.cell 0 (by omega)
  have d1 := F5.cell 1 (by omega)
  have g0 := F5.free 0 (by omega)
  have g1 := F5.free 1 (by omega)
  clear J0 F0 B3 R5 U5 F5 B2
  generalize w2.heap.size = G at p0 p33 d0 d1 g0 g1 hw ⊢
  have n1 : G ≠ G + 1 := by omega
  have n2 : G + 1 ≠ G := by omega
  go_wp2
  go_ret
  exact ⟨rfl, (B5.out.setCell (by show _ ≤ G + 1; have := hw.out; omega) _).setCell (by show _ ≤ G + 1; have := hw.out; omega) _⟩

end Go.Proofs.YtgnlkggodchlbabDoor
/- Comparing two arrays of numbers. -/
namespace Go.Proofs.YtgnlkggodchlbabDoor
open Go.RowKit
theorem run_part_cs {P : Program} (w : World) (e : TypeId) (k k' : IntKind) (n : Nat) (f : Nat → Int) (he : P.underlying e = some (.int k')) (j : Nat) (hj : j < n) : (part e (cs k n f) j).run P w = .ok (.int k (f j)) w := by
  simp [part, isAgg, run_underlying he, cs_get k n f j hj]

theorem eqItems_cs {P : Program} (w : World) (d : Nat) (e : TypeId) (k k' : IntKind) (n : Nat) (f g : Nat → Int) (he : P.underlying e = some (.int k')) :
    ∀ (L : List Nat), (∀ i ∈ L, i < n) → (Op.eqItems (d + 1) e 1 (cs k n f) (cs k n g) L).run P w = .ok (L.all fun i => f i == g i) w
  | [], _ => by simp [Op.eqItems]
  | i :: L, h => by
    have hi := h i (by simp)
    have ih := eqItems_cs w d e k k' n f g he L (fun j hj => h j (by simp [hj]))
    rw [Op.eqItems]
    simp only [Nat.mul_one, Sem.run_bind, run_part_cs w e k k' n f he i hi, run_part_cs w e k k' n g he i hi, Result.andThen_ok, run_equalIn_int w d e k k' (f i) (g i) he]
    by_cases hfg : f i = g i
    · simp [hfg, ih]
    · simp [hfg]

theorem run_equalIn_cs {P : Program} (w : World) (d : Nat) (t e : TypeId) (k k' : IntKind) (n : Nat) (f g : Nat → Int) {i : TypeInfo} (hu : P.underlying t = some (.array n e)) (hi : P.info? e = some i) (hc : P.cellsOf e = 1) (he : P.underlying e = some (.int k')) :
    (Op.equalIn (d + 1 + 1) t (.agg (cs k n f)) (.agg (cs k n g))).run P w = .ok ((List.range n).all fun i => f i == g i) w := by
  rw [run_equalIn_array w (d + 1) _ _ hu hi, hc]
  exact eqItems_cs w d e k k' n f g he _ (fun i hi => List.mem_range.1 hi)

theorem run_equalIn_same {P : Program} (w : World) (d : Nat) (t e : TypeId) (k k' : IntKind) (n : Nat) (f : Nat → Int) (hu : P.underlying t = some (.array n e)) (hi : (P.info? e).isSome = true) (hc : P.cellsOf e = 1) (he : P.underlying e = some (.int k')) :
    (Op.equalIn (d + 1 + 1) t (.agg (cs k n f)) (.agg (cs k n f))).run P w = .ok true w := by
  obtain ⟨i, hi'⟩ := Option.isSome_iff_exists.1 hi
  rw [run_equalIn_cs w d t e k k' n f f hu hi' hc he]
  simp
#print axioms run_equalIn_same
end Go.Proofs.YtgnlkggodchlbabDoor
/- The law InfoChecks walked. -/
namespace Go.Proofs.YtgnlkggodchlbabDoor
open Go.RowKit Go.Shelf

/-- What the law's last region keeps. -/
structure CkW (w : World) (P : ByteArray) (D : Nat → Int) (z : Int) (F : ByteArray) (vr vs : Value) (g a b : Nat) (E : Nat → Int) (W : World) : Prop where
  inf : Inf W g P D z vr F vs
  d1 : Row .u8 W a 32 E
  d2 : Row .u8 W b 32 E
  bel : Below w.heap.size w W
theorem CkW.next {w : World} {P : ByteArray} {D : Nat → Int} {z : Int} {F : ByteArray} {vr vs : Value} {g a b : Nat} {E : Nat → Int} {W W' : World} (h : CkW w P D z F vr vs g a b E W) (c : Below W.heap.size W W') : CkW w P D z F vr vs g a b E W' :=
  ⟨h.inf.below c h.inf.lt, h.d1.below c (World.block_lt_of_cell? _ _ (h.d1.cell 0 (by omega))), h.d2.below c (World.block_lt_of_cell? _ _ (h.d2.cell 0 (by omega))), h.bel.trans (c.mono h.bel.size)⟩
theorem yieldsIf_inf {ops : Array Oper} {S : World → Prop} {op : Oper} {a : Act} {g : Nat} {P : ByteArray} {D : Nat → Int} {z : Int} {vr : Value} {F : ByteArray} {vs : Value} (hw : Region.wanted op (yielded ops a.tmps) = true) (x : Operand) (ho : op.op = .load 26 x)
    (hx : a.eval x = .pointer (some ⟨g, 0, none⟩)) (hS : ∀ w, S w → Inf w g P D z vr F vs) : YieldsIf Tryd.prog ops S op (.agg (infC P D z vr F vs)) a :=
  yieldsIf_load_mid hw 26 x ho g 0 hx (infL P D z vr F vs) _ (fun w hs => (hS w hs).range) Tryd.underlying26 rfl (by rw [szINF]; exact congrArg some (infL_len P D z vr F vs).symm)

end Go.Proofs.YtgnlkggodchlbabDoor
/- info.Same; walked. -/
namespace Go.Proofs.YtgnlkggodchlbabDoor
open Go.RowKit Go.Shelf

theorem wpList_load_midG {ops : Array Oper} {rest : List Oper} {op : Oper} {a : Act} {w : World} {Q : Exit → Act → World → Prop} (hw : Region.wanted op (yielded ops a.tmps) = true) (ty : TypeId) (x : Operand) (ho : op.op = .load ty x)
    (b o : Nat) (hx : a.eval x = .pointer (some ⟨b, o, none⟩)) (cs : List Value) (d : TypeDesc) (hc : w.rangeAt b o cs)
    (hu : Tryd.prog.underlying ty = some d) (hd : d.isRow = true) (hi : (Tryd.prog.info? ty).map (·.size) = some cs.length)
    (h : wpList Tryd.prog ops Q rest (a.put op.dst (.agg cs.toArray)) w) : wpList Tryd.prog ops Q (op :: rest) a w :=
  BigFrame.wpList_want hw fun _ hK => wp_load_mid ty x ho b o hx cs d hc hu hd hi (hK _ _ h)
/-- Two infos are the same. -/
def smB (P : ByteArray) (D : Nat → Int) (z : Int) (fr : Nat → ByteArray) (nr : Nat) (F : ByteArray) (fs : Nat → ByteArray) (ns : Nat) (P' : ByteArray) (D' : Nat → Int) (z' : Int) (fr' : Nat → ByteArray) (nr' : Nat) (F' : ByteArray) (fs' : Nat → ByteArray) (ns' : Nat) : Bool :=
  (P.toList == P'.toList) && (((List.range 32).all fun i => D i == D' i) && ((z == z') && ((F.toList == F'.toList) && (eqT fr nr fr' nr' && eqT fs ns fs' ns'))))

set_option maxRecDepth 100000 in
set_option maxHeartbeats 4000000 in
theorem same_any (P : ByteArray) (D : Nat → Int) (z : Int) (F : ByteArray) (xr : Option Addr) (nr cr : Nat) (fr : Nat → ByteArray) (xs : Option Addr) (ns cz : Nat) (fs : Nat → ByteArray) (P' : ByteArray) (D' : Nat → Int) (z' : Int) (F' : ByteArray) (xr' : Option Addr) (nr' cr' : Nat) (fr' : Nat → ByteArray) (xs' : Option Addr) (ns' cz' : Nat) (fs' : Nat → ByteArray) (w : World)
    (hr : SIs w xr nr fr) (hs : SIs w xs ns fs) (hr' : SIs w xr' nr' fr') (hs' : SIs w xs' ns' fs') (h1 : nr ≤ 1152921504606846976) (h2 : ns ≤ 1152921504606846976) (h3 : nr' ≤ 1152921504606846976) (h4 : ns' ≤ 1152921504606846976) :
    Calls Tryd.prog 10 #[.agg (infC P D z (.slice xr nr cr) F (.slice xs ns cz)), .agg (infC P' D' z' (.slice xr' nr' cr') F' (.slice xs' ns' cz'))] w fun e w' => e = .returned (.bool (smB P D z fr nr F fs ns P' D' z' fr' nr' F' fs' ns')) ∧ Below w.heap.size w w' := by
  have I0 : Hid (Inf ((w.alloc (.cells (infC P D z (.slice xr nr cr) F (.slice xs ns cz)) 26)).alloc (.cells (infC P' D' z' (.slice xr' nr' cr') F' (.slice xs' ns' cz')) 26)) w.heap.size P D z (.slice xr nr cr) F (.slice xs ns cz)) := (Inf.box _ _ _ _ _ _ _ _).same (Below.heap_alloc _ _ _ (by rw [World.size_alloc]; omega))
  have J0 : Hid (Inf ((w.alloc (.cells (infC P D z (.slice xr nr cr) F (.slice xs ns cz)) 26)).alloc (.cells (infC P' D' z' (.slice xr' nr' cr') F' (.slice xs' ns' cz')) 26)) (w.heap.size + 1) P' D' z' (.slice xr' nr' cr') F' (.slice xs' ns' cz')) := by
    have := Inf.box (w.alloc (.cells (infC P D z (.slice xr nr cr) F (.slice xs ns cz)) 26)) 26 P' D' z' (.slice xr' nr' cr') F' (.slice xs' ns' cz')
    rw [World.size_alloc] at this
    exact this
  have B0 : Hid (Below w.heap.size w ((w.alloc (.cells (infC P D z (.slice xr nr cr) F (.slice xs ns cz)) 26)).alloc (.cells (infC P' D' z' (.slice xr' nr' cr') F' (.slice xs' ns' cz')) 26))) := ((Below.refl _ _).alloc (Nat.le_refl _) _).alloc (by rw [World.size_alloc]; omega) _
  have C1 := fun W (b : Below w.heap.size w W) => slEq_any xr xr' nr cr nr' cr' fr fr' W (hr.below b (Nat.le_refl _)) (hr'.below b (Nat.le_refl _)) h1 h3
  have C2 := fun W (b : Below w.heap.size w W) => slEq_any xs xs' ns cz ns' cz' fs fs' W (hs.below b (Nat.le_refl _)) (hs'.below b (Nat.le_refl _)) h2 h4
  have heq : ∀ w, (Op.equalIn 10000 23 (.agg (cs .u8 32 D)) (.agg (cs .u8 32 D'))).run Tryd.prog w = .ok ((List.range 32).all fun i => D i == D' i) w := fun w => by
    obtain ⟨i, hi⟩ := Option.isSome_iff_exists.1 (show (Tryd.prog.info? 5).isSome = true by kernel_rfl)
    exact run_equalIn_cs w 9998 23 5 .u8 .u8 32 D D' undDIG hi (by kernel_rfl) (by kernel_rfl)
  clear hr hs hr' hs' h1 h2 h3 h4
  unfold smB
  generalize e5 : eqT fr nr fr' nr' = b5 at C1 ⊢
  generalize e6 : eqT fs ns fs' ns' = b6 at C2 ⊢
  generalize (List.range 32).all (fun i => D i == D' i) = b2 at heq ⊢
  cases e1 : (P.toList == P'.toList)
  rotate_left
  · cases b2
    rotate_left
    · cases e3 : (z == z')
      rotate_left
      · cases e4 : (F.toList == F'.toList)
        rotate_left
        · cases b5
          rotate_left
          · clear e5 e6
            go_enter Tryd.func10, Tryd.ntmps10
            iterate 12 go_step
            generalize (w.alloc (.cells (infC P D z (.slice xr nr cr) F (.slice xs ns cz)) 26)).alloc (.cells (infC P' D' z' (.slice xr' nr' cr') F' (.slice xs' ns' cz')) 26) = w0 at I0 J0 B0 ⊢
            have p1 := I0.out.path
            have p2 := I0.out.size
            have p3 := I0.out.refs
            have p4 := I0.out.from_
            have p5 := I0.out.signs
            have q1 := J0.out.path
            have q2 := J0.out.size
            have q3 := J0.out.refs
            have q4 := J0.out.from_
            have q5 := J0.out.signs
            have R1 := I0.out.digRange
            have R2 := J0.out.digRange
            go_wp2_with (first
              | (refine wpList_load_midG (by rfl) 23 (.tmp 11) (by rfl) w.heap.size 1 (by rfl) (cs .u8 32 D).toList (.array 32 5) R1 undDIG rfl (by rw [szD32, Array.length_toList, cs_size]) ?_)
              | (refine wpList_load_midG (by rfl) 23 (.tmp 13) (by rfl) (w.heap.size + 1) 1 (by rfl) (cs .u8 32 D').toList (.array 32 5) R2 undDIG rfl (by rw [szD32, Array.length_toList, cs_size]) ?_))
            refine (C1 _ B0.out).mono ?_
            rintro e w1 ⟨rfl, b1⟩
            have c34' := (I0.out.below b1 I0.out.lt).refs
            have c36a := (I0.out.below b1 I0.out.lt).signs
            have c36b := (J0.out.below b1 J0.out.lt).signs
            have B1 : Hid (Below w.heap.size w w1) := B0.out.trans (b1.mono B0.out.size)
            clear b1 C1
            go_wp2_with fail
            refine (C2 _ B1.out).mono ?_
            rintro e w2 ⟨rfl, b2⟩
            have B2 : Hid (Below w.heap.size w w2) := B1.out.trans (b2.mono B1.out.size)
            clear b2 C2
            go_wp2
            go_ret
            exact ⟨rfl, B2.out⟩
          · clear e5 e6
            go_enter Tryd.func10, Tryd.ntmps10
            iterate 12 go_step
            generalize (w.alloc (.cells (infC P D z (.slice xr nr cr) F (.slice xs ns cz)) 26)).alloc (.cells (infC P' D' z' (.slice xr' nr' cr') F' (.slice xs' ns' cz')) 26) = w0 at I0 J0 B0 ⊢
            have p1 := I0.out.path
            have p2 := I0.out.size
            have p3 := I0.out.refs
            have p4 := I0.out.from_
            have p5 := I0.out.signs
            have q1 := J0.out.path
            have q2 := J0.out.size
            have q3 := J0.out.refs
            have q4 := J0.out.from_
            have q5 := J0.out.signs
            have R1 := I0.out.digRange
            have R2 := J0.out.digRange
            go_wp2_with (first
              | (refine wpList_load_midG (by rfl) 23 (.tmp 11) (by rfl) w.heap.size 1 (by rfl) (cs .u8 32 D).toList (.array 32 5) R1 undDIG rfl (by rw [szD32, Array.length_toList, cs_size]) ?_)
              | (refine wpList_load_midG (by rfl) 23 (.tmp 13) (by rfl) (w.heap.size + 1) 1 (by rfl) (cs .u8 32 D').toList (.array 32 5) R2 undDIG rfl (by rw [szD32, Array.length_toList, cs_size]) ?_))
            refine (C1 _ B0.out).mono ?_
            rintro e w1 ⟨rfl, b1⟩
            have c34' := (I0.out.below b1 I0.out.lt).refs
            have c36a := (I0.out.below b1 I0.out.lt).signs
            have c36b := (J0.out.below b1 J0.out.lt).signs
            have B1 : Hid (Below w.heap.size w w1) := B0.out.trans (b1.mono B0.out.size)
            clear b1 C1
            go_wp2_with fail
            go_ret
            exact ⟨rfl, B1.out⟩
        · clear e5 e6
          go_enter Tryd.func10, Tryd.ntmps10
          iterate 12 go_step
          generalize (w.alloc (.cells (infC P D z (.slice xr nr cr) F (.slice xs ns cz)) 26)).alloc (.cells (infC P' D' z' (.slice xr' nr' cr') F' (.slice xs' ns' cz')) 26) = w0 at I0 J0 B0 ⊢
          have p1 := I0.out.path
          have p2 := I0.out.size
          have p3 := I0.out.refs
          have p4 := I0.out.from_
          have p5 := I0.out.signs
          have q1 := J0.out.path
          have q2 := J0.out.size
          have q3 := J0.out.refs
          have q4 := J0.out.from_
          have q5 := J0.out.signs
          have R1 := I0.out.digRange
          have R2 := J0.out.digRange
          go_wp2_with (first
            | (refine wpList_load_midG (by rfl) 23 (.tmp 11) (by rfl) w.heap.size 1 (by rfl) (cs .u8 32 D).toList (.array 32 5) R1 undDIG rfl (by rw [szD32, Array.length_toList, cs_size]) ?_)
            | (refine wpList_load_midG (by rfl) 23 (.tmp 13) (by rfl) (w.heap.size + 1) 1 (by rfl) (cs .u8 32 D').toList (.array 32 5) R2 undDIG rfl (by rw [szD32, Array.length_toList, cs_size]) ?_))
          go_ret
          exact ⟨rfl, B0.out⟩
      · clear e5 e6
        go_enter Tryd.func10, Tryd.ntmps10
        iterate 12 go_step
        generalize (w.alloc (.cells (infC P D z (.slice xr nr cr) F (.slice xs ns cz)) 26)).alloc (.cells (infC P' D' z' (.slice xr' nr' cr') F' (.slice xs' ns' cz')) 26) = w0 at I0 J0 B0 ⊢
        have p1 := I0.out.path
        have p2 := I0.out.size
        have p3 := I0.out.refs
        have p4 := I0.out.from_
        have p5 := I0.out.signs
        have q1 := J0.out.path
        have q2 := J0.out.size
        have q3 := J0.out.refs
        have q4 := J0.out.from_
        have q5 := J0.out.signs
        have R1 := I0.out.digRange
        have R2 := J0.out.digRange
        go_wp2_with (first
          | (refine wpList_load_midG (by rfl) 23 (.tmp 11) (by rfl) w.heap.size 1 (by rfl) (cs .u8 32 D).toList (.array 32 5) R1 undDIG rfl (by rw [szD32, Array.length_toList, cs_size]) ?_)
          | (refine wpList_load_midG (by rfl) 23 (.tmp 13) (by rfl) (w.heap.size + 1) 1 (by rfl) (cs .u8 32 D').toList (.array 32 5) R2 undDIG rfl (by rw [szD32, Array.length_toList, cs_size]) ?_))
        go_ret
        exact ⟨rfl, B0.out⟩
    · clear e5 e6
      go_enter Tryd.func10, Tryd.ntmps10
      iterate 12 go_step
      generalize (w.alloc (.cells (infC P D z (.slice xr nr cr) F (.slice xs ns cz)) 26)).alloc (.cells (infC P' D' z' (.slice xr' nr' cr') F' (.slice xs' ns' cz')) 26) = w0 at I0 J0 B0 ⊢
      have p1 := I0.out.path
      have p2 := I0.out.size
      have p3 := I0.out.refs
      have p4 := I0.out.from_
      have p5 := I0.out.signs
      have q1 := J0.out.path
      have q2 := J0.out.size
      have q3 := J0.out.refs
      have q4 := J0.out.from_
      have q5 := J0.out.signs
      have R1 := I0.out.digRange
      have R2 := J0.out.digRange
      go_wp2_with (first
        | (refine wpList_load_midG (by rfl) 23 (.tmp 11) (by rfl) w.heap.size 1 (by rfl) (cs .u8 32 D).toList (.array 32 5) R1 undDIG rfl (by rw [szD32, Array.length_toList, cs_size]) ?_)
        | (refine wpList_load_midG (by rfl) 23 (.tmp 13) (by rfl) (w.heap.size + 1) 1 (by rfl) (cs .u8 32 D').toList (.array 32 5) R2 undDIG rfl (by rw [szD32, Array.length_toList, cs_size]) ?_))
      go_ret
      exact ⟨rfl, B0.out⟩
  · clear e5 e6
    go_enter Tryd.func10, Tryd.ntmps10
    iterate 12 go_step
    generalize (w.alloc (.cells (infC P D z (.slice xr nr cr) F (.slice xs ns cz)) 26)).alloc (.cells (infC P' D' z' (.slice xr' nr' cr') F' (.slice xs' ns' cz')) 26) = w0 at I0 J0 B0 ⊢
    have p1 := I0.out.path
    have p2 := I0.out.size
    have p3 := I0.out.refs
    have p4 := I0.out.from_
    have p5 := I0.out.signs
    have q1 := J0.out.path
    have q2 := J0.out.size
    have q3 := J0.out.refs
    have q4 := J0.out.from_
    have q5 := J0.out.signs
    have R1 := I0.out.digRange
    have R2 := J0.out.digRange
    go_wp2_with fail
    go_ret
    exact ⟨rfl, B0.out⟩
end Go.Proofs.YtgnlkggodchlbabDoor
/- The law InfoOne walked. -/
namespace Go.Proofs.YtgnlkggodchlbabDoor
open Go.RowKit Go.Shelf

theorem pz_len (k : Nat) : ∀ (t : ByteArray) (n : Nat) (s : IS), t.size < k → (pz k t n s).1.S.length ≤ s.S.length + t.size := by
  induction k with
  | zero => intro t n s h; omega
  | succ k ih =>
    intro t n s hk
    by_cases hd : 4 ≤ n ∧ t.size = 0
    · rw [pz_done hd]; exact Nat.le_add_right _ _
    · cases hf : ctF t 10
      · rw [pz_open hd hf]; exact Nat.zero_le _
      · have hsz := ctB_lt hf
        by_cases hq : tkC s n (ctA t 10) = 0
        · rw [pz_next hd hf hq]
          have := ih (ctB t 10) (n + 1) (tkS s n (ctA t 10)) (by omega)
          have := tkS_len s n (ctA t 10)
          omega
        · rw [pz_bad hd hf hq]; exact Nat.zero_le _
theorem pz_err (k : Nat) : ∀ (t : ByteArray) (n : Nat) (s : IS), (pz k t n s).2.1 ≠ 0 → (pz k t n s).1 = IS.zero := by
  induction k with
  | zero => intro t n s h; exact absurd rfl h
  | succ k ih =>
    intro t n s h
    by_cases hd : 4 ≤ n ∧ t.size = 0
    · rw [pz_done hd] at h; exact absurd rfl h
    · cases hf : ctF t 10
      · rw [pz_open hd hf]
      · by_cases hq : tkC s n (ctA t 10) = 0
        · rw [pz_next hd hf hq] at h ⊢; exact ih _ _ _ h
        · rw [pz_bad hd hf hq]
theorem orC_0 {a b : Int} (h : orC a b = 0) : a = 0 ∧ b = 0 := by
  by_cases ha : a = 0
  · rw [orC_z ha] at h; exact ⟨ha, h⟩
  · rw [orC_n ha] at h; exact absurd h ha
theorem signs_small {P : ByteArray} {z : Int} {fr : Nat → ByteArray} {nr : Nat} {F : ByteArray} {fs : Nat → ByteArray} {ns : Nat} (h : ckC P z fr nr F fs ns = 0) (i : Nat) (hi : i < ns) : (fs i).size ≤ 85 := by
  have h2 := (orC_0 h).2
  unfold ssC at h2
  split at h2
  · rename_i g
    have h3 := (g i hi).1
    unfold snC at h3
    split at h3
    · rename_i g3; exact snOk_max g3
    · cases h3
  · cases h2
theorem sm_zero (fr fs fr' fs' : Nat → ByteArray) : smB ⟨#[]⟩ (fun _ => 0) 0 fr 0 ⟨#[]⟩ fs 0 ⟨#[]⟩ (fun _ => 0) 0 fr' 0 ⟨#[]⟩ fs' 0 = true := by
  unfold smB
  rw [eqT_all (fun i hi => absurd hi (by omega)), eqT_all (fun i hi => absurd hi (by omega))]
  decide +kernel
theorem wpList_load_infG {ops : Array Oper} {rest : List Oper} {o : Oper} {a : Act} {w : World} {Q : Exit → Act → World → Prop} {g : Nat} {P : ByteArray} {D : Nat → Int} {z : Int} {vr : Value} {F : ByteArray} {vs : Value} (hgd : Region.wanted o (yielded ops a.tmps) = true) (x : Operand) (ho : o.op = .load 26 x)
    (hx : a.eval x = .pointer (some ⟨g, 0, none⟩)) (h : Inf w g P D z vr F vs) (hK : wpList Tryd.prog ops Q rest (a.put o.dst (.agg (infC P D z vr F vs))) w) : wpList Tryd.prog ops Q (o :: rest) a w :=
  wpList_load_midG hgd 26 x ho g 0 hx (infL P D z vr F vs) _ h.range Tryd.underlying26 rfl (by rw [szINF]; exact congrArg some (infC_size P D z vr F vs).symm) hK

theorem wpList_load_rg {ops : Array Oper} {rest : List Oper} {o : Oper} {a : Act} {w : World} {Q : Exit → Act → World → Prop} {g : Nat} {P : ByteArray} {D : Nat → Int} {z : Int} {vr : Value} {F : ByteArray} {vs : Value} (hgd : Region.wanted o (yielded ops a.tmps) = true) (x : Operand) (ho : o.op = .load 26 x)
    (hx : a.eval x = .pointer (some ⟨g, 0, none⟩)) (h : w.rangeAt g 0 (infL P D z vr F vs)) (hK : wpList Tryd.prog ops Q rest (a.put o.dst (.agg (infC P D z vr F vs))) w) : wpList Tryd.prog ops Q (o :: rest) a w :=
  wpList_load_midG hgd 26 x ho g 0 hx (infL P D z vr F vs) _ h Tryd.underlying26 rfl (by rw [szINF]; exact congrArg some (infC_size P D z vr F vs).symm) hK
theorem range_same {w w' : World} {g : Nat} {L : List Value} (h : w.rangeAt g 0 L) (e : w'.heap[g]? = w.heap[g]?) : w'.rangeAt g 0 L := fun j u hj =>
  (World.cell?_of_block (w := w) (w' := w') (a := ⟨g, 0 + j, none⟩) e).trans (h j u hj)

end Go.Proofs.YtgnlkggodchlbabDoor
