/- Gathered: IoE InO ShaE InV IoF IqW Utf Tbs. -/
import Derived.Deep.QuietTactic
import Derived.BigQuiet
import Derived.ChangeKeysEq
import Derived.BigFrame
import Derived.Test.YtgnlkggodchlbaaDoorRows
import Derived.Test.YtgnlkggodchlbaaDoorQe
import Derived.Test.YtgnlkggodchlbaaDoorQk
import Derived.Test.YtgnlkggodchlbaaDoorQl
/- slices.Equal, the laws' texts; info.Same; walked. -/
namespace Go.Proofs.YtgnlkggodchlbaaDoor
open Go.RowKit Go.Shelf

/-- The same texts. -/
def eqT (f : Nat → ByteArray) (n : Nat) (h : Nat → ByteArray) (m : Nat) : Bool := decide (n = m ∧ ∀ i, i < n → f i = h i)
theorem eqT_ne {f h : Nat → ByteArray} {n m : Nat} (e : n ≠ m) : eqT f n h m = false := decide_eq_false (fun c => e c.1)
theorem eqT_at {f h : Nat → ByteArray} {n m k : Nat} (hk : k < n) (e : f k ≠ h k) : eqT f n h m = false := decide_eq_false (fun c => e (c.2 k hk))
theorem eqT_all {f h : Nat → ByteArray} {n : Nat} (e : ∀ i, i < n → f i = h i) : eqT f n h n = true := decide_eq_true ⟨rfl, e⟩

set_option maxHeartbeats 1000000 in
theorem slEq_any (x y : Option Addr) (n c m d : Nat) (f h : Nat → ByteArray) (w : World) (hx : SIs w x n f) (hy : SIs w y m h) (hn : n ≤ 1152921504606846976) (hm : m ≤ 1152921504606846976) :
    Calls Tryd.prog 33 #[.slice x n c, .slice y m d] w fun e w' => e = .returned (.bool (eqT f n h m)) ∧ Below w.heap.size w w' := by
  by_cases hnm : n = m
  · subst hnm
    have HX : Hid (SIs w x n f) := hx
    have HY : Hid (SIs w y n h) := hy
    clear hx hy
    have hee : (((n : Nat) : Int) != ((n : Nat) : Int)) = false := by simp
    generalize hE : eqT f n h n = E
    go_enter Tryd.func33, Tryd.ntmps33
    go_wp2
    go_loopw [13] (fun xi wr => ∃ k : Nat, k ≤ n ∧ xi = .int .i64 k ∧ Hid (∀ i, i < k → f i = h i) ∧ Hid (∃ q, wr = w.drewN q)) (fun i _ => n - (intOf i).toNat)
    case atStart => exact ⟨0, Nat.zero_le _, rfl, fun i hi => absurd hi (by omega), 0, rfl⟩
    case round =>
      obtain ⟨k, hk, rfl, hA, hq⟩ := hrel
      by_cases hlt : k < n
      · obtain ⟨a1, rfl, c1⟩ := HX.out k hlt
        obtain ⟨a2, rfl, c2⟩ := HY.out k hlt
        obtain ⟨q, hwr⟩ := hq.out
        have d1 : wr.cell? (a1.add k) = some (.string (f k)) := by rw [hwr]; exact c1
        have d2 : wr.cell? (a2.add k) = some (.string (h k)) := by rw [hwr]; exact c2
        clear c1 c2 hwr
        by_cases hfe : f k = h k
        · have hA2 : Hid (∀ i, i < k + 1 → f i = h i) := fun i hi => by
            by_cases e : i = k
            · rw [e]; exact hfe
            · exact hA.out i (by omega)
          rw [hfe] at d1
          have he : ((h k).toList == (h k).toList) = true := by simp
          clear hfe
          go_wp2
          go_quiet (fail)
          go_wp2
          go_roundw
          case rel => exact ⟨k + 1, by omega, by go_num, hA2, by obtain ⟨q, hw⟩ := hq.out; exact ⟨_, by rw [hw, World.drewN_drewN]⟩⟩
          case measure => simp [intOf]; omega
        · obtain rfl : E = false := hE.symm.trans (eqT_at hlt hfe)
          have he : ((f k).toList == (h k).toList) = false := by
            rw [beq_eq_false_iff_ne]; intro e; exact hfe (bytes_toList_inj e)
          go_wp2
          go_quiet (fail)
          go_wp2
          try rw [Exit.noGoto_ret]
          go_ret
          obtain ⟨q, rfl⟩ := hq.out
          exact ⟨rfl, bel_drewN (bel_drewN (Below.refl _ _) _) _⟩
      · obtain ⟨q, rfl⟩ := hq.out
        obtain rfl : E = true := hE.symm.trans (eqT_all (fun i hi => hA.out i (by omega)))
        go_wp2
        go_ret
        exact ⟨rfl, bel_drewN (Below.refl _ _) _⟩
  · rw [eqT_ne hnm]
    have hee : (((n : Nat) : Int) != ((m : Nat) : Int)) = true := by rw [bne_iff_ne]; omega
    clear hx hy
    go_enter Tryd.func33, Tryd.ntmps33
    go_wp2
    try rw [Exit.noGoto_ret]
    go_ret
    exact ⟨rfl, Below.refl _ _⟩

set_option maxHeartbeats 1000000 in
theorem texts_any (x y : Option Addr) (n c m d : Nat) (f h : Nat → ByteArray) (w : World) (hx : SIs w x n f) (hy : SIs w y m h) (hn : n ≤ 1152921504606846976) (hm : m ≤ 1152921504606846976) :
    Calls Tryd.prog 32 #[.slice x n c, .slice y m d] w fun e w' => e = .returned (.bool (eqT f n h m)) ∧ Below w.heap.size w w' := by
  by_cases hnm : n = m
  · subst hnm
    have HX : Hid (SIs w x n f) := hx
    have HY : Hid (SIs w y n h) := hy
    clear hx hy
    have hee : (((n : Nat) : Int) != ((n : Nat) : Int)) = false := by simp
    generalize hE : eqT f n h n = E
    go_enter Tryd.func32, Tryd.ntmps32
    go_wp2
    go_loopw [13] (fun xi wr => ∃ k : Nat, k ≤ n ∧ xi = .int .i64 k ∧ Hid (∀ i, i < k → f i = h i) ∧ Hid (∃ q, wr = w.drewN q)) (fun i _ => n - (intOf i).toNat)
    case atStart => exact ⟨0, Nat.zero_le _, rfl, fun i hi => absurd hi (by omega), 0, rfl⟩
    case round =>
      obtain ⟨k, hk, rfl, hA, hq⟩ := hrel
      by_cases hlt : k < n
      · obtain ⟨a1, rfl, c1⟩ := HX.out k hlt
        obtain ⟨a2, rfl, c2⟩ := HY.out k hlt
        obtain ⟨q, hwr⟩ := hq.out
        have d1 : wr.cell? (a1.add k) = some (.string (f k)) := by rw [hwr]; exact c1
        have d2 : wr.cell? (a2.add k) = some (.string (h k)) := by rw [hwr]; exact c2
        clear c1 c2 hwr
        by_cases hfe : f k = h k
        · have hA2 : Hid (∀ i, i < k + 1 → f i = h i) := fun i hi => by
            by_cases e : i = k
            · rw [e]; exact hfe
            · exact hA.out i (by omega)
          rw [hfe] at d1
          have he : ((h k).toList == (h k).toList) = true := by simp
          clear hfe
          go_wp2
          go_quiet (fail)
          go_wp2
          go_roundw
          case rel => exact ⟨k + 1, by omega, by go_num, hA2, by obtain ⟨q, hw⟩ := hq.out; exact ⟨_, by rw [hw, World.drewN_drewN]⟩⟩
          case measure => simp [intOf]; omega
        · obtain rfl : E = false := hE.symm.trans (eqT_at hlt hfe)
          have he : ((f k).toList == (h k).toList) = false := by
            rw [beq_eq_false_iff_ne]; intro e; exact hfe (bytes_toList_inj e)
          go_wp2
          go_quiet (fail)
          go_wp2
          try rw [Exit.noGoto_ret]
          go_ret
          obtain ⟨q, rfl⟩ := hq.out
          exact ⟨rfl, bel_drewN (bel_drewN (Below.refl _ _) _) _⟩
      · obtain ⟨q, rfl⟩ := hq.out
        obtain rfl : E = true := hE.symm.trans (eqT_all (fun i hi => hA.out i (by omega)))
        go_wp2
        go_ret
        exact ⟨rfl, bel_drewN (Below.refl _ _) _⟩
  · rw [eqT_ne hnm]
    have hee : (((n : Nat) : Int) != ((m : Nat) : Int)) = true := by rw [bne_iff_ne]; omega
    clear hx hy
    go_enter Tryd.func32, Tryd.ntmps32
    go_wp2
    try rw [Exit.noGoto_ret]
    go_ret
    exact ⟨rfl, Below.refl _ _⟩

end Go.Proofs.YtgnlkggodchlbaaDoor
/- The laws' awake; walked. -/
namespace Go.Proofs.YtgnlkggodchlbaaDoor
open Go.RowKit Go.Shelf

theorem inf_first : (#[.string fsP, .int .u8 0, .int .u8 0, .int .u8 0, .int .u8 0, .int .u8 0, .int .u8 0, .int .u8 0, .int .u8 0, .int .u8 0, .int .u8 0, .int .u8 0, .int .u8 0, .int .u8 0, .int .u8 0, .int .u8 0, .int .u8 0, .int .u8 0, .int .u8 0, .int .u8 0, .int .u8 0, .int .u8 0, .int .u8 0, .int .u8 0, .int .u8 0, .int .u8 0, .int .u8 0, .int .u8 0, .int .u8 0, .int .u8 0, .int .u8 0, .int .u8 0, .int .u8 0, .int .i64 96, .slice none 0 0, .string ⟨#[]⟩, .slice none 0 0] : Array Value) = infC fsP (fun _ => 0) 96 (.slice none 0 0) ⟨#[]⟩ (.slice none 0 0) := by rfl
theorem fs_ck : ckC fsP 96 (fun _ => emp) 0 ⟨#[]⟩ (fun _ => emp) 0 = 0 := by decide +kernel
theorem fs_pr : prT fsP (fun _ => 0) 96 (fun _ => emp) 0 ⟨#[]⟩ (fun _ => emp) 0 = lnT := by decide +kernel

set_option maxRecDepth 100000 in
set_option maxHeartbeats 4000000 in
theorem iaw_any (w : World) (hT : PT w) : Calls Tryd.prog 8 #[] w fun e w' => e = .returned (.bool true) ∧ Below w.heap.size w w' := by
  have CP := print_any fsP (fun _ => 0) 96 ⟨#[]⟩ none 0 0 (fun _ => emp) none 0 0 (fun _ => emp) w (fun i hi => absurd hi (by omega)) (fun i hi => absurd hi (by omega)) (Nat.le_refl _) (by omega) (fun i hi => absurd hi (by omega)) hT
  rw [fs_ck, prS_z rfl, fs_pr] at CP
  have e1 : (lnT.toList == lnT.toList) = true := by simp
  have e2 : (fsP.toList == fsP.toList) = true := by simp
  clear hT
  go_enter Tryd.func8, Tryd.ntmps8
  rw [show (⟨((List.append ([80, 97, 116, 104, 58, 32, 47, 100, 101, 112, 111, 116, 47, 115, 116, 111, 114, 101, 47, 48, 49, 50, 51, 52, 53, 54, 55, 56, 57, 97, 98, 99, 100] : List UInt8) [102, 103, 104, 105, 106, 107, 108, 109, 110, 112, 113, 114, 115, 118, 119, 120, 121, 122, 45, 97, 10, 72, 97, 115, 104, 58, 32, 115, 104, 97, 50, 53, 54, 58]).append (List.append ([48, 48, 48, 48, 48, 48, 48, 48, 48, 48, 48, 48, 48, 48, 48, 48, 48, 48, 48, 48, 48, 48, 48, 48, 48, 48, 48, 48, 48, 48, 48, 48, 48, 48] : List UInt8) [48, 48, 48, 48, 48, 48, 48, 48, 48, 48, 48, 48, 48, 48, 48, 48, 48, 48, 10, 83, 105, 122, 101, 58, 32, 57, 54, 10, 82, 101, 102, 115, 58, 10])).toArray⟩ : ByteArray) = lnT from rfl, show (⟨#[47, 100, 101, 112, 111, 116, 47, 115, 116, 111, 114, 101, 47, 48, 49, 50, 51, 52, 53, 54, 55, 56, 57, 97, 98, 99, 100, 102, 103, 104, 105, 106, 107, 108, 109, 110, 112, 113, 114, 115, 118, 119, 120, 121, 122, 45, 97]⟩ : ByteArray) = fsP from rfl]
  go_wp2_with fail
  rw [inf_first]
  refine CP.mono ?_
  rintro e w1 ⟨rfl, b1⟩
  clear CP
  go_wp2_with fail
  refine (parse_ln w1).mono ?_
  rintro e w2 ⟨rfl, b2⟩
  have B2 : Hid (Below w.heap.size w w2) := b1.trans (b2.mono b1.size)
  clear b1 b2
  generalize rhD ln1 = E
  have J0 : Inf ((w2.alloc (.cells (infC ⟨#[]⟩ (fun _ => 0) 0 (.slice none 0 0) ⟨#[]⟩ (.slice none 0 0)) 26)).alloc (.cells #[.int .i64 0, .int .i64 0] 42)) w2.heap.size ⟨#[]⟩ (fun _ => 0) 0 (.slice none 0 0) ⟨#[]⟩ (.slice none 0 0) := (Inf.box w2 26 _ _ _ _ _ _).same (Below.heap_alloc _ _ _ (by rw [World.size_alloc]; omega))
  have F0 : Hid (Row .i64 ((w2.alloc (.cells (infC ⟨#[]⟩ (fun _ => 0) 0 (.slice none 0 0) ⟨#[]⟩ (.slice none 0 0)) 26)).alloc (.cells #[.int .i64 0, .int .i64 0] 42)) (w2.heap.size + 1) 2 (fun _ => 0)) := by
    have := Row.arr (k := .i64) (w := w2.alloc (.cells (infC ⟨#[]⟩ (fun _ => 0) 0 (.slice none 0 0) ⟨#[]⟩ (.slice none 0 0)) 26)) (e := 42) (C := #[.int .i64 0, .int .i64 0]) (n := 2) (f := fun _ => 0) (fun j hj => by rcases (show j = 0 ∨ j = 1 from by omega) with rfl | rfl <;> rfl)
    rw [World.size_alloc] at this
    exact this
  have B3 : Hid (Below w.heap.size w ((w2.alloc (.cells (infC ⟨#[]⟩ (fun _ => 0) 0 (.slice none 0 0) ⟨#[]⟩ (.slice none 0 0)) 26)).alloc (.cells #[.int .i64 0, .int .i64 0] 42))) := (B2.out.alloc B2.out.size _).alloc (by rw [World.size_alloc]; have := B2.out.size; omega) _
  go_wp2_with (refine wpList_store_inf (by rfl) (.tmp 3) (.tmp 12) (by rfl) (by rfl) (by rfl) J0 rfl rfl (by rfl) ?_; intro W5 R5 U5; refine Hid.out ?_)
  unfold Hid
  have F5 : Row .i64 W5 (w2.heap.size + 1) 2 (fun _ => 0) := F0.out.upd U5 (by rw [World.size_alloc, World.size_alloc]; omega) (by omega)
  have B5 : Hid (Below w.heap.size w W5) := U5.below B3.out B2.out.size (by rw [World.size_alloc, World.size_alloc]; have := B2.out.size; omega)
  have hw : Hid (w.heap.size ≤ w2.heap.size) := B2.out.size
  have p0 : W5.cell? ⟨w2.heap.size, 0, none⟩ = some (.string fsP) := by have := R5 0 _ rfl; simpa using this
  have p33 : W5.cell? ⟨w2.heap.size, 33, none⟩ = some (.int .i64 96) := by have := R5 33 _ (infL_tail _ _ _ _ _ _ 0); simpa using this
  have d0 := F5.cell 0 (by omega)
  have d1 := F5.cell 1 (by omega)
  have g0 := F5.free 0 (by omega)
  have g1 := F5.free 1 (by omega)
  clear J0 F0 B3 R5 U5 F5 B2
  generalize w2.heap.size = G at p0 p33 d0 d1 g0 g1 hw ⊢
  have n1 : G ≠ G + 1 := by omega
  have n2 : G + 1 ≠ G := by omega
  go_wp2
  go_ret
  exact ⟨rfl, (B5.out.setCell (by show _ ≤ G + 1; have := hw.out; omega) _).setCell (by show _ ≤ G + 1; have := hw.out; omega) _⟩

end Go.Proofs.YtgnlkggodchlbaaDoor
/- Comparing two arrays of numbers. -/
namespace Go.Proofs.YtgnlkggodchlbaaDoor
open Go.RowKit
theorem run_part_cs {P : Program} (w : World) (e : TypeId) (k k' : IntKind) (n : Nat) (f : Nat → Int) (he : P.underlying e = some (.int k')) (j : Nat) (hj : j < n) : (part e (cs k n f) j).run P w = .ok (.int k (f j)) w := by
  simp [part, isAgg, run_underlying he, cs_get k n f j hj]

theorem eqItems_cs {P : Program} (w : World) (d : Nat) (e : TypeId) (k k' : IntKind) (n : Nat) (f g : Nat → Int) (he : P.underlying e = some (.int k')) :
    ∀ (L : List Nat), (∀ i ∈ L, i < n) → (Op.eqItems (d + 1) e 1 (cs k n f) (cs k n g) L).run P w = .ok (L.all fun i => f i == g i) w
  | [], _ => by simp [Op.eqItems]
  | i :: L, h => by
    have hi := h i (by simp)
    have ih := eqItems_cs w d e k k' n f g he L (fun j hj => h j (by simp [hj]))
    rw [Op.eqItems]
    simp only [Nat.mul_one, Sem.run_bind, run_part_cs w e k k' n f he i hi, run_part_cs w e k k' n g he i hi, Result.andThen_ok, run_equalIn_int w d e k k' (f i) (g i) he]
    by_cases hfg : f i = g i
    · simp [hfg, ih]
    · simp [hfg]

theorem run_equalIn_cs {P : Program} (w : World) (d : Nat) (t e : TypeId) (k k' : IntKind) (n : Nat) (f g : Nat → Int) {i : TypeInfo} (hu : P.underlying t = some (.array n e)) (hi : P.info? e = some i) (hc : P.cellsOf e = 1) (he : P.underlying e = some (.int k')) :
    (Op.equalIn (d + 1 + 1) t (.agg (cs k n f)) (.agg (cs k n g))).run P w = .ok ((List.range n).all fun i => f i == g i) w := by
  rw [run_equalIn_array w (d + 1) _ _ hu hi, hc]
  exact eqItems_cs w d e k k' n f g he _ (fun i hi => List.mem_range.1 hi)

theorem run_equalIn_same {P : Program} (w : World) (d : Nat) (t e : TypeId) (k k' : IntKind) (n : Nat) (f : Nat → Int) (hu : P.underlying t = some (.array n e)) (hi : (P.info? e).isSome = true) (hc : P.cellsOf e = 1) (he : P.underlying e = some (.int k')) :
    (Op.equalIn (d + 1 + 1) t (.agg (cs k n f)) (.agg (cs k n f))).run P w = .ok true w := by
  obtain ⟨i, hi'⟩ := Option.isSome_iff_exists.1 hi
  rw [run_equalIn_cs w d t e k k' n f f hu hi' hc he]
  simp
#print axioms run_equalIn_same
end Go.Proofs.YtgnlkggodchlbaaDoor
/- The law InfoChecks walked. -/
namespace Go.Proofs.YtgnlkggodchlbaaDoor
open Go.RowKit Go.Shelf

/-- What the law's last region keeps. -/
structure CkW (w : World) (P : ByteArray) (D : Nat → Int) (z : Int) (F : ByteArray) (vr vs : Value) (g a b : Nat) (E : Nat → Int) (W : World) : Prop where
  inf : Inf W g P D z vr F vs
  d1 : Row .u8 W a 32 E
  d2 : Row .u8 W b 32 E
  bel : Below w.heap.size w W
theorem CkW.next {w : World} {P : ByteArray} {D : Nat → Int} {z : Int} {F : ByteArray} {vr vs : Value} {g a b : Nat} {E : Nat → Int} {W W' : World} (h : CkW w P D z F vr vs g a b E W) (c : Below W.heap.size W W') : CkW w P D z F vr vs g a b E W' :=
  ⟨h.inf.below c h.inf.lt, h.d1.below c (World.block_lt_of_cell? _ _ (h.d1.cell 0 (by omega))), h.d2.below c (World.block_lt_of_cell? _ _ (h.d2.cell 0 (by omega))), h.bel.trans (c.mono h.bel.size)⟩
theorem yieldsIf_inf {ops : Array Oper} {S : World → Prop} {op : Oper} {a : Act} {g : Nat} {P : ByteArray} {D : Nat → Int} {z : Int} {vr : Value} {F : ByteArray} {vs : Value} (hw : Region.wanted op (yielded ops a.tmps) = true) (x : Operand) (ho : op.op = .load 26 x)
    (hx : a.eval x = .pointer (some ⟨g, 0, none⟩)) (hS : ∀ w, S w → Inf w g P D z vr F vs) : YieldsIf Tryd.prog ops S op (.agg (infC P D z vr F vs)) a :=
  yieldsIf_load_mid hw 26 x ho g 0 hx (infL P D z vr F vs) _ (fun w hs => (hS w hs).range) Tryd.underlying26 rfl (by rw [szINF]; exact congrArg some (infL_len P D z vr F vs).symm)

set_option maxRecDepth 100000 in
set_option maxHeartbeats 4000000 in
theorem checks_walk (P : ByteArray) (D : Nat → Int) (z : Int) (F : ByteArray) (xr : Option Addr) (nr cr : Nat) (fr : Nat → ByteArray) (xs : Option Addr) (ns cs' : Nat) (fs : Nat → ByteArray) (s : ByteArray) (w : World)
    (hr : SIs w xr nr fr) (hs : SIs w xs ns fs) (hnc : ns ≤ cs') (hns : ns ≤ 1152921504606846976) (hsz : ∀ i, i < ns → (fs i).size ≤ 1048576) (hsS : s.size ≤ 1048576) (hT : PT w) :
    Calls Tryd.prog 3 #[.agg (infC P D z (.slice xr nr cr) F (.slice xs ns cs')), .string s] w fun e w' => e = .returned (.bool true) ∧ Below w.heap.size w w' := by
  have I0 : Inf (w.alloc (.cells (infC P D z (.slice xr nr cr) F (.slice xs ns cs')) 26)) w.heap.size P D z (.slice xr nr cr) F (.slice xs ns cs') := Inf.box _ _ _ _ _ _ _ _
  have B0 : Below w.heap.size w (w.alloc (.cells (infC P D z (.slice xr nr cr) F (.slice xs ns cs')) 26)) := (Below.refl _ _).alloc (Nat.le_refl _) _
  have z0 : w.heap.size < (w.alloc (.cells (infC P D z (.slice xr nr cr) F (.slice xs ns cs')) 26)).heap.size := by rw [World.size_alloc]; omega
  have CA := fun W (b : Below w.heap.size w W) => iaw_any W (hT.below b)
  have CS := fun W => spS_any s W (by omega)
  have CT := fun W => rspS_any s W hsS
  have CC := fun W (b : Below w.heap.size w W) => ick_any P D z F xr nr cr fr xs ns cs' fs W (hr.below b (Nat.le_refl _)) (hs.below b (Nat.le_refl _)) hnc hns (fun i hi => by have := hsz i hi; omega)
  have CD := fun W (b : Below w.heap.size w W) => rick_any P D z F xr nr cr fr xs ns cs' fs W (hr.below b (Nat.le_refl _)) (hs.below b (Nat.le_refl _)) hns hsz
  have CP := fun W => plain_any P D z F xr nr cr xs ns cs' W
  have CK := fun W => ckSn_any s W (by omega)
  have CG : ∀ W, Calls Tryd.prog 14 #[.string s] W fun e w' => e = .returned (.int .i64 (sgC s)) ∧ Below W.heap.size W w' := fun W => (ckS_any s W).mono (fun e w' h => ⟨h.1, by rw [h.2]; exact Below.refl _ _⟩)
  have CR : ∀ W, Calls Tryd.prog 15 #[.string s] W fun e w' => e = .returned (.int .i64 (sgC s)) ∧ Below W.heap.size W w' := fun W => (rckS_any s W).mono (fun e w' h => ⟨h.1, by rw [h.2]; exact Below.refl _ _⟩)
  generalize sgC s = d0 at CG CR
  generalize ckC P z fr nr F fs ns = c0 at CC CD
  generalize snD s = E at CS CT
  generalize snN s = n at CS CT
  generalize snC s = c at CS CT CK
  clear hr hs hnc hns hsz hsS hT
  go_enter Tryd.func3, Tryd.ntmps3
  go_wp2_with fail
  generalize w.alloc (.cells (infC P D z (.slice xr nr cr) F (.slice xs ns cs')) 26) = w0 at I0 B0 z0 ⊢
  refine (CA w0 B0).mono ?_
  rintro e w1 ⟨rfl, b1⟩
  have I1 := I0.below b1 I0.lt
  have B1 := B0.trans (b1.mono B0.size)
  have z1 : w.heap.size < w1.heap.size := by have := b1.size; omega
  clear I0 B0 z0 b1 CA
  go_wp2_with fail
  refine (CS w1).mono ?_
  rintro e w2 ⟨rfl, b2⟩
  have I2 : Hid (Inf w2 w.heap.size P D z (.slice xr nr cr) F (.slice xs ns cs')) := I1.below b2 I1.lt
  have B2 : Hid (Below w.heap.size w w2) := B1.trans (b2.mono B1.size)
  have z2 : Hid (w.heap.size < w2.heap.size) := by have := b2.size; unfold Hid; omega
  clear I1 B1 z1 b2 CS
  go_wp2_with (refine wpList_store_any (by rfl) 23 (.tmp 6) (.tmp 19) (by rfl) w2.heap.size (by rfl) (by rfl) (Row.rep (by rfl)) szD32 (by rfl) ?_; intro W3 R3 U3; refine Hid.out ?_)
  unfold Hid
  have I3 : Inf W3 w.heap.size P D z (.slice xr nr cr) F (.slice xs ns cs') := I2.out.same ((U3.block _ (by rw [World.size_alloc]; have := z2.out; omega) (by have := z2.out; omega)).trans (Below.heap_alloc _ _ _ z2.out))
  have B3 : Below w.heap.size w W3 := U3.below (B2.out.alloc B2.out.size _) (by have := z2.out; omega) (by rw [World.size_alloc]; have := z2.out; omega)
  have z3 : w2.heap.size < W3.heap.size := by rw [U3.size, World.size_alloc]; omega
  clear U3 I2 B2
  go_wp2_with fail
  refine (CT W3).mono ?_
  rintro e w4 ⟨rfl, b4⟩
  have I4 : Hid (Inf w4 w.heap.size P D z (.slice xr nr cr) F (.slice xs ns cs')) := I3.below b4 I3.lt
  have R4 : Hid (Row .u8 w4 w2.heap.size 32 E) := R3.below b4 z3
  have B4 : Hid (Below w.heap.size w w4) := B3.trans (b4.mono B3.size)
  have z4 : Hid (w2.heap.size < w4.heap.size) := by have := b4.size; unfold Hid; omega
  clear I3 B3 z3 R3 b4 CT
  go_wp2_with (refine wpList_store_any (by rfl) 22 (.tmp 9) (.tmp 25) (by rfl) w4.heap.size (by rfl) (by rfl) (Row.rep (by rfl)) szR32 (by rfl) ?_; intro W5 R5 U5; refine Hid.out ?_)
  unfold Hid
  have I5 : Inf W5 w.heap.size P D z (.slice xr nr cr) F (.slice xs ns cs') := I4.out.same ((U5.block _ (by rw [World.size_alloc]; have := z2.out; have := z4.out; omega) (by have := z2.out; have := z4.out; omega)).trans (Below.heap_alloc _ _ _ (by have := z2.out; have := z4.out; omega)))
  have B5 : Below w.heap.size w W5 := U5.below (B4.out.alloc B4.out.size _) (by have := z2.out; have := z4.out; omega) (by rw [World.size_alloc]; have := z2.out; have := z4.out; omega)
  have Q5 : Row .u8 W5 w2.heap.size 32 E := (R4.out.alloc z4.out _).upd U5 (by rw [World.size_alloc]; have := z4.out; omega) (by have := z4.out; omega)
  have K5 : CkW w P D z F (.slice xr nr cr) (.slice xs ns cs') w.heap.size w2.heap.size w4.heap.size E W5.drew := ⟨I5.same rfl, Q5.drew, R5.drew, B5.drew⟩
  clear I5 B5 Q5 R5 U5 I4 R4 B4 z2 z4
  generalize w2.heap.size = a at K5 ⊢
  generalize w4.heap.size = b at K5 ⊢
  go_wp2_with fail
  have e1 : (n.toList == n.toList) = true := by simp
  have heq : ∀ w, (Op.equalIn 10000 23 (.agg (cs .u8 32 E)) (.agg (cs .u8 32 E))).run Tryd.prog w = .ok true w := fun w => run_equalIn_same w 9998 23 5 .u8 .u8 32 _ undDIG (by kernel_rfl) (by kernel_rfl) (by kernel_rfl)
  refine wp_region_held_drew (S := CkW w P D z F (.slice xr nr cr) (.slice xs ns cs') w.heap.size a b E) (by kernel_rfl) K5 (fun hH => ?_)
  generalize W5.drew = W at hH ⊢
  clear K5
  -- @R
  refine wpAnyH_take (i := 0) (oi := { dst := some 27, op := Op.load 26 (Operand.tmp 2), type := 26, pos := "law.go:52", after := #[], guard := none }) rfl (by kernel_rfl) (by kernel_rfl) (by kernel_rfl) (fun _ _ _ h => h) (yieldsIf_inf (by rfl) (.tmp 2) rfl rfl (fun w' s => s.inf)) hH ?_
  simp only [Act.put, List.setIfInBounds_toArray, List.set_cons_zero, List.set_cons_succ]
  refine wpAnyH_take (i := 2) (oi := { dst := some 29, op := Op.load 26 (Operand.tmp 2), type := 26, pos := "law.go:52", after := #[], guard := none }) rfl (by kernel_rfl) (by kernel_rfl) (by kernel_rfl) (fun _ _ _ h => h) (yieldsIf_inf (by rfl) (.tmp 2) rfl rfl (fun w' s => s.inf)) hH ?_
  simp only [Act.put, List.setIfInBounds_toArray, List.set_cons_zero, List.set_cons_succ]
  refine wpAnyH_ready (rs := [1]) (by kernel_rfl) (by decide) (AllReadyH.cons rfl (fun K hK => ?_) AllReadyH.nil)
  rw [if_pos (by rfl)]
  go_simp
  refine (CC _ hH.bel).mono ?_
  rintro e v1 ⟨rfl, c1⟩
  go_wp2_with fail
  have hH1 := hH.next c1
  refine hK.out _ _ hH1 (fun _ => ?_)
  clear hK K
  try simp only [Act.put, List.setIfInBounds_toArray, List.set_cons_zero, List.set_cons_succ]
  refine wpAnyH_ready (rs := [3]) (by kernel_rfl) (by decide) (AllReadyH.cons rfl (fun K hK => ?_) AllReadyH.nil)
  rw [if_pos (by rfl)]
  go_simp
  refine (CP _).mono ?_
  rintro e v2 ⟨rfl, c2⟩
  go_wp2_with fail
  have hH2 := hH1.next c2
  refine hK.out _ _ hH2 (fun _ => ?_)
  clear hK K
  try simp only [Act.put, List.setIfInBounds_toArray, List.set_cons_zero, List.set_cons_succ]
  refine wpAnyH_ready (rs := [4]) (by kernel_rfl) (by decide) (AllReadyH.cons rfl (fun K hK => ?_) AllReadyH.nil)
  rw [if_pos (by rfl)]
  go_simp
  refine (CD _ hH2.bel).mono ?_
  rintro e v3 ⟨rfl, c3⟩
  go_wp2_with fail
  have hH3 := hH2.next c3
  refine hK.out _ _ hH3 (fun _ => ?_)
  clear hK K
  try simp only [Act.put, List.setIfInBounds_toArray, List.set_cons_zero, List.set_cons_succ]
  refine wpAnyH_ready (rs := [5]) (by kernel_rfl) (by decide) (AllReadyH.cons rfl (fun K hK => ?_) AllReadyH.nil)
  rw [if_pos (by rfl)]
  go_simp
  refine hK.out _ _ hH3 (fun _ => ?_)
  clear hK K
  try simp only [Act.put, List.setIfInBounds_toArray, List.set_cons_zero, List.set_cons_succ]
  refine wpAnyH_ready (rs := [6]) (by kernel_rfl) (by decide) (AllReadyH.cons rfl (fun K hK => ?_) AllReadyH.nil)
  rw [if_pos (by rfl)]
  go_simp
  refine hK.out _ _ hH3 (fun _ => ?_)
  clear hK K
  try simp only [Act.put, List.setIfInBounds_toArray, List.set_cons_zero, List.set_cons_succ]
  refine wpAnyH_take (i := 7) (oi := { dst := some 34, op := Op.move (Operand.tmp 1), type := 9, pos := "law.go:52", after := #[{ on := 6, ground := Ground.guard }], guard := some (6, true) }) (v := .string s) rfl (by kernel_rfl) (by kernel_rfl) (by kernel_rfl) (fun _ _ _ h => h) (Or.inl ⟨by rfl, by intro w _; go_simp⟩) hH3 ?_
  simp only [Act.put, List.setIfInBounds_toArray, List.set_cons_zero, List.set_cons_succ]
  refine wpAnyH_take (i := 9) (oi := { dst := some 36, op := Op.move (Operand.tmp 1), type := 9, pos := "law.go:52", after := #[{ on := 6, ground := Ground.guard }], guard := some (6, true) }) (v := .string s) rfl (by kernel_rfl) (by kernel_rfl) (by kernel_rfl) (fun _ _ _ h => h) (Or.inl ⟨by rfl, by intro w _; go_simp⟩) hH3 ?_
  simp only [Act.put, List.setIfInBounds_toArray, List.set_cons_zero, List.set_cons_succ]
  refine wpAnyH_ready (rs := [8]) (by kernel_rfl) (by decide) (AllReadyH.cons rfl (fun K hK => ?_) AllReadyH.nil)
  rw [if_pos (by rfl)]
  go_simp
  refine (CG _).mono ?_
  rintro e v4 ⟨rfl, c4⟩
  go_wp2_with fail
  have hH4 := hH3.next c4
  refine hK.out _ _ hH4 (fun _ => ?_)
  clear hK K
  try simp only [Act.put, List.setIfInBounds_toArray, List.set_cons_zero, List.set_cons_succ]
  refine wpAnyH_ready (rs := [10]) (by kernel_rfl) (by decide) (AllReadyH.cons rfl (fun K hK => ?_) AllReadyH.nil)
  rw [if_pos (by rfl)]
  go_simp
  refine (CR _).mono ?_
  rintro e v5 ⟨rfl, c5⟩
  go_wp2_with fail
  have hH5 := hH4.next c5
  refine hK.out _ _ hH5 (fun _ => ?_)
  clear hK K
  try simp only [Act.put, List.setIfInBounds_toArray, List.set_cons_zero, List.set_cons_succ]
  refine wpAnyH_ready (rs := [11]) (by kernel_rfl) (by decide) (AllReadyH.cons rfl (fun K hK => ?_) AllReadyH.nil)
  rw [if_pos (by rfl)]
  go_simp
  refine hK.out _ _ hH5 (fun _ => ?_)
  clear hK K
  try simp only [Act.put, List.setIfInBounds_toArray, List.set_cons_zero, List.set_cons_succ]
  refine wpAnyH_ready (rs := [12]) (by kernel_rfl) (by decide) (AllReadyH.cons rfl (fun K hK => ?_) AllReadyH.nil)
  rw [if_pos (by rfl)]
  go_simp
  refine hK.out _ _ hH5 (fun _ => ?_)
  clear hK K
  try simp only [Act.put, List.setIfInBounds_toArray, List.set_cons_zero, List.set_cons_succ]
  refine wpAnyH_ready (rs := [13]) (by kernel_rfl) (by decide) (AllReadyH.cons rfl (fun K hK => ?_) AllReadyH.nil)
  rw [if_pos (by rfl)]
  go_simp
  refine hK.out _ _ hH5 (fun _ => ?_)
  clear hK K
  try simp only [Act.put, List.setIfInBounds_toArray, List.set_cons_zero, List.set_cons_succ]
  refine wpAnyH_take (i := 14) (oi := { dst := some 41, op := Op.move (Operand.tmp 5), type := 9, pos := "law.go:52", after := #[{ on := 13, ground := Ground.guard }], guard := some (13, true) }) (v := .string n) rfl (by kernel_rfl) (by kernel_rfl) (by kernel_rfl) (fun _ _ _ h => h) (Or.inl ⟨by rfl, by intro w _; go_simp⟩) hH5 ?_
  simp only [Act.put, List.setIfInBounds_toArray, List.set_cons_zero, List.set_cons_succ]
  refine wpAnyH_take (i := 15) (oi := { dst := some 42, op := Op.move (Operand.tmp 8), type := 9, pos := "law.go:52", after := #[{ on := 13, ground := Ground.guard }], guard := some (13, true) }) (v := .string n) rfl (by kernel_rfl) (by kernel_rfl) (by kernel_rfl) (fun _ _ _ h => h) (Or.inl ⟨by rfl, by intro w _; go_simp⟩) hH5 ?_
  simp only [Act.put, List.setIfInBounds_toArray, List.set_cons_zero, List.set_cons_succ]
  refine wpAnyH_ready (rs := [16]) (by kernel_rfl) (by decide) (AllReadyH.cons rfl (fun K hK => ?_) AllReadyH.nil)
  rw [if_pos (by rfl)]
  go_simp
  refine hK.out _ _ hH5 (fun _ => ?_)
  clear hK K
  try simp only [Act.put, List.setIfInBounds_toArray, List.set_cons_zero, List.set_cons_succ]
  refine wpAnyH_ready (rs := [17]) (by kernel_rfl) (by decide) (AllReadyH.cons rfl (fun K hK => ?_) AllReadyH.nil)
  rw [if_pos (by rfl)]
  go_simp
  refine hK.out _ _ hH5 (fun _ => ?_)
  clear hK K
  try simp only [Act.put, List.setIfInBounds_toArray, List.set_cons_zero, List.set_cons_succ]
  refine wpAnyH_ready (rs := [18]) (by kernel_rfl) (by decide) (AllReadyH.cons rfl (fun K hK => ?_) AllReadyH.nil)
  rw [if_pos (by rfl)]
  go_simp
  refine hK.out _ _ hH5 (fun _ => ?_)
  clear hK K
  try simp only [Act.put, List.setIfInBounds_toArray, List.set_cons_zero, List.set_cons_succ]
  refine wpAnyH_take (i := 19) (oi := { dst := some 46, op := Op.load 23 (Operand.tmp 6), type := 23, pos := "law.go:52", after := #[{ on := 18, ground := Ground.guard }], guard := some (18, true) }) rfl (by kernel_rfl) (by kernel_rfl) (by kernel_rfl) (fun _ _ _ h => h) (yieldsIf_arr (by rfl) 23 (.tmp 6) rfl a rfl (fun w' s => s.d1) undDIG szD32) hH5 ?_
  simp only [Act.put, List.setIfInBounds_toArray, List.set_cons_zero, List.set_cons_succ]
  refine wpAnyH_take (i := 20) (oi := { dst := some 47, op := Op.load 22 (Operand.tmp 9), type := 22, pos := "law.go:52", after := #[{ on := 18, ground := Ground.guard }], guard := some (18, true) }) rfl (by kernel_rfl) (by kernel_rfl) (by kernel_rfl) (fun _ _ _ h => h) (yieldsIf_arr (by rfl) 22 (.tmp 9) rfl b rfl (fun w' s => s.d2) undD32 szR32) hH5 ?_
  simp only [Act.put, List.setIfInBounds_toArray, List.set_cons_zero, List.set_cons_succ]
  refine wpAnyH_ready (rs := [21]) (by kernel_rfl) (by decide) (AllReadyH.cons rfl (fun K hK => ?_) AllReadyH.nil)
  rw [if_pos (by rfl)]
  go_simp
  refine hK.out _ _ hH5 (fun _ => ?_)
  clear hK K
  try simp only [Act.put, List.setIfInBounds_toArray, List.set_cons_zero, List.set_cons_succ]
  refine wpAnyH_ready (rs := [22]) (by kernel_rfl) (by decide) (AllReadyH.cons rfl (fun K hK => ?_) AllReadyH.nil)
  rw [if_pos (by rfl)]
  go_simp
  refine hK.out _ _ hH5 (fun _ => ?_)
  clear hK K
  try simp only [Act.put, List.setIfInBounds_toArray, List.set_cons_zero, List.set_cons_succ]
  refine wpAnyH_ready (rs := [23]) (by kernel_rfl) (by decide) (AllReadyH.cons rfl (fun K hK => ?_) AllReadyH.nil)
  rw [if_pos (by rfl)]
  go_simp
  refine hK.out _ _ hH5 (fun _ => ?_)
  clear hK K
  try simp only [Act.put, List.setIfInBounds_toArray, List.set_cons_zero, List.set_cons_succ]
  refine wpAnyH_take (i := 24) (oi := { dst := some 51, op := Op.move (Operand.tmp 7), type := 28, pos := "law.go:52", after := #[{ on := 23, ground := Ground.guard }], guard := some (23, true) }) (v := .int .i64 c) rfl (by kernel_rfl) (by kernel_rfl) (by kernel_rfl) (fun _ _ _ h => h) (Or.inl ⟨by rfl, by intro w _; go_simp⟩) hH5 ?_
  simp only [Act.put, List.setIfInBounds_toArray, List.set_cons_zero, List.set_cons_succ]
  refine wpAnyH_take (i := 25) (oi := { dst := some 52, op := Op.move (Operand.tmp 10), type := 3, pos := "law.go:52", after := #[{ on := 23, ground := Ground.guard }], guard := some (23, true) }) (v := .int .i64 c) rfl (by kernel_rfl) (by kernel_rfl) (by kernel_rfl) (fun _ _ _ h => h) (Or.inl ⟨by rfl, by intro w _; go_simp⟩) hH5 ?_
  simp only [Act.put, List.setIfInBounds_toArray, List.set_cons_zero, List.set_cons_succ]
  refine wpAnyH_ready (rs := [26]) (by kernel_rfl) (by decide) (AllReadyH.cons rfl (fun K hK => ?_) AllReadyH.nil)
  rw [if_pos (by rfl)]
  go_simp
  refine hK.out _ _ hH5 (fun _ => ?_)
  clear hK K
  try simp only [Act.put, List.setIfInBounds_toArray, List.set_cons_zero, List.set_cons_succ]
  refine wpAnyH_ready (rs := [27]) (by kernel_rfl) (by decide) (AllReadyH.cons rfl (fun K hK => ?_) AllReadyH.nil)
  rw [if_pos (by rfl)]
  go_simp
  refine hK.out _ _ hH5 (fun _ => ?_)
  clear hK K
  try simp only [Act.put, List.setIfInBounds_toArray, List.set_cons_zero, List.set_cons_succ]
  refine wpAnyH_ready (rs := [28]) (by kernel_rfl) (by decide) (AllReadyH.cons rfl (fun K hK => ?_) AllReadyH.nil)
  rw [if_pos (by rfl)]
  go_simp
  refine hK.out _ _ hH5 (fun _ => ?_)
  clear hK K
  try simp only [Act.put, List.setIfInBounds_toArray, List.set_cons_zero, List.set_cons_succ]
  refine wpAnyH_take (i := 29) (oi := { dst := some 56, op := Op.move (Operand.tmp 1), type := 9, pos := "law.go:52", after := #[{ on := 28, ground := Ground.guard }], guard := some (28, true) }) (v := .string s) rfl (by kernel_rfl) (by kernel_rfl) (by kernel_rfl) (fun _ _ _ h => h) (Or.inl ⟨by rfl, by intro w _; go_simp⟩) hH5 ?_
  simp only [Act.put, List.setIfInBounds_toArray, List.set_cons_zero, List.set_cons_succ]
  refine wpAnyH_take (i := 31) (oi := { dst := some 58, op := Op.move (Operand.tmp 7), type := 28, pos := "law.go:52", after := #[{ on := 28, ground := Ground.guard }], guard := some (28, true) }) (v := .int .i64 c) rfl (by kernel_rfl) (by kernel_rfl) (by kernel_rfl) (fun _ _ _ h => h) (Or.inl ⟨by rfl, by intro w _; go_simp⟩) hH5 ?_
  simp only [Act.put, List.setIfInBounds_toArray, List.set_cons_zero, List.set_cons_succ]
  refine wpAnyH_ready (rs := [30]) (by kernel_rfl) (by decide) (AllReadyH.cons rfl (fun K hK => ?_) AllReadyH.nil)
  rw [if_pos (by rfl)]
  go_simp
  refine (CK _).mono ?_
  rintro e v6 ⟨rfl, c6⟩
  go_wp2_with fail
  have hH6 := hH5.next c6
  refine hK.out _ _ hH6 (fun _ => ?_)
  clear hK K
  try simp only [Act.put, List.setIfInBounds_toArray, List.set_cons_zero, List.set_cons_succ]
  refine wpAnyH_ready (rs := [32]) (by kernel_rfl) (by decide) (AllReadyH.cons rfl (fun K hK => ?_) AllReadyH.nil)
  rw [if_pos (by rfl)]
  go_simp
  refine hK.out _ _ hH6 (fun _ => ?_)
  clear hK K
  try simp only [Act.put, List.setIfInBounds_toArray, List.set_cons_zero, List.set_cons_succ]
  refine wpAnyH_ready (rs := [33]) (by kernel_rfl) (by decide) (AllReadyH.cons rfl (fun K hK => ?_) AllReadyH.nil)
  rw [if_pos (by rfl)]
  go_simp
  refine hK.out _ _ hH6 (fun _ => ?_)
  clear hK K
  try simp only [Act.put, List.setIfInBounds_toArray, List.set_cons_zero, List.set_cons_succ]
  refine wpAnyH_ready (rs := [34]) (by kernel_rfl) (by decide) (AllReadyH.cons rfl (fun K hK => ?_) AllReadyH.nil)
  rw [if_pos (by rfl)]
  go_simp
  refine hK.out _ _ hH6 (fun _ => ?_)
  clear hK K
  try simp only [Act.put, List.setIfInBounds_toArray, List.set_cons_zero, List.set_cons_succ]
  -- @E
  refine wpAnyH_done (by kernel_rfl) ?_ _
  go_wp2
  go_ret
  exact ⟨rfl, hH6.bel⟩

end Go.Proofs.YtgnlkggodchlbaaDoor
/- info.Same; walked. -/
namespace Go.Proofs.YtgnlkggodchlbaaDoor
open Go.RowKit Go.Shelf

theorem wpList_load_midG {ops : Array Oper} {rest : List Oper} {op : Oper} {a : Act} {w : World} {Q : Exit → Act → World → Prop} (hw : Region.wanted op (yielded ops a.tmps) = true) (ty : TypeId) (x : Operand) (ho : op.op = .load ty x)
    (b o : Nat) (hx : a.eval x = .pointer (some ⟨b, o, none⟩)) (cs : List Value) (d : TypeDesc) (hc : w.rangeAt b o cs)
    (hu : Tryd.prog.underlying ty = some d) (hd : d.isRow = true) (hi : (Tryd.prog.info? ty).map (·.size) = some cs.length)
    (h : wpList Tryd.prog ops Q rest (a.put op.dst (.agg cs.toArray)) w) : wpList Tryd.prog ops Q (op :: rest) a w :=
  BigFrame.wpList_want hw fun _ hK => wp_load_mid ty x ho b o hx cs d hc hu hd hi (hK _ _ h)
/-- Two infos are the same. -/
def smB (P : ByteArray) (D : Nat → Int) (z : Int) (fr : Nat → ByteArray) (nr : Nat) (F : ByteArray) (fs : Nat → ByteArray) (ns : Nat) (P' : ByteArray) (D' : Nat → Int) (z' : Int) (fr' : Nat → ByteArray) (nr' : Nat) (F' : ByteArray) (fs' : Nat → ByteArray) (ns' : Nat) : Bool :=
  (P.toList == P'.toList) && (((List.range 32).all fun i => D i == D' i) && ((z == z') && ((F.toList == F'.toList) && (eqT fr nr fr' nr' && eqT fs ns fs' ns'))))

set_option maxRecDepth 100000 in
set_option maxHeartbeats 4000000 in
theorem same_any (P : ByteArray) (D : Nat → Int) (z : Int) (F : ByteArray) (xr : Option Addr) (nr cr : Nat) (fr : Nat → ByteArray) (xs : Option Addr) (ns cz : Nat) (fs : Nat → ByteArray) (P' : ByteArray) (D' : Nat → Int) (z' : Int) (F' : ByteArray) (xr' : Option Addr) (nr' cr' : Nat) (fr' : Nat → ByteArray) (xs' : Option Addr) (ns' cz' : Nat) (fs' : Nat → ByteArray) (w : World)
    (hr : SIs w xr nr fr) (hs : SIs w xs ns fs) (hr' : SIs w xr' nr' fr') (hs' : SIs w xs' ns' fs') (h1 : nr ≤ 1152921504606846976) (h2 : ns ≤ 1152921504606846976) (h3 : nr' ≤ 1152921504606846976) (h4 : ns' ≤ 1152921504606846976) :
    Calls Tryd.prog 20 #[.agg (infC P D z (.slice xr nr cr) F (.slice xs ns cz)), .agg (infC P' D' z' (.slice xr' nr' cr') F' (.slice xs' ns' cz'))] w fun e w' => e = .returned (.bool (smB P D z fr nr F fs ns P' D' z' fr' nr' F' fs' ns')) ∧ Below w.heap.size w w' := by
  have I0 : Hid (Inf ((w.alloc (.cells (infC P D z (.slice xr nr cr) F (.slice xs ns cz)) 26)).alloc (.cells (infC P' D' z' (.slice xr' nr' cr') F' (.slice xs' ns' cz')) 26)) w.heap.size P D z (.slice xr nr cr) F (.slice xs ns cz)) := (Inf.box _ _ _ _ _ _ _ _).same (Below.heap_alloc _ _ _ (by rw [World.size_alloc]; omega))
  have J0 : Hid (Inf ((w.alloc (.cells (infC P D z (.slice xr nr cr) F (.slice xs ns cz)) 26)).alloc (.cells (infC P' D' z' (.slice xr' nr' cr') F' (.slice xs' ns' cz')) 26)) (w.heap.size + 1) P' D' z' (.slice xr' nr' cr') F' (.slice xs' ns' cz')) := by
    have := Inf.box (w.alloc (.cells (infC P D z (.slice xr nr cr) F (.slice xs ns cz)) 26)) 26 P' D' z' (.slice xr' nr' cr') F' (.slice xs' ns' cz')
    rw [World.size_alloc] at this
    exact this
  have B0 : Hid (Below w.heap.size w ((w.alloc (.cells (infC P D z (.slice xr nr cr) F (.slice xs ns cz)) 26)).alloc (.cells (infC P' D' z' (.slice xr' nr' cr') F' (.slice xs' ns' cz')) 26))) := ((Below.refl _ _).alloc (Nat.le_refl _) _).alloc (by rw [World.size_alloc]; omega) _
  have C1 := fun W (b : Below w.heap.size w W) => slEq_any xr xr' nr cr nr' cr' fr fr' W (hr.below b (Nat.le_refl _)) (hr'.below b (Nat.le_refl _)) h1 h3
  have C2 := fun W (b : Below w.heap.size w W) => slEq_any xs xs' ns cz ns' cz' fs fs' W (hs.below b (Nat.le_refl _)) (hs'.below b (Nat.le_refl _)) h2 h4
  have heq : ∀ w, (Op.equalIn 10000 23 (.agg (cs .u8 32 D)) (.agg (cs .u8 32 D'))).run Tryd.prog w = .ok ((List.range 32).all fun i => D i == D' i) w := fun w => by
    obtain ⟨i, hi⟩ := Option.isSome_iff_exists.1 (show (Tryd.prog.info? 5).isSome = true by kernel_rfl)
    exact run_equalIn_cs w 9998 23 5 .u8 .u8 32 D D' undDIG hi (by kernel_rfl) (by kernel_rfl)
  clear hr hs hr' hs' h1 h2 h3 h4
  unfold smB
  generalize e5 : eqT fr nr fr' nr' = b5 at C1 ⊢
  generalize e6 : eqT fs ns fs' ns' = b6 at C2 ⊢
  generalize (List.range 32).all (fun i => D i == D' i) = b2 at heq ⊢
  cases e1 : (P.toList == P'.toList)
  rotate_left
  · cases b2
    rotate_left
    · cases e3 : (z == z')
      rotate_left
      · cases e4 : (F.toList == F'.toList)
        rotate_left
        · cases b5
          rotate_left
          · clear e5 e6
            go_enter Tryd.func20, Tryd.ntmps20
            iterate 12 go_step
            generalize (w.alloc (.cells (infC P D z (.slice xr nr cr) F (.slice xs ns cz)) 26)).alloc (.cells (infC P' D' z' (.slice xr' nr' cr') F' (.slice xs' ns' cz')) 26) = w0 at I0 J0 B0 ⊢
            have p1 := I0.out.path
            have p2 := I0.out.size
            have p3 := I0.out.refs
            have p4 := I0.out.from_
            have p5 := I0.out.signs
            have q1 := J0.out.path
            have q2 := J0.out.size
            have q3 := J0.out.refs
            have q4 := J0.out.from_
            have q5 := J0.out.signs
            have R1 := I0.out.digRange
            have R2 := J0.out.digRange
            go_wp2_with (first
              | (refine wpList_load_midG (by rfl) 23 (.tmp 11) (by rfl) w.heap.size 1 (by rfl) (cs .u8 32 D).toList (.array 32 5) R1 undDIG rfl (by rw [szD32, Array.length_toList, cs_size]) ?_)
              | (refine wpList_load_midG (by rfl) 23 (.tmp 13) (by rfl) (w.heap.size + 1) 1 (by rfl) (cs .u8 32 D').toList (.array 32 5) R2 undDIG rfl (by rw [szD32, Array.length_toList, cs_size]) ?_))
            refine (C1 _ B0.out).mono ?_
            rintro e w1 ⟨rfl, b1⟩
            have c34' := (I0.out.below b1 I0.out.lt).refs
            have c36a := (I0.out.below b1 I0.out.lt).signs
            have c36b := (J0.out.below b1 J0.out.lt).signs
            have B1 : Hid (Below w.heap.size w w1) := B0.out.trans (b1.mono B0.out.size)
            clear b1 C1
            go_wp2_with fail
            refine (C2 _ B1.out).mono ?_
            rintro e w2 ⟨rfl, b2⟩
            have B2 : Hid (Below w.heap.size w w2) := B1.out.trans (b2.mono B1.out.size)
            clear b2 C2
            go_wp2
            go_ret
            exact ⟨rfl, B2.out⟩
          · clear e5 e6
            go_enter Tryd.func20, Tryd.ntmps20
            iterate 12 go_step
            generalize (w.alloc (.cells (infC P D z (.slice xr nr cr) F (.slice xs ns cz)) 26)).alloc (.cells (infC P' D' z' (.slice xr' nr' cr') F' (.slice xs' ns' cz')) 26) = w0 at I0 J0 B0 ⊢
            have p1 := I0.out.path
            have p2 := I0.out.size
            have p3 := I0.out.refs
            have p4 := I0.out.from_
            have p5 := I0.out.signs
            have q1 := J0.out.path
            have q2 := J0.out.size
            have q3 := J0.out.refs
            have q4 := J0.out.from_
            have q5 := J0.out.signs
            have R1 := I0.out.digRange
            have R2 := J0.out.digRange
            go_wp2_with (first
              | (refine wpList_load_midG (by rfl) 23 (.tmp 11) (by rfl) w.heap.size 1 (by rfl) (cs .u8 32 D).toList (.array 32 5) R1 undDIG rfl (by rw [szD32, Array.length_toList, cs_size]) ?_)
              | (refine wpList_load_midG (by rfl) 23 (.tmp 13) (by rfl) (w.heap.size + 1) 1 (by rfl) (cs .u8 32 D').toList (.array 32 5) R2 undDIG rfl (by rw [szD32, Array.length_toList, cs_size]) ?_))
            refine (C1 _ B0.out).mono ?_
            rintro e w1 ⟨rfl, b1⟩
            have c34' := (I0.out.below b1 I0.out.lt).refs
            have c36a := (I0.out.below b1 I0.out.lt).signs
            have c36b := (J0.out.below b1 J0.out.lt).signs
            have B1 : Hid (Below w.heap.size w w1) := B0.out.trans (b1.mono B0.out.size)
            clear b1 C1
            go_wp2_with fail
            go_ret
            exact ⟨rfl, B1.out⟩
        · clear e5 e6
          go_enter Tryd.func20, Tryd.ntmps20
          iterate 12 go_step
          generalize (w.alloc (.cells (infC P D z (.slice xr nr cr) F (.slice xs ns cz)) 26)).alloc (.cells (infC P' D' z' (.slice xr' nr' cr') F' (.slice xs' ns' cz')) 26) = w0 at I0 J0 B0 ⊢
          have p1 := I0.out.path
          have p2 := I0.out.size
          have p3 := I0.out.refs
          have p4 := I0.out.from_
          have p5 := I0.out.signs
          have q1 := J0.out.path
          have q2 := J0.out.size
          have q3 := J0.out.refs
          have q4 := J0.out.from_
          have q5 := J0.out.signs
          have R1 := I0.out.digRange
          have R2 := J0.out.digRange
          go_wp2_with (first
            | (refine wpList_load_midG (by rfl) 23 (.tmp 11) (by rfl) w.heap.size 1 (by rfl) (cs .u8 32 D).toList (.array 32 5) R1 undDIG rfl (by rw [szD32, Array.length_toList, cs_size]) ?_)
            | (refine wpList_load_midG (by rfl) 23 (.tmp 13) (by rfl) (w.heap.size + 1) 1 (by rfl) (cs .u8 32 D').toList (.array 32 5) R2 undDIG rfl (by rw [szD32, Array.length_toList, cs_size]) ?_))
          go_ret
          exact ⟨rfl, B0.out⟩
      · clear e5 e6
        go_enter Tryd.func20, Tryd.ntmps20
        iterate 12 go_step
        generalize (w.alloc (.cells (infC P D z (.slice xr nr cr) F (.slice xs ns cz)) 26)).alloc (.cells (infC P' D' z' (.slice xr' nr' cr') F' (.slice xs' ns' cz')) 26) = w0 at I0 J0 B0 ⊢
        have p1 := I0.out.path
        have p2 := I0.out.size
        have p3 := I0.out.refs
        have p4 := I0.out.from_
        have p5 := I0.out.signs
        have q1 := J0.out.path
        have q2 := J0.out.size
        have q3 := J0.out.refs
        have q4 := J0.out.from_
        have q5 := J0.out.signs
        have R1 := I0.out.digRange
        have R2 := J0.out.digRange
        go_wp2_with (first
          | (refine wpList_load_midG (by rfl) 23 (.tmp 11) (by rfl) w.heap.size 1 (by rfl) (cs .u8 32 D).toList (.array 32 5) R1 undDIG rfl (by rw [szD32, Array.length_toList, cs_size]) ?_)
          | (refine wpList_load_midG (by rfl) 23 (.tmp 13) (by rfl) (w.heap.size + 1) 1 (by rfl) (cs .u8 32 D').toList (.array 32 5) R2 undDIG rfl (by rw [szD32, Array.length_toList, cs_size]) ?_))
        go_ret
        exact ⟨rfl, B0.out⟩
    · clear e5 e6
      go_enter Tryd.func20, Tryd.ntmps20
      iterate 12 go_step
      generalize (w.alloc (.cells (infC P D z (.slice xr nr cr) F (.slice xs ns cz)) 26)).alloc (.cells (infC P' D' z' (.slice xr' nr' cr') F' (.slice xs' ns' cz')) 26) = w0 at I0 J0 B0 ⊢
      have p1 := I0.out.path
      have p2 := I0.out.size
      have p3 := I0.out.refs
      have p4 := I0.out.from_
      have p5 := I0.out.signs
      have q1 := J0.out.path
      have q2 := J0.out.size
      have q3 := J0.out.refs
      have q4 := J0.out.from_
      have q5 := J0.out.signs
      have R1 := I0.out.digRange
      have R2 := J0.out.digRange
      go_wp2_with (first
        | (refine wpList_load_midG (by rfl) 23 (.tmp 11) (by rfl) w.heap.size 1 (by rfl) (cs .u8 32 D).toList (.array 32 5) R1 undDIG rfl (by rw [szD32, Array.length_toList, cs_size]) ?_)
        | (refine wpList_load_midG (by rfl) 23 (.tmp 13) (by rfl) (w.heap.size + 1) 1 (by rfl) (cs .u8 32 D').toList (.array 32 5) R2 undDIG rfl (by rw [szD32, Array.length_toList, cs_size]) ?_))
      go_ret
      exact ⟨rfl, B0.out⟩
  · clear e5 e6
    go_enter Tryd.func20, Tryd.ntmps20
    iterate 12 go_step
    generalize (w.alloc (.cells (infC P D z (.slice xr nr cr) F (.slice xs ns cz)) 26)).alloc (.cells (infC P' D' z' (.slice xr' nr' cr') F' (.slice xs' ns' cz')) 26) = w0 at I0 J0 B0 ⊢
    have p1 := I0.out.path
    have p2 := I0.out.size
    have p3 := I0.out.refs
    have p4 := I0.out.from_
    have p5 := I0.out.signs
    have q1 := J0.out.path
    have q2 := J0.out.size
    have q3 := J0.out.refs
    have q4 := J0.out.from_
    have q5 := J0.out.signs
    have R1 := I0.out.digRange
    have R2 := J0.out.digRange
    go_wp2_with fail
    go_ret
    exact ⟨rfl, B0.out⟩
end Go.Proofs.YtgnlkggodchlbaaDoor
/- The law InfoOne walked. -/
namespace Go.Proofs.YtgnlkggodchlbaaDoor
open Go.RowKit Go.Shelf

theorem pz_len (k : Nat) : ∀ (t : ByteArray) (n : Nat) (s : IS), t.size < k → (pz k t n s).1.S.length ≤ s.S.length + t.size := by
  induction k with
  | zero => intro t n s h; omega
  | succ k ih =>
    intro t n s hk
    by_cases hd : 4 ≤ n ∧ t.size = 0
    · rw [pz_done hd]; exact Nat.le_add_right _ _
    · cases hf : ctF t 10
      · rw [pz_open hd hf]; exact Nat.zero_le _
      · have hsz := ctB_lt hf
        by_cases hq : tkC s n (ctA t 10) = 0
        · rw [pz_next hd hf hq]
          have := ih (ctB t 10) (n + 1) (tkS s n (ctA t 10)) (by omega)
          have := tkS_len s n (ctA t 10)
          omega
        · rw [pz_bad hd hf hq]; exact Nat.zero_le _
theorem pz_err (k : Nat) : ∀ (t : ByteArray) (n : Nat) (s : IS), (pz k t n s).2.1 ≠ 0 → (pz k t n s).1 = IS.zero := by
  induction k with
  | zero => intro t n s h; exact absurd rfl h
  | succ k ih =>
    intro t n s h
    by_cases hd : 4 ≤ n ∧ t.size = 0
    · rw [pz_done hd] at h; exact absurd rfl h
    · cases hf : ctF t 10
      · rw [pz_open hd hf]
      · by_cases hq : tkC s n (ctA t 10) = 0
        · rw [pz_next hd hf hq] at h ⊢; exact ih _ _ _ h
        · rw [pz_bad hd hf hq]
theorem orC_0 {a b : Int} (h : orC a b = 0) : a = 0 ∧ b = 0 := by
  by_cases ha : a = 0
  · rw [orC_z ha] at h; exact ⟨ha, h⟩
  · rw [orC_n ha] at h; exact absurd h ha
theorem signs_small {P : ByteArray} {z : Int} {fr : Nat → ByteArray} {nr : Nat} {F : ByteArray} {fs : Nat → ByteArray} {ns : Nat} (h : ckC P z fr nr F fs ns = 0) (i : Nat) (hi : i < ns) : (fs i).size ≤ 85 := by
  have h2 := (orC_0 h).2
  unfold ssC at h2
  split at h2
  · rename_i g
    have h3 := (g i hi).1
    unfold snC at h3
    split at h3
    · rename_i g3; exact snOk_max g3
    · cases h3
  · cases h2
theorem sm_zero (fr fs fr' fs' : Nat → ByteArray) : smB ⟨#[]⟩ (fun _ => 0) 0 fr 0 ⟨#[]⟩ fs 0 ⟨#[]⟩ (fun _ => 0) 0 fr' 0 ⟨#[]⟩ fs' 0 = true := by
  unfold smB
  rw [eqT_all (fun i hi => absurd hi (by omega)), eqT_all (fun i hi => absurd hi (by omega))]
  decide +kernel
theorem wpList_load_infG {ops : Array Oper} {rest : List Oper} {o : Oper} {a : Act} {w : World} {Q : Exit → Act → World → Prop} {g : Nat} {P : ByteArray} {D : Nat → Int} {z : Int} {vr : Value} {F : ByteArray} {vs : Value} (hgd : Region.wanted o (yielded ops a.tmps) = true) (x : Operand) (ho : o.op = .load 26 x)
    (hx : a.eval x = .pointer (some ⟨g, 0, none⟩)) (h : Inf w g P D z vr F vs) (hK : wpList Tryd.prog ops Q rest (a.put o.dst (.agg (infC P D z vr F vs))) w) : wpList Tryd.prog ops Q (o :: rest) a w :=
  wpList_load_midG hgd 26 x ho g 0 hx (infL P D z vr F vs) _ h.range Tryd.underlying26 rfl (by rw [szINF]; exact congrArg some (infC_size P D z vr F vs).symm) hK

theorem wpList_load_rg {ops : Array Oper} {rest : List Oper} {o : Oper} {a : Act} {w : World} {Q : Exit → Act → World → Prop} {g : Nat} {P : ByteArray} {D : Nat → Int} {z : Int} {vr : Value} {F : ByteArray} {vs : Value} (hgd : Region.wanted o (yielded ops a.tmps) = true) (x : Operand) (ho : o.op = .load 26 x)
    (hx : a.eval x = .pointer (some ⟨g, 0, none⟩)) (h : w.rangeAt g 0 (infL P D z vr F vs)) (hK : wpList Tryd.prog ops Q rest (a.put o.dst (.agg (infC P D z vr F vs))) w) : wpList Tryd.prog ops Q (o :: rest) a w :=
  wpList_load_midG hgd 26 x ho g 0 hx (infL P D z vr F vs) _ h Tryd.underlying26 rfl (by rw [szINF]; exact congrArg some (infC_size P D z vr F vs).symm) hK
theorem range_same {w w' : World} {g : Nat} {L : List Value} (h : w.rangeAt g 0 L) (e : w'.heap[g]? = w.heap[g]?) : w'.rangeAt g 0 L := fun j u hj =>
  (World.cell?_of_block (w := w) (w' := w') (a := ⟨g, 0 + j, none⟩) e).trans (h j u hj)

set_option maxRecDepth 100000 in
set_option maxHeartbeats 4000000 in
theorem ione_walk (text : ByteArray) (w : World) (ht : text.size ≤ 1048576) (hT : PT w) :
    Calls Tryd.prog 6 #[.string text] w fun e w' => e = .returned (.bool true) ∧ Below w.heap.size w w' := by
  have HT : Hid (PT w) := hT
  have CA := iaw_any w hT
  have CP := fun W => iparse_any text W (by omega)
  have O1 := one_form text
  have O2 := pz_err (text.size + 1) text 0 IS.zero
  have O3 := pz_len (text.size + 1) text 0 IS.zero (by omega)
  change (PZ text).2.1 ≠ 0 → (PZ text).1 = IS.zero at O2
  change (PZ text).1.S.length ≤ 0 + text.size at O3
  generalize PZ text = pr at CP O1 O2 O3
  obtain ⟨s, c, at_⟩ := pr
  clear hT
  go_enter Tryd.func6, Tryd.ntmps6
  go_wp2_with fail
  refine CA.mono ?_
  clear CA
  rintro e w1 ⟨rfl, b1⟩
  go_wp2_with fail
  refine (CP w1).mono ?_
  clear CP
  rintro e w2 ⟨⟨vr, vs, rfl, OR, OS, _⟩, b2⟩
  obtain ⟨xr, cr, rfl, hcr, SR⟩ := OR.shape
  obtain ⟨xs, cz, rfl, hcz, SS⟩ := OS.shape
  have B2 : Hid (Below w.heap.size w w2) := b1.trans (b2.mono b1.size)
  clear b1 b2 OR OS
  have J0 : Inf ((w2.alloc (.cells (infC ⟨#[]⟩ (fun _ => 0) 0 (.slice none 0 0) ⟨#[]⟩ (.slice none 0 0)) 26)).alloc (.cells #[.int .i64 0, .int .i64 0] 42)) w2.heap.size ⟨#[]⟩ (fun _ => 0) 0 (.slice none 0 0) ⟨#[]⟩ (.slice none 0 0) := (Inf.box _ _ _ _ _ _ _ _).same (Below.heap_alloc _ _ _ (by rw [World.size_alloc]; omega))
  have F0 : Hid (Row .i64 ((w2.alloc (.cells (infC ⟨#[]⟩ (fun _ => 0) 0 (.slice none 0 0) ⟨#[]⟩ (.slice none 0 0)) 26)).alloc (.cells #[.int .i64 0, .int .i64 0] 42)) (w2.heap.size + 1) 2 (fun _ => 0)) := by
    have := Row.arr (k := .i64) (w := w2.alloc (.cells (infC ⟨#[]⟩ (fun _ => 0) 0 (.slice none 0 0) ⟨#[]⟩ (.slice none 0 0)) 26)) (e := 42) (C := #[.int .i64 0, .int .i64 0]) (n := 2) (f := fun _ => 0) (fun j hj => by rcases (show j = 0 ∨ j = 1 from by omega) with rfl | rfl <;> rfl)
    rw [World.size_alloc] at this
    exact this
  have B0 : Hid (Below w2.heap.size w2 ((w2.alloc (.cells (infC ⟨#[]⟩ (fun _ => 0) 0 (.slice none 0 0) ⟨#[]⟩ (.slice none 0 0)) 26)).alloc (.cells #[.int .i64 0, .int .i64 0] 42))) := ((Below.refl _ _).alloc (Nat.le_refl _) _).alloc (by rw [World.size_alloc]; omega) _
  have z0 : Hid (w2.heap.size + 2 = ((w2.alloc (.cells (infC ⟨#[]⟩ (fun _ => 0) 0 (.slice none 0 0) ⟨#[]⟩ (.slice none 0 0)) 26)).alloc (.cells #[.int .i64 0, .int .i64 0] 42)).heap.size) := by unfold Hid; rw [World.size_alloc, World.size_alloc]
  go_wp2_with (refine wpList_store_inf (by rfl) (.tmp 3) (.tmp 12) (by rfl) (by rfl) (by rfl) J0 rfl rfl (by rfl) ?_; intro W5 R5 U5; refine Hid.out ?_)
  unfold Hid
  have F5 : Row .i64 W5 (w2.heap.size + 1) 2 (fun _ => 0) := F0.out.upd U5 (by have := z0.out; omega) (by omega)
  have B5 : Hid (Below w2.heap.size w2 W5) := U5.below B0.out (Nat.le_refl _) B0.out.size
  have z5 : Hid (w2.heap.size + 2 = W5.heap.size) := by unfold Hid; rw [U5.size]; exact z0.out
  have d0 := F5.cell 0 (by omega)
  have d1 := F5.cell 1 (by omega)
  have g0 := F5.free 0 (by omega)
  have g1 := F5.free 1 (by omega)
  have F6 : Hid (Row .i64 ((W5.setCell ⟨w2.heap.size + 1, 0, none⟩ (.int .i64 c)).setCell ⟨w2.heap.size + 1, 1, none⟩ (.int .i64 at_)) (w2.heap.size + 1) 2 (fun j => if j = 1 then (at_ : Int) else if j = 0 then c else 0)) := (F5.set 0 c (by omega)).set 1 at_ (by omega)
  have R6 : Hid (((W5.setCell ⟨w2.heap.size + 1, 0, none⟩ (.int .i64 c)).setCell ⟨w2.heap.size + 1, 1, none⟩ (.int .i64 at_)).rangeAt w2.heap.size 0 (infL s.P s.D s.z (.slice xr s.R.length cr) s.F (.slice xs s.S.length cz))) := range_set (range_set R5 _ _ _ (by omega)) _ _ _ (by omega)
  have B6 : Hid (Below w2.heap.size w2 ((W5.setCell ⟨w2.heap.size + 1, 0, none⟩ (.int .i64 c)).setCell ⟨w2.heap.size + 1, 1, none⟩ (.int .i64 at_))) := (B5.out.setCell (by show _ ≤ w2.heap.size + 1; omega) _).setCell (by show _ ≤ w2.heap.size + 1; omega) _
  have z6 : Hid (w2.heap.size + 2 = ((W5.setCell ⟨w2.heap.size + 1, 0, none⟩ (.int .i64 c)).setCell ⟨w2.heap.size + 1, 1, none⟩ (.int .i64 at_)).heap.size) := by unfold Hid; rw [World.size_setCell, World.size_setCell]; exact z5.out
  clear J0 F0 R5 U5 F5 B5 z5 B0 z0
  by_cases hc : c = 0
  · subst hc
    obtain ⟨q1, q2⟩ := O1 rfl
    have SZ := fun i hi => signs_small q1 i hi
    have SR6 : Hid (SIs _ xr s.R.length (Sq.nth s.R)) := SR.below B6.out (Nat.le_refl _)
    have SS6 : Hid (SIs _ xs s.S.length (Sq.nth s.S)) := SS.below B6.out (Nat.le_refl _)
    have T6 : Hid (PT _) := HT.out.below (B2.out.trans (B6.out.mono B2.out.size))
    have e1 : (text.toList == text.toList) = true := by simp
    clear O1 O2
    go_wp2_with (refine wpList_load_rg (by rfl) (.tmp 3) (by rfl) (by rfl) R6.out ?_; refine Hid.out ?_)
    unfold Hid
    generalize (W5.setCell ⟨w2.heap.size + 1, 0, none⟩ (.int .i64 0)).setCell ⟨w2.heap.size + 1, 1, none⟩ (.int .i64 at_) = W6 at F6 R6 B6 z6 SR6 SS6 T6 ⊢
    have CP := print_any s.P s.D s.z s.F xr s.R.length cr (Sq.nth s.R) xs s.S.length cz (Sq.nth s.S) W6 SR6.out SS6.out hcz (by have h3 : s.S.length ≤ 0 + text.size := O3; omega) (fun i hi => by have := SZ i hi; omega) T6.out
    have CC := fun W (b : Below W6.heap.size W6 W) => ick_any s.P s.D s.z s.F xr s.R.length cr (Sq.nth s.R) xs s.S.length cz (Sq.nth s.S) W (SR6.out.below b (Nat.le_refl _)) (SS6.out.below b (Nat.le_refl _)) hcz (by have h3 : s.S.length ≤ 0 + text.size := O3; omega) (fun i hi => by have := SZ i hi; omega)
    rw [q1, prS_z rfl, q2] at CP
    rw [q1] at CC
    go_wp2_with fail
    refine CP.mono ?_
    clear CP
    rintro e w7 ⟨rfl, b7⟩
    have R7 : Hid (w7.rangeAt w2.heap.size 0 (infL s.P s.D s.z (.slice xr s.R.length cr) s.F (.slice xs s.S.length cz))) := range_same R6.out (b7.block _ (by have := z6.out; omega))
    have B7 : Hid (Below w.heap.size w w7) := (B2.out.trans (B6.out.mono B2.out.size)).trans (b7.mono (by have := B2.out.size; have := B6.out.size; omega))
    have CC7 := CC w7 b7
    clear CC q1 q2 SZ F6 R6 B6 SR6 SS6 T6
    go_wp2_with (refine wpList_load_rg (by rfl) (.tmp 3) (by rfl) (by rfl) R7.out ?_)
    refine CC7.mono ?_
    clear CC7
    rintro e w8 ⟨rfl, b8⟩
    have B8 : Hid (Below w.heap.size w w8) := B7.out.trans (b8.mono B7.out.size)
    go_wp2
    go_ret
    exact ⟨rfl, B8.out⟩
  · have hc' : (c != 0) = true := by rw [bne_iff_ne]; exact hc
    have es := O2 hc
    obtain rfl : s = IS.zero := es
    have SR6 : Hid (SIs _ xr 0 (Sq.nth [])) := SR.below B6.out (Nat.le_refl _)
    have SS6 : Hid (SIs _ xs 0 (Sq.nth [])) := SS.below B6.out (Nat.le_refl _)
    have ha : (0 : Int) ≤ (at_ : Int) := by omega
    have f1 := F6.out.cell 1 (by omega)
    clear O1 O2
    go_wp2_with (refine wpList_load_rg (by rfl) (.tmp 3) (by rfl) (by rfl) R6.out ?_; refine Hid.out ?_)
    unfold Hid
    generalize (W5.setCell ⟨w2.heap.size + 1, 0, none⟩ (.int .i64 c)).setCell ⟨w2.heap.size + 1, 1, none⟩ (.int .i64 at_) = W6 at F6 R6 B6 z6 SR6 SS6 f1 ⊢
    have CS := same_any ⟨#[]⟩ (fun _ => 0) 0 ⟨#[]⟩ xr 0 cr (Sq.nth []) xs 0 cz (Sq.nth []) ⟨#[]⟩ (fun _ => 0) 0 ⟨#[]⟩ none 0 0 (Sq.nth []) none 0 0 (Sq.nth []) W6 SR6.out SS6.out (fun i hi => absurd hi (by omega)) (fun i hi => absurd hi (by omega)) (by omega) (by omega) (by omega) (by omega)
    rw [sm_zero] at CS
    go_wp2_with fail
    rw [inf_zero]
    refine CS.mono ?_
    clear CS
    rintro e w7 ⟨rfl, b7⟩
    have f2 : w7.cell? ⟨w2.heap.size + 1, 1, none⟩ = some (.int .i64 at_) := (World.cell?_of_block (w := W6) (w' := w7) (a := ⟨w2.heap.size + 1, 1, none⟩) (b7.block (w2.heap.size + 1) (by have := z6.out; omega))).trans f1
    have B7 : Hid (Below w.heap.size w w7) := (B2.out.trans (B6.out.mono B2.out.size)).trans (b7.mono (by have := B2.out.size; have := B6.out.size; omega))
    go_wp2
    go_ret
    exact ⟨rfl, B7.out⟩

end Go.Proofs.YtgnlkggodchlbaaDoor
/- The cells of two tables of unicode/utf8, for a witness. -/
namespace Go.Proofs.YtgnlkggodchlbaaDoor
def firstCells : Array Value := (Go.Pinned.utf8FirstZ.map fun (n : Nat) => Value.int .u8 (n : Int)).toArray
def rangeCells : Array Value := (([128, 191, 160, 191, 128, 159, 144, 191, 128, 143] ++ List.replicate 22 0).map fun (n : Nat) => Value.int .u8 (n : Int)).toArray
end Go.Proofs.YtgnlkggodchlbaaDoor
/- The cells of the library's tables, for a witness. -/
namespace Go.Proofs.YtgnlkggodchlbaaDoor
def tab32Cells : Array Value := ([0, 1, 28, 2, 29, 14, 24, 3, 30, 22, 20, 15, 25, 17, 4, 8, 31, 27, 13, 23, 21, 19, 16, 7, 26, 12, 18, 6, 11, 5, 10, 9].map fun (n : Nat) => Value.int .u8 (n : Int)).toArray
def tab64Cells : Array Value := ([0, 1, 56, 2, 57, 49, 28, 3, 61, 58, 42, 50, 38, 29, 17, 4, 62, 47, 59, 36, 45, 43, 51, 22, 53, 39, 33, 30, 24, 18, 12, 5, 63, 55, 48, 27, 60, 41, 37, 16, 46, 35, 44, 21, 52, 32, 23, 11, 54, 26, 40, 15, 34, 20, 31, 10, 25, 14, 19, 9, 13, 8, 7, 6].map fun (n : Nat) => Value.int .u8 (n : Int)).toArray
def powCells : Array Value := ([1, 10, 100, 1000, 10000, 100000, 1000000, 10000000, 100000000, 1000000000, 10000000000, 100000000000, 1000000000000, 10000000000000, 100000000000000, 1000000000000000, 10000000000000000, 100000000000000000, 1000000000000000000, 10000000000000000000].map fun (n : Nat) => Value.int .u64 (n : Int)).toArray
end Go.Proofs.YtgnlkggodchlbaaDoor
