/- The law WirePlays, walked. -/
import Derived.Test.YtjlbbnjcdickgaaWqA
import Derived.Deep.QuietTactic
import Derived.BigQuiet
namespace Go.Proofs.Ytjlbbnjcdickgaa
open Go.RowKit

/-- The texts' bytes of the first k calls. -/
def preB (t : Nat → List UInt8) : Nat → Nat
  | 0 => 0
  | k + 1 => preB t k + (t k).length
theorem preB_mono (t : Nat → List UInt8) (k n : Nat) (h : k ≤ n) : preB t k ≤ preB t n := by
  induction n with
  | zero => rw [show k = 0 by omega]; exact Nat.le_refl _
  | succ n ih =>
    by_cases e : k = n + 1
    · rw [e]; exact Nat.le_refl _
    · have := ih (by omega)
      show preB t k ≤ preB t n + (t n).length
      omega
/-- Calls that came in: Close, or Feed of a text. -/
structure OpRow (w : World) (x : Option Addr) (n : Nat) (cl : Nat → Bool) (t : Nat → List UInt8) : Prop where
  cell : ∀ k, k < n → ∃ b o : Nat, x = some ⟨b, o, none⟩ ∧ b < w.heap.size ∧ w.cell? ⟨b, o + k * 2, none⟩ = some (.bool (cl k)) ∧ w.cell? ⟨b, o + k * 2 + 1, none⟩ = some (.string (ba (t k)))

/-- Block D is what the document has: the reader's own state. -/
structure GC (w : World) (D : Nat) (y : Option Addr) (cy : Nat) (s : RS) : Prop where
  c0 : w.cell? ⟨D, 0, none⟩ = some (.slice y s.out.length cy)
  c1 : w.cell? ⟨D, 1, none⟩ = some (.int .i64 (s.code : Int))
  c2 : w.cell? ⟨D, 2, none⟩ = some (.int .i64 (s.fat : Int))
  c3 : w.cell? ⟨D, 3, none⟩ = some (.int .i64 (s.tk : Int))
  fr : ∀ j, w.frozen? ⟨D, j, none⟩ = false
  lt : D < w.heap.size
theorem GC.same {w w' : World} {D : Nat} {y : Option Addr} {cy : Nat} {s : RS} (h : GC w D y cy s) (hs : w.heap.size ≤ w'.heap.size) (e : w'.heap[D]? = w.heap[D]?) : GC w' D y cy s := by
  have hc : ∀ j, w'.cell? ⟨D, j, none⟩ = w.cell? ⟨D, j, none⟩ := fun j => World.cell?_of_block (w := w) (w' := w') (a := ⟨D, j, none⟩) e
  exact ⟨(hc 0).trans h.c0, (hc 1).trans h.c1, (hc 2).trans h.c2, (hc 3).trans h.c3, fun j => (World.frozen?_of_block (w := w) (w' := w') (a := ⟨D, j, none⟩) e).trans (h.fr j), Nat.lt_of_lt_of_le h.lt hs⟩
theorem GC.below {w w' : World} {D : Nat} {y : Option Addr} {cy : Nat} {s : RS} (h : GC w D y cy s) (b : Below w.heap.size w w') : GC w' D y cy s := h.same b.size (b.block D h.lt)
theorem GC.alloc {w : World} {D : Nat} {y : Option Addr} {cy : Nat} {s : RS} (h : GC w D y cy s) (o : Obj) : GC (w.alloc o) D y cy s := h.below ((Below.refl _ _).alloc (Nat.le_refl _) o)
theorem GC.mv {w w' : World} {D G : Nat} {v v' : Value} {y : Option Addr} {cy : Nat} {s : RS} (h : GC w D y cy s) (m : Mv w w' G v v') (hg : D ≠ G) (hv : v.ownBlock ≠ some D) : GC w' D y cy s := h.same m.size (m.block D h.lt hg hv)
theorem GC.shut {w : World} {D : Nat} {y : Option Addr} {cy : Nat} {s s' : RS} (h : GC w D y cy s) (ho : s'.out.length = s.out.length) (ht : s'.tk = s.tk) : GC ((w.setCell ⟨D, 1, none⟩ (.int .i64 (s'.code : Int))).setCell ⟨D, 2, none⟩ (.int .i64 (s'.fat : Int))) D y cy s' := by
  have e1 : (w.setCell ⟨D, 1, none⟩ (.int .i64 (s'.code : Int))).cell? ⟨D, 2, none⟩ = some (.int .i64 (s.fat : Int)) := (cell_other w D 2 1 _ (by decide)).trans h.c2
  refine ⟨?_, ?_, World.cell?_setCell_same _ _ _ e1, ?_, fun j => by rw [World.frozen?_setCell, World.frozen?_setCell]; exact h.fr j, by simpa using h.lt⟩
  · rw [cell_other _ D 0 2 _ (by decide), cell_other _ D 0 1 _ (by decide), ho]; exact h.c0
  · rw [cell_other _ D 1 2 _ (by decide)]; exact World.cell?_setCell_same _ _ _ h.c1
  · rw [cell_other _ D 3 2 _ (by decide), cell_other _ D 3 1 _ (by decide), ht]; exact h.c3
theorem GC.store {w : World} {D : Nat} {y : Option Addr} {cy : Nat} {s s' : RS} (h : GC w D y cy s) (y' : Option Addr) (cy' : Nat) : GC ((((w.setCell ⟨D, 0, none⟩ (.slice y' s'.out.length cy')).setCell ⟨D, 1, none⟩ (.int .i64 (s'.code : Int))).setCell ⟨D, 2, none⟩ (.int .i64 (s'.fat : Int))).setCell ⟨D, 3, none⟩ (.int .i64 (s'.tk : Int))) D y' cy' s' := by
  have e1 : (w.setCell ⟨D, 0, none⟩ (.slice y' s'.out.length cy')).cell? ⟨D, 1, none⟩ = some (.int .i64 (s.code : Int)) := (cell_other w D 1 0 _ (by decide)).trans h.c1
  have e2 : ((w.setCell ⟨D, 0, none⟩ (.slice y' s'.out.length cy')).setCell ⟨D, 1, none⟩ (.int .i64 (s'.code : Int))).cell? ⟨D, 2, none⟩ = some (.int .i64 (s.fat : Int)) := (cell_other _ D 2 1 _ (by decide)).trans ((cell_other w D 2 0 _ (by decide)).trans h.c2)
  have e3 : (((w.setCell ⟨D, 0, none⟩ (.slice y' s'.out.length cy')).setCell ⟨D, 1, none⟩ (.int .i64 (s'.code : Int))).setCell ⟨D, 2, none⟩ (.int .i64 (s'.fat : Int))).cell? ⟨D, 3, none⟩ = some (.int .i64 (s.tk : Int)) := (cell_other _ D 3 2 _ (by decide)).trans ((cell_other _ D 3 1 _ (by decide)).trans ((cell_other w D 3 0 _ (by decide)).trans h.c3))
  refine ⟨?_, ?_, ?_, World.cell?_setCell_same _ _ _ e3, fun j => by rw [World.frozen?_setCell, World.frozen?_setCell, World.frozen?_setCell, World.frozen?_setCell]; exact h.fr j, by simpa using h.lt⟩
  · rw [cell_other _ D 0 3 _ (by decide), cell_other _ D 0 2 _ (by decide), cell_other _ D 0 1 _ (by decide)]; exact World.cell?_setCell_same _ _ _ h.c0
  · rw [cell_other _ D 1 3 _ (by decide), cell_other _ D 1 2 _ (by decide)]; exact World.cell?_setCell_same _ _ _ e1
  · rw [cell_other _ D 2 3 _ (by decide)]; exact World.cell?_setCell_same _ _ _ e2
theorem Rd.far {w : World} {g : Nat} {v : Value} {s : RS} (h : Rd w g v s) (D j : Nat) (x : Value) (hg : g ≠ D) (hv : v.ownBlock ≠ some D) : Rd (w.setCell ⟨D, j, none⟩ x) g v s :=
  h.same (by simp) (Below.heap_setCell w _ _ g hg) (fun k hk => Below.heap_setCell w _ _ k (fun e => hv (by rw [hk, e])))

set_option maxHeartbeats 8000000 in
set_option maxRecDepth 8000 in
theorem plays_walk (pl : List UInt8) (most : Int) (x : Option Addr) (n c : Nat) (cl : Nat → Bool) (t : Nat → List UInt8) (w : World) (hX : OpRow w x n cl t) (hpl : pl.length ≤ 1048576) (hm : most ≤ 9223372036854775807) (hn : n ≤ 1048576) (hS : preB t n ≤ 1048576) :
    Calls Try.prog 5 #[.string (ba pl), .int .i64 most, .slice x n c] w fun e w' => e = .returned (.bool true) ∧ Below w.heap.size w w' := by
  have HX : Hid (OpRow w x n cl t) := hX
  have RC : Hid (∀ (A : List UInt8) (w : World), A.length ≤ 1048576 → Calls Try.prog 17 #[.string (ba A), .string (ba pl), .int .i64 most] w fun e w' => ∃ v, e = .returned (gotV v (stP pl most.toNat A false).got) ∧ OwnJ w' w.heap.size v (stP pl most.toNat A false).out ∧ Below w.heap.size w w') := fun A w h => by
    refine (read_any A pl most w (by omega) (by omega) hm).mono ?_
    rintro e w' ⟨v, rfl, O, b⟩
    rw [stP_read] at O ⊢
    exact ⟨v, rfl, O, b⟩
  have CC : Hid (∀ (A : List UInt8) (w : World), A.length ≤ 1048576 → Calls Try.prog 18 #[.string (ba A), .string (ba pl), .int .i64 most] w fun e w' => e = .returned (.tuple #[.int .i64 ((stP pl most.toNat A true).code : Int), .int .i64 ((stP pl most.toNat A true).fat : Int)]) ∧ Below w.heap.size w w') := fun A w h => by
    refine (closed_any A pl most w (by omega) (by omega) hm).mono ?_
    rintro e w' ⟨rfl, b⟩
    rw [(stP_closed pl most.toNat A).1, (stP_closed pl most.toNat A).2]
    exact ⟨rfl, b⟩
  have NC : Hid (∀ w : World, Calls Try.prog 20 #[.string (ba pl), .int .i64 most] w fun e w' => e = .returned (.pointer (some ⟨w.heap.size, 0, none⟩)) ∧ Rd w' w.heap.size (.slice none 0 0) (stP pl most.toNat [] false) ∧ Below w.heap.size w w') := fun w => newReader_any pl most w (by omega) hm
  have HI0 : Hid ((stP pl most.toNat [] false).off = true ∨ (stP pl most.toNat [] false).Inv) := rsNew_ok pl most.toNat (by omega)
  have HO0 : Hid ((stP pl most.toNat [] false).out.length = 0) := by
    unfold Hid
    show (rsNew pl most.toNat).out.length = 0
    rw [(rsNew_tk pl most.toNat).2]
    rfl
  clear hX hpl hm
  generalize most.toNat = m at *
  go_enter Try.func5, Try.ntmps5
  go_wp2_with fail
  refine (awake_any w).mono ?_
  rintro e w1 ⟨rfl, b1⟩
  go_wp2_with fail
  refine (NC.out _).mono ?_
  rintro e w2 ⟨rfl, R2, b2⟩
  have B2 : Hid (Below w.heap.size w w2) := b1.trans (b2.mono b1.size)
  have HR2 : Hid (Rd w2 w1.heap.size (.slice none 0 0) (stP pl m [] false)) := R2
  have hG : w.heap.size ≤ w1.heap.size := b1.size
  clear b1 b2 R2 NC
  generalize w1.heap.size = G at *
  go_wp2_with fail
  refine (RC.out [] _ (by decide)).mono ?_
  rintro e w3 ⟨v, rfl, OJ, b3⟩
  have B3 : Hid (Below w.heap.size w w3) := B2.out.trans (b3.mono B2.out.size)
  have HR3 : Hid (Rd w3 G (.slice none 0 0) (stP pl m [] false)) := HR2.out.below b3
  obtain ⟨y, cy, rfl⟩ : ∃ x c, v = .slice x (stP pl m [] false).out.length c := by
    rcases OJ.open with ⟨h, h2⟩ | ⟨g, cap, h, _⟩
    · exact ⟨none, 0, by rw [h, h2]; rfl⟩
    · exact ⟨_, _, h⟩
  clear OJ b3 HR2 B2
  unfold gotV
  have hD : w.heap.size ≤ w3.heap.size := B3.out.size
  have hDG : w3.heap.size ≠ G := by have := HR3.out.lt; omega
  have HG3 : Hid (GC (w3.alloc (.cells #[.slice y (stP pl m [] false).out.length cy, .int .i64 ((stP pl m [] false).got.code : Int), .int .i64 ((stP pl m [] false).got.fat : Int), .int .i64 ((stP pl m [] false).got.tk : Int)] 36)) w3.heap.size y cy (stP pl m [] false)) :=
    ⟨(World.cell?_alloc_new w3 _ _ 0).trans rfl, (World.cell?_alloc_new w3 _ _ 1).trans rfl, (World.cell?_alloc_new w3 _ _ 2).trans rfl, (World.cell?_alloc_new w3 _ _ 3).trans rfl, fun j => World.frozen?_alloc_new w3 _ _ j, by rw [World.size_alloc]; omega⟩
  have HR4 : Hid (Rd (w3.alloc (.cells #[.slice y (stP pl m [] false).out.length cy, .int .i64 ((stP pl m [] false).got.code : Int), .int .i64 ((stP pl m [] false).got.fat : Int), .int .i64 ((stP pl m [] false).got.tk : Int)] 36)) G (.slice none 0 0) (stP pl m [] false)) := HR3.out.alloc _
  have B4 : Hid (Below w.heap.size w (w3.alloc (.cells #[.slice y (stP pl m [] false).out.length cy, .int .i64 ((stP pl m [] false).got.code : Int), .int .i64 ((stP pl m [] false).got.fat : Int), .int .i64 ((stP pl m [] false).got.tk : Int)] 36))) := B3.out.alloc B3.out.size _
  go_wp2
  generalize w3.heap.size = D at *
  go_loopw [8, 9, 10, 29] (fun v8 v9 v10 ix wr => ∃ (k : Nat) (A : List UInt8) (sh : Bool) (v : Value) (y : Option Addr) (cy : Nat), k ≤ n ∧ ix = .int .i64 k ∧ v8 = .string (ba A) ∧ v9 = .int .i64 ((stP pl m A sh).out.length : Int) ∧ v10 = .bool sh ∧ Hid (Rd wr G v (stP pl m A sh)) ∧ Hid ((stP pl m A sh).off = true ∨ (stP pl m A sh).Inv) ∧ Hid (A.length ≤ preB t k) ∧ Hid (GC wr D y cy (stP pl m A sh)) ∧ Hid (Below w.heap.size w wr) ∧ Hid (∀ q, v.ownBlock = some q → w.heap.size ≤ q ∧ q ≠ D)) (fun _ _ _ i _ => n - (intOf i).toNat)
  case atStart => exact ⟨0, [], false, .slice none 0 0, y, cy, Nat.zero_le _, rfl, rfl, by rw [HO0.out]; rfl, rfl, HR4, HI0, Nat.zero_le _, HG3, B4, fun q h => by cases h⟩
  case round =>
    clear HG3 HR4 B4 B3 HR3 HI0 HO0
    obtain ⟨k, A, sh, v, y, cy, hk, rfl, rfl, rfl, rfl, HR, HI, HA, HGC, HB, HV⟩ := hrel
    by_cases hlt : k < n
    · obtain ⟨b, o, rfl, hb, c0, c1⟩ := HX.out.cell k hlt
      have d0 : wr.cell? ⟨b, o + k * 2, none⟩ = _ := (HB.out.cell (p := ⟨b, o + k * 2, none⟩) hb).trans c0
      have d1 : wr.cell? ⟨b, o + k * 2 + 1, none⟩ = _ := (HB.out.cell (p := ⟨b, o + k * 2 + 1, none⟩) hb).trans c1
      have HPM : Hid (preB t k + (t k).length ≤ 1048576) := by have := preB_mono t (k + 1) n (by omega); have e : preB t (k + 1) = preB t k + (t k).length := rfl; unfold Hid; omega
      clear c0 c1
      cases hcl : cl k
      · rw [hcl] at d0
        clear hcl
        cases sh
        · skip
          obtain ⟨u, hu⟩ : ∃ u, t k = u := ⟨_, rfl⟩
          have HPM2 : Hid (preB t (k + 1) = preB t k + u.length) := by unfold Hid; rw [← hu]; rfl
          rw [hu] at d1 HPM
          have hsu := ba_size u
          have hsA := ba_size A
          have hAu : A.length + u.length ≤ 1048576 := by have := HA.out; have := HPM.out; omega
          clear hu
          have HR1 : Hid (Rd (wr.alloc (.cells #[.bool false, .string (ba u)] 46)) G v (stP pl m A false)) := HR.out.alloc _
          have HG1 : Hid (GC (wr.alloc (.cells #[.bool false, .string (ba u)] 46)) D y cy (stP pl m A false)) := HGC.out.alloc _
          have HB1 : Hid (Below w.heap.size w (wr.alloc (.cells #[.bool false, .string (ba u)] 46))) := HB.out.alloc HB.out.size _
          obtain ⟨cc, w5, hcv, hps, b5⟩ := PSl.conv (wr.alloc (.cells #[.bool false, .string (ba u)] 46)) u G v HR1.out.lt (fun q h => (HR1.out.buf.lt q h).2)
          rw [World.size_alloc] at hcv hps
          have HP5 : Hid (PSl w5 G v (some ⟨wr.heap.size + 1, 0, none⟩) u) := hps
          have HR5 : Hid (Rd w5 G v (stP pl m A false)) := HR1.out.below b5
          have HG5 : Hid (GC w5 D y cy (stP pl m A false)) := HG1.out.below b5
          have HB5 : Hid (Below w.heap.size w w5) := HB1.out.trans (b5.mono HB1.out.size)
          have hzo : (wr.alloc (.cells #[.bool false, .string (ba u)] 46)).heap.size = wr.heap.size + 1 := World.size_alloc _ _
          have o1 : Hid (w5.cell? ⟨wr.heap.size, 1, none⟩ = some (.string (ba u)) ∧ wr.heap.size < w5.heap.size ∧ wr.heap.size ≠ G ∧ v.ownBlock ≠ some wr.heap.size) := ⟨(b5.cell (p := ⟨wr.heap.size, 1, none⟩) (by rw [hzo]; show wr.heap.size < _; omega)).trans ((World.cell?_alloc_new wr _ _ 1).trans rfl), (by have := b5.size; omega), (HR.out.newBlock _ (Nat.le_refl _)).1, (HR.out.newBlock _ (Nat.le_refl _)).2⟩
          clear hps b5 HR1 HG1 HB1 HR HGC HB hzo
          go_wp2_with fail
          refine (feed_any G v (stP pl m A false) (some ⟨wr.heap.size + 1, 0, none⟩) cc u w5 HR5.out HI.out HP5.out (by have := stP_tk pl m A false; omega)).mono ?_
          rintro e w6 ⟨vT, r, Lx, rfl, R6, I6, M6, O6, hOx, -⟩
          have HVT : Hid (∀ q, vT.ownBlock = some q → w.heap.size ≤ q ∧ q ≠ D) := fun q hq => (M6.new q hq).elim (fun h => HV.out q h) (fun h => by have := HG5.out.lt; have := HB5.out.size; omega)
          have HG6 : Hid (GC w6 D y cy (stP pl m A false)) := HG5.out.mv M6 hDG (fun h => (HV.out D h).2 rfl)
          have HB6 : Hid (Below w.heap.size w w6) := HB5.out.trans (M6.keeps w.heap.size HB5.out.size hG (fun q h => (HV.out q h).1))
          have o6 : w6.cell? ⟨wr.heap.size, 1, none⟩ = some (.string (ba u)) := (M6.cell _ _ o1.out.2.1 o1.out.2.2.1 o1.out.2.2.2).trans o1.out.1
          have hO6 : Hid (OwnI w6 0 r Lx) := O6.mono (Nat.zero_le _)
          rw [stP_on] at R6 I6 hOx
          have HR6 : Hid (Rd w6 G vT (stP pl m (A ++ u) false)) := R6
          have HDO : Hid (∀ q, r.ownBlock = some q → q ≠ D) := fun q h => by have := (O6.lt q h).1; have := HG5.out.lt; omega
          have HIT : Hid ((stP pl m (A ++ u) false).off = true ∨ (stP pl m (A ++ u) false).Inv) := I6
          have HOX : Hid ((stP pl m (A ++ u) false).out = (stP pl m A false).out ++ Lx) := hOx
          have HAT : Hid ((A ++ u).length ≤ preB t (k + 1)) := by have := HA.out; have := HPM2.out; unfold Hid; rw [List.length_append]; omega
          have hAuL : (A ++ u).length ≤ 1048576 := by rw [List.length_append]; exact hAu
          clear R6 I6 M6 O6 hOx HR5 HG5 HB5 HP5 hcv o1 HI HV
          go_wp2_with fail
          rw [← ba_append]
          refine (RC.out (A ++ u) _ hAuL).mono ?_
          rintro e w7 ⟨v7, rfl, OJ, b7⟩
          have HG7 : Hid (GC w7 D y cy (stP pl m A false)) := HG6.out.below b7
          have HR7 : Hid (Rd w7 G vT (stP pl m (A ++ u) false)) := HR6.out.below b7
          have HB7 : Hid (Below w.heap.size w w7) := HB6.out.trans (b7.mono HB6.out.size)
          have HO7 : Hid (OwnI w7 0 r Lx) := hO6.out.same (fun q hq => b7.block q (hO6.out.lt q hq).2)
          have HDJ : Hid (∀ q, v7.ownBlock = some q → q ≠ D) := fun q h => by have := (OJ.lt q h).1; have := HG6.out.lt; omega
          obtain ⟨y7, c7, rfl⟩ : ∃ x c, v7 = .slice x (stP pl m (A ++ u) false).out.length c := by
            rcases OJ.open with ⟨h, h2⟩ | ⟨g, cap, h, _⟩
            · exact ⟨none, 0, by rw [h, h2]; rfl⟩
            · exact ⟨_, _, h⟩
          have HJ7 : Hid (OwnJ w7 0 (.slice y7 (stP pl m (A ++ u) false).out.length c7) ((stP pl m A false).out ++ Lx)) := by rw [HOX.out] at OJ ⊢; exact OJ.mono (Nat.zero_le _)
          unfold gotV
          have g0 := HG7.out.c0
          have g1 := HG7.out.c1
          have g2 := HG7.out.c2
          have g3 := HG7.out.c3
          have z0 := HG7.out.fr 0
          have z1 := HG7.out.fr 1
          have z2 := HG7.out.fr 2
          have z3 := HG7.out.fr 3
          have W8 : Hid (GC ((((w7.setCell ⟨D, 0, none⟩ (.slice y7 (stP pl m (A ++ u) false).out.length c7)).setCell ⟨D, 1, none⟩ (.int .i64 ((stP pl m (A ++ u) false).got.code : Int))).setCell ⟨D, 2, none⟩ (.int .i64 ((stP pl m (A ++ u) false).got.fat : Int))).setCell ⟨D, 3, none⟩ (.int .i64 ((stP pl m (A ++ u) false).got.tk : Int))) D y7 c7 (stP pl m (A ++ u) false)) := HG7.out.store y7 c7
          have W8R : Hid (Rd ((((w7.setCell ⟨D, 0, none⟩ (.slice y7 (stP pl m (A ++ u) false).out.length c7)).setCell ⟨D, 1, none⟩ (.int .i64 ((stP pl m (A ++ u) false).got.code : Int))).setCell ⟨D, 2, none⟩ (.int .i64 ((stP pl m (A ++ u) false).got.fat : Int))).setCell ⟨D, 3, none⟩ (.int .i64 ((stP pl m (A ++ u) false).got.tk : Int))) G vT (stP pl m (A ++ u) false)) := (((HR7.out.far D 0 _ (fun h => hDG h.symm) (fun h => (HVT.out D h).2 rfl)).far D 1 _ (fun h => hDG h.symm) (fun h => (HVT.out D h).2 rfl)).far D 2 _ (fun h => hDG h.symm) (fun h => (HVT.out D h).2 rfl)).far D 3 _ (fun h => hDG h.symm) (fun h => (HVT.out D h).2 rfl)
          have W8B : Hid (Below w.heap.size w ((((w7.setCell ⟨D, 0, none⟩ (.slice y7 (stP pl m (A ++ u) false).out.length c7)).setCell ⟨D, 1, none⟩ (.int .i64 ((stP pl m (A ++ u) false).got.code : Int))).setCell ⟨D, 2, none⟩ (.int .i64 ((stP pl m (A ++ u) false).got.fat : Int))).setCell ⟨D, 3, none⟩ (.int .i64 ((stP pl m (A ++ u) false).got.tk : Int)))) := (((HB7.out.setCell hD _).setCell hD _).setCell hD _).setCell hD _
          have W8O : Hid (OwnI ((((w7.setCell ⟨D, 0, none⟩ (.slice y7 (stP pl m (A ++ u) false).out.length c7)).setCell ⟨D, 1, none⟩ (.int .i64 ((stP pl m (A ++ u) false).got.code : Int))).setCell ⟨D, 2, none⟩ (.int .i64 ((stP pl m (A ++ u) false).got.fat : Int))).setCell ⟨D, 3, none⟩ (.int .i64 ((stP pl m (A ++ u) false).got.tk : Int))) 0 r Lx) := HO7.out.same (fun q hq => (Below.heap_setCell _ _ _ q (HDO.out q hq)).trans ((Below.heap_setCell _ _ _ q (HDO.out q hq)).trans ((Below.heap_setCell _ _ _ q (HDO.out q hq)).trans (Below.heap_setCell _ _ _ q (HDO.out q hq)))))
          have W8J : Hid (OwnJ ((((w7.setCell ⟨D, 0, none⟩ (.slice y7 (stP pl m (A ++ u) false).out.length c7)).setCell ⟨D, 1, none⟩ (.int .i64 ((stP pl m (A ++ u) false).got.code : Int))).setCell ⟨D, 2, none⟩ (.int .i64 ((stP pl m (A ++ u) false).got.fat : Int))).setCell ⟨D, 3, none⟩ (.int .i64 ((stP pl m (A ++ u) false).got.tk : Int))) 0 (.slice y7 (stP pl m (A ++ u) false).out.length c7) ((stP pl m A false).out ++ Lx)) := HJ7.out.same (fun q hq => (Below.heap_setCell _ _ _ q (HDJ.out q hq)).trans ((Below.heap_setCell _ _ _ q (HDJ.out q hq)).trans ((Below.heap_setCell _ _ _ q (HDJ.out q hq)).trans (Below.heap_setCell _ _ _ q (HDJ.out q hq)))))
          have hXl : Hid ((stP pl m A false).out.length + Lx.length ≤ 1073741824) := by have h := stP_outs pl m (A ++ u) false; rw [HOX.out, List.length_append] at h; unfold Hid; omega
          clear OJ b7 HJ7 HO7 HG7 HR7 HB7 HG6 HR6 HB6 HDJ HDO hO6
          go_wp2_with fail
          generalize (((w7.setCell ⟨D, 0, none⟩ (.slice y7 (stP pl m (A ++ u) false).out.length c7)).setCell ⟨D, 1, none⟩ (.int .i64 ((stP pl m (A ++ u) false).got.code : Int))).setCell ⟨D, 2, none⟩ (.int .i64 ((stP pl m (A ++ u) false).got.fat : Int))).setCell ⟨D, 3, none⟩ (.int .i64 ((stP pl m (A ++ u) false).got.tk : Int)) = wS at *
          refine (same_from r _ (stP pl m A false).out Lx wS W8O.out W8J.out hXl.out).mono ?_
          rintro e wQ ⟨rfl, bQ⟩
          have HGT : Hid (GC wQ D y7 c7 (stP pl m (A ++ u) false)) := W8.out.below bQ
          have HRT : Hid (Rd wQ G vT (stP pl m (A ++ u) false)) := W8R.out.below bQ
          have HBT : Hid (Below w.heap.size w wQ) := W8B.out.trans (bQ.mono W8B.out.size)
          have q0 := HGT.out.c0
          clear bQ W8 W8R W8B W8O W8J hXl g0 g1 g2 g3 z0 z1 z2 z3
          go_wp2_with fail
          refine (fault_any G vT (stP pl m (A ++ u) false) _ HRT.out).mono ?_
          rintro e w8 ⟨rfl, b8⟩
          have HR8 : Hid (Rd w8 G vT (stP pl m (A ++ u) false)) := HRT.out.below b8
          have HG8 : Hid (GC w8 D y7 c7 (stP pl m (A ++ u) false)) := HGT.out.below b8
          have HB8 : Hid (Below w.heap.size w w8) := HBT.out.trans (b8.mono HBT.out.size)
          clear b8 HRT HGT HBT
          have f0 : (w8.alloc (.cells #[.int .i64 ((stP pl m (A ++ u) false).code : Int), .int .i64 ((stP pl m (A ++ u) false).fat : Int)] 31)).cell? ⟨w8.heap.size, 0, none⟩ = some (.int .i64 ((stP pl m (A ++ u) false).code : Int)) := (World.cell?_alloc_new w8 _ _ 0).trans rfl
          have f1 : (w8.alloc (.cells #[.int .i64 ((stP pl m (A ++ u) false).code : Int), .int .i64 ((stP pl m (A ++ u) false).fat : Int)] 31)).cell? ⟨w8.heap.size, 1, none⟩ = some (.int .i64 ((stP pl m (A ++ u) false).fat : Int)) := (World.cell?_alloc_new w8 _ _ 1).trans rfl
          have HR9 : Hid (Rd (w8.alloc (.cells #[.int .i64 ((stP pl m (A ++ u) false).code : Int), .int .i64 ((stP pl m (A ++ u) false).fat : Int)] 31)) G vT (stP pl m (A ++ u) false)) := HR8.out.alloc _
          have HG9 : Hid (GC (w8.alloc (.cells #[.int .i64 ((stP pl m (A ++ u) false).code : Int), .int .i64 ((stP pl m (A ++ u) false).fat : Int)] 31)) D y7 c7 (stP pl m (A ++ u) false)) := HG8.out.alloc _
          have HB9 : Hid (Below w.heap.size w (w8.alloc (.cells #[.int .i64 ((stP pl m (A ++ u) false).code : Int), .int .i64 ((stP pl m (A ++ u) false).fat : Int)] 31))) := HB8.out.alloc HB8.out.size _
          have g1 := HG9.out.c1
          have g2 := HG9.out.c2
          have g3 := HG9.out.c3
          clear HR8 HG8 HB8
          go_wp2
          generalize w8.alloc (.cells #[.int .i64 ((stP pl m (A ++ u) false).code : Int), .int .i64 ((stP pl m (A ++ u) false).fat : Int)] 31) = w9 at *
          generalize w8.heap.size = F8 at *
          have TK : Hid (∀ q, Calls Try.prog 24 #[.pointer (some ⟨G, 0, none⟩)] (w9.drewN q) fun e w' => e = .returned (.int .i64 ((stP pl m (A ++ u) false).tk : Int)) ∧ w' = w9.drewN q) := fun q => taken_any G vT (stP pl m (A ++ u) false) _ (HR9.out.drewN q)
          go_quiet ((go_at_call 24; exact Calls.quiet_of_same (TK.out _)))
          go_wp2
          all_goals exact ⟨⟨k + 1, (A ++ u), false, vT, y7, c7, by omega, by go_num, by first | rfl | rw [ba_append], by first | rfl | rw [hout.out], rfl, HR9.out.drewN _, HIT, HAT, HG9.out.same (Nat.le_refl _) rfl, bel_drewN HB9.out _, HVT⟩, by simp [intOf]; omega⟩
        · skip
          obtain ⟨u, hu⟩ : ∃ u, t k = u := ⟨_, rfl⟩
          have HPM2 : Hid (preB t (k + 1) = preB t k + u.length) := by unfold Hid; rw [← hu]; rfl
          rw [hu] at d1 HPM
          have hsu := ba_size u
          have hsA := ba_size A
          have hAu : A.length + u.length ≤ 1048576 := by have := HA.out; have := HPM.out; omega
          clear hu
          have HR1 : Hid (Rd (wr.alloc (.cells #[.bool false, .string (ba u)] 46)) G v (stP pl m A true)) := HR.out.alloc _
          have HG1 : Hid (GC (wr.alloc (.cells #[.bool false, .string (ba u)] 46)) D y cy (stP pl m A true)) := HGC.out.alloc _
          have HB1 : Hid (Below w.heap.size w (wr.alloc (.cells #[.bool false, .string (ba u)] 46))) := HB.out.alloc HB.out.size _
          obtain ⟨cc, w5, hcv, hps, b5⟩ := PSl.conv (wr.alloc (.cells #[.bool false, .string (ba u)] 46)) u G v HR1.out.lt (fun q h => (HR1.out.buf.lt q h).2)
          rw [World.size_alloc] at hcv hps
          have HP5 : Hid (PSl w5 G v (some ⟨wr.heap.size + 1, 0, none⟩) u) := hps
          have HR5 : Hid (Rd w5 G v (stP pl m A true)) := HR1.out.below b5
          have HG5 : Hid (GC w5 D y cy (stP pl m A true)) := HG1.out.below b5
          have HB5 : Hid (Below w.heap.size w w5) := HB1.out.trans (b5.mono HB1.out.size)
          have hzo : (wr.alloc (.cells #[.bool false, .string (ba u)] 46)).heap.size = wr.heap.size + 1 := World.size_alloc _ _
          have o1 : Hid (w5.cell? ⟨wr.heap.size, 1, none⟩ = some (.string (ba u)) ∧ wr.heap.size < w5.heap.size ∧ wr.heap.size ≠ G ∧ v.ownBlock ≠ some wr.heap.size) := ⟨(b5.cell (p := ⟨wr.heap.size, 1, none⟩) (by rw [hzo]; show wr.heap.size < _; omega)).trans ((World.cell?_alloc_new wr _ _ 1).trans rfl), (by have := b5.size; omega), (HR.out.newBlock _ (Nat.le_refl _)).1, (HR.out.newBlock _ (Nat.le_refl _)).2⟩
          clear hps b5 HR1 HG1 HB1 HR HGC HB hzo
          go_wp2_with fail
          refine (feed_any G v (stP pl m A true) (some ⟨wr.heap.size + 1, 0, none⟩) cc u w5 HR5.out HI.out HP5.out (by have := stP_tk pl m A true; omega)).mono ?_
          rintro e w6 ⟨vT, r, Lx, rfl, R6, I6, M6, O6, hOx, -⟩
          have HVT : Hid (∀ q, vT.ownBlock = some q → w.heap.size ≤ q ∧ q ≠ D) := fun q hq => (M6.new q hq).elim (fun h => HV.out q h) (fun h => by have := HG5.out.lt; have := HB5.out.size; omega)
          have HG6 : Hid (GC w6 D y cy (stP pl m A true)) := HG5.out.mv M6 hDG (fun h => (HV.out D h).2 rfl)
          have HB6 : Hid (Below w.heap.size w w6) := HB5.out.trans (M6.keeps w.heap.size HB5.out.size hG (fun q h => (HV.out q h).1))
          have o6 : w6.cell? ⟨wr.heap.size, 1, none⟩ = some (.string (ba u)) := (M6.cell _ _ o1.out.2.1 o1.out.2.2.1 o1.out.2.2.2).trans o1.out.1
          have hO6 : Hid (OwnI w6 0 r Lx) := O6.mono (Nat.zero_le _)
          rw [stP_off] at R6 I6 hOx
          have hLx : Lx = [] := List.append_cancel_left (by rw [List.append_nil]; exact hOx.symm)
          subst hLx
          obtain ⟨xr, cr, rfl⟩ : ∃ x c, r = .slice x 0 c := by
            rcases O6.open with ⟨h, _⟩ | ⟨g, cap, h, _⟩
            · exact ⟨none, 0, h⟩
            · exact ⟨_, _, h⟩
          have HR6 : Hid (Rd w6 G vT (stP pl m A true)) := R6
          have HIT : Hid ((stP pl m A true).off = true ∨ (stP pl m A true).Inv) := I6
          have HAT : Hid (A.length ≤ preB t (k + 1)) := by have := HA.out; have := HPM2.out; unfold Hid; omega
          have g0 := HG6.out.c0
          clear R6 I6 M6 O6 hOx HR5 HG5 HB5 HP5 hcv o1 HI HV hO6
          go_wp2_with fail
          refine (same_none xr y cr cy _ _).mono ?_
          rintro e w7 ⟨rfl, b7⟩
          have HGT : Hid (GC w7 D y cy (stP pl m A true)) := HG6.out.below b7
          have HRT : Hid (Rd w7 G vT (stP pl m A true)) := HR6.out.below b7
          have HBT : Hid (Below w.heap.size w w7) := HB6.out.trans (b7.mono HB6.out.size)
          have g0' := HGT.out.c0
          clear b7 HG6 HR6 HB6 g0
          go_wp2_with fail
          refine (fault_any G vT (stP pl m A true) _ HRT.out).mono ?_
          rintro e w8 ⟨rfl, b8⟩
          have HR8 : Hid (Rd w8 G vT (stP pl m A true)) := HRT.out.below b8
          have HG8 : Hid (GC w8 D y cy (stP pl m A true)) := HGT.out.below b8
          have HB8 : Hid (Below w.heap.size w w8) := HBT.out.trans (b8.mono HBT.out.size)
          clear b8 HRT HGT HBT
          have f0 : (w8.alloc (.cells #[.int .i64 ((stP pl m A true).code : Int), .int .i64 ((stP pl m A true).fat : Int)] 31)).cell? ⟨w8.heap.size, 0, none⟩ = some (.int .i64 ((stP pl m A true).code : Int)) := (World.cell?_alloc_new w8 _ _ 0).trans rfl
          have f1 : (w8.alloc (.cells #[.int .i64 ((stP pl m A true).code : Int), .int .i64 ((stP pl m A true).fat : Int)] 31)).cell? ⟨w8.heap.size, 1, none⟩ = some (.int .i64 ((stP pl m A true).fat : Int)) := (World.cell?_alloc_new w8 _ _ 1).trans rfl
          have HR9 : Hid (Rd (w8.alloc (.cells #[.int .i64 ((stP pl m A true).code : Int), .int .i64 ((stP pl m A true).fat : Int)] 31)) G vT (stP pl m A true)) := HR8.out.alloc _
          have HG9 : Hid (GC (w8.alloc (.cells #[.int .i64 ((stP pl m A true).code : Int), .int .i64 ((stP pl m A true).fat : Int)] 31)) D y cy (stP pl m A true)) := HG8.out.alloc _
          have HB9 : Hid (Below w.heap.size w (w8.alloc (.cells #[.int .i64 ((stP pl m A true).code : Int), .int .i64 ((stP pl m A true).fat : Int)] 31))) := HB8.out.alloc HB8.out.size _
          have g1 := HG9.out.c1
          have g2 := HG9.out.c2
          have g3 := HG9.out.c3
          clear HR8 HG8 HB8
          go_wp2
          generalize w8.alloc (.cells #[.int .i64 ((stP pl m A true).code : Int), .int .i64 ((stP pl m A true).fat : Int)] 31) = w9 at *
          generalize w8.heap.size = F8 at *
          have TK : Hid (∀ q, Calls Try.prog 24 #[.pointer (some ⟨G, 0, none⟩)] (w9.drewN q) fun e w' => e = .returned (.int .i64 ((stP pl m A true).tk : Int)) ∧ w' = w9.drewN q) := fun q => taken_any G vT (stP pl m A true) _ (HR9.out.drewN q)
          go_quiet ((go_at_call 24; exact Calls.quiet_of_same (TK.out _)))
          go_wp2
          all_goals exact ⟨⟨k + 1, A, true, vT, y, cy, by omega, by go_num, by first | rfl | rw [ba_append], by first | rfl | rw [hout.out], rfl, HR9.out.drewN _, HIT, HAT, HG9.out.same (Nat.le_refl _) rfl, bel_drewN HB9.out _, HVT⟩, by simp [intOf]; omega⟩
      · rw [hcl] at d0
        clear hcl
        cases sh
        · skip
          rw [show stP pl m A false = stP pl m A false from rfl]
          go_wp2_with fail
          refine (close_any G v (stP pl m A false) _ (HR.out.alloc _)).mono ?_
          rintro e w4 ⟨vT, rfl, R4, M4⟩
          rw [stP_shut] at R4 ⊢
          have HV4 : Hid (∀ q, vT.ownBlock = some q → w.heap.size ≤ q ∧ q ≠ D) := fun q hq => (M4.new q hq).elim (fun h => HV.out q h) (fun h => by have := HGC.out.lt; have := HB.out.size; rw [World.size_alloc] at h; omega)
          have HG4 : Hid (GC w4 D y cy (stP pl m A false)) := (HGC.out.alloc _).mv M4 hDG (fun h => (HV.out D h).2 rfl)
          have HR4 : Hid (Rd w4 G vT (stP pl m A true)) := R4
          have HB4 : Hid (Below w.heap.size w w4) := (HB.out.alloc HB.out.size _).trans (M4.keeps w.heap.size (by rw [World.size_alloc]; have := HB.out.size; omega) hG (fun q h => (HV.out q h).1))
          clear M4 R4 HR HGC HB
          go_wp2_with fail
          refine (CC.out A _ (by have := HA.out; have := HPM.out; omega)).mono ?_
          rintro e w6 ⟨rfl, b6⟩
          have hz : (w4.alloc (.cells #[.int .i64 ((stP pl m A true).code : Int), .int .i64 ((stP pl m A true).fat : Int)] 31)).heap.size = w4.heap.size + 1 := World.size_alloc _ _
          have HG6 : Hid (GC w6 D y cy (stP pl m A false)) := (HG4.out.alloc _).below b6
          have HR6 : Hid (Rd w6 G vT (stP pl m A true)) := (HR4.out.alloc _).below b6
          have HB6 : Hid (Below w.heap.size w w6) := (HB4.out.alloc HB4.out.size _).trans (b6.mono (by rw [hz]; have := HB4.out.size; omega))
          have f0 : w6.cell? ⟨w4.heap.size, 0, none⟩ = some (.int .i64 ((stP pl m A true).code : Int)) := (b6.cell (p := ⟨w4.heap.size, 0, none⟩) (by rw [hz]; show w4.heap.size < _; omega)).trans ((World.cell?_alloc_new w4 _ _ 0).trans rfl)
          have f1 : w6.cell? ⟨w4.heap.size, 1, none⟩ = some (.int .i64 ((stP pl m A true).fat : Int)) := (b6.cell (p := ⟨w4.heap.size, 1, none⟩) (by rw [hz]; show w4.heap.size < _; omega)).trans ((World.cell?_alloc_new w4 _ _ 1).trans rfl)
          have hD4 : D ≠ w4.heap.size := by have := HG4.out.lt; omega
          have hD4' : w4.heap.size ≠ D := fun h => hD4 h.symm
          have g1 := HG6.out.c1
          have g2 := HG6.out.c2
          have z1 := HG6.out.fr 1
          have z2 := HG6.out.fr 2
          have HGT : Hid (GC ((w6.setCell ⟨D, 1, none⟩ (.int .i64 ((stP pl m A true).code : Int))).setCell ⟨D, 2, none⟩ (.int .i64 ((stP pl m A true).fat : Int))) D y cy (stP pl m A true)) := HG6.out.shut (by rw [(stP_out pl m A).1]) (stP_out pl m A).2
          have HRT : Hid (Rd ((w6.setCell ⟨D, 1, none⟩ (.int .i64 ((stP pl m A true).code : Int))).setCell ⟨D, 2, none⟩ (.int .i64 ((stP pl m A true).fat : Int))) G vT (stP pl m A true)) := (HR6.out.far D 1 _ (fun h => hDG h.symm) (fun h => (HV4.out D h).2 rfl)).far D 2 _ (fun h => hDG h.symm) (fun h => (HV4.out D h).2 rfl)
          have HBT : Hid (Below w.heap.size w ((w6.setCell ⟨D, 1, none⟩ (.int .i64 ((stP pl m A true).code : Int))).setCell ⟨D, 2, none⟩ (.int .i64 ((stP pl m A true).fat : Int)))) := (HB6.out.setCell hD _).setCell hD _
          have HIT : Hid ((stP pl m A true).off = true ∨ (stP pl m A true).Inv) := .inl (shut_offs _)
          have HAT : Hid (A.length ≤ preB t (k + 1)) := by have := HA.out; show A.length ≤ preB t k + (t k).length; omega
          have HVT := HV4
          have hout : Hid ((stP pl m A false).out.length = (stP pl m A true).out.length) := by unfold Hid; rw [(stP_out pl m A).1]
          clear b6 HG4 HR4 HB4 HG6 HR6 HB6 hz
          go_wp2_with fail
          refine (fault_any G vT (stP pl m A true) _ HRT.out).mono ?_
          rintro e w8 ⟨rfl, b8⟩
          have HR8 : Hid (Rd w8 G vT (stP pl m A true)) := HRT.out.below b8
          have HG8 : Hid (GC w8 D y cy (stP pl m A true)) := HGT.out.below b8
          have HB8 : Hid (Below w.heap.size w w8) := HBT.out.trans (b8.mono HBT.out.size)
          clear b8 HRT HGT HBT
          have f0 : (w8.alloc (.cells #[.int .i64 ((stP pl m A true).code : Int), .int .i64 ((stP pl m A true).fat : Int)] 31)).cell? ⟨w8.heap.size, 0, none⟩ = some (.int .i64 ((stP pl m A true).code : Int)) := (World.cell?_alloc_new w8 _ _ 0).trans rfl
          have f1 : (w8.alloc (.cells #[.int .i64 ((stP pl m A true).code : Int), .int .i64 ((stP pl m A true).fat : Int)] 31)).cell? ⟨w8.heap.size, 1, none⟩ = some (.int .i64 ((stP pl m A true).fat : Int)) := (World.cell?_alloc_new w8 _ _ 1).trans rfl
          have HR9 : Hid (Rd (w8.alloc (.cells #[.int .i64 ((stP pl m A true).code : Int), .int .i64 ((stP pl m A true).fat : Int)] 31)) G vT (stP pl m A true)) := HR8.out.alloc _
          have HG9 : Hid (GC (w8.alloc (.cells #[.int .i64 ((stP pl m A true).code : Int), .int .i64 ((stP pl m A true).fat : Int)] 31)) D y cy (stP pl m A true)) := HG8.out.alloc _
          have HB9 : Hid (Below w.heap.size w (w8.alloc (.cells #[.int .i64 ((stP pl m A true).code : Int), .int .i64 ((stP pl m A true).fat : Int)] 31))) := HB8.out.alloc HB8.out.size _
          have g1 := HG9.out.c1
          have g2 := HG9.out.c2
          have g3 := HG9.out.c3
          clear HR8 HG8 HB8
          go_wp2
          generalize w8.alloc (.cells #[.int .i64 ((stP pl m A true).code : Int), .int .i64 ((stP pl m A true).fat : Int)] 31) = w9 at *
          generalize w8.heap.size = F8 at *
          have TK : Hid (∀ q, Calls Try.prog 24 #[.pointer (some ⟨G, 0, none⟩)] (w9.drewN q) fun e w' => e = .returned (.int .i64 ((stP pl m A true).tk : Int)) ∧ w' = w9.drewN q) := fun q => taken_any G vT (stP pl m A true) _ (HR9.out.drewN q)
          go_quiet ((go_at_call 24; exact Calls.quiet_of_same (TK.out _)))
          go_wp2
          all_goals exact ⟨⟨k + 1, A, true, vT, y, cy, by omega, by go_num, by first | rfl | rw [ba_append], by first | rfl | rw [hout.out], rfl, HR9.out.drewN _, HIT, HAT, HG9.out.same (Nat.le_refl _) rfl, bel_drewN HB9.out _, HVT⟩, by simp [intOf]; omega⟩
        · skip
          go_wp2_with fail
          refine (close_any G v (stP pl m A true) _ (HR.out.alloc _)).mono ?_
          rintro e w4 ⟨vT, rfl, R4, M4⟩
          rw [stP_shut] at R4 ⊢
          have HVT : Hid (∀ q, vT.ownBlock = some q → w.heap.size ≤ q ∧ q ≠ D) := fun q hq => (M4.new q hq).elim (fun h => HV.out q h) (fun h => by have := HGC.out.lt; have := HB.out.size; rw [World.size_alloc] at h; omega)
          have HG4 : Hid (GC w4 D y cy (stP pl m A true)) := (HGC.out.alloc _).mv M4 hDG (fun h => (HV.out D h).2 rfl)
          have HR4 : Hid (Rd w4 G vT (stP pl m A true)) := R4
          have HB4 : Hid (Below w.heap.size w w4) := (HB.out.alloc HB.out.size _).trans (M4.keeps w.heap.size (by rw [World.size_alloc]; have := HB.out.size; omega) hG (fun q h => (HV.out q h).1))
          have HGT : Hid (GC (w4.alloc (.cells #[.int .i64 ((stP pl m A true).code : Int), .int .i64 ((stP pl m A true).fat : Int)] 31)) D y cy (stP pl m A true)) := HG4.out.alloc _
          have HRT : Hid (Rd (w4.alloc (.cells #[.int .i64 ((stP pl m A true).code : Int), .int .i64 ((stP pl m A true).fat : Int)] 31)) G vT (stP pl m A true)) := HR4.out.alloc _
          have HBT : Hid (Below w.heap.size w (w4.alloc (.cells #[.int .i64 ((stP pl m A true).code : Int), .int .i64 ((stP pl m A true).fat : Int)] 31))) := HB4.out.alloc HB4.out.size _
          have HIT := HI
          have HAT : Hid (A.length ≤ preB t (k + 1)) := by have := HA.out; show A.length ≤ preB t k + (t k).length; omega
          have hD4 : D ≠ w4.heap.size := by have := HG4.out.lt; omega
          have hD4' : w4.heap.size ≠ D := fun h => hD4 h.symm
          have hD5 : D < w4.heap.size := HG4.out.lt
          have g1 := HG4.out.c1
          have g2 := HG4.out.c2
          clear M4 R4 HR HGC HB HG4 HR4 HB4
          go_wp2_with fail
          refine (fault_any G vT (stP pl m A true) _ HRT.out).mono ?_
          rintro e w8 ⟨rfl, b8⟩
          have HR8 : Hid (Rd w8 G vT (stP pl m A true)) := HRT.out.below b8
          have HG8 : Hid (GC w8 D y cy (stP pl m A true)) := HGT.out.below b8
          have HB8 : Hid (Below w.heap.size w w8) := HBT.out.trans (b8.mono HBT.out.size)
          clear b8 HRT HGT HBT
          have f0 : (w8.alloc (.cells #[.int .i64 ((stP pl m A true).code : Int), .int .i64 ((stP pl m A true).fat : Int)] 31)).cell? ⟨w8.heap.size, 0, none⟩ = some (.int .i64 ((stP pl m A true).code : Int)) := (World.cell?_alloc_new w8 _ _ 0).trans rfl
          have f1 : (w8.alloc (.cells #[.int .i64 ((stP pl m A true).code : Int), .int .i64 ((stP pl m A true).fat : Int)] 31)).cell? ⟨w8.heap.size, 1, none⟩ = some (.int .i64 ((stP pl m A true).fat : Int)) := (World.cell?_alloc_new w8 _ _ 1).trans rfl
          have HR9 : Hid (Rd (w8.alloc (.cells #[.int .i64 ((stP pl m A true).code : Int), .int .i64 ((stP pl m A true).fat : Int)] 31)) G vT (stP pl m A true)) := HR8.out.alloc _
          have HG9 : Hid (GC (w8.alloc (.cells #[.int .i64 ((stP pl m A true).code : Int), .int .i64 ((stP pl m A true).fat : Int)] 31)) D y cy (stP pl m A true)) := HG8.out.alloc _
          have HB9 : Hid (Below w.heap.size w (w8.alloc (.cells #[.int .i64 ((stP pl m A true).code : Int), .int .i64 ((stP pl m A true).fat : Int)] 31))) := HB8.out.alloc HB8.out.size _
          have g1 := HG9.out.c1
          have g2 := HG9.out.c2
          have g3 := HG9.out.c3
          clear HR8 HG8 HB8
          go_wp2
          generalize w8.alloc (.cells #[.int .i64 ((stP pl m A true).code : Int), .int .i64 ((stP pl m A true).fat : Int)] 31) = w9 at *
          generalize w8.heap.size = F8 at *
          have TK : Hid (∀ q, Calls Try.prog 24 #[.pointer (some ⟨G, 0, none⟩)] (w9.drewN q) fun e w' => e = .returned (.int .i64 ((stP pl m A true).tk : Int)) ∧ w' = w9.drewN q) := fun q => taken_any G vT (stP pl m A true) _ (HR9.out.drewN q)
          go_quiet ((go_at_call 24; exact Calls.quiet_of_same (TK.out _)))
          go_wp2
          all_goals exact ⟨⟨k + 1, A, true, vT, y, cy, by omega, by go_num, by first | rfl | rw [ba_append], by first | rfl | rw [hout.out], rfl, HR9.out.drewN _, HIT, HAT, HG9.out.same (Nat.le_refl _) rfl, bel_drewN HB9.out _, HVT⟩, by simp [intOf]; omega⟩
    · obtain rfl : k = n := by omega
      go_wp2
      go_ret
      exact ⟨rfl, HB.out⟩

end Go.Proofs.Ytjlbbnjcdickgaa
