/- TxB TxCy TxDy TxEy TxFy TxI, gathered (own text of the verifier). -/
import Derived.Test.YtnggbemnblcnaaaDoorXJ
import Derived.Test.YtnggbemnblcnaaaDoorTvC
import Derived.Deep.RegionLaw
import Derived.Deep.RegionHeldLaw
import Derived.Deep.Cut
import Derived.Deep.CutRange
import Derived.Test.YtnggbemnblcnaaaDoorXK
import Derived.Test.YtnggbemnblcnaaaDoorSpB
import Derived.Test.YtnggbemnblcnaaaDoorCmA
import Derived.Deep.QuietTactic
import Derived.BigQuiet
import Derived.Test.YtnggbemnblcnaaaDoorXD
namespace Go.Proofs.YtnggbemnblcnaaaDoor
open Go.RowKit

/-- What the region reads. -/
def SS (g q n co : Nat) (o : OE) (xu : Option Addr) (cu : Nat) (W : World) : Prop := W.cell? ⟨g, 0, none⟩ = some (.slice (some ⟨q, 0, none⟩) (n + 2) co) ∧ W.cell? ⟨q, (n + 1) * 5, none⟩ = some (.string o.nm) ∧ W.cell? ⟨q, (n + 1) * 5 + 1, none⟩ = some (.int .i64 o.k) ∧ W.cell? ⟨q, (n + 1) * 5 + 2, none⟩ = some (.bool o.e) ∧ W.cell? ⟨q, (n + 1) * 5 + 3, none⟩ = some (.string o.t) ∧ W.cell? ⟨q, (n + 1) * 5 + 4, none⟩ = some (.slice xu o.nms.length cu)
theorem SS.put {g q n co : Nat} {o : OE} {xu : Option Addr} {cu : Nat} {W : World} {x : Value} (h : SS g q n co o xu cu W) (hgq : g ≠ q) : SS g q n co o xu cu (W.setCell ⟨q, n * 5 + 1 + 3, none⟩ x) :=
  ⟨(World.cell?_setCell_other _ _ _ _ (fun e => by have h9 := hgq; injection e; omega)).trans h.1, (World.cell?_setCell_other _ _ _ _ (fun e => by have h9 := hgq; injection e; omega)).trans h.2.1, (World.cell?_setCell_other _ _ _ _ (fun e => by have h9 := hgq; injection e; omega)).trans h.2.2.1, (World.cell?_setCell_other _ _ _ _ (fun e => by have h9 := hgq; injection e; omega)).trans h.2.2.2.1, (World.cell?_setCell_other _ _ _ _ (fun e => by have h9 := hgq; injection e; omega)).trans h.2.2.2.2.1, (World.cell?_setCell_other _ _ _ _ (fun e => by have h9 := hgq; injection e; omega)).trans h.2.2.2.2.2⟩
theorem SS.far {g q n co : Nat} {o : OE} {xu : Option Addr} {cu : Nat} {W : World} {x : Value} {g2 k : Nat} (h : SS g q n co o xu cu W) (h1 : g ≠ g2) (h2 : q ≠ g2) : SS g q n co o xu cu (W.setCell ⟨g2, k, none⟩ x) :=
  ⟨(World.cell?_setCell_other _ _ _ _ (fun e => by injection e; omega)).trans h.1, (World.cell?_setCell_other _ _ _ _ (fun e => by injection e; omega)).trans h.2.1, (World.cell?_setCell_other _ _ _ _ (fun e => by injection e; omega)).trans h.2.2.1, (World.cell?_setCell_other _ _ _ _ (fun e => by injection e; omega)).trans h.2.2.2.1, (World.cell?_setCell_other _ _ _ _ (fun e => by injection e; omega)).trans h.2.2.2.2.1, (World.cell?_setCell_other _ _ _ _ (fun e => by injection e; omega)).trans h.2.2.2.2.2⟩
theorem SS.five {g q n co : Nat} {o : OE} {xu : Option Addr} {cu : Nat} {W : World} {a b c d e : Value} {g2 k0 k1 k2 k3 k4 : Nat} (h : SS g q n co o xu cu W) (h1 : g ≠ g2) (h2 : q ≠ g2) : SS g q n co o xu cu (((((W.setCell ⟨g2, k0, none⟩ a).setCell ⟨g2, k1, none⟩ b).setCell ⟨g2, k2, none⟩ c).setCell ⟨g2, k3, none⟩ d).setCell ⟨g2, k4, none⟩ e) :=
  ((((h.far h1 h2).far h1 h2).far h1 h2).far h1 h2).far h1 h2

set_option maxHeartbeats 16000000 in
set_option maxRecDepth 8000 in
theorem closeTo_any (g B c : Nat) (hc : 1 ≤ c) (hc2 : c ≤ 1073741824) (S : List OE) (b : Int) (v : Value) (fp : List Nat) (w : World) (H : Bst w g B S b v fp) (hl : lenS S) (hr : (rowsS S).length ≤ 1073741824) (hSl : S.length ≤ 1073741824) :
    Calls Tryd.prog 22 #[.pointer (some ⟨g, 0, none⟩), .int .i64 (c : Int)] w fun e w' => e = .returned (.tuple #[]) ∧ (∃ v' fp', Bst w' g B (clo c S) b v' fp' ∧ ∀ x ∈ fp', x ∈ fp ∨ w.heap.size ≤ x) ∧ Ff g fp w w' := by
  have HH : Hid (Bst w g B S b v fp) := H
  have HL : Hid (lenS S) := hl
  have HR : Hid ((rowsS S).length ≤ 1073741824) := hr
  clear H hl hr
  go_enter Tryd.func22, Tryd.ntmps22
  go_wp2_with fail
  go_loopg [4, 5] S.length (fun gk _ _ wr => ∃ (S1 : List OE) (v1 : Value) (fp1 : List Nat), S1.length = gk ∧ Hid (clo c S1 = clo c S) ∧ Hid (Bst wr g B S1 b v1 fp1) ∧ Hid (∀ x ∈ fp1, x ∈ fp ∨ w.heap.size ≤ x) ∧ Hid (Ff g fp w wr) ∧ Hid (lenS S1) ∧ Hid ((rowsS S1).length ≤ 1073741824) ∧ S1.length ≤ 1073741824)
  case atStart => exact ⟨S, v, fp, rfl, rfl, HH, fun x hx => Or.inl hx, Ff.refl _ _ _, HL, HR, hSl⟩
  case round =>
    obtain ⟨S1, v1, fp1, hgk, hclo, hB, hfp, hF, hL, hR, hS1⟩ := hrel
    clear HH HL HR
    obtain ⟨xo, co, rfl⟩ := hB.out.op.shape
    have a0 : wr.cell? ⟨g, 0, none⟩ = some (.slice xo S1.length co) := by rw [Lib.cell_of_heap hB.out.hg]; rfl
    by_cases hlt : c < S1.length
    · have hltI : (c : Int) < (S1.length : Int) := by omega
      match S1, hlt with
      | [], hlt => simp at hlt
      | [o], hlt => simp at hlt; omega
      | o :: h :: R, hlt =>
        obtain ⟨q, co', xu, cu, xh, ch, g2, cap2, w', ST⟩ := Bst.step hB.out hL.out hR.out
        have hv := ST.hv
        rw [show (o :: h :: R).length = R.length + 2 from rfl] at hv
        injection hv with e1 _ e2
        subst e1 e2
        have hcap := ST.hco
        have hRl : R.length + 2 ≤ 1073741824 := hS1
        have HGK : Hid ((o :: h :: R).length = gk) := hgk
        have a0' : wr.cell? ⟨g, 0, none⟩ = some (.slice (some ⟨q, 0, none⟩) (R.length + 2) co) := a0
        have hltR : (c : Int) < (R.length : Int) + 2 := by simp at hltI; omega
        have HST : Hid (Stp wr g B o h R b (.slice (some ⟨q, 0, none⟩) (R.length + 2) co) fp1 q co xu cu xh ch g2 cap2 w') := ST
        have i1 : ((R.length : Int) + 2 - 1 - 1).toNat = R.length := by omega
        have i2 : ((R.length : Int) + 2 - 1).toNat = R.length + 1 := by omega
        have w1 : IntKind.i64.wrap ((R.length : Int) + 2 - 1) = (R.length : Int) + 2 - 1 := by rw [IntKind.wrap_i64]; omega
        have w2 : IntKind.i64.wrap ((R.length : Int) + 2 - 1 - 1) = (R.length : Int) + 2 - 1 - 1 := by rw [IntKind.wrap_i64]; omega
        have j1 : (0 : Int) ≤ (R.length : Int) + 2 - 1 - 1 := by omega
        have j2 : (R.length : Int) + 2 - 1 - 1 < (R.length : Int) + 2 := by omega
        have j3 : (0 : Int) ≤ (R.length : Int) + 2 - 1 := by omega
        have j4 : (R.length : Int) + 2 - 1 < (R.length : Int) + 2 := by omega
        clear hgk a0 hltI hlt hS1 ST
        have b0 := HST.out.b0
        have b1 := HST.out.b1
        have b2 := HST.out.b2
        have b3 := HST.out.b3
        have b4 := HST.out.b4
        have hq2 := HST.out.hq2
        have hgq := HST.out.hgq
        have hgg2 := HST.out.hgg2
        have hgl := HST.out.hgl
        have hql := HST.out.hql
        have kS : ∀ W : World, W.heap[g]? = wr.heap[g]? → W.heap[q]? = wr.heap[q]? → SS g q R.length co o xu cu W := fun W e1 e2 => ⟨(World.cell?_of_block (w := wr) (a := ⟨g, 0, none⟩) e1).trans a0', (World.cell?_of_block (w := wr) (a := ⟨q, (R.length + 1) * 5, none⟩) e2).trans b0, (World.cell?_of_block (w := wr) (a := ⟨q, (R.length + 1) * 5 + 1, none⟩) e2).trans b1, (World.cell?_of_block (w := wr) (a := ⟨q, (R.length + 1) * 5 + 2, none⟩) e2).trans b2, (World.cell?_of_block (w := wr) (a := ⟨q, (R.length + 1) * 5 + 3, none⟩) e2).trans b3, (World.cell?_of_block (w := wr) (a := ⟨q, (R.length + 1) * 5 + 4, none⟩) e2).trans b4⟩
        have N0 : SS g q R.length co o xu cu wr.drew := kS _ rfl rfl
        have N1 : SS g q R.length co o xu cu (wr.drew.alloc (.cells #[.string ⟨#[]⟩, .int .i64 0, .bool false, .string ⟨#[]⟩, .slice none 0 0] 52)) := kS _ (Below.heap_alloc wr.drew _ _ hgl) (Below.heap_alloc wr.drew _ _ hql)
        have N2 : SS g q R.length co o xu cu w' := kS _ HST.out.kg HST.out.kq
        have N3 : SS g q R.length co o xu cu (((((w'.setCell ⟨g2, h.nms.length * 5, none⟩ (.string o.nm)).setCell ⟨g2, h.nms.length * 5 + 1, none⟩ (.int .i64 o.k)).setCell ⟨g2, h.nms.length * 5 + 2, none⟩ (.bool o.e)).setCell ⟨g2, h.nms.length * 5 + 3, none⟩ (.string o.t)).setCell ⟨g2, h.nms.length * 5 + 4, none⟩ (.slice xu o.nms.length cu)) := kS _ ((set5_other w' g2 (h.nms.length * 5) (.string o.nm) (.int .i64 o.k) (.bool o.e) (.string o.t) (.slice xu o.nms.length cu) g hgg2).trans HST.out.kg) ((set5_other w' g2 (h.nms.length * 5) (.string o.nm) (.int .i64 o.k) (.bool o.e) (.string o.t) (.slice xu o.nms.length cu) q hq2).trans HST.out.kq)
        have N4 : SS g q R.length co o xu cu ((((((w'.setCell ⟨g2, h.nms.length * 5, none⟩ (.string o.nm)).setCell ⟨g2, h.nms.length * 5 + 1, none⟩ (.int .i64 o.k)).setCell ⟨g2, h.nms.length * 5 + 2, none⟩ (.bool o.e)).setCell ⟨g2, h.nms.length * 5 + 3, none⟩ (.string o.t)).setCell ⟨g2, h.nms.length * 5 + 4, none⟩ (.slice xu o.nms.length cu)).setCell ⟨q, R.length * 5 + 1 + 3, none⟩ (.slice (some ⟨g2, 0, none⟩) (h.nms.length + 1) cap2)) := SS.put N3 hgq
        have N5 : SS g q R.length co o xu cu (w'.setCell ⟨q, R.length * 5 + 1 + 3, none⟩ (.slice (some ⟨g2, 0, none⟩) (h.nms.length + 1) cap2)) := SS.put N2 hgq
        have N6 : SS g q R.length co o xu cu (((((((w'.setCell ⟨q, R.length * 5 + 1 + 3, none⟩ (.slice (some ⟨g2, 0, none⟩) (h.nms.length + 1) cap2)).setCell ⟨g2, h.nms.length * 5, none⟩ (.string o.nm)).setCell ⟨g2, h.nms.length * 5 + 1, none⟩ (.int .i64 o.k)).setCell ⟨g2, h.nms.length * 5 + 2, none⟩ (.bool o.e)).setCell ⟨g2, h.nms.length * 5 + 3, none⟩ (.string o.t)).setCell ⟨g2, h.nms.length * 5 + 4, none⟩ (.slice xu o.nms.length cu))) := SS.five N5 hgg2 hq2
        have d4x : wr.drew.cell? ⟨q, R.length * 5 + 1 + 3, none⟩ = some (.slice xh h.nms.length ch) := HST.out.d4
        have d4a : (wr.drew.alloc (.cells #[.string ⟨#[]⟩, .int .i64 0, .bool false, .string ⟨#[]⟩, .slice none 0 0] 52)).cell? ⟨q, R.length * 5 + 1 + 3, none⟩ = some (.slice xh h.nms.length ch) := (World.cell?_of_block (w := wr) (a := ⟨q, R.length * 5 + 1 + 3, none⟩) (Below.heap_alloc wr.drew _ _ hql)).trans HST.out.d4
        have d4' : w'.cell? ⟨q, R.length * 5 + 1 + 3, none⟩ = some (.slice xh h.nms.length ch) := (World.cell?_of_block (w := wr) (a := ⟨q, R.length * 5 + 1 + 3, none⟩) HST.out.kq).trans HST.out.d4
        have df : w'.frozen? ⟨q, R.length * 5 + 1 + 3, none⟩ = false := HST.out.df
        have z0 := HST.out.z0
        have z1 := HST.out.z1
        have z2 := HST.out.z2
        have z3 := HST.out.z3
        have z4 := HST.out.z4
        have f0 := HST.out.f (h.nms.length * 5)
        have f1 := HST.out.f (h.nms.length * 5 + 1)
        have f2 := HST.out.f (h.nms.length * 5 + 2)
        have f3 := HST.out.f (h.nms.length * 5 + 3)
        have f4 := HST.out.f (h.nms.length * 5 + 4)
        have hapD : (Builtin.append_ #[30, 30] 30 #[.slice xh h.nms.length ch, .slice (some ⟨wr.drew.heap.size, 0, none⟩) 1 1]).run Tryd.prog (wr.drew.alloc (.cells #[.string ⟨#[]⟩, .int .i64 0, .bool false, .string ⟨#[]⟩, .slice none 0 0] 52)) = .ok (.slice (some ⟨g2, 0, none⟩) (h.nms.length + 1) cap2) w' := HST.out.hap
        have hgg2' : g2 ≠ g := fun e => hgg2 e.symm
        have hq2' : g2 ≠ q := fun e => hq2 e.symm
        have hgq' : q ≠ g := fun e => hgq e.symm
        have hlI : (0 : Int) ≤ (h.nms.length : Int) := by omega
        have j5 : ¬ (R.length : Int) + 2 < 1 := by omega
        have hlI2 : (h.nms.length : Int) < (h.nms.length : Int) + 1 := by omega
        have hlN : h.nms.length < h.nms.length + 1 := by omega
        have HEQ : Hid (((set5 w' g2 (h.nms.length * 5) (entV o.nm o.tr (.slice xu o.nms.length cu))).setCell ⟨q, R.length * 5 + 4, none⟩ (.slice (some ⟨g2, 0, none⟩) (h.nms.length + 1) cap2)) = (((((w'.setCell ⟨g2, h.nms.length * 5, none⟩ (.string o.nm)).setCell ⟨g2, h.nms.length * 5 + 1, none⟩ (.int .i64 o.k)).setCell ⟨g2, h.nms.length * 5 + 2, none⟩ (.bool o.e)).setCell ⟨g2, h.nms.length * 5 + 3, none⟩ (.string o.t)).setCell ⟨g2, h.nms.length * 5 + 4, none⟩ (.slice xu o.nms.length cu)).setCell ⟨q, R.length * 5 + 4, none⟩ (.slice (some ⟨g2, 0, none⟩) (h.nms.length + 1) cap2)) := rfl
        clear b0 b1 b2 b3 b4 kS
        go_upto_region 3 with fail
        go_cut [] from 6 to 52 (fun wx => wx = (((((w'.setCell ⟨g2, h.nms.length * 5, none⟩ (.string o.nm)).setCell ⟨g2, h.nms.length * 5 + 1, none⟩ (.int .i64 o.k)).setCell ⟨g2, h.nms.length * 5 + 2, none⟩ (.bool o.e)).setCell ⟨g2, h.nms.length * 5 + 3, none⟩ (.string o.t)).setCell ⟨g2, h.nms.length * 5 + 4, none⟩ (.slice xu o.nms.length cu)).setCell ⟨q, R.length * 5 + 4, none⟩ (.slice (some ⟨g2, 0, none⟩) (h.nms.length + 1) cap2))
        case first =>
          refine wp_region_held_drew (S := SS g q R.length co o xu cu) (by kernel_rfl) N0 (fun _ => ?_)
          generalize wr.drew = W1 at N0 N1 d4x d4a hapD ⊢
          refine wpAnyH_take (i := 0) (oi := { dst := some 27, op := Op.move (Operand.tmp 5), type := 72, pos := "build.go:76", after := #[], guard := none }) (v := .pointer (some ⟨q, R.length * 5 + 1, none⟩)) rfl (by kernel_rfl) (by kernel_rfl) (by kernel_rfl) (fun _ _ _ h => h) (Or.inl ⟨by rfl, by intro w _; go_simp⟩) N0 ?_
          try simp only [Act.put, List.setIfInBounds_toArray, List.set_cons_zero, List.set_cons_succ]
          refine wpAnyH_take (i := 1) (oi := { dst := some 28, op := Op.nilCheck (Operand.tmp 27), type := 0, pos := "build.go:76", after := #[{ on := 0, ground := Ground.data }], guard := none }) (v := .pointer (some ⟨q, R.length * 5 + 1, none⟩)) rfl (by kernel_rfl) (by kernel_rfl) (by kernel_rfl) (fun _ _ _ h => h) (Or.inl ⟨by rfl, by intro w _; go_simp⟩) N0 ?_
          try simp only [Act.put, List.setIfInBounds_toArray, List.set_cons_zero, List.set_cons_succ]
          refine wpAnyH_take (i := 2) (oi := { dst := some 29, op := Op.fieldAddr 32 (Operand.tmp 28) 3, type := 0, pos := "build.go:76", after := #[{ on := 1, ground := Ground.data }], guard := none }) (v := .pointer (some ⟨q, R.length * 5 + 1 + 3, none⟩)) rfl (by kernel_rfl) (by kernel_rfl) (by kernel_rfl) (fun _ _ _ h => h) (Or.inl ⟨by rfl, by intro w _; go_simp⟩) N0 ?_
          try simp only [Act.put, List.setIfInBounds_toArray, List.set_cons_zero, List.set_cons_succ]
          refine wpAnyH_take (i := 4) (oi := { dst := some 31, op := Op.move (Operand.tmp 0), type := 100, pos := "build.go:76", after := #[], guard := none }) (v := .pointer (some ⟨g, 0, none⟩)) rfl (by kernel_rfl) (by kernel_rfl) (by kernel_rfl) (fun _ _ _ h => h) (Or.inl ⟨by rfl, by intro w _; go_simp⟩) N0 ?_
          try simp only [Act.put, List.setIfInBounds_toArray, List.set_cons_zero, List.set_cons_succ]
          refine wpAnyH_take (i := 5) (oi := { dst := some 32, op := Op.nilCheck (Operand.tmp 31), type := 0, pos := "build.go:76", after := #[{ on := 4, ground := Ground.data }], guard := none }) (v := .pointer (some ⟨g, 0, none⟩)) rfl (by kernel_rfl) (by kernel_rfl) (by kernel_rfl) (fun _ _ _ h => h) (Or.inl ⟨by rfl, by intro w _; go_simp⟩) N0 ?_
          try simp only [Act.put, List.setIfInBounds_toArray, List.set_cons_zero, List.set_cons_succ]
          refine wpAnyH_take (i := 6) (oi := { dst := some 33, op := Op.fieldAddr 61 (Operand.tmp 32) 0, type := 0, pos := "build.go:76", after := #[{ on := 5, ground := Ground.data }], guard := none }) (v := .pointer (some ⟨g, 0, none⟩)) rfl (by kernel_rfl) (by kernel_rfl) (by kernel_rfl) (fun _ _ _ h => h) (Or.inl ⟨by rfl, by intro w _; go_simp⟩) N0 ?_
          try simp only [Act.put, List.setIfInBounds_toArray, List.set_cons_zero, List.set_cons_succ]
          refine wpAnyH_take (i := 7) (oi := { dst := some 34, op := Op.load 30 (Operand.tmp 33), type := 30, pos := "build.go:76", after := #[{ on := 6, ground := Ground.data }], guard := none }) (v := .slice (some ⟨q, 0, none⟩) (R.length + 2) co) rfl (by kernel_rfl) (by kernel_rfl) (by kernel_rfl) (fun _ _ _ h => h) (Or.inl ⟨by rfl, by rintro w ⟨s0, s1, s2, s3, s4, s5⟩; go_simp⟩) N0 ?_
          try simp only [Act.put, List.setIfInBounds_toArray, List.set_cons_zero, List.set_cons_succ]
          refine wpAnyH_take (i := 8) (oi := { dst := some 35, op := Op.move (Operand.tmp 4), type := 3, pos := "build.go:76", after := #[], guard := none }) (v := .int .i64 ((R.length : Int) + 2 - 1)) rfl (by kernel_rfl) (by kernel_rfl) (by kernel_rfl) (fun _ _ _ h => h) (Or.inl ⟨by rfl, by intro w _; go_simp⟩) N0 ?_
          try simp only [Act.put, List.setIfInBounds_toArray, List.set_cons_zero, List.set_cons_succ]
          refine wpAnyH_take (i := 9) (oi := { dst := some 36, op := Op.indexAddr 30 (Operand.tmp 34) (Operand.tmp 35), type := 0, pos := "build.go:76", after := #[{ on := 7, ground := Ground.data }, { on := 8, ground := Ground.data }], guard := none }) (v := .pointer (some ⟨q, (R.length + 1) * 5, none⟩)) rfl (by kernel_rfl) (by kernel_rfl) (by kernel_rfl) (fun _ _ _ h => h) (Or.inl ⟨by rfl, by intro w _; go_simp⟩) N0 ?_
          try simp only [Act.put, List.setIfInBounds_toArray, List.set_cons_zero, List.set_cons_succ]
          refine wpAnyH_take (i := 10) (oi := { dst := some 37, op := Op.load 52 (Operand.tmp 36), type := 52, pos := "build.go:76", after := #[{ on := 9, ground := Ground.data }], guard := none }) (v := .agg #[.string o.nm, .int .i64 o.k, .bool o.e, .string o.t, .slice xu o.nms.length cu]) rfl (by kernel_rfl) (by kernel_rfl) (by kernel_rfl) (fun _ _ _ h => h) (Or.inl ⟨by rfl, by rintro w ⟨s0, s1, s2, s3, s4, s5⟩; go_simp⟩) N0 ?_
          try simp only [Act.put, List.setIfInBounds_toArray, List.set_cons_zero, List.set_cons_succ]
          refine wpAnyH_ready (rs := [3, 12]) (by kernel_rfl) (by decide) (AllReadyH.cons rfl (fun K1 hK1 => ?_) (AllReadyH.cons rfl (fun K1 hK1 => ?_) AllReadyH.nil))
          · skip
            rw [if_pos (by rfl)]
            go_simp
            refine hK1.out _ _ N0 (fun _ => ?_)
            clear hK1 K1
            try simp only [Act.put, List.setIfInBounds_toArray, List.set_cons_zero, List.set_cons_succ]
            refine wpAnyH_take (i := 11) (oi := { dst := some 38, op := Op.call { callee := Callee.builtin Builtin.len, args := #[Operand.tmp 30], argTypes := #[30] }, type := 3, pos := "build.go:76", after := #[{ on := 3, ground := Ground.data }], guard := none }) (v := .int .i64 (h.nms.length : Int)) rfl (by kernel_rfl) (by kernel_rfl) (by kernel_rfl) (fun _ _ _ h => h) (Or.inl ⟨by rfl, by intro w _; go_simp⟩) N0 ?_
            try simp only [Act.put, List.setIfInBounds_toArray, List.set_cons_zero, List.set_cons_succ]
            refine wpAnyH_ready (rs := [12]) (by kernel_rfl) (by decide) (AllReadyH.cons rfl (fun K1 hK1 => ?_) AllReadyH.nil)
            rw [if_pos (by rfl)]
            go_simp
            refine hK1.out _ _ N1 (fun _ => ?_)
            clear hK1 K1
            try simp only [Act.put, List.setIfInBounds_toArray, List.set_cons_zero, List.set_cons_succ]
            refine wpAnyH_ready (rs := [13]) (by kernel_rfl) (by decide) (AllReadyH.cons rfl (fun K1 hK1 => ?_) AllReadyH.nil)
            refine step_app (o := { dst := some 40, op := Op.call { callee := Callee.builtin Builtin.append, args := #[Operand.tmp 30, Operand.tmp 39], argTypes := #[30, 30] }, type := 30, pos := "build.go:76", after := #[{ on := 3, ground := Ground.data }, { on := 12, ground := Ground.data }, { on := 0, ground := Ground.phase }, { on := 1, ground := Ground.phase }, { on := 2, ground := Ground.phase }, { on := 3, ground := Ground.phase }, { on := 4, ground := Ground.phase }, { on := 5, ground := Ground.phase }, { on := 6, ground := Ground.phase }, { on := 7, ground := Ground.phase }, { on := 8, ground := Ground.phase }, { on := 9, ground := Ground.phase }, { on := 10, ground := Ground.phase }, { on := 11, ground := Ground.phase }, { on := 12, ground := Ground.phase }], guard := none }) rfl (.tmp 30) (.tmp 39) 30 rfl (.slice xh h.nms.length ch) (.slice (some ⟨W1.heap.size, 0, none⟩) 1 1) rfl rfl (.slice (some ⟨g2, 0, none⟩) (h.nms.length + 1) cap2) w' hapD ?_
            refine hK1.out _ _ N2 (fun _ => ?_)
            clear hK1 K1
            try simp only [Act.put, List.setIfInBounds_toArray, List.set_cons_zero, List.set_cons_succ]
            refine wpAnyH_take (i := 14) (oi := { dst := some 41, op := Op.indexAddr 30 (Operand.tmp 40) (Operand.tmp 38), type := 0, pos := "build.go:76", after := #[{ on := 13, ground := Ground.data }, { on := 11, ground := Ground.data }, { on := 0, ground := Ground.phase }, { on := 1, ground := Ground.phase }, { on := 2, ground := Ground.phase }, { on := 3, ground := Ground.phase }, { on := 4, ground := Ground.phase }, { on := 5, ground := Ground.phase }, { on := 6, ground := Ground.phase }, { on := 7, ground := Ground.phase }, { on := 8, ground := Ground.phase }, { on := 9, ground := Ground.phase }, { on := 10, ground := Ground.phase }, { on := 11, ground := Ground.phase }, { on := 12, ground := Ground.phase }, { on := 13, ground := Ground.phase }, { on := 18, ground := Ground.gcOnly Departure.appendInPlace }], guard := none }) (v := .pointer (some ⟨g2, h.nms.length * 5, none⟩)) rfl (by kernel_rfl) (by kernel_rfl) (by kernel_rfl) (fun _ _ _ h => h) (Or.inl ⟨by rfl, by intro w _; go_simp⟩) N2 ?_
            try simp only [Act.put, List.setIfInBounds_toArray, List.set_cons_zero, List.set_cons_succ]
            refine wpAnyH_take (i := 16) (oi := { dst := some 42, op := Op.nilCheck (Operand.tmp 27), type := 0, pos := "build.go:76", after := #[{ on := 0, ground := Ground.data }, { on := 0, ground := Ground.phase }, { on := 1, ground := Ground.phase }, { on := 2, ground := Ground.phase }, { on := 3, ground := Ground.phase }, { on := 4, ground := Ground.phase }, { on := 5, ground := Ground.phase }, { on := 6, ground := Ground.phase }, { on := 7, ground := Ground.phase }, { on := 8, ground := Ground.phase }, { on := 9, ground := Ground.phase }, { on := 10, ground := Ground.phase }, { on := 11, ground := Ground.phase }, { on := 12, ground := Ground.phase }, { on := 13, ground := Ground.phase }, { on := 14, ground := Ground.textOnly Departure.appendInPlace }, { on := 15, ground := Ground.textOnly Departure.appendInPlace }], guard := none }) (v := .pointer (some ⟨q, R.length * 5 + 1, none⟩)) rfl (by kernel_rfl) (by kernel_rfl) (by kernel_rfl) (fun _ _ _ h => h) (Or.inl ⟨by rfl, by intro w _; go_simp⟩) N2 ?_
            try simp only [Act.put, List.setIfInBounds_toArray, List.set_cons_zero, List.set_cons_succ]
            refine wpAnyH_take (i := 17) (oi := { dst := some 43, op := Op.fieldAddr 32 (Operand.tmp 42) 3, type := 0, pos := "build.go:76", after := #[{ on := 16, ground := Ground.data }, { on := 0, ground := Ground.phase }, { on := 1, ground := Ground.phase }, { on := 2, ground := Ground.phase }, { on := 3, ground := Ground.phase }, { on := 4, ground := Ground.phase }, { on := 5, ground := Ground.phase }, { on := 6, ground := Ground.phase }, { on := 7, ground := Ground.phase }, { on := 8, ground := Ground.phase }, { on := 9, ground := Ground.phase }, { on := 10, ground := Ground.phase }, { on := 11, ground := Ground.phase }, { on := 12, ground := Ground.phase }, { on := 13, ground := Ground.phase }, { on := 14, ground := Ground.textOnly Departure.appendInPlace }, { on := 15, ground := Ground.textOnly Departure.appendInPlace }], guard := none }) (v := .pointer (some ⟨q, R.length * 5 + 1 + 3, none⟩)) rfl (by kernel_rfl) (by kernel_rfl) (by kernel_rfl) (fun _ _ _ h => h) (Or.inl ⟨by rfl, by intro w _; go_simp⟩) N2 ?_
            try simp only [Act.put, List.setIfInBounds_toArray, List.set_cons_zero, List.set_cons_succ]
            refine wpAnyH_ready (rs := [15, 18]) (by kernel_rfl) (by decide) (AllReadyH.cons rfl (fun K1 hK1 => ?_) (AllReadyH.cons rfl (fun K1 hK1 => ?_) AllReadyH.nil))
            · skip
              rw [if_pos (by rfl)]
              go_simp
              refine hK1.out _ _ N3 (fun _ => ?_)
              clear hK1 K1
              refine wpAnyH_ready (rs := [18]) (by kernel_rfl) (by decide) (AllReadyH.cons rfl (fun K1 hK1 => ?_) AllReadyH.nil)
              rw [if_pos (by rfl)]
              go_simp
              refine hK1.out _ _ N4 (fun _ => ?_)
              clear hK1 K1
              refine wpAnyH_done (by kernel_rfl) ?_ _
              (try go_wp2_with fail)
              go_meet
              rfl
            · skip
              rw [if_pos (by rfl)]
              go_simp
              refine hK1.out _ _ N5 (fun _ => ?_)
              clear hK1 K1
              refine wpAnyH_ready (rs := [15]) (by kernel_rfl) (by decide) (AllReadyH.cons rfl (fun K1 hK1 => ?_) AllReadyH.nil)
              rw [if_pos (by rfl)]
              go_simp
              refine hK1.out _ _ N6 (fun _ => ?_)
              clear hK1 K1
              refine wpAnyH_done (by kernel_rfl) ?_ _
              (try go_wp2_with fail)
              go_meet
              exact set5_comm w' g2 (h.nms.length * 5) _ _ _ _ _ ⟨q, R.length * 5 + 4, none⟩ _ hq2
          · skip
            rw [if_pos (by rfl)]
            go_simp
            refine hK1.out _ _ N1 (fun _ => ?_)
            clear hK1 K1
            try simp only [Act.put, List.setIfInBounds_toArray, List.set_cons_zero, List.set_cons_succ]
            refine wpAnyH_ready (rs := [3]) (by kernel_rfl) (by decide) (AllReadyH.cons rfl (fun K1 hK1 => ?_) AllReadyH.nil)
            rw [if_pos (by rfl)]
            go_simp
            refine hK1.out _ _ N1 (fun _ => ?_)
            clear hK1 K1
            try simp only [Act.put, List.setIfInBounds_toArray, List.set_cons_zero, List.set_cons_succ]
            refine wpAnyH_take (i := 11) (oi := { dst := some 38, op := Op.call { callee := Callee.builtin Builtin.len, args := #[Operand.tmp 30], argTypes := #[30] }, type := 3, pos := "build.go:76", after := #[{ on := 3, ground := Ground.data }], guard := none }) (v := .int .i64 (h.nms.length : Int)) rfl (by kernel_rfl) (by kernel_rfl) (by kernel_rfl) (fun _ _ _ h => h) (Or.inl ⟨by rfl, by intro w _; go_simp⟩) N1 ?_
            try simp only [Act.put, List.setIfInBounds_toArray, List.set_cons_zero, List.set_cons_succ]
            refine wpAnyH_ready (rs := [13]) (by kernel_rfl) (by decide) (AllReadyH.cons rfl (fun K1 hK1 => ?_) AllReadyH.nil)
            refine step_app (o := { dst := some 40, op := Op.call { callee := Callee.builtin Builtin.append, args := #[Operand.tmp 30, Operand.tmp 39], argTypes := #[30, 30] }, type := 30, pos := "build.go:76", after := #[{ on := 3, ground := Ground.data }, { on := 12, ground := Ground.data }, { on := 0, ground := Ground.phase }, { on := 1, ground := Ground.phase }, { on := 2, ground := Ground.phase }, { on := 3, ground := Ground.phase }, { on := 4, ground := Ground.phase }, { on := 5, ground := Ground.phase }, { on := 6, ground := Ground.phase }, { on := 7, ground := Ground.phase }, { on := 8, ground := Ground.phase }, { on := 9, ground := Ground.phase }, { on := 10, ground := Ground.phase }, { on := 11, ground := Ground.phase }, { on := 12, ground := Ground.phase }], guard := none }) rfl (.tmp 30) (.tmp 39) 30 rfl (.slice xh h.nms.length ch) (.slice (some ⟨W1.heap.size, 0, none⟩) 1 1) rfl rfl (.slice (some ⟨g2, 0, none⟩) (h.nms.length + 1) cap2) w' hapD ?_
            refine hK1.out _ _ N2 (fun _ => ?_)
            clear hK1 K1
            try simp only [Act.put, List.setIfInBounds_toArray, List.set_cons_zero, List.set_cons_succ]
            refine wpAnyH_take (i := 14) (oi := { dst := some 41, op := Op.indexAddr 30 (Operand.tmp 40) (Operand.tmp 38), type := 0, pos := "build.go:76", after := #[{ on := 13, ground := Ground.data }, { on := 11, ground := Ground.data }, { on := 0, ground := Ground.phase }, { on := 1, ground := Ground.phase }, { on := 2, ground := Ground.phase }, { on := 3, ground := Ground.phase }, { on := 4, ground := Ground.phase }, { on := 5, ground := Ground.phase }, { on := 6, ground := Ground.phase }, { on := 7, ground := Ground.phase }, { on := 8, ground := Ground.phase }, { on := 9, ground := Ground.phase }, { on := 10, ground := Ground.phase }, { on := 11, ground := Ground.phase }, { on := 12, ground := Ground.phase }, { on := 13, ground := Ground.phase }, { on := 18, ground := Ground.gcOnly Departure.appendInPlace }], guard := none }) (v := .pointer (some ⟨g2, h.nms.length * 5, none⟩)) rfl (by kernel_rfl) (by kernel_rfl) (by kernel_rfl) (fun _ _ _ h => h) (Or.inl ⟨by rfl, by intro w _; go_simp⟩) N2 ?_
            try simp only [Act.put, List.setIfInBounds_toArray, List.set_cons_zero, List.set_cons_succ]
            refine wpAnyH_take (i := 16) (oi := { dst := some 42, op := Op.nilCheck (Operand.tmp 27), type := 0, pos := "build.go:76", after := #[{ on := 0, ground := Ground.data }, { on := 0, ground := Ground.phase }, { on := 1, ground := Ground.phase }, { on := 2, ground := Ground.phase }, { on := 3, ground := Ground.phase }, { on := 4, ground := Ground.phase }, { on := 5, ground := Ground.phase }, { on := 6, ground := Ground.phase }, { on := 7, ground := Ground.phase }, { on := 8, ground := Ground.phase }, { on := 9, ground := Ground.phase }, { on := 10, ground := Ground.phase }, { on := 11, ground := Ground.phase }, { on := 12, ground := Ground.phase }, { on := 13, ground := Ground.phase }, { on := 14, ground := Ground.textOnly Departure.appendInPlace }, { on := 15, ground := Ground.textOnly Departure.appendInPlace }], guard := none }) (v := .pointer (some ⟨q, R.length * 5 + 1, none⟩)) rfl (by kernel_rfl) (by kernel_rfl) (by kernel_rfl) (fun _ _ _ h => h) (Or.inl ⟨by rfl, by intro w _; go_simp⟩) N2 ?_
            try simp only [Act.put, List.setIfInBounds_toArray, List.set_cons_zero, List.set_cons_succ]
            refine wpAnyH_take (i := 17) (oi := { dst := some 43, op := Op.fieldAddr 32 (Operand.tmp 42) 3, type := 0, pos := "build.go:76", after := #[{ on := 16, ground := Ground.data }, { on := 0, ground := Ground.phase }, { on := 1, ground := Ground.phase }, { on := 2, ground := Ground.phase }, { on := 3, ground := Ground.phase }, { on := 4, ground := Ground.phase }, { on := 5, ground := Ground.phase }, { on := 6, ground := Ground.phase }, { on := 7, ground := Ground.phase }, { on := 8, ground := Ground.phase }, { on := 9, ground := Ground.phase }, { on := 10, ground := Ground.phase }, { on := 11, ground := Ground.phase }, { on := 12, ground := Ground.phase }, { on := 13, ground := Ground.phase }, { on := 14, ground := Ground.textOnly Departure.appendInPlace }, { on := 15, ground := Ground.textOnly Departure.appendInPlace }], guard := none }) (v := .pointer (some ⟨q, R.length * 5 + 1 + 3, none⟩)) rfl (by kernel_rfl) (by kernel_rfl) (by kernel_rfl) (fun _ _ _ h => h) (Or.inl ⟨by rfl, by intro w _; go_simp⟩) N2 ?_
            try simp only [Act.put, List.setIfInBounds_toArray, List.set_cons_zero, List.set_cons_succ]
            refine wpAnyH_ready (rs := [15, 18]) (by kernel_rfl) (by decide) (AllReadyH.cons rfl (fun K1 hK1 => ?_) (AllReadyH.cons rfl (fun K1 hK1 => ?_) AllReadyH.nil))
            · skip
              rw [if_pos (by rfl)]
              go_simp
              refine hK1.out _ _ N3 (fun _ => ?_)
              clear hK1 K1
              refine wpAnyH_ready (rs := [18]) (by kernel_rfl) (by decide) (AllReadyH.cons rfl (fun K1 hK1 => ?_) AllReadyH.nil)
              rw [if_pos (by rfl)]
              go_simp
              refine hK1.out _ _ N4 (fun _ => ?_)
              clear hK1 K1
              refine wpAnyH_done (by kernel_rfl) ?_ _
              (try go_wp2_with fail)
              go_meet
              rfl
            · skip
              rw [if_pos (by rfl)]
              go_simp
              refine hK1.out _ _ N5 (fun _ => ?_)
              clear hK1 K1
              refine wpAnyH_ready (rs := [15]) (by kernel_rfl) (by decide) (AllReadyH.cons rfl (fun K1 hK1 => ?_) AllReadyH.nil)
              rw [if_pos (by rfl)]
              go_simp
              refine hK1.out _ _ N6 (fun _ => ?_)
              clear hK1 K1
              refine wpAnyH_done (by kernel_rfl) ?_ _
              (try go_wp2_with fail)
              go_meet
              exact set5_comm w' g2 (h.nms.length * 5) _ _ _ _ _ ⟨q, R.length * 5 + 4, none⟩ _ hq2
        case rest =>
          clear N0 N1 N2 N3 N4 N5 N6 d4x d4a d4' df z0 z1 z2 z3 z4 f0 f1 f2 f3 f4 hapD a0'
          rw [← HEQ.out] at hcut
          obtain ⟨fpn, X1, X2, X3⟩ := HST.out.out
          have X4 := HST.out.hgw
          rw [← hcut] at X1 X2 X4
          clear hcut HEQ HST
          have a1 : wc.cell? ⟨g, 0, none⟩ = some (.slice (some ⟨q, 0, none⟩) (R.length + 2) co) := by rw [Lib.cell_of_heap X4]; rfl
          have af : wc.frozen? ⟨g, 0, none⟩ = false := Lib.frozen_of_heap X4 0
          have hcapI : (R.length : Int) + 2 - 1 ≤ (co : Int) := by omega
          have hX1 : Hid (Bst (wc.setCell ⟨g, 0, none⟩ (.slice (some ⟨q, 0, none⟩) (R.length + 1) co)) g B (h.push o.nm o.tr :: R) b (.slice (some ⟨q, 0, none⟩) (R.length + 1) co) fpn) := X1
          have HC2 : Hid (clo c (h.push o.nm o.tr :: R) = clo c S) := by
            unfold Hid
            rw [← hclo.out, clo_step c o h R (by omega)]
          have HF3 : Hid (Ff g fp w (wc.setCell ⟨g, 0, none⟩ (.slice (some ⟨q, 0, none⟩) (R.length + 1) co))) := Ff.trans hF.out X2 hfp.out
          have HFP3 : Hid (∀ x ∈ fpn, x ∈ fp ∨ w.heap.size ≤ x) := fun x hx => by
            rcases X3 x hx with hm | hm
            · exact hfp.out x hm
            · exact Or.inr (Nat.le_trans hF.out.size hm)
          have HR3 : Hid ((rowsS (h.push o.nm o.tr :: R)).length ≤ 1073741824) := by
            unfold Hid
            rw [rowsS_close o h R (hL.out h (by simp))]
            exact hR.out
          have HL3 : Hid (lenS (h.push o.nm o.tr :: R)) := lenS_close hL.out
          clear X1 X2 X3 X4 hF hfp hR hL hclo hB
          go_wp2
          go_roundg (gk - 1)
          case measure => have := HGK.out; simp at this; omega
          case rel => exact ⟨h.push o.nm o.tr :: R, _, _, by have := HGK.out; simp at this ⊢; omega, HC2, hX1, HFP3, HF3, HL3, HR3, by simp; omega⟩
    · have hltI : ¬ (c : Int) < (S1.length : Int) := by omega
      have HC : Hid (clo c S = S1) := by
        unfold Hid
        rw [← hclo.out, clo_stop c S1 (by omega)]
      go_wp2
      go_end0
      exact ⟨rfl, ⟨_, fp1, by rw [HC.out]; exact hB.out, hfp.out⟩, hF.out⟩

end Go.Proofs.YtnggbemnblcnaaaDoor
namespace Go.Proofs.YtnggbemnblcnaaaDoor
open Go.RowKit

/-- Entry j of what is open, counted from the root. -/
theorem Opn.get {w : World} {B : Nat} {S : List OE} {v : Value} {fp : List Nat} (H : Opn w B S v fp) (j : Nat) (o : OE) (h : S.reverse[j]? = some o) :
    ∃ q co u fk, v = .slice (some ⟨q, 0, none⟩) S.length co ∧ S.length ≤ co ∧ q ∈ fp ∧ (∀ i, i < 5 → w.cell? ⟨q, j * 5 + i, none⟩ = (entV o.nm o.tr u)[i]?) ∧ TrV w B o.tr u fk ∧ ∀ b ∈ fk, b ∈ fp := by
  obtain ⟨g, cap, u, fk, h1, h2, h3⟩ := TrV.get H.1 j o.nm o.tr (by show (S.reverse.map OE.nm)[j]? = _; rw [List.getElem?_map, h]; rfl) (by show (S.reverse.map OE.tr)[j]? = _; rw [List.getElem?_map, h]; rfl)
  have e : (Tr.mk 0 false ⟨#[]⟩ (S.reverse.map OE.nm) (S.reverse.map OE.tr)).nms.length = S.length := by show (S.reverse.map OE.nm).length = _; simp
  rw [e] at h1 h2
  exact ⟨g, cap, u, fk, h1, h2, h3⟩

/-- Names that lie where nothing is turned by a builder g with the blocks fp. -/
structure Nam (w : World) (g : Nat) (fp : List Nat) (x : Option Addr) (ns : List ByteArray) : Prop where
  get : ∀ i, i < ns.length → ∃ a, x = some a ∧ w.cell? (a.add i) = some (.string (nth ns i))
  far : ∀ a, x = some a → a.block < w.heap.size ∧ a.block ≠ g ∧ a.block ∉ fp
theorem add_block (a : Addr) (i : Nat) : (a.add i).block = a.block := by unfold Addr.add; split <;> rfl
theorem Nam.ff {w w' : World} {g : Nat} {fp fp' : List Nat} {x : Option Addr} {ns : List ByteArray} (h : Nam w g fp x ns) (f : Ff g fp w w') (hf : ∀ b ∈ fp', b ∈ fp ∨ w.heap.size ≤ b) : Nam w' g fp' x ns where
  get := fun i hi => by
    obtain ⟨a, e, hc⟩ := h.get i hi
    obtain ⟨h1, h2, h3⟩ := h.far a e
    refine ⟨a, e, ?_⟩
    rw [World.cell?_of_block (w := w) (w' := w') (a := a.add i) (by rw [add_block]; exact f.keep _ h1 h2 h3)]
    exact hc
  far := fun a e => by
    obtain ⟨h1, h2, h3⟩ := h.far a e
    refine ⟨Nat.lt_of_lt_of_le h1 f.size, h2, fun hm => ?_⟩
    rcases hf _ hm with h | h
    · exact h3 h
    · omega
/-- May the last of these names come next? -/
def opB (S : List OE) (ns : List ByteArray) : Bool := match ns.getLast? with
  | none => false
  | some s => if S.length < ns.length then false else if (way S).take (ns.length - 1) ≠ ns.dropLast then false else match clo ns.length S with
    | [] => false
    | h :: _ => decide (h.k = 3) && !late h.nms s

end Go.Proofs.YtnggbemnblcnaaaDoor
namespace Go.Proofs.YtnggbemnblcnaaaDoor
open Go.RowKit

theorem way_get (S : List OE) (j : Nat) (h : j + 1 < S.length) : ∃ o, S.reverse[j + 1]? = some o ∧ (way S)[j]? = some o.nm := by
  have h1 : j + 1 < S.reverse.length := by rw [List.length_reverse]; exact h
  refine ⟨S.reverse[j + 1], List.getElem?_eq_getElem h1, ?_⟩
  unfold way
  rw [List.getElem?_map, List.getElem?_drop, Nat.add_comm 1 j, List.getElem?_eq_getElem h1]
  rfl
theorem nth_get (ns : List ByteArray) (j : Nat) (h : j < ns.length) : ns[j]? = some (nth ns j) := by
  unfold nth
  rw [List.getD_eq_getElem?_getD, List.getElem?_eq_getElem h]
  rfl
theorem way_eq (S : List OE) (ns : List ByteArray) (h : ∀ j, j < ns.length - 1 → (way S)[j]? = some (nth ns j)) : (way S).take (ns.length - 1) = ns.dropLast := by
  apply List.ext_getElem?
  intro j
  by_cases hj : j < ns.length - 1
  · rw [List.getElem?_take_of_lt hj, h j hj, List.getElem?_dropLast, if_pos hj, nth_get ns j (by omega)]
  · rw [List.getElem?_take, if_neg hj, List.getElem?_dropLast, if_neg hj]
theorem last_get (ns : List ByteArray) (h : ns ≠ []) : ns.getLast? = some (nth ns (ns.length - 1)) := by
  have hl : 0 < ns.length := List.length_pos_iff.2 h
  rw [List.getLast?_eq_getElem?, nth_get ns _ (by omega)]
theorem rev_last (h : OE) (R : List OE) : (h :: R).reverse[R.length]? = some h := by
  rw [List.reverse_cons, List.getElem?_append_right (by simp)]
  simp

theorem TrV.len {w : World} {B : Nat} {T : Tr} {v : Value} {fp : List Nat} (h : TrV w B T v fp) : T.nms.length = T.ks.length := by
  obtain ⟨k, e, t, nms, ks⟩ := T
  rw [TrV] at h
  obtain ⟨cs, fq, ho, hk, rfl⟩ := h
  exact (KidV.len nms ks cs fq hk).2
theorem TrV.small {w : World} {B : Nat} {T : Tr} {x : Option Addr} {n c : Nat} {fp : List Nat} (h : TrV w B T (.slice x n c) fp) : n ≤ maxLen := by
  obtain ⟨k, e, t, nms, ks⟩ := T
  rw [TrV] at h
  obtain ⟨cs, fq, ho, _, _⟩ := h
  rcases ho.2 with ⟨e, _⟩ | ⟨_, cap, _, e, _, _, hn, hm, _⟩
  · injection e with _ e2 _
    rw [e2]
    exact Nat.zero_le _
  · injection e with _ e2 e3
    rw [e2]
    exact Nat.le_trans hn hm
/-- The builder where only blocks beside its own have turned. -/
theorem Bst.same {w w' : World} {g B : Nat} {S : List OE} {b : Int} {v : Value} {fp : List Nat} (h : Bst w g B S b v fp) (e : ∀ k, k < w.heap.size → w'.heap[k]? = w.heap[k]?) (hs : w.heap.size ≤ w'.heap.size) : Bst w' g B S b v fp :=
  ⟨(e g (Nat.lt_of_lt_of_le h.lt h.hB)).trans h.hg, h.op.same (fun x hx => e x (h.op.lt x hx).2), h.lt, Nat.le_trans h.hB hs⟩
theorem Ff.below {g : Nat} {fp : List Nat} {a b c : World} (h : Ff g fp a b) (k : Below b.heap.size b c) : Ff g fp a c :=
  ⟨k.os.trans h.os, k.tape.trans h.tape, k.output.trans h.output, Nat.le_trans h.size k.size, fun i hi h1 h2 => (k.block i (Nat.lt_of_lt_of_le hi h.size)).trans (h.keep i hi h1 h2)⟩
theorem Bst.below {w w' : World} {g B : Nat} {S : List OE} {b : Int} {v : Value} {fp : List Nat} (h : Bst w g B S b v fp) (k : Below w.heap.size w w') : Bst w' g B S b v fp := h.same (fun i hi => k.block i hi) k.size
/-- What openFor leaves where it opens. -/
def OpL (S : List OE) (ns : List ByteArray) (g B : Nat) (b : Int) (fp : List Nat) (w w' : World) : Prop := opB S ns = true → ∃ v' fp', Bst w' g B (clo ns.length S) b v' fp' ∧ ∀ x ∈ fp', x ∈ fp ∨ w.heap.size ≤ x
theorem OpL.no {S : List OE} {ns : List ByteArray} {g B : Nat} {b : Int} {fp : List Nat} {w w' : World} (h : opB S ns = false) : OpL S ns g B b fp w w' := fun e => by rw [h] at e; cases e

set_option maxHeartbeats 16000000 in
set_option maxRecDepth 20000 in
theorem openFor_any (g B : Nat) (S : List OE) (b : Int) (v : Value) (fp : List Nat) (xn : Option Addr) (cn : Nat) (ns : List ByteArray) (w : World) (H : Bst w g B S b v fp) (hS0 : S ≠ []) (hl : lenS S) (hr : (rowsS S).length ≤ 1073741824) (hSl : S.length ≤ 1073741824) (hN : Nam w g fp xn ns) (hns : ns.length ≤ 32) (hcn : ns.length ≤ cn) :
    Calls Tryd.prog 48 #[.pointer (some ⟨g, 0, none⟩), .slice xn ns.length cn] w fun e w' => e = .returned (.bool (opB S ns)) ∧ OpL S ns g B b fp w w' ∧ Ff g fp w w' := by
  have HB : Hid (Bst w g B S b v fp) := H
  have HL : Hid (lenS S) := hl
  have HR : Hid ((rowsS S).length ≤ 1073741824) := hr
  have HN : Hid (Nam w g fp xn ns) := hN
  have HS0 : Hid (S ≠ []) := hS0
  obtain ⟨xo, co, rfl⟩ := H.op.shape
  have a0 : w.cell? ⟨g, 0, none⟩ = some (.slice xo S.length co) := by rw [Lib.cell_of_heap H.hg]; rfl
  clear H hl hr hN hS0
  by_cases hn0 : ns = []
  · have hO : opB S ns = false := by rw [hn0]; rfl
    have HO : Hid (opB S ns = false) := hO
    rw [hO]
    clear hO
    have hnl : ns.length = 0 := by rw [hn0]; rfl
    rw [hnl]
    clear hn0 hnl hcn hns
    go_enter Tryd.func48, Tryd.ntmps48
    go_wp2
    try rw [Exit.noGoto_ret]
    go_ret
    exact ⟨rfl, OpL.no HO.out, Ff.refl _ _ _⟩
  · have hlast := last_get ns hn0
    have hpos : 0 < ns.length := List.length_pos_iff.2 hn0
    obtain ⟨m, hm⟩ : ∃ m, ns.length = m + 1 := ⟨ns.length - 1, by omega⟩
    have hm31 : m ≤ 31 := by omega
    have j1 : ¬ ((m : Int) < 0) := by omega
    have j1' : decide ((m : Int) < 0) = false := decide_eq_false j1
    by_cases hlen : S.length < ns.length
    · have hO : opB S ns = false := by unfold opB; rw [hlast]; dsimp only; rw [if_pos hlen]
      have HO : Hid (opB S ns = false) := hO
      rw [hO, hm]
      have j2 : (S.length : Int) ≤ (m : Int) := by omega
      have j2' : decide ((S.length : Int) ≤ (m : Int)) = true := decide_eq_true j2
      clear hn0 hlast hlen hm hO hcn hns hpos
      go_enter Tryd.func48, Tryd.ntmps48
      go_wp2
      try rw [Exit.noGoto_ret]
      go_ret
      exact ⟨rfl, OpL.no HO.out, Ff.refl _ _ _⟩
    · have j2 : ¬ ((S.length : Int) ≤ (m : Int)) := by omega
      have j2' : decide ((S.length : Int) ≤ (m : Int)) = false := decide_eq_false j2
      have HM : Hid (ns.length = m + 1) := hm
      have hmS : m + 1 ≤ S.length := by omega
      have hO1 : Hid ((way S).take (ns.length - 1) ≠ ns.dropLast → opB S ns = false) := fun h => by unfold opB; rw [hlast]; dsimp only; rw [if_neg hlen, if_pos h]
      have hO2 : Hid ((way S).take (ns.length - 1) = ns.dropLast → ∀ h R, clo ns.length S = h :: R → opB S ns = (decide (h.k = 3) && !late h.nms (nth ns m))) := fun h h' R' hc => by unfold opB; rw [hlast]; dsimp only; rw [if_neg hlen, if_neg (fun g => g h), hc, show ns.length - 1 = m by omega]
      have hcm : m + 1 ≤ cn := by omega
      rw [hm]
      have i2 : (m : Int) ≤ (cn : Int) := by omega
      have i3 : m ≤ cn := by omega
      clear hn0 hlast hlen hm hpos hcn hns
      go_enter Tryd.func48, Tryd.ntmps48
      go_wp2_with fail
      go_loopg [6, 7, 28] m (fun gk u6 u7 kv wr => ∃ k : Nat, gk + k = m ∧ kv = .int .i64 (k : Int) ∧ Hid (∀ j, j < k → (way S)[j]? = some (nth ns j)) ∧ wr = w)
      case atStart => exact ⟨0, rfl, rfl, fun j hj => absurd hj (by omega), rfl⟩
      case round =>
        obtain ⟨k, hgk, rfl, hW, rfl⟩ := hrel
        by_cases hk : k < m
        · have hk' : (k : Int) < (m : Int) := by omega
          obtain ⟨an, rfl, cn1⟩ := HN.out.get k (by rw [HM.out]; omega)
          obtain ⟨o, ho1, ho2⟩ := way_get S k (by omega)
          obtain ⟨q, co', u, fk, hv, hco, hqf, hcell, -⟩ := HB.out.op.get (k + 1) o ho1
          injection hv with e1 _ e2
          subst e1 e2
          have cnm : wr.cell? ⟨q, (k + 1) * 5, none⟩ = some (.string o.nm) := hcell 0 (by decide)
          have hkS : (k : Int) + 1 < (S.length : Int) := by omega
          have hkN : k + 1 < S.length := by omega
          have HO2 : Hid ((way S)[k]? = some o.nm) := ho2
          clear hcell ho1 ho2
          by_cases he : o.nm = nth ns k
          · have HW2 : Hid (∀ j, j < k + 1 → (way S)[j]? = some (nth ns j)) := fun j hj => by
              by_cases ej : j = k
              · rw [ej, HO2.out, he]
              · exact hW.out j (by omega)
            rw [he] at cnm
            generalize nth ns k = s at cn1 cnm
            have hne : (s.toList != s.toList) = false := by simp
            have hne2 : (s.toList == s.toList) = true := by simp
            clear he hW
            go_wp2
            go_roundg (gk - 1)
            case measure => omega
            case rel => exact ⟨k + 1, by omega, by go_num, HW2, rfl⟩
          · have HOF : Hid (opB S ns = false) := hO1.out (fun h => by
              have h2 : ((way S).take (ns.length - 1))[k]? = ns.dropLast[k]? := by rw [h]
              rw [HM.out, Nat.add_sub_cancel, List.getElem?_take_of_lt hk, HO2.out, List.getElem?_dropLast, HM.out, Nat.add_sub_cancel, if_pos hk, nth_get ns k (by rw [HM.out]; omega)] at h2
              exact he (Option.some.inj h2))
            generalize nth ns k = s at cn1 he
            have hne : (o.nm.toList != s.toList) = true := by
              rw [bne_iff_ne]
              intro e
              exact he (by apply ByteArray.ext; apply Array.toList_inj.1; rw [ByteArray.toList_eq, ByteArray.toList_eq] at e; exact e)
            have hne2 : (o.nm.toList == s.toList) = false := by rw [beq_eq_false_iff_ne]; rw [bne_iff_ne] at hne; exact hne
            clear he hW
            go_wp2
            try rw [Exit.noGoto_ret]
            go_ret
            exact ⟨by rw [HOF.out]; rfl, OpL.no HOF.out, Ff.refl _ _ _⟩
        · have hk' : ¬ (k : Int) < (m : Int) := by omega
          have HWY : Hid ((way S).take (ns.length - 1) = ns.dropLast) := way_eq S ns (fun j hj => hW.out j (by have := HM.out; omega))
          have C := closeTo_any g B (m + 1) (by omega) (by omega) S b _ fp wr HB.out HL.out HR.out hSl
          rw [show (((m + 1 : Nat)) : Int) = (m : Int) + 1 from by omega] at C
          have HCL : Hid ((clo (m + 1) S).length = m + 1) := clo_len (m + 1) (by omega) S hmS
          clear hW
          go_wp2_with fail
          refine C.mono ?_
          rintro e w2 ⟨rfl, ⟨v2, fp2, B2, hf2⟩, F2⟩
          clear C
          obtain ⟨h, R, hcl⟩ : ∃ h R, clo (m + 1) S = h :: R := by
            have hl := HCL.out
            cases hc : clo (m + 1) S with
            | nil => rw [hc] at hl; simp at hl
            | cons h R => exact ⟨h, R, rfl⟩
          have hRl : R.length = m := by have h1 := HCL.out; rw [hcl] at h1; simpa using h1
          rw [hcl] at B2
          obtain ⟨q, co', u, fk, hv, hco, hqf, hcell, hTh, hfk⟩ := B2.op.get R.length h (rev_last h R)
          subst hv
          have a2 : w2.cell? ⟨g, 0, none⟩ = some (.slice (some ⟨q, 0, none⟩) (m + 1) co') := by rw [Lib.cell_of_heap B2.hg, show (h :: R).length = m + 1 by rw [List.length_cons, hRl]]; rfl
          obtain ⟨xk, ck, rfl⟩ := hTh.shape
          have eN : h.tr.nms.length = h.nms.length := rfl
          rw [eN] at hcell hTh
          rw [hRl] at hcell
          have n1 : w2.cell? ⟨q, m * 5 + 1, none⟩ = some (.int .i64 h.k) := hcell 1 (by decide)
          have n2 : w2.cell? ⟨q, m * 5 + 2, none⟩ = some (.bool h.e) := hcell 2 (by decide)
          have n3 : w2.cell? ⟨q, m * 5 + 3, none⟩ = some (.string h.t) := hcell 3 (by decide)
          have n4 : w2.cell? ⟨q, m * 5 + 4, none⟩ = some (.slice xk h.nms.length ck) := hcell 4 (by decide)
          have HOP : Hid (opB S ns = (decide (h.k = 3) && !late h.nms (nth ns m))) := hO2.out HWY.out h R (by rw [HM.out]; exact hcl)
          have HB2 : Hid (Bst w2 g B (h :: R) b (.slice (some ⟨q, 0, none⟩) (h :: R).length co') fp2) := B2
          have HF2 : Hid (Ff g fp wr w2) := F2
          have HFP2 : Hid (∀ x ∈ fp2, x ∈ fp ∨ wr.heap.size ≤ x) := hf2
          have HN2 : Hid (Nam w2 g fp2 xn ns) := HN.out.ff F2 hf2
          have HCLO : Hid (clo ns.length S = h :: R) := by unfold Hid; rw [HM.out]; exact hcl
          have m1 : (m : Int) < (m : Int) + 1 := by omega
          have m2 : m < m + 1 := by omega
          have hqw : q < w2.heap.size := (B2.op.lt q hqf).2
          clear hcell B2 F2 hf2 hcl HCL hco hO1 hO2 HL HR HN HB HWY a0
          have hW3 : Below w2.heap.size w2 (w2.alloc (.cells #[.int .i64 h.k, .bool h.e, .string h.t, .slice xk h.nms.length ck] 32)) := (Below.refl _ _).alloc (Nat.le_refl _) _
          have hl3 : w2.heap.size < (w2.alloc (.cells #[.int .i64 h.k, .bool h.e, .string h.t, .slice xk h.nms.length ck] 32)).heap.size := by rw [World.size_alloc]; omega
          have d3 : (w2.alloc (.cells #[.int .i64 h.k, .bool h.e, .string h.t, .slice xk h.nms.length ck] 32)).cell? ⟨w2.heap.size, 3, none⟩ = some (.slice xk h.nms.length ck) := (World.cell?_alloc_new w2 _ _ 3).trans rfl
          by_cases h3 : h.k = 3
          · have g1 : (h.k != 3) = false := by rw [h3]; rfl
            have g2 : (h.k == 3) = true := by rw [h3]; rfl
            by_cases hz : h.nms = []
            · have HT : Hid (opB S ns = true) := by unfold Hid; rw [HOP.out, hz]; simp [h3, late]
              have hn0 : (h.nms.length : Int) = 0 := by rw [hz]; rfl
              have hn1 : ((h.nms.length : Int) == 0) = true := by rw [hz]; rfl
              clear hz h3
              go_wp2_with fail
              generalize w2.alloc (.cells #[.int .i64 h.k, .bool h.e, .string h.t, .slice xk h.nms.length ck] 32) = W3 at hW3 hl3 d3 ⊢
              have HB3 : Hid (Bst W3 g B (h :: R) b (.slice (some ⟨q, 0, none⟩) (h :: R).length co') fp2) := HB2.out.below hW3
              have HF3 : Hid (Ff g fp wr W3) := HF2.out.below hW3
              clear hW3 HB2 HF2 HN2 n1 n2 n3 n4 a2
              go_quiet ((go_at_call 59; exact Calls.quiet_of_same (compare_any _ _ _)))
              generalize hw9 : W3.drewN nq = w9
              have HB9 : Hid (Bst w9 g B (h :: R) b (.slice (some ⟨q, 0, none⟩) (h :: R).length co') fp2) := by rw [← hw9]; exact HB3.out.same (fun _ _ => rfl) (Nat.le_refl _)
              have HF9 : Hid (Ff g fp wr w9) := by rw [← hw9]; exact HF3.out.below ⟨rfl, rfl, rfl, Nat.le_refl _, fun _ _ => rfl⟩
              clear hw9 HB3 HF3
              go_wp2
              go_ret
              exact ⟨by rw [HT.out]; rfl, fun _ => ⟨_, fp2, by rw [HCLO.out]; exact HB9.out, HFP2.out⟩, HF9.out⟩
            · obtain ⟨n, hn⟩ : ∃ n, h.nms.length = n + 1 := ⟨h.nms.length - 1, by have := List.length_pos_iff.2 hz; omega⟩
              obtain ⟨sl, hsl⟩ : ∃ sl, h.nms[n]? = some sl := ⟨_, List.getElem?_eq_getElem (by omega)⟩
              obtain ⟨Kl, hKl⟩ : ∃ Kl, h.ks[n]? = some Kl := ⟨_, List.getElem?_eq_getElem (by have hq : h.nms.length = h.ks.length := TrV.len hTh; omega)⟩
              obtain ⟨gk2, cap3, u3, fk3, hv3, hcap3, hgk3, hcell3, -⟩ := TrV.get hTh n sl Kl hsl hKl
              injection hv3 with e1 _ e2
              subst e1 e2
              have hnl3 : n + 1 ≤ ck := by rw [← hn]; exact hcap3
              have p0 : w2.cell? ⟨gk2, n * 5, none⟩ = some (.string sl) := hcell3 0 (by decide)
              have hgw : gk2 < w2.heap.size := (TrV.lt _ _ _ hTh gk2 hgk3).2
              obtain ⟨an, hxn, cnm⟩ := HN2.out.get m (by rw [HM.out]; omega)
              obtain ⟨hab, -, -⟩ := HN2.out.far an hxn
              subst hxn
              have hlt9 : late h.nms (nth ns m) = decide (0 ≤ cmpB sl (nth ns m)) := by
                unfold late
                rw [List.getLast?_eq_getElem?, hn, Nat.add_sub_cancel, hsl]
              have HT : Hid (opB S ns = decide (cmpB sl (nth ns m) < 0)) := by
                unfold Hid
                rw [HOP.out, hlt9, decide_eq_true h3]
                by_cases hcc : cmpB sl (nth ns m) < 0
                · rw [decide_eq_true hcc, decide_eq_false (by omega)]; rfl
                · rw [decide_eq_false hcc, decide_eq_true (by omega)]; rfl
              rw [hn] at d3 n4 hl3 hW3
              have hn1 : (((n : Int) + 1) == 0) = false := by rw [beq_eq_false_iff_ne]; omega
              have hn0 : ¬ ((n : Int) + 1 = 0) := by omega
              have hnb : n + 1 ≤ 9223372036854775807 := by have h9 := TrV.small hTh; unfold maxLen at h9; rw [hn] at h9; omega
              clear hz h3 hsl hKl hcell3 hlt9 hcap3 HOP hn
              go_wp2_with fail
              have p1 := (hW3.cell (p := ⟨gk2, n * 5, none⟩) hgw).trans p0
              have p2 := (hW3.cell (p := an.add m) (by rw [add_block]; exact hab)).trans cnm
              generalize w2.alloc (.cells #[.int .i64 h.k, .bool h.e, .string h.t, .slice (some ⟨gk2, 0, none⟩) (n + 1) ck] 32) = W3 at hW3 hl3 d3 p1 p2 ⊢
              have HB3 : Hid (Bst W3 g B (h :: R) b (.slice (some ⟨q, 0, none⟩) (h :: R).length co') fp2) := HB2.out.below hW3
              have HF3 : Hid (Ff g fp wr W3) := HF2.out.below hW3
              clear hW3 HB2 HF2 HN2 n1 n2 n3 n4 a2 p0 cnm
              generalize nth ns m = sm at p2 HT
              generalize hcv : cmpB sl sm = cv at HT
              have CC := fun W => compare_any sl sm W
              rw [hcv] at CC
              clear hcv
              go_quiet ((go_at_call 59; exact Calls.quiet_of_same (CC _)))
              generalize hw9 : W3.drewN nq = w9
              have HB9 : Hid (Bst w9 g B (h :: R) b (.slice (some ⟨q, 0, none⟩) (h :: R).length co') fp2) := by rw [← hw9]; exact HB3.out.same (fun _ _ => rfl) (Nat.le_refl _)
              have HF9 : Hid (Ff g fp wr w9) := by rw [← hw9]; exact HF3.out.below ⟨rfl, rfl, rfl, Nat.le_refl _, fun _ _ => rfl⟩
              clear hw9 HB3 HF3
              go_wp2
              go_ret
              exact ⟨by rw [HT.out]; rfl, fun _ => ⟨_, fp2, by rw [HCLO.out]; exact HB9.out, HFP2.out⟩, HF9.out⟩
          · have HOF : Hid (opB S ns = false) := by unfold Hid; rw [HOP.out, decide_eq_false h3]; rfl
            have g1 : (h.k != 3) = true := by rw [bne_iff_ne]; exact h3
            have g2 : (h.k == 3) = false := by rw [beq_eq_false_iff_ne]; exact h3
            have HF3 : Hid (Ff g fp wr (w2.alloc (.cells #[.int .i64 h.k, .bool h.e, .string h.t, .slice xk h.nms.length ck] 32))) := HF2.out.below hW3
            go_wp2
            try rw [Exit.noGoto_ret]
            go_ret
            exact ⟨by rw [HOF.out]; rfl, OpL.no HOF.out, HF3.out⟩

end Go.Proofs.YtnggbemnblcnaaaDoor
namespace Go.Proofs.YtnggbemnblcnaaaDoor
open Go.RowKit

/-- What the putting of one node needs and leaves. -/
structure Psh (wr : World) (g B : Nat) (S : List OE) (b : Int) (xo : Option Addr) (co : Nat) (fp : List Nat) (s : ByteArray) (k : Int) (e : Bool) (t : ByteArray) (g2 cap2 : Nat) (w' : World) : Prop where
  hap : (Builtin.append_ #[30, 30] 30 #[.slice xo S.length co, .slice (some ⟨wr.heap.size, 0, none⟩) 1 1]).run Tryd.prog ((wr.alloc (.cells #[.string ⟨#[]⟩, .int .i64 0, .bool false, .string ⟨#[]⟩, .slice none 0 0] 52)).drew) = .ok (.slice (some ⟨g2, 0, none⟩) (S.length + 1) cap2) w'
  hcap2 : S.length + 1 ≤ cap2
  z0 : w'.cell? ⟨g2, S.length * 5, none⟩ = some (.string ⟨#[]⟩)
  z1 : w'.cell? ⟨g2, S.length * 5 + 1, none⟩ = some (.int .i64 0)
  z2 : w'.cell? ⟨g2, S.length * 5 + 2, none⟩ = some (.bool false)
  z3 : w'.cell? ⟨g2, S.length * 5 + 3, none⟩ = some (.string ⟨#[]⟩)
  z4 : w'.cell? ⟨g2, S.length * 5 + 4, none⟩ = some (.slice none 0 0)
  f : ∀ i, w'.frozen? ⟨g2, i, none⟩ = false
  kg : w'.heap[g]? = wr.heap[g]?
  hgg2 : g ≠ g2
  keep : ∀ x, x < wr.heap.size → x ∉ fp → w'.heap[x]? = wr.heap[x]? ∧ x ≠ g2
  out : ∃ fpn, Bst ((set5 w' g2 (S.length * 5) [.string s, .int .i64 k, .bool e, .string t, .slice none 0 0]).setCell ⟨g, 0, none⟩ (.slice (some ⟨g2, 0, none⟩) (S.length + 1) cap2)) g B (⟨s, k, e, t, [], []⟩ :: S) b (.slice (some ⟨g2, 0, none⟩) (S.length + 1) cap2) fpn ∧ Ff g fp wr ((set5 w' g2 (S.length * 5) [.string s, .int .i64 k, .bool e, .string t, .slice none 0 0]).setCell ⟨g, 0, none⟩ (.slice (some ⟨g2, 0, none⟩) (S.length + 1) cap2)) ∧ ∀ x ∈ fpn, x ∈ fp ∨ wr.heap.size ≤ x

set_option maxHeartbeats 4000000 in
theorem Bst.push {wr : World} {g B : Nat} {S : List OE} {b : Int} {xo : Option Addr} {co : Nat} {fp : List Nat} (hB : Bst wr g B S b (.slice xo S.length co) fp) (hS : S.length ≤ 1073741823) (s : ByteArray) (k : Int) (e : Bool) (t : ByteArray) :
    ∃ g2 cap2 w', Psh wr g B S b xo co fp s k e t g2 cap2 w' := by
  have hT : TrV wr B (.mk k e t [] []) (.slice none 0 0) [] := by
    rw [TrV]
    exact ⟨[], [], World.ownsRow_nil _ _ _ _, by rw [KidV]; exact ⟨rfl, rfl⟩, rfl⟩
  have eL : (Tr.mk 0 false ⟨#[]⟩ (S.reverse.map OE.nm) (S.reverse.map OE.tr)).nms.length = S.length := by show (S.reverse.map OE.nm).length = _; simp
  have hlts := hB.op.lt
  have hgB := hB.lt
  have hBw := hB.hB
  obtain ⟨g2, cap2, w', hap, hcap2, hz, hfz, hkeep, hsz, o1, o2, o3, fp2, hT2, hn2, hg2, hfp2⟩ := TrV.appZ hB.op.1 s (.mk k e t [] []) (.slice none 0 0) [] hT (by rw [List.append_nil]; exact hB.op.2) hBw (by rw [eL]; omega)
  rw [eL] at hap hcap2 hz hT2
  rw [List.append_nil] at hfp2
  have hgw : g < wr.heap.size := Nat.lt_of_lt_of_le hgB hBw
  have hgf : g ∉ fp := fun hm => by have := (hlts g hm).1; omega
  have hgg2 : g ≠ g2 := fun h => by
    rcases hfp2 g2 hg2 with hx | hx
    · exact hgf (by rw [h]; exact hx)
    · omega
  have hT3 : TrV (set5 w' g2 (S.length * 5) [.string s, .int .i64 k, .bool e, .string t, .slice none 0 0]) B (.mk 0 false ⟨#[]⟩ ((⟨s, k, e, t, [], []⟩ :: S).reverse.map OE.nm) ((⟨s, k, e, t, [], []⟩ :: S).reverse.map OE.tr)) (.slice (some ⟨g2, 0, none⟩) (S.length + 1) cap2) fp2 := by
    rw [List.reverse_cons, List.map_append, List.map_append]
    exact hT2
  have hXo := set5_meta w' g2 (S.length * 5) (.string s) (.int .i64 k) (.bool e) (.string t) (.slice none 0 0)
  have hXk := fun x hx => set5_other w' g2 (S.length * 5) (.string s) (.int .i64 k) (.bool e) (.string t) (.slice none 0 0) x hx
  have kg := hkeep g hgw hgf
  refine ⟨g2, cap2, w', hap, hcap2, hz 0 (by decide), hz 1 (by decide), hz 2 (by decide), hz 3 (by decide), hz 4 (by decide), hfz, kg, hgg2, fun x h1 h2 => ⟨hkeep x h1 h2, fun h => ?_⟩, ⟨fp2, ?_, ?_, hfp2⟩⟩
  · rcases hfp2 g2 hg2 with hx | hx
    · exact h2 (by rw [h]; exact hx)
    · omega
  · clear hT2
    generalize set5 w' g2 (S.length * 5) [.string s, .int .i64 k, .bool e, .string t, .slice none 0 0] = X at hT3 hXo hXk ⊢
    refine ⟨?_, ?_, hgB, ?_⟩
    · have h9 : X.heap[g]? = some (.cells #[.slice xo S.length co, .int .i64 b] 61 (0, 0)) := (hXk g hgg2).trans (kg.trans hB.hg)
      simp [World.setCell, Array.getElem?_modify, h9]
    · refine Opn.same (w := X) ⟨hT3, hn2⟩ (fun x hx => Below.heap_setCell _ _ _ x (fun h => ?_))
      have h : x = g := h
      rcases hfp2 x hx with hm | hm
      · exact hgf (by rw [← h]; exact hm)
      · omega
    · rw [World.size_setCell, hXo.2.2.2]
      omega
  · clear hT2 hT3
    generalize set5 w' g2 (S.length * 5) [.string s, .int .i64 k, .bool e, .string t, .slice none 0 0] = X at hXo hXk ⊢
    refine ⟨hXo.1.trans o1, hXo.2.1.trans o2, hXo.2.2.1.trans o3, by rw [World.size_setCell, hXo.2.2.2]; exact hsz, fun x hx h1 h2 => ?_⟩
    refine (Below.heap_setCell _ _ _ x h1).trans ((hXk x (fun h => ?_)).trans (hkeep x hx h2))
    rcases hfp2 g2 hg2 with hm | hm
    · exact h2 (by rw [h]; exact hm)
    · omega

/-- What add answers and leaves. -/
def AddP (r : RW) (S : List OE) (b : Int) (g B : Nat) (fp : List Nat) (w : World) (e : Ending) (w' : World) : Prop :=
  match addR spN r S b with
  | none => e = .returned (.bool false)
  | some (S', b') => e = .returned (.bool true) ∧ ∃ v' fp', Bst w' g B S' b' v' fp' ∧ ∀ x ∈ fp', x ∈ fp ∨ w.heap.size ≤ x
/-- The bytes so far, turned. -/
theorem Bst.bytes {w : World} {g B : Nat} {S : List OE} {b : Int} {v : Value} {fp : List Nat} (h : Bst w g B S b v fp) (b' : Int) : Bst (w.setCell ⟨g, 1, none⟩ (.int .i64 b')) g B S b' v fp ∧ Ff g fp w (w.setCell ⟨g, 1, none⟩ (.int .i64 b')) := by
  refine ⟨⟨?_, h.op.same (fun x hx => Below.heap_setCell _ _ _ x (fun e => ?_)), h.lt, by rw [World.size_setCell]; exact h.hB⟩, rfl, rfl, rfl, by rw [World.size_setCell]; exact Nat.le_refl _, fun x hx h1 h2 => Below.heap_setCell _ _ _ x h1⟩
  · have := h.hg
    simp [World.setCell, Array.getElem?_modify, this]
  · have e : x = g := e
    have h1 := (h.op.lt x hx).1
    have h2 := h.lt
    omega

end Go.Proofs.YtnggbemnblcnaaaDoor
namespace Go.Proofs.YtnggbemnblcnaaaDoor
open Go.RowKit

/-- Block n is a node without kids. -/
def BX (n : Nat) (k : Int) (e : Bool) (t : ByteArray) (W : World) : Prop := W.cell? ⟨n, 0, none⟩ = some (.int .i64 k) ∧ W.cell? ⟨n, 1, none⟩ = some (.bool e) ∧ W.cell? ⟨n, 2, none⟩ = some (.string t) ∧ W.cell? ⟨n, 3, none⟩ = some (.slice none 0 0)
theorem BX.same {n : Nat} {k : Int} {e : Bool} {t : ByteArray} {W W' : World} (h : BX n k e t W) (q : W'.heap[n]? = W.heap[n]?) : BX n k e t W' :=
  ⟨(World.cell?_of_block (w := W) (a := ⟨n, 0, none⟩) q).trans h.1, (World.cell?_of_block (w := W) (a := ⟨n, 1, none⟩) q).trans h.2.1, (World.cell?_of_block (w := W) (a := ⟨n, 2, none⟩) q).trans h.2.2.1, (World.cell?_of_block (w := W) (a := ⟨n, 3, none⟩) q).trans h.2.2.2⟩
theorem BX.lt {n : Nat} {k : Int} {e : Bool} {t : ByteArray} {W : World} (h : BX n k e t W) : n < W.heap.size := World.block_lt_of_cell? _ _ h.1
theorem BX.below {n : Nat} {k : Int} {e : Bool} {t : ByteArray} {W W' : World} (h : BX n k e t W) (b : Below W.heap.size W W') : BX n k e t W' := h.same (b.block n h.lt)
theorem BX.far {n g i : Nat} {k : Int} {e : Bool} {t : ByteArray} {W : World} {x : Value} (h : BX n k e t W) (hn : n ≠ g) : BX n k e t (W.setCell ⟨g, i, none⟩ x) := h.same (Below.heap_setCell _ _ _ n hn)
/-- Block n is an entry whose node has no kids. -/
def EX (n : Nat) (s : ByteArray) (k : Int) (e : Bool) (t : ByteArray) (W : World) : Prop := W.cell? ⟨n, 0, none⟩ = some (.string s) ∧ W.cell? ⟨n, 1, none⟩ = some (.int .i64 k) ∧ W.cell? ⟨n, 2, none⟩ = some (.bool e) ∧ W.cell? ⟨n, 3, none⟩ = some (.string t) ∧ W.cell? ⟨n, 4, none⟩ = some (.slice none 0 0)
theorem EX.same {n : Nat} {s : ByteArray} {k : Int} {e : Bool} {t : ByteArray} {W W' : World} (h : EX n s k e t W) (q : W'.heap[n]? = W.heap[n]?) : EX n s k e t W' :=
  ⟨(World.cell?_of_block (w := W) (a := ⟨n, 0, none⟩) q).trans h.1, (World.cell?_of_block (w := W) (a := ⟨n, 1, none⟩) q).trans h.2.1, (World.cell?_of_block (w := W) (a := ⟨n, 2, none⟩) q).trans h.2.2.1, (World.cell?_of_block (w := W) (a := ⟨n, 3, none⟩) q).trans h.2.2.2.1, (World.cell?_of_block (w := W) (a := ⟨n, 4, none⟩) q).trans h.2.2.2.2⟩
theorem EX.lt {n : Nat} {s : ByteArray} {k : Int} {e : Bool} {t : ByteArray} {W : World} (h : EX n s k e t W) : n < W.heap.size := World.block_lt_of_cell? _ _ h.1
theorem EX.below {n : Nat} {s : ByteArray} {k : Int} {e : Bool} {t : ByteArray} {W W' : World} (h : EX n s k e t W) (b : Below W.heap.size W W') : EX n s k e t W' := h.same (b.block n h.lt)
theorem EX.far {n g i : Nat} {s : ByteArray} {k : Int} {e : Bool} {t : ByteArray} {W : World} {x : Value} (h : EX n s k e t W) (hn : n ≠ g) : EX n s k e t (W.setCell ⟨g, i, none⟩ x) := h.same (Below.heap_setCell _ _ _ n hn)
theorem Ff.of_below {g : Nat} {fp : List Nat} {a c : World} (k : Below a.heap.size a c) : Ff g fp a c := (Ff.refl g fp a).below k
theorem nb_bd (k : Int) (e : Bool) (t : ByteArray) : 0 ≤ nbP k e t ∧ nbP k e t ≤ 2199023255552 := by
  have := fr_bd t.size
  unfold nbP
  repeat' split
  all_goals omega
theorem eb_bd (s : ByteArray) : 0 ≤ ebP s ∧ ebP s ≤ 2199023255552 := by
  have := fr_bd s.size
  unfold ebP
  omega

theorem Ff.new {g : Nat} {fp : List Nat} {a b : World} (h : Ff g fp a b) {x i : Nat} {u : Value} (hx : a.heap.size ≤ x) : Ff g fp a (b.setCell ⟨x, i, none⟩ u) :=
  ⟨h.os, h.tape, h.output, by rw [World.size_setCell]; exact h.size, fun y hy h1 h2 => (Below.heap_setCell _ _ _ y (by show y ≠ x; omega)).trans (h.keep y hy h1 h2)⟩
theorem Bst.off {w : World} {g B : Nat} {S : List OE} {b : Int} {v : Value} {fp : List Nat} (h : Bst w g B S b v fp) {x i : Nat} {u : Value} (h1 : g ≠ x) (h2 : x ∉ fp) : Bst (w.setCell ⟨x, i, none⟩ u) g B S b v fp :=
  ⟨(Below.heap_setCell _ _ _ g h1).trans h.hg, h.op.same (fun y hy => Below.heap_setCell _ _ _ y (fun e => h2 (by have e : y = x := e; rw [← e]; exact hy))), h.lt, by rw [World.size_setCell]; exact h.hB⟩
theorem addR_no {p t : ByteArray} {k : Int} {e : Bool} {S : List OE} {b : Int} {ns : List ByteArray} (hsp : spN p = some ns) (hC : cfP k e t 0 = 0) (hS : S ≠ []) (h : opB S ns = false) : addR spN (p, k, e, t) S b = none := by
  unfold addR
  dsimp only
  rw [hsp]
  dsimp only
  rw [if_neg (by rw [hC]; decide)]
  unfold opB at h
  cases S with
  | nil => exact absurd rfl hS
  | cons o S =>
    cases hl : ns.getLast? with
    | none => rfl
    | some s =>
      rw [hl] at h
      dsimp only at h ⊢
      by_cases h1 : (o :: S).length < ns.length
      · rw [if_pos h1]
      · rw [if_neg h1] at h ⊢
        by_cases h2 : (way (o :: S)).take (ns.length - 1) ≠ ns.dropLast
        · rw [if_pos h2]
        · rw [if_neg h2] at h ⊢
          cases hc : clo ns.length (o :: S) with
          | nil => rfl
          | cons h' R =>
            rw [hc] at h
            dsimp only at h ⊢
            by_cases h3 : h'.k = 3
            · rw [decide_eq_true h3, Bool.true_and] at h
              have h4 : late h'.nms s = true := by simpa using h
              rw [if_neg (fun g => g h3), if_pos h4]
            · rw [if_pos h3]
theorem addR_yes {p t : ByteArray} {k : Int} {e : Bool} {S : List OE} {b : Int} {ns : List ByteArray} (hsp : spN p = some ns) (hC : cfP k e t 0 = 0) (hS : S ≠ []) (h : opB S ns = true) : ns ≠ [] ∧ clo ns.length S ≠ [] ∧ addR spN (p, k, e, t) S b = if b + nbP k e t + ebP (nth ns (ns.length - 1)) ≤ 1048576 then some (⟨nth ns (ns.length - 1), k, e, t, [], []⟩ :: clo ns.length S, b + nbP k e t + ebP (nth ns (ns.length - 1))) else none := by
  have hn : ns ≠ [] := fun g => by rw [g] at h; cases h
  have hl := last_get ns hn
  unfold opB at h
  rw [hl] at h
  dsimp only at h
  unfold addR
  dsimp only
  rw [hsp]
  dsimp only
  rw [if_neg (by rw [hC]; decide), hl]
  cases S with
  | nil => exact absurd rfl hS
  | cons o S =>
    dsimp only
    by_cases h1 : (o :: S).length < ns.length
    · rw [if_pos h1] at h; cases h
    · rw [if_neg h1] at h ⊢
      by_cases h2 : (way (o :: S)).take (ns.length - 1) ≠ ns.dropLast
      · rw [if_pos h2] at h; cases h
      · rw [if_neg h2] at h ⊢
        cases hc : clo ns.length (o :: S) with
        | nil => rw [hc] at h; cases h
        | cons h' R =>
          rw [hc] at h
          dsimp only at h ⊢
          rw [Bool.and_eq_true, decide_eq_true_eq] at h
          rw [if_neg (fun g => g h.1), if_neg (by simpa using h.2)]
          exact ⟨hn, by simp, rfl⟩
theorem pcs_mem (p : ByteArray) (r f : Nat) : ∀ x ∈ pcs p r f, x.size ≤ p.size := by
  induction r generalizing f with
  | zero =>
    intro x hx
    unfold pcs at hx
    simp at hx
    rw [hx, ByteArray.size_extract]
    omega
  | succ r ih =>
    intro x hx
    unfold pcs at hx
    split at hx
    · simp at hx
      rw [hx, ByteArray.size_extract]
      omega
    · rcases List.mem_cons.1 hx with rfl | h
      · rw [ByteArray.size_extract]; omega
      · exact ih _ x h
theorem pathN_mem (p : ByteArray) : ∀ x ∈ pathN p, x.size ≤ p.size := by
  unfold pathN
  repeat' split
  all_goals first | exact pcs_mem p 31 0 | (intro x hx; cases hx)
theorem EX.name {n : Nat} {s0 s : ByteArray} {k : Int} {e : Bool} {t : ByteArray} {W : World} (h : EX n s0 k e t W) : EX n s k e t (W.setCell ⟨n, 0, none⟩ (.string s)) :=
  ⟨World.cell?_setCell_same _ _ _ h.1, (World.cell?_setCell_other _ _ _ _ (by simp)).trans h.2.1, (World.cell?_setCell_other _ _ _ _ (by simp)).trans h.2.2.1, (World.cell?_setCell_other _ _ _ _ (by simp)).trans h.2.2.2.1, (World.cell?_setCell_other _ _ _ _ (by simp)).trans h.2.2.2.2⟩
theorem pathN_len (p : ByteArray) : (pathN p).length ≤ 32 := by
  unfold pathN
  repeat' split
  all_goals first | exact pcs_len p 31 0 | simp

set_option maxHeartbeats 32000000 in
set_option maxRecDepth 20000 in
theorem add_any (g B : Nat) (S : List OE) (b : Int) (v : Value) (fp : List Nat) (p t : ByteArray) (k : Int) (e : Bool) (w : World) (H : Bst w g B S b v fp) (hl : lenS S) (hr : (rowsS S).length ≤ 1073741824) (hSl : S.length ≤ 1073741823) (hb0 : 0 ≤ b) (hb1 : b ≤ 1048576) (hp : p.size ≤ 1048576) (ht : t.size ≤ 1048576) :
    Calls Tryd.prog 21 #[.pointer (some ⟨g, 0, none⟩), .agg #[.string p, .int .i64 k, .bool e, .string t]] w fun en w' => AddP (p, k, e, t) S b g B fp w en w' ∧ Ff g fp w w' := by
  have HB : Hid (Bst w g B S b v fp) := H
  have HL : Hid (lenS S) := hl
  have HR : Hid ((rowsS S).length ≤ 1073741824) := hr
  obtain ⟨xo, co, rfl⟩ := H.op.shape
  have hgw : g < w.heap.size := Nat.lt_of_lt_of_le H.lt H.hB
  have CS := fun W => split_full p W (by omega)
  have CF := fun W => checkFields_any k e t none 0 0 W
  have CN := fun W => nodeBytes_any k e t none 0 0 W (by omega)
  unfold ndV at CF CN
  have hnb := nb_bd k e t
  have HA : Hid (AddP (p, k, e, t) S b g B fp w = AddP (p, k, e, t) S b g B fp w) := rfl
  clear H hl hr
  go_enter Tryd.func21, Tryd.ntmps21
  go_wp2_with fail
  have B1 : Below w.heap.size w ((w.alloc (.cells #[.string p, .int .i64 k, .bool e, .string t] 27)).alloc (.cells #[.int .i64 k, .bool e, .string t, .slice none 0 0] 32)) := ((Below.refl _ _).alloc (Nat.le_refl _) _).alloc (by rw [World.size_alloc]; omega) _
  have X1 : BX (w.heap.size + 1) k e t ((w.alloc (.cells #[.string p, .int .i64 k, .bool e, .string t] 27)).alloc (.cells #[.int .i64 k, .bool e, .string t, .slice none 0 0] 32)) := by
    have q := fun i => World.cell?_alloc_new (w.alloc (.cells #[.string p, .int .i64 k, .bool e, .string t] 27)) #[.int .i64 k, .bool e, .string t, .slice none 0 0] 32 i
    rw [World.size_alloc] at q
    exact ⟨q 0, q 1, q 2, q 3⟩
  have HG1 : Hid (w.heap.size < w.heap.size + 1) := by unfold Hid; omega
  have hgnb : w.heap.size + 1 ≠ g := by omega
  have hnbw : w.heap.size ≤ w.heap.size + 1 := by omega
  generalize (w.alloc (.cells #[.string p, .int .i64 k, .bool e, .string t] 27)).alloc (.cells #[.int .i64 k, .bool e, .string t, .slice none 0 0] 32) = W1 at B1 X1 ⊢
  generalize w.heap.size + 1 = nb at X1 hgnb hnbw ⊢
  clear HG1
  refine (CS W1).mono ?_
  rintro en w2 ⟨vn, rfl, SN, L2⟩
  have X2 := X1.below L2
  have B2 : Below w.heap.size w w2 := B1.trans (L2.mono B1.size)
  obtain ⟨xn, cn, rfl⟩ : ∃ xn cn, vn = .slice xn (pathN p).length cn := by
    rcases SN with ⟨h1, h2⟩ | ⟨g0, c0, h1, h2, _⟩
    · exact ⟨none, 0, by rw [h1, h2]; rfl⟩
    · exact ⟨_, c0, h1⟩
  have hfpw := HB.out.op.lt
  have HNAM : Hid (Nam w2 g fp xn (pathN p) ∧ (pathN p).length ≤ cn) := by
    rcases SN with ⟨h1, h2⟩ | ⟨g0, c0, h1, h2, ⟨h3, h4⟩, h5⟩
    · injection h1 with e1 e2 e3
      refine ⟨⟨fun i hi => ?_, fun a ha => ?_⟩, by omega⟩
      · rw [h2] at hi; simp at hi
      · rw [e1] at ha; cases ha
    · injection h1 with e1 e2 e3
      subst e1 e3
      have hB1 := B1.size
      refine ⟨⟨fun i hi => ⟨_, rfl, by rw [Addr.add_lit, Nat.zero_add]; exact h5.cell i (by omega)⟩, fun a ha => ?_⟩, h2⟩
      cases ha
      refine ⟨h5.lt (by omega), fun h => ?_, fun h => ?_⟩
      · have h : g0 = g := h
        omega
      · have := (hfpw g0 h).2
        omega
  clear CS B1 L2 X1 SN W1
  have B3 : Below w.heap.size w (w2.alloc (.cells #[.int .i64 (pathF p).1, .int .i64 (pathF p).2] 35)) := B2.alloc B2.size _
  have hsp : spN p = if (pathF p).1 = 0 then some (pathN p) else none := rfl
  by_cases hF : (pathF p).1 = 0
  · rw [if_pos hF] at hsp
    by_cases hC : cfP k e t 0 = 0
    · have hCb : (cfP k e t 0 != 0) = false := by rw [hC]; rfl
      have X3 := X2.same (Below.heap_alloc w2 (.cells #[.int .i64 (pathF p).1, .int .i64 (pathF p).2] 35) nb X2.lt)
      have HN3 : Hid (Nam (w2.alloc (.cells #[.int .i64 (pathF p).1, .int .i64 (pathF p).2] 35)) g fp xn (pathN p)) := HNAM.out.1.ff (Ff.of_below (g := g) (fp := fp) ((Below.refl _ w2).alloc (Nat.le_refl _) _)) (fun _ h => Or.inl h)
      have hncn := HNAM.out.2
      have hnl := pathN_len p
      obtain ⟨y0, y1, y2, y3⟩ := X3
      have HSP : Hid (spN p = some (pathN p)) := hsp
      have HC : Hid (cfP k e t 0 = 0) := hC
      rw [hF] at B3 y0 y1 y2 y3 HN3 ⊢
      rw [hC] at CF
      have HMEM : Hid (∀ x ∈ pathN p, x.size ≤ p.size) := pathN_mem p
      generalize hns : pathN p = ns at HN3 hncn hnl HSP HMEM ⊢
      clear hC hCb hsp HNAM X2 B2 hF hns
      go_wp2_with fail
      generalize w2.alloc (.cells #[.int .i64 0, .int .i64 (pathF p).2] 35) = W1 at B3 y0 y1 y2 y3 HN3 ⊢
      refine (CF W1).mono ?_
      rintro en W2 ⟨rfl, L4⟩
      have N0 : BX nb k e t W2.drew := BX.below ⟨y0, y1, y2, y3⟩ L4.drew
      have B4 : Below w.heap.size w W2 := B3.trans (L4.mono B3.size)
      have HB5 : Hid (Bst W2.drew g B S b (.slice xo S.length co) fp) := (HB.out.below B4).same (fun _ _ => rfl) (Nat.le_refl _)
      have HF5 : Hid (Ff g fp w W2.drew) := Ff.of_below B4.drew
      have HN5 : Hid (Nam W2.drew g fp xn ns) := HN3.out.ff (Ff.of_below (g := g) (fp := fp) L4.drew) (fun _ h => Or.inl h)
      have hg1 : W2.drew.cell? ⟨g, 1, none⟩ = some (.int .i64 b) := by rw [Lib.cell_of_heap HB5.out.hg]; rfl
      have LB5 : w.heap.size ≤ W2.drew.heap.size := B4.size
      generalize hNB : nbP k e t = NB at CN hnb
      have HNB : Hid (nbP k e t = NB) := hNB
      obtain ⟨hnb0, hnb1⟩ := hnb
      have hwr : IntKind.i64.wrap (b + NB) = b + NB := by rw [IntKind.wrap_i64]; omega
      clear CF L4 B3 y0 y1 y2 y3 HN3 B4 hNB HB
      go_upto_region 5 with fail
      go_cut [] from 30 to 38 (fun wx => Bst wx g B S (b + NB) (.slice xo S.length co) fp ∧ Ff g fp w wx ∧ BX nb k e t wx ∧ Nam wx g fp xn ns ∧ w.heap.size ≤ wx.heap.size)
      case first =>
        refine wp_region_held_drew (S := BX nb k e t) (by kernel_rfl) N0 (fun _ => ?_)
        generalize W2.drew = W1 at N0 HB5 HF5 HN5 hg1 LB5 ⊢
        refine wpAnyH_take (i := 0) (oi := { dst := some 30, op := Op.move (Operand.tmp 0), type := 100, pos := "build.go:36", after := #[], guard := none }) (v := .pointer (some ⟨g, 0, none⟩)) rfl (by kernel_rfl) (by kernel_rfl) (by kernel_rfl) (fun _ _ _ h => h) (Or.inl ⟨by rfl, by intro w _; go_simp⟩) N0 ?_
        try simp only [Act.put, List.setIfInBounds_toArray, List.set_cons_zero, List.set_cons_succ]
        refine wpAnyH_take (i := 1) (oi := { dst := some 31, op := Op.nilCheck (Operand.tmp 30), type := 0, pos := "build.go:36", after := #[{ on := 0, ground := Ground.data }], guard := none }) (v := .pointer (some ⟨g, 0, none⟩)) rfl (by kernel_rfl) (by kernel_rfl) (by kernel_rfl) (fun _ _ _ h => h) (Or.inl ⟨by rfl, by intro w _; go_simp⟩) N0 ?_
        try simp only [Act.put, List.setIfInBounds_toArray, List.set_cons_zero, List.set_cons_succ]
        refine wpAnyH_take (i := 2) (oi := { dst := some 32, op := Op.fieldAddr 61 (Operand.tmp 31) 1, type := 0, pos := "build.go:36", after := #[{ on := 1, ground := Ground.data }], guard := none }) (v := .pointer (some ⟨g, 1, none⟩)) rfl (by kernel_rfl) (by kernel_rfl) (by kernel_rfl) (fun _ _ _ h => h) (Or.inl ⟨by rfl, by intro w _; go_simp⟩) N0 ?_
        try simp only [Act.put, List.setIfInBounds_toArray, List.set_cons_zero, List.set_cons_succ]
        refine wpAnyH_take (i := 4) (oi := { dst := some 34, op := Op.load 32 (Operand.tmp 5), type := 32, pos := "build.go:36", after := #[], guard := none }) (v := .agg #[.int .i64 k, .bool e, .string t, .slice none 0 0]) rfl (by kernel_rfl) (by kernel_rfl) (by kernel_rfl) (fun _ _ _ h => h) (Or.inl ⟨by rfl, by rintro w ⟨s0, s1, s2, s3⟩; go_simp⟩) N0 ?_
        try simp only [Act.put, List.setIfInBounds_toArray, List.set_cons_zero, List.set_cons_succ]
        refine wpAnyH_ready (rs := [3, 5]) (by kernel_rfl) (by decide) (AllReadyH.cons rfl (fun K1 hK1 => ?_) (AllReadyH.cons rfl (fun K1 hK1 => ?_) AllReadyH.nil))
        · skip
          rw [if_pos (by rfl)]
          go_simp
          refine hK1.out _ _ N0 (fun _ => ?_)
          clear hK1 K1
          try simp only [Act.put, List.setIfInBounds_toArray, List.set_cons_zero, List.set_cons_succ]
          refine wpAnyH_ready (rs := [5]) (by kernel_rfl) (by decide) (AllReadyH.cons rfl (fun K1 hK1 => ?_) AllReadyH.nil)
          rw [if_pos (by rfl)]
          go_simp
          refine (CN W1).mono ?_
          rintro en5 w5 ⟨rfl, L5⟩
          have N5 := N0.below L5
          have HB6 := HB5.out.below L5
          have HF6 := HF5.out.below L5
          have HN6 := HN5.out.ff (Ff.of_below (g := g) (fp := fp) L5) (fun _ h => Or.inl h)
          have hg6 : w5.cell? ⟨g, 1, none⟩ = some (.int .i64 b) := by rw [Lib.cell_of_heap HB6.hg]; rfl
          have fg6 : w5.frozen? ⟨g, 1, none⟩ = false := Lib.frozen_of_heap HB6.hg 1
          have LB6 : w.heap.size ≤ w5.heap.size := Nat.le_trans LB5 L5.size
          go_wp2_with fail
          refine hK1.out _ _ N5 (fun _ => ?_)
          clear hK1 K1
          try simp only [Act.put, List.setIfInBounds_toArray, List.set_cons_zero, List.set_cons_succ]
          refine wpAnyH_take (i := 6) (oi := { dst := some 36, op := Op.binOp BinOp.add 3 (Operand.tmp 33) (Operand.tmp 35) 3, type := 3, pos := "build.go:36", after := #[{ on := 3, ground := Ground.data }, { on := 5, ground := Ground.data }], guard := none }) (v := .int .i64 (b + NB)) rfl (by kernel_rfl) (by kernel_rfl) (by kernel_rfl) (fun _ _ _ h => h) (Or.inl ⟨by rfl, by intro w _; go_simp⟩) N5 ?_
          try simp only [Act.put, List.setIfInBounds_toArray, List.set_cons_zero, List.set_cons_succ]
          refine wpAnyH_take (i := 7) (oi := { dst := some 37, op := Op.nilCheck (Operand.tmp 30), type := 0, pos := "build.go:36", after := #[{ on := 0, ground := Ground.data }, { on := 0, ground := Ground.phase }, { on := 1, ground := Ground.phase }, { on := 2, ground := Ground.phase }, { on := 3, ground := Ground.phase }, { on := 4, ground := Ground.phase }, { on := 5, ground := Ground.phase }, { on := 6, ground := Ground.phase }], guard := none }) (v := .pointer (some ⟨g, 0, none⟩)) rfl (by kernel_rfl) (by kernel_rfl) (by kernel_rfl) (fun _ _ _ h => h) (Or.inl ⟨by rfl, by intro w _; go_simp⟩) N5 ?_
          try simp only [Act.put, List.setIfInBounds_toArray, List.set_cons_zero, List.set_cons_succ]
          refine wpAnyH_take (i := 8) (oi := { dst := some 38, op := Op.fieldAddr 61 (Operand.tmp 37) 1, type := 0, pos := "build.go:36", after := #[{ on := 7, ground := Ground.data }, { on := 0, ground := Ground.phase }, { on := 1, ground := Ground.phase }, { on := 2, ground := Ground.phase }, { on := 3, ground := Ground.phase }, { on := 4, ground := Ground.phase }, { on := 5, ground := Ground.phase }, { on := 6, ground := Ground.phase }], guard := none }) (v := .pointer (some ⟨g, 1, none⟩)) rfl (by kernel_rfl) (by kernel_rfl) (by kernel_rfl) (fun _ _ _ h => h) (Or.inl ⟨by rfl, by intro w _; go_simp⟩) N5 ?_
          try simp only [Act.put, List.setIfInBounds_toArray, List.set_cons_zero, List.set_cons_succ]
          refine wpAnyH_ready (rs := [9]) (by kernel_rfl) (by decide) (AllReadyH.cons rfl (fun K1 hK1 => ?_) AllReadyH.nil)
          have N6 := N5.far (g := g) (i := 1) (x := .int .i64 (b + NB)) hgnb
          rw [if_pos (by rfl)]
          go_simp
          refine hK1.out _ _ N6 (fun _ => ?_)
          clear hK1 K1
          refine wpAnyH_done (by kernel_rfl) ?_ _
          (try go_wp2_with fail)
          go_meet
          obtain ⟨Y1, Y2⟩ := HB6.bytes (b + NB)
          exact ⟨Y1, HF6.trans Y2 (fun _ h => Or.inl h), N6, HN6.ff Y2 (fun _ h => Or.inl h), by rw [World.size_setCell]; exact LB6⟩
        · skip
          rw [if_pos (by rfl)]
          go_simp
          refine (CN W1).mono ?_
          rintro en5 w5 ⟨rfl, L5⟩
          have N5 := N0.below L5
          have HB6 := HB5.out.below L5
          have HF6 := HF5.out.below L5
          have HN6 := HN5.out.ff (Ff.of_below (g := g) (fp := fp) L5) (fun _ h => Or.inl h)
          have hg6 : w5.cell? ⟨g, 1, none⟩ = some (.int .i64 b) := by rw [Lib.cell_of_heap HB6.hg]; rfl
          have fg6 : w5.frozen? ⟨g, 1, none⟩ = false := Lib.frozen_of_heap HB6.hg 1
          have LB6 : w.heap.size ≤ w5.heap.size := Nat.le_trans LB5 L5.size
          go_wp2_with fail
          refine hK1.out _ _ N5 (fun _ => ?_)
          clear hK1 K1
          try simp only [Act.put, List.setIfInBounds_toArray, List.set_cons_zero, List.set_cons_succ]
          refine wpAnyH_ready (rs := [3]) (by kernel_rfl) (by decide) (AllReadyH.cons rfl (fun K1 hK1 => ?_) AllReadyH.nil)
          rw [if_pos (by rfl)]
          go_simp
          refine hK1.out _ _ N5 (fun _ => ?_)
          clear hK1 K1
          try simp only [Act.put, List.setIfInBounds_toArray, List.set_cons_zero, List.set_cons_succ]
          refine wpAnyH_take (i := 6) (oi := { dst := some 36, op := Op.binOp BinOp.add 3 (Operand.tmp 33) (Operand.tmp 35) 3, type := 3, pos := "build.go:36", after := #[{ on := 3, ground := Ground.data }, { on := 5, ground := Ground.data }], guard := none }) (v := .int .i64 (b + NB)) rfl (by kernel_rfl) (by kernel_rfl) (by kernel_rfl) (fun _ _ _ h => h) (Or.inl ⟨by rfl, by intro w _; go_simp⟩) N5 ?_
          try simp only [Act.put, List.setIfInBounds_toArray, List.set_cons_zero, List.set_cons_succ]
          refine wpAnyH_take (i := 7) (oi := { dst := some 37, op := Op.nilCheck (Operand.tmp 30), type := 0, pos := "build.go:36", after := #[{ on := 0, ground := Ground.data }, { on := 0, ground := Ground.phase }, { on := 1, ground := Ground.phase }, { on := 2, ground := Ground.phase }, { on := 3, ground := Ground.phase }, { on := 4, ground := Ground.phase }, { on := 5, ground := Ground.phase }, { on := 6, ground := Ground.phase }], guard := none }) (v := .pointer (some ⟨g, 0, none⟩)) rfl (by kernel_rfl) (by kernel_rfl) (by kernel_rfl) (fun _ _ _ h => h) (Or.inl ⟨by rfl, by intro w _; go_simp⟩) N5 ?_
          try simp only [Act.put, List.setIfInBounds_toArray, List.set_cons_zero, List.set_cons_succ]
          refine wpAnyH_take (i := 8) (oi := { dst := some 38, op := Op.fieldAddr 61 (Operand.tmp 37) 1, type := 0, pos := "build.go:36", after := #[{ on := 7, ground := Ground.data }, { on := 0, ground := Ground.phase }, { on := 1, ground := Ground.phase }, { on := 2, ground := Ground.phase }, { on := 3, ground := Ground.phase }, { on := 4, ground := Ground.phase }, { on := 5, ground := Ground.phase }, { on := 6, ground := Ground.phase }], guard := none }) (v := .pointer (some ⟨g, 1, none⟩)) rfl (by kernel_rfl) (by kernel_rfl) (by kernel_rfl) (fun _ _ _ h => h) (Or.inl ⟨by rfl, by intro w _; go_simp⟩) N5 ?_
          try simp only [Act.put, List.setIfInBounds_toArray, List.set_cons_zero, List.set_cons_succ]
          refine wpAnyH_ready (rs := [9]) (by kernel_rfl) (by decide) (AllReadyH.cons rfl (fun K1 hK1 => ?_) AllReadyH.nil)
          have N6 := N5.far (g := g) (i := 1) (x := .int .i64 (b + NB)) hgnb
          rw [if_pos (by rfl)]
          go_simp
          refine hK1.out _ _ N6 (fun _ => ?_)
          clear hK1 K1
          refine wpAnyH_done (by kernel_rfl) ?_ _
          (try go_wp2_with fail)
          go_meet
          obtain ⟨Y1, Y2⟩ := HB6.bytes (b + NB)
          exact ⟨Y1, HF6.trans Y2 (fun _ h => Or.inl h), N6, HN6.ff Y2 (fun _ h => Or.inl h), by rw [World.size_setCell]; exact LB6⟩
      case rest =>
        obtain ⟨B6, F6, N6, HN6, LB6⟩ := hcut
        have HB6 : Hid (Bst wc g B S (b + NB) (.slice xo S.length co) fp) := B6
        have HF6 : Hid (Ff g fp w wc) := F6
        have HN7 : Hid (Nam wc g fp xn ns) := HN6
        obtain ⟨y0, y1, y2, y3⟩ := N6
        have a0 : wc.cell? ⟨g, 0, none⟩ = some (.slice xo S.length co) := by rw [Lib.cell_of_heap B6.hg]; rfl
        have hgc : g < wc.heap.size := Nat.lt_of_lt_of_le B6.lt B6.hB
        clear N0 HB5 HF5 HN5 hg1 LB5 B6 F6 HN6 CN
        have hne0 : w.heap.size ≤ wc.heap.size := LB6
        have BE : Below wc.heap.size wc (wc.alloc (.cells #[.string ⟨#[]⟩, .int .i64 k, .bool e, .string t, .slice none 0 0] 52)) := (Below.refl _ _).alloc (Nat.le_refl _) _
        have EX4 : EX wc.heap.size ⟨#[]⟩ k e t (wc.alloc (.cells #[.string ⟨#[]⟩, .int .i64 k, .bool e, .string t, .slice none 0 0] 52)) := by
          have q := fun i => World.cell?_alloc_new wc #[.string ⟨#[]⟩, .int .i64 k, .bool e, .string t, .slice none 0 0] 52 i
          exact ⟨q 0, q 1, q 2, q 3, q 4⟩
        have hneg : wc.heap.size ≠ g := by omega
        have hnef : wc.heap.size ∉ fp := fun h => by have := (HB6.out.op.lt _ h).2; omega
        by_cases hS : S = []
        · have hS0 : (S.length : Int) = 0 := by rw [hS]; rfl
          have hS1 : decide (0 < (S.length : Int)) = false := by rw [hS]; rfl
          have hS2 : ¬ (0 < (S.length : Int)) := by omega
          have hS3 : ¬ (0 < S.length) := by rw [hS]; decide
          by_cases hN0 : ns = []
          · have hN1 : ¬ (0 < (ns.length : Int)) := by rw [hN0]; decide
            have hN3 : ¬ (0 < ns.length) := by rw [hN0]; decide
            have hN2 : decide (0 < (ns.length : Int)) = false := by rw [hN0]; rfl
            have HADD : Hid (b + NB ≤ 1048576 → addR spN (p, k, e, t) S b = some (⟨⟨#[]⟩, k, e, t, [], []⟩ :: S, b + NB)) := fun hM => by
              unfold addR
              dsimp only
              rw [HSP.out, hN0, hS]
              dsimp only
              rw [if_neg (by rw [HC.out]; decide)]
              dsimp only [List.getLast?]
              rw [HNB.out, if_pos hM]
            have HADDN : Hid (¬ b + NB ≤ 1048576 → addR spN (p, k, e, t) S b = none) := fun hM => by
              unfold addR
              dsimp only
              rw [HSP.out, hN0, hS]
              dsimp only
              rw [if_neg (by rw [HC.out]; decide)]
              dsimp only [List.getLast?]
              rw [HNB.out, if_neg hM]
            have hS6l : S.length ≤ 1073741823 := hSl
            clear hS hN0
            go_upto_region 14 with fail
            have HB7 : Hid (Bst (wc.alloc (.cells #[.string ⟨#[]⟩, .int .i64 k, .bool e, .string t, .slice none 0 0] 52)) g B S (b + NB) (.slice xo S.length co) fp) := HB6.out.below BE
            have HF7 : Hid (Ff g fp w (wc.alloc (.cells #[.string ⟨#[]⟩, .int .i64 k, .bool e, .string t, .slice none 0 0] 52))) := HF6.out.below BE
            have hfp6 : ∀ x ∈ fp, x ∈ fp ∨ w.heap.size ≤ x := fun x h => Or.inl h
            generalize wc.alloc (.cells #[.string ⟨#[]⟩, .int .i64 k, .bool e, .string t, .slice none 0 0] 52) = W6 at HB7 HF7 EX4 BE ⊢
            generalize wc.heap.size = ne at EX4 hneg hnef hne0 hgc LB6 BE ⊢
            have EX6 := EX4
            have hnf6 := hnef
            clear BE EX4 HB6 HF6 HN7 y0 y1 y2 y3 a0
            obtain ⟨g2, cap2, w', PS⟩ := Bst.push HB7.out hS6l ⟨#[]⟩ k e t
            have d0x : W6.drew.cell? ⟨g, 0, none⟩ = some (.slice xo S.length co) := by rw [show W6.drew.cell? ⟨g, 0, none⟩ = W6.cell? ⟨g, 0, none⟩ from rfl, Lib.cell_of_heap HB7.out.hg]; rfl
            have hg6 : g < W6.heap.size := Nat.lt_of_lt_of_le HB7.out.lt HB7.out.hB
            have hn6 : ne < W6.heap.size := EX6.lt
            obtain ⟨kne, hne2⟩ := PS.keep ne hn6 hnf6
            have hgg2 := PS.hgg2
            have hgg2' : g2 ≠ g := fun h => hgg2 h.symm
            have hne2' : g2 ≠ ne := fun h => hne2 h.symm
            have N0 : EX ne ⟨#[]⟩ k e t W6.drew := EX6
            have N1 : EX ne ⟨#[]⟩ k e t (W6.drew.alloc (.cells #[.string ⟨#[]⟩, .int .i64 0, .bool false, .string ⟨#[]⟩, .slice none 0 0] 52)) := EX6.same (Below.heap_alloc W6.drew _ ne hn6)
            have N2 : EX ne ⟨#[]⟩ k e t w' := EX6.same kne
            have N3 : EX ne ⟨#[]⟩ k e t (((((w'.setCell ⟨g2, S.length * 5, none⟩ (.string ⟨#[]⟩)).setCell ⟨g2, S.length * 5 + 1, none⟩ (.int .i64 k)).setCell ⟨g2, S.length * 5 + 2, none⟩ (.bool e)).setCell ⟨g2, S.length * 5 + 3, none⟩ (.string t)).setCell ⟨g2, S.length * 5 + 4, none⟩ (.slice none 0 0)) := ((((N2.far hne2).far hne2).far hne2).far hne2).far hne2
            have N4 : EX ne ⟨#[]⟩ k e t ((((((w'.setCell ⟨g2, S.length * 5, none⟩ (.string ⟨#[]⟩)).setCell ⟨g2, S.length * 5 + 1, none⟩ (.int .i64 k)).setCell ⟨g2, S.length * 5 + 2, none⟩ (.bool e)).setCell ⟨g2, S.length * 5 + 3, none⟩ (.string t)).setCell ⟨g2, S.length * 5 + 4, none⟩ (.slice none 0 0)).setCell ⟨g, 0, none⟩ (.slice (some ⟨g2, 0, none⟩) (S.length + 1) cap2)) := N3.far hneg
            have N7 : EX ne ⟨#[]⟩ k e t (w'.setCell ⟨g, 0, none⟩ (.slice (some ⟨g2, 0, none⟩) (S.length + 1) cap2)) := N2.far hneg
            have N8 : EX ne ⟨#[]⟩ k e t ((((((w'.setCell ⟨g, 0, none⟩ (.slice (some ⟨g2, 0, none⟩) (S.length + 1) cap2)).setCell ⟨g2, S.length * 5, none⟩ (.string ⟨#[]⟩)).setCell ⟨g2, S.length * 5 + 1, none⟩ (.int .i64 k)).setCell ⟨g2, S.length * 5 + 2, none⟩ (.bool e)).setCell ⟨g2, S.length * 5 + 3, none⟩ (.string t)).setCell ⟨g2, S.length * 5 + 4, none⟩ (.slice none 0 0)) := ((((N7.far hne2).far hne2).far hne2).far hne2).far hne2
            have d0a : (W6.drew.alloc (.cells #[.string ⟨#[]⟩, .int .i64 0, .bool false, .string ⟨#[]⟩, .slice none 0 0] 52)).cell? ⟨g, 0, none⟩ = some (.slice xo S.length co) := (World.cell?_of_block (w := W6.drew) (a := ⟨g, 0, none⟩) (Below.heap_alloc W6.drew _ g hg6)).trans d0x
            have d0' : w'.cell? ⟨g, 0, none⟩ = some (.slice xo S.length co) := (World.cell?_of_block (w := W6) (a := ⟨g, 0, none⟩) PS.kg).trans d0x
            have df0 : w'.frozen? ⟨g, 0, none⟩ = false := (World.frozen?_of_block (w := W6) (a := ⟨g, 0, none⟩) PS.kg).trans (Lib.frozen_of_heap HB7.out.hg 0)
            have z0 := PS.z0
            have z1 := PS.z1
            have z2 := PS.z2
            have z3 := PS.z3
            have z4 := PS.z4
            have f0 := PS.f (S.length * 5)
            have f1 := PS.f (S.length * 5 + 1)
            have f2 := PS.f (S.length * 5 + 2)
            have f3 := PS.f (S.length * 5 + 3)
            have f4 := PS.f (S.length * 5 + 4)
            have hapD : (Builtin.append_ #[30, 30] 30 #[.slice xo S.length co, .slice (some ⟨W6.drew.heap.size, 0, none⟩) 1 1]).run Tryd.prog (W6.drew.alloc (.cells #[.string ⟨#[]⟩, .int .i64 0, .bool false, .string ⟨#[]⟩, .slice none 0 0] 52)) = .ok (.slice (some ⟨g2, 0, none⟩) (S.length + 1) cap2) w' := PS.hap
            obtain ⟨fpn, O1, O2, O3⟩ := PS.out
            have HO1 : Hid (Bst ((((((w'.setCell ⟨g2, S.length * 5, none⟩ (.string ⟨#[]⟩)).setCell ⟨g2, S.length * 5 + 1, none⟩ (.int .i64 k)).setCell ⟨g2, S.length * 5 + 2, none⟩ (.bool e)).setCell ⟨g2, S.length * 5 + 3, none⟩ (.string t)).setCell ⟨g2, S.length * 5 + 4, none⟩ (.slice none 0 0)).setCell ⟨g, 0, none⟩ (.slice (some ⟨g2, 0, none⟩) (S.length + 1) cap2)) g B (⟨⟨#[]⟩, k, e, t, [], []⟩ :: S) (b + NB) (.slice (some ⟨g2, 0, none⟩) (S.length + 1) cap2) fpn) := O1
            have HO2 : Hid (Ff g fp w ((((((w'.setCell ⟨g2, S.length * 5, none⟩ (.string ⟨#[]⟩)).setCell ⟨g2, S.length * 5 + 1, none⟩ (.int .i64 k)).setCell ⟨g2, S.length * 5 + 2, none⟩ (.bool e)).setCell ⟨g2, S.length * 5 + 3, none⟩ (.string t)).setCell ⟨g2, S.length * 5 + 4, none⟩ (.slice none 0 0)).setCell ⟨g, 0, none⟩ (.slice (some ⟨g2, 0, none⟩) (S.length + 1) cap2))) := HF7.out.trans O2 hfp6
            have HO3 : Hid (∀ x ∈ fpn, x ∈ fp ∨ w.heap.size ≤ x) := fun x hx => by
              rcases O3 x hx with h | h
              · exact hfp6 x h
              · exact Or.inr (Nat.le_trans HF7.out.size h)
            have q1 : (0 : Int) ≤ (S.length : Int) := by omega
            have q2 : (S.length : Int) < (S.length : Int) + 1 := by omega
            have q3 : S.length < S.length + 1 := by omega
            clear O1 O2 O3 PS EX6 kne HB7 HF7
            go_upto_region 14 with fail
            go_cut [] from 71 to 81 (fun wx => wx = (((((w'.setCell ⟨g2, S.length * 5, none⟩ (.string ⟨#[]⟩)).setCell ⟨g2, S.length * 5 + 1, none⟩ (.int .i64 k)).setCell ⟨g2, S.length * 5 + 2, none⟩ (.bool e)).setCell ⟨g2, S.length * 5 + 3, none⟩ (.string t)).setCell ⟨g2, S.length * 5 + 4, none⟩ (.slice none 0 0)).setCell ⟨g, 0, none⟩ (.slice (some ⟨g2, 0, none⟩) (S.length + 1) cap2))
            case first =>
              refine wp_region_held_drew (S := EX ne ⟨#[]⟩ k e t) (by kernel_rfl) N0 (fun _ => ?_)
              generalize W6.drew = W1 at N0 N1 d0x d0a hapD ⊢
              refine wpAnyH_take (i := 0) (oi := { dst := some 71, op := Op.move (Operand.tmp 0), type := 100, pos := "build.go:47", after := #[], guard := none }) (v := .pointer (some ⟨g, 0, none⟩)) rfl (by kernel_rfl) (by kernel_rfl) (by kernel_rfl) (fun _ _ _ h => h) (Or.inl ⟨by rfl, by intro w _; go_simp⟩) N0 ?_
              try simp only [Act.put, List.setIfInBounds_toArray, List.set_cons_zero, List.set_cons_succ]
              refine wpAnyH_take (i := 1) (oi := { dst := some 72, op := Op.nilCheck (Operand.tmp 71), type := 0, pos := "build.go:47", after := #[{ on := 0, ground := Ground.data }], guard := none }) (v := .pointer (some ⟨g, 0, none⟩)) rfl (by kernel_rfl) (by kernel_rfl) (by kernel_rfl) (fun _ _ _ h => h) (Or.inl ⟨by rfl, by intro w _; go_simp⟩) N0 ?_
              try simp only [Act.put, List.setIfInBounds_toArray, List.set_cons_zero, List.set_cons_succ]
              refine wpAnyH_take (i := 2) (oi := { dst := some 73, op := Op.fieldAddr 61 (Operand.tmp 72) 0, type := 0, pos := "build.go:47", after := #[{ on := 1, ground := Ground.data }], guard := none }) (v := .pointer (some ⟨g, 0, none⟩)) rfl (by kernel_rfl) (by kernel_rfl) (by kernel_rfl) (fun _ _ _ h => h) (Or.inl ⟨by rfl, by intro w _; go_simp⟩) N0 ?_
              try simp only [Act.put, List.setIfInBounds_toArray, List.set_cons_zero, List.set_cons_succ]
              refine wpAnyH_take (i := 4) (oi := { dst := some 75, op := Op.load 52 (Operand.tmp 8), type := 52, pos := "build.go:47", after := #[], guard := none }) (v := .agg #[.string ⟨#[]⟩, .int .i64 k, .bool e, .string t, .slice none 0 0]) rfl (by kernel_rfl) (by kernel_rfl) (by kernel_rfl) (fun _ _ _ h => h) (Or.inl ⟨by rfl, by rintro w ⟨s0, s1, s2, s3, s4⟩; go_simp⟩) N0 ?_
              try simp only [Act.put, List.setIfInBounds_toArray, List.set_cons_zero, List.set_cons_succ]
              refine wpAnyH_ready (rs := [3, 6]) (by kernel_rfl) (by decide) (AllReadyH.cons rfl (fun K1 hK1 => ?_) (AllReadyH.cons rfl (fun K1 hK1 => ?_) AllReadyH.nil))
              · skip
                rw [if_pos (by rfl)]
                go_simp
                refine hK1.out _ _ N0 (fun _ => ?_)
                clear hK1 K1
                try simp only [Act.put, List.setIfInBounds_toArray, List.set_cons_zero, List.set_cons_succ]
                refine wpAnyH_take (i := 5) (oi := { dst := some 76, op := Op.call { callee := Callee.builtin Builtin.len, args := #[Operand.tmp 74], argTypes := #[30] }, type := 3, pos := "build.go:47", after := #[{ on := 3, ground := Ground.data }], guard := none }) (v := .int .i64 (S.length : Int)) rfl (by kernel_rfl) (by kernel_rfl) (by kernel_rfl) (fun _ _ _ h => h) (Or.inl ⟨by rfl, by intro w _; go_simp⟩) N0 ?_
                try simp only [Act.put, List.setIfInBounds_toArray, List.set_cons_zero, List.set_cons_succ]
                refine wpAnyH_ready (rs := [6]) (by kernel_rfl) (by decide) (AllReadyH.cons rfl (fun K1 hK1 => ?_) AllReadyH.nil)
                rw [if_pos (by rfl)]
                go_simp
                refine hK1.out _ _ N1 (fun _ => ?_)
                clear hK1 K1
                try simp only [Act.put, List.setIfInBounds_toArray, List.set_cons_zero, List.set_cons_succ]
                refine wpAnyH_ready (rs := [7]) (by kernel_rfl) (by decide) (AllReadyH.cons rfl (fun K1 hK1 => ?_) AllReadyH.nil)
                refine step_app (o := { dst := some 78, op := Op.call { callee := Callee.builtin Builtin.append, args := #[Operand.tmp 74, Operand.tmp 77], argTypes := #[30, 30] }, type := 30, pos := "build.go:47", after := #[{ on := 3, ground := Ground.data }, { on := 6, ground := Ground.data }, { on := 0, ground := Ground.phase }, { on := 1, ground := Ground.phase }, { on := 2, ground := Ground.phase }, { on := 3, ground := Ground.phase }, { on := 4, ground := Ground.phase }, { on := 5, ground := Ground.phase }, { on := 6, ground := Ground.phase }], guard := none }) rfl (.tmp 74) (.tmp 77) 30 rfl (.slice xo S.length co) (.slice (some ⟨W1.heap.size, 0, none⟩) 1 1) rfl rfl (.slice (some ⟨g2, 0, none⟩) (S.length + 1) cap2) w' hapD ?_
                refine hK1.out _ _ N2 (fun _ => ?_)
                clear hK1 K1
                try simp only [Act.put, List.setIfInBounds_toArray, List.set_cons_zero, List.set_cons_succ]
                refine wpAnyH_take (i := 8) (oi := { dst := some 79, op := Op.indexAddr 30 (Operand.tmp 78) (Operand.tmp 76), type := 0, pos := "build.go:47", after := #[{ on := 7, ground := Ground.data }, { on := 5, ground := Ground.data }, { on := 0, ground := Ground.phase }, { on := 1, ground := Ground.phase }, { on := 2, ground := Ground.phase }, { on := 3, ground := Ground.phase }, { on := 4, ground := Ground.phase }, { on := 5, ground := Ground.phase }, { on := 6, ground := Ground.phase }, { on := 7, ground := Ground.phase }, { on := 12, ground := Ground.gcOnly Departure.appendInPlace }], guard := none }) (v := .pointer (some ⟨g2, S.length * 5, none⟩)) rfl (by kernel_rfl) (by kernel_rfl) (by kernel_rfl) (fun _ _ _ h => h) (Or.inl ⟨by rfl, by intro w _; go_simp⟩) N2 ?_
                try simp only [Act.put, List.setIfInBounds_toArray, List.set_cons_zero, List.set_cons_succ]
                refine wpAnyH_take (i := 10) (oi := { dst := some 80, op := Op.nilCheck (Operand.tmp 71), type := 0, pos := "build.go:47", after := #[{ on := 0, ground := Ground.data }, { on := 0, ground := Ground.phase }, { on := 1, ground := Ground.phase }, { on := 2, ground := Ground.phase }, { on := 3, ground := Ground.phase }, { on := 4, ground := Ground.phase }, { on := 5, ground := Ground.phase }, { on := 6, ground := Ground.phase }, { on := 7, ground := Ground.phase }, { on := 8, ground := Ground.textOnly Departure.appendInPlace }, { on := 9, ground := Ground.textOnly Departure.appendInPlace }], guard := none }) (v := .pointer (some ⟨g, 0, none⟩)) rfl (by kernel_rfl) (by kernel_rfl) (by kernel_rfl) (fun _ _ _ h => h) (Or.inl ⟨by rfl, by intro w _; go_simp⟩) N2 ?_
                try simp only [Act.put, List.setIfInBounds_toArray, List.set_cons_zero, List.set_cons_succ]
                refine wpAnyH_take (i := 11) (oi := { dst := some 81, op := Op.fieldAddr 61 (Operand.tmp 80) 0, type := 0, pos := "build.go:47", after := #[{ on := 10, ground := Ground.data }, { on := 0, ground := Ground.phase }, { on := 1, ground := Ground.phase }, { on := 2, ground := Ground.phase }, { on := 3, ground := Ground.phase }, { on := 4, ground := Ground.phase }, { on := 5, ground := Ground.phase }, { on := 6, ground := Ground.phase }, { on := 7, ground := Ground.phase }, { on := 8, ground := Ground.textOnly Departure.appendInPlace }, { on := 9, ground := Ground.textOnly Departure.appendInPlace }], guard := none }) (v := .pointer (some ⟨g, 0, none⟩)) rfl (by kernel_rfl) (by kernel_rfl) (by kernel_rfl) (fun _ _ _ h => h) (Or.inl ⟨by rfl, by intro w _; go_simp⟩) N2 ?_
                try simp only [Act.put, List.setIfInBounds_toArray, List.set_cons_zero, List.set_cons_succ]
                refine wpAnyH_ready (rs := [9, 12]) (by kernel_rfl) (by decide) (AllReadyH.cons rfl (fun K1 hK1 => ?_) (AllReadyH.cons rfl (fun K1 hK1 => ?_) AllReadyH.nil))
                · skip
                  rw [if_pos (by rfl)]
                  go_simp
                  refine hK1.out _ _ N3 (fun _ => ?_)
                  clear hK1 K1
                  refine wpAnyH_ready (rs := [12]) (by kernel_rfl) (by decide) (AllReadyH.cons rfl (fun K1 hK1 => ?_) AllReadyH.nil)
                  rw [if_pos (by rfl)]
                  go_simp
                  refine hK1.out _ _ N4 (fun _ => ?_)
                  clear hK1 K1
                  refine wpAnyH_done (by kernel_rfl) ?_ _
                  (try go_wp2_with fail)
                  go_meet
                  rfl
                · skip
                  rw [if_pos (by rfl)]
                  go_simp
                  refine hK1.out _ _ N7 (fun _ => ?_)
                  clear hK1 K1
                  refine wpAnyH_ready (rs := [9]) (by kernel_rfl) (by decide) (AllReadyH.cons rfl (fun K1 hK1 => ?_) AllReadyH.nil)
                  rw [if_pos (by rfl)]
                  go_simp
                  refine hK1.out _ _ N8 (fun _ => ?_)
                  clear hK1 K1
                  refine wpAnyH_done (by kernel_rfl) ?_ _
                  (try go_wp2_with fail)
                  go_meet
                  exact set5_comm w' g2 (S.length * 5) _ _ _ _ _ ⟨g, 0, none⟩ _ hgg2
              · skip
                rw [if_pos (by rfl)]
                go_simp
                refine hK1.out _ _ N1 (fun _ => ?_)
                clear hK1 K1
                try simp only [Act.put, List.setIfInBounds_toArray, List.set_cons_zero, List.set_cons_succ]
                refine wpAnyH_ready (rs := [3]) (by kernel_rfl) (by decide) (AllReadyH.cons rfl (fun K1 hK1 => ?_) AllReadyH.nil)
                rw [if_pos (by rfl)]
                go_simp
                refine hK1.out _ _ N1 (fun _ => ?_)
                clear hK1 K1
                try simp only [Act.put, List.setIfInBounds_toArray, List.set_cons_zero, List.set_cons_succ]
                refine wpAnyH_take (i := 5) (oi := { dst := some 76, op := Op.call { callee := Callee.builtin Builtin.len, args := #[Operand.tmp 74], argTypes := #[30] }, type := 3, pos := "build.go:47", after := #[{ on := 3, ground := Ground.data }], guard := none }) (v := .int .i64 (S.length : Int)) rfl (by kernel_rfl) (by kernel_rfl) (by kernel_rfl) (fun _ _ _ h => h) (Or.inl ⟨by rfl, by intro w _; go_simp⟩) N1 ?_
                try simp only [Act.put, List.setIfInBounds_toArray, List.set_cons_zero, List.set_cons_succ]
                refine wpAnyH_ready (rs := [7]) (by kernel_rfl) (by decide) (AllReadyH.cons rfl (fun K1 hK1 => ?_) AllReadyH.nil)
                refine step_app (o := { dst := some 78, op := Op.call { callee := Callee.builtin Builtin.append, args := #[Operand.tmp 74, Operand.tmp 77], argTypes := #[30, 30] }, type := 30, pos := "build.go:47", after := #[{ on := 3, ground := Ground.data }, { on := 6, ground := Ground.data }, { on := 0, ground := Ground.phase }, { on := 1, ground := Ground.phase }, { on := 2, ground := Ground.phase }, { on := 3, ground := Ground.phase }, { on := 4, ground := Ground.phase }, { on := 5, ground := Ground.phase }, { on := 6, ground := Ground.phase }], guard := none }) rfl (.tmp 74) (.tmp 77) 30 rfl (.slice xo S.length co) (.slice (some ⟨W1.heap.size, 0, none⟩) 1 1) rfl rfl (.slice (some ⟨g2, 0, none⟩) (S.length + 1) cap2) w' hapD ?_
                refine hK1.out _ _ N2 (fun _ => ?_)
                clear hK1 K1
                try simp only [Act.put, List.setIfInBounds_toArray, List.set_cons_zero, List.set_cons_succ]
                refine wpAnyH_take (i := 8) (oi := { dst := some 79, op := Op.indexAddr 30 (Operand.tmp 78) (Operand.tmp 76), type := 0, pos := "build.go:47", after := #[{ on := 7, ground := Ground.data }, { on := 5, ground := Ground.data }, { on := 0, ground := Ground.phase }, { on := 1, ground := Ground.phase }, { on := 2, ground := Ground.phase }, { on := 3, ground := Ground.phase }, { on := 4, ground := Ground.phase }, { on := 5, ground := Ground.phase }, { on := 6, ground := Ground.phase }, { on := 7, ground := Ground.phase }, { on := 12, ground := Ground.gcOnly Departure.appendInPlace }], guard := none }) (v := .pointer (some ⟨g2, S.length * 5, none⟩)) rfl (by kernel_rfl) (by kernel_rfl) (by kernel_rfl) (fun _ _ _ h => h) (Or.inl ⟨by rfl, by intro w _; go_simp⟩) N2 ?_
                try simp only [Act.put, List.setIfInBounds_toArray, List.set_cons_zero, List.set_cons_succ]
                refine wpAnyH_take (i := 10) (oi := { dst := some 80, op := Op.nilCheck (Operand.tmp 71), type := 0, pos := "build.go:47", after := #[{ on := 0, ground := Ground.data }, { on := 0, ground := Ground.phase }, { on := 1, ground := Ground.phase }, { on := 2, ground := Ground.phase }, { on := 3, ground := Ground.phase }, { on := 4, ground := Ground.phase }, { on := 5, ground := Ground.phase }, { on := 6, ground := Ground.phase }, { on := 7, ground := Ground.phase }, { on := 8, ground := Ground.textOnly Departure.appendInPlace }, { on := 9, ground := Ground.textOnly Departure.appendInPlace }], guard := none }) (v := .pointer (some ⟨g, 0, none⟩)) rfl (by kernel_rfl) (by kernel_rfl) (by kernel_rfl) (fun _ _ _ h => h) (Or.inl ⟨by rfl, by intro w _; go_simp⟩) N2 ?_
                try simp only [Act.put, List.setIfInBounds_toArray, List.set_cons_zero, List.set_cons_succ]
                refine wpAnyH_take (i := 11) (oi := { dst := some 81, op := Op.fieldAddr 61 (Operand.tmp 80) 0, type := 0, pos := "build.go:47", after := #[{ on := 10, ground := Ground.data }, { on := 0, ground := Ground.phase }, { on := 1, ground := Ground.phase }, { on := 2, ground := Ground.phase }, { on := 3, ground := Ground.phase }, { on := 4, ground := Ground.phase }, { on := 5, ground := Ground.phase }, { on := 6, ground := Ground.phase }, { on := 7, ground := Ground.phase }, { on := 8, ground := Ground.textOnly Departure.appendInPlace }, { on := 9, ground := Ground.textOnly Departure.appendInPlace }], guard := none }) (v := .pointer (some ⟨g, 0, none⟩)) rfl (by kernel_rfl) (by kernel_rfl) (by kernel_rfl) (fun _ _ _ h => h) (Or.inl ⟨by rfl, by intro w _; go_simp⟩) N2 ?_
                try simp only [Act.put, List.setIfInBounds_toArray, List.set_cons_zero, List.set_cons_succ]
                refine wpAnyH_ready (rs := [9, 12]) (by kernel_rfl) (by decide) (AllReadyH.cons rfl (fun K1 hK1 => ?_) (AllReadyH.cons rfl (fun K1 hK1 => ?_) AllReadyH.nil))
                · skip
                  rw [if_pos (by rfl)]
                  go_simp
                  refine hK1.out _ _ N3 (fun _ => ?_)
                  clear hK1 K1
                  refine wpAnyH_ready (rs := [12]) (by kernel_rfl) (by decide) (AllReadyH.cons rfl (fun K1 hK1 => ?_) AllReadyH.nil)
                  rw [if_pos (by rfl)]
                  go_simp
                  refine hK1.out _ _ N4 (fun _ => ?_)
                  clear hK1 K1
                  refine wpAnyH_done (by kernel_rfl) ?_ _
                  (try go_wp2_with fail)
                  go_meet
                  rfl
                · skip
                  rw [if_pos (by rfl)]
                  go_simp
                  refine hK1.out _ _ N7 (fun _ => ?_)
                  clear hK1 K1
                  refine wpAnyH_ready (rs := [9]) (by kernel_rfl) (by decide) (AllReadyH.cons rfl (fun K1 hK1 => ?_) AllReadyH.nil)
                  rw [if_pos (by rfl)]
                  go_simp
                  refine hK1.out _ _ N8 (fun _ => ?_)
                  clear hK1 K1
                  refine wpAnyH_done (by kernel_rfl) ?_ _
                  (try go_wp2_with fail)
                  go_meet
                  exact set5_comm w' g2 (S.length * 5) _ _ _ _ _ ⟨g, 0, none⟩ _ hgg2
            case rest =>
              rw [← hcut] at HO1 HO2
              have a9 : wc.cell? ⟨g, 1, none⟩ = some (.int .i64 (b + NB)) := by rw [Lib.cell_of_heap HO1.out.hg]; rfl
              clear hcut N0 N1 N2 N3 N4 N7 N8 d0x d0a d0' df0 z0 z1 z2 z3 z4 f0 f1 f2 f3 f4 hapD
              by_cases hM : b + NB ≤ 1048576
              · have hMb : decide (b + NB ≤ 1048576) = true := decide_eq_true hM
                have HADD2 := HADD.out hM
                go_wp2
                go_ret
                exact ⟨by unfold AddP; rw [HADD2]; exact ⟨rfl, _, fpn, HO1.out, HO3.out⟩, HO2.out⟩
              · have hMb : decide (b + NB ≤ 1048576) = false := decide_eq_false hM
                have HADD2 := HADDN.out (by omega)
                go_wp2
                go_ret
                exact ⟨by unfold AddP; rw [HADD2]; rfl, HO2.out⟩
          · have hN1 : 0 < (ns.length : Int) := by have := List.length_pos_iff.2 hN0; omega
            have hN2 : decide (0 < (ns.length : Int)) = true := decide_eq_true hN1
            have hN3 : 0 < ns.length := List.length_pos_iff.2 hN0
            have HADD : Hid (addR spN (p, k, e, t) S b = none) := by
              unfold Hid addR
              dsimp only
              rw [HSP.out, hS]
              dsimp only
              rw [if_neg (by rw [HC.out]; decide), last_get ns hN0]
            have HFF : Hid (Ff g fp w (wc.alloc (.cells #[.string ⟨#[]⟩, .int .i64 k, .bool e, .string t, .slice none 0 0] 52))) := HF6.out.below BE
            clear hS hN0
            go_wp2
            try rw [Exit.noGoto_ret]
            go_ret
            exact ⟨by unfold AddP; rw [HADD.out]; rfl, HFF.out⟩
        · have hS2 : 0 < (S.length : Int) := by have := List.length_pos_iff.2 hS; omega
          have hS1 : decide (0 < (S.length : Int)) = true := decide_eq_true hS2
          have hS3 : 0 < S.length := List.length_pos_iff.2 hS
          have HS : Hid (S ≠ []) := hS
          have ef4 : (wc.alloc (.cells #[.string ⟨#[]⟩, .int .i64 k, .bool e, .string t, .slice none 0 0] 52)).frozen? ⟨wc.heap.size, 0, none⟩ = false := World.frozen?_alloc_new wc _ _ 0
          have HB7 : Hid (Bst (wc.alloc (.cells #[.string ⟨#[]⟩, .int .i64 k, .bool e, .string t, .slice none 0 0] 52)) g B S (b + NB) (.slice xo S.length co) fp) := HB6.out.below BE
          have HF7 : Hid (Ff g fp w (wc.alloc (.cells #[.string ⟨#[]⟩, .int .i64 k, .bool e, .string t, .slice none 0 0] 52))) := HF6.out.below BE
          have HN8 : Hid (Nam (wc.alloc (.cells #[.string ⟨#[]⟩, .int .i64 k, .bool e, .string t, .slice none 0 0] 52)) g fp xn ns) := HN7.out.ff (Ff.of_below (g := g) (fp := fp) BE) (fun _ h => Or.inl h)
          clear hS
          go_wp2_with fail
          generalize wc.alloc (.cells #[.string ⟨#[]⟩, .int .i64 k, .bool e, .string t, .slice none 0 0] 52) = W3 at HB7 HF7 HN8 EX4 BE ef4 ⊢
          generalize wc.heap.size = ne at EX4 ef4 hneg hnef hne0 hgc LB6 BE ⊢
          clear BE HB6 HF6 HN7 y0 y1 y2 y3 a0
          have C := openFor_any g B S (b + NB) (.slice xo S.length co) fp xn cn ns W3 HB7.out HS.out HL.out HR.out (by omega) HN8.out hnl hncn
          refine C.mono ?_
          rintro en w5 ⟨rfl, OL, F5⟩
          have HF8 : Hid (Ff g fp w w5) := HF7.out.trans F5 (fun _ h => Or.inl h)
          clear C
          cases hop : opB S ns with
          | false =>
            have HADD : Hid (addR spN (p, k, e, t) S b = none) := addR_no HSP.out HC.out HS.out hop
            clear OL F5
            go_wp2
            try rw [Exit.noGoto_ret]
            go_ret
            exact ⟨by unfold AddP; rw [HADD.out]; rfl, HF8.out⟩
          | true =>
            obtain ⟨hnn, hcn0, hadd⟩ := addR_yes (b := b) HSP.out HC.out HS.out hop
            obtain ⟨v5, fp6, B5, hf5⟩ := OL hop
            obtain ⟨m, hm⟩ : ∃ m, ns.length = m + 1 := ⟨ns.length - 1, by have := List.length_pos_iff.2 hnn; omega⟩
            have HN9 := HN8.out.ff F5 hf5
            have EX5 : EX ne ⟨#[]⟩ k e t w5 := EX4.same (F5.keep ne EX4.lt hneg hnef)
            have hnf6 : ne ∉ fp6 := fun h => by
              rcases hf5 ne h with h | h
              · exact hnef h
              · have := EX4.lt; omega
            have hfp6 : ∀ x ∈ fp6, x ∈ fp ∨ w.heap.size ≤ x := fun x hx => by
              rcases hf5 x hx with h | h
              · exact Or.inl h
              · exact Or.inr (Nat.le_trans HF7.out.size h)
            obtain ⟨an, hxn, cnm⟩ := HN9.get m (by omega)
            subst hxn
            rw [hm, Nat.add_sub_cancel, HNB.out] at hadd
            have hcl := clo_len ns.length (by omega) S (by
              apply Nat.le_of_not_lt
              intro hlt
              unfold opB at hop
              rw [last_get ns hnn] at hop
              dsimp only at hop
              rw [if_pos hlt] at hop
              cases hop)
            rw [hm] at B5 hcl
            obtain ⟨xo6, co6, rfl⟩ := B5.op.shape
            generalize hs : nth ns m = s at hadd cnm
            generalize hS6 : clo (m + 1) S = S6 at B5 hcl hadd
            have hss : s.size ≤ 1048576 := by
              have h9 := HMEM.out s (by rw [← hs]; exact List.mem_of_getElem? (nth_get ns m (by omega)))
              omega
            have CE := fun W => entryBytes_any s W (by omega)
            have heb := eb_bd s
            generalize ebP s = EB at CE heb hadd
            obtain ⟨heb0, heb1⟩ := heb
            have hwr2 : IntKind.i64.wrap (b + NB + EB) = b + NB + EB := by rw [IntKind.wrap_i64]; omega
            have HADD : Hid (b + NB + EB ≤ 1048576 → addR spN (p, k, e, t) S b = some (⟨s, k, e, t, [], []⟩ :: S6, b + NB + EB)) := fun hM => by rw [hadd, if_pos hM]
            have HADDN : Hid (¬ b + NB + EB ≤ 1048576 → addR spN (p, k, e, t) S b = none) := fun hM => by rw [hadd, if_neg hM]
            have hS6l : S6.length ≤ 1073741823 := by omega
            have e0 : w5.cell? ⟨ne, 0, none⟩ = some (.string ⟨#[]⟩) := EX5.1
            have ef : w5.frozen? ⟨ne, 0, none⟩ = false := (World.frozen?_of_block (w := W3) (a := ⟨ne, 0, none⟩) (F5.keep ne EX4.lt hneg hnef)).trans ef4
            have HE5 : Hid (EX ne ⟨#[]⟩ k e t w5) := EX5
            have HB8 : Hid (Bst w5 g B S6 (b + NB) (.slice xo6 S6.length co6) fp6) := B5
            have hm1 : (m : Int) < (m : Int) + 1 := by omega
            have hmN : m < m + 1 := by omega
            have hmb : m ≤ 31 := by omega
            rw [hm]
            clear hadd hcn0 OL B5 F5 hf5 HN9 EX5 EX4 HB7 HF7 HN8 hop hs hS6 hcl hm hnl hncn hnn
            go_upto_region 11 with fail
            have hnew : w.heap.size ≤ ne := hne0
            have HE6 : EX ne s k e t (w5.setCell ⟨ne, 0, none⟩ (.string s)) := HE5.out.name
            have HB9 : Bst (w5.setCell ⟨ne, 0, none⟩ (.string s)) g B S6 (b + NB) (.slice xo6 S6.length co6) fp6 := HB8.out.off (fun h => hneg h.symm) hnf6
            have HF9 : Ff g fp w (w5.setCell ⟨ne, 0, none⟩ (.string s)) := HF8.out.new hnew
            generalize w5.setCell ⟨ne, 0, none⟩ (.string s) = W4 at HE6 HB9 HF9 ⊢
            have N0 : EX ne s k e t W4.drew := HE6
            have HB5 : Hid (Bst W4.drew g B S6 (b + NB) (.slice xo6 S6.length co6) fp6) := HB9.same (fun _ _ => rfl) (Nat.le_refl _)
            have HF5 : Hid (Ff g fp w W4.drew) := HF9.below ⟨rfl, rfl, rfl, Nat.le_refl _, fun _ _ => rfl⟩
            have hg1 : W4.drew.cell? ⟨g, 1, none⟩ = some (.int .i64 (b + NB)) := by rw [Lib.cell_of_heap HB5.out.hg]; rfl
            have LB5 : w.heap.size ≤ W4.drew.heap.size := HF9.size
            have hgne := hneg
            have hfp4 := hfp6
            clear HE6 HB9 HF9 HE5 HB8 HF8 e0 ef cnm
            go_cut [] from 58 to 67 (fun wx => Bst wx g B S6 (b + NB + EB) (.slice xo6 S6.length co6) fp6 ∧ Ff g fp w wx ∧ EX ne s k e t wx ∧ w.heap.size ≤ wx.heap.size)
            case first =>
              refine wp_region_held_drew (S := EX ne s k e t) (by kernel_rfl) N0 (fun _ => ?_)
              generalize W4.drew = W1 at N0 HB5 HF5 hg1 LB5 ⊢
              refine wpAnyH_take (i := 0) (oi := { dst := some 58, op := Op.move (Operand.tmp 0), type := 100, pos := "build.go:43", after := #[], guard := none }) (v := .pointer (some ⟨g, 0, none⟩)) rfl (by kernel_rfl) (by kernel_rfl) (by kernel_rfl) (fun _ _ _ h => h) (Or.inl ⟨by rfl, by intro w _; go_simp⟩) N0 ?_
              try simp only [Act.put, List.setIfInBounds_toArray, List.set_cons_zero, List.set_cons_succ]
              refine wpAnyH_take (i := 1) (oi := { dst := some 59, op := Op.nilCheck (Operand.tmp 58), type := 0, pos := "build.go:43", after := #[{ on := 0, ground := Ground.data }], guard := none }) (v := .pointer (some ⟨g, 0, none⟩)) rfl (by kernel_rfl) (by kernel_rfl) (by kernel_rfl) (fun _ _ _ h => h) (Or.inl ⟨by rfl, by intro w _; go_simp⟩) N0 ?_
              try simp only [Act.put, List.setIfInBounds_toArray, List.set_cons_zero, List.set_cons_succ]
              refine wpAnyH_take (i := 2) (oi := { dst := some 60, op := Op.fieldAddr 61 (Operand.tmp 59) 1, type := 0, pos := "build.go:43", after := #[{ on := 1, ground := Ground.data }], guard := none }) (v := .pointer (some ⟨g, 1, none⟩)) rfl (by kernel_rfl) (by kernel_rfl) (by kernel_rfl) (fun _ _ _ h => h) (Or.inl ⟨by rfl, by intro w _; go_simp⟩) N0 ?_
              try simp only [Act.put, List.setIfInBounds_toArray, List.set_cons_zero, List.set_cons_succ]
              refine wpAnyH_take (i := 4) (oi := { dst := some 62, op := Op.fieldAddr 52 (Operand.tmp 8) 0, type := 0, pos := "build.go:43", after := #[], guard := none }) (v := .pointer (some ⟨ne, 0, none⟩)) rfl (by kernel_rfl) (by kernel_rfl) (by kernel_rfl) (fun _ _ _ h => h) (Or.inl ⟨by rfl, by intro w _; go_simp⟩) N0 ?_
              try simp only [Act.put, List.setIfInBounds_toArray, List.set_cons_zero, List.set_cons_succ]
              refine wpAnyH_take (i := 5) (oi := { dst := some 63, op := Op.load 9 (Operand.tmp 62), type := 9, pos := "build.go:43", after := #[{ on := 4, ground := Ground.data }], guard := none }) (v := .string s) rfl (by kernel_rfl) (by kernel_rfl) (by kernel_rfl) (fun _ _ _ h => h) (Or.inl ⟨by rfl, by rintro w ⟨s0, s1, s2, s3, s4⟩; go_simp⟩) N0 ?_
              try simp only [Act.put, List.setIfInBounds_toArray, List.set_cons_zero, List.set_cons_succ]
              refine wpAnyH_ready (rs := [3, 6]) (by kernel_rfl) (by decide) (AllReadyH.cons rfl (fun K1 hK1 => ?_) (AllReadyH.cons rfl (fun K1 hK1 => ?_) AllReadyH.nil))
              · skip
                rw [if_pos (by rfl)]
                go_simp
                refine hK1.out _ _ N0 (fun _ => ?_)
                clear hK1 K1
                try simp only [Act.put, List.setIfInBounds_toArray, List.set_cons_zero, List.set_cons_succ]
                refine wpAnyH_ready (rs := [6]) (by kernel_rfl) (by decide) (AllReadyH.cons rfl (fun K1 hK1 => ?_) AllReadyH.nil)
                rw [if_pos (by rfl)]
                go_simp
                refine (CE W1).mono ?_
                rintro en5 w5 ⟨rfl, L5⟩
                have N5 := N0.below L5
                have HB6 := HB5.out.below L5
                have HF6 := HF5.out.below L5
                have hg6 : w5.cell? ⟨g, 1, none⟩ = some (.int .i64 (b + NB)) := by rw [Lib.cell_of_heap HB6.hg]; rfl
                have fg6 : w5.frozen? ⟨g, 1, none⟩ = false := Lib.frozen_of_heap HB6.hg 1
                have LB6 : w.heap.size ≤ w5.heap.size := Nat.le_trans LB5 L5.size
                go_wp2_with fail
                refine hK1.out _ _ N5 (fun _ => ?_)
                clear hK1 K1
                try simp only [Act.put, List.setIfInBounds_toArray, List.set_cons_zero, List.set_cons_succ]
                refine wpAnyH_take (i := 7) (oi := { dst := some 65, op := Op.binOp BinOp.add 3 (Operand.tmp 61) (Operand.tmp 64) 3, type := 3, pos := "build.go:43", after := #[{ on := 3, ground := Ground.data }, { on := 6, ground := Ground.data }], guard := none }) (v := .int .i64 (b + NB + EB)) rfl (by kernel_rfl) (by kernel_rfl) (by kernel_rfl) (fun _ _ _ h => h) (Or.inl ⟨by rfl, by intro w _; go_simp⟩) N5 ?_
                try simp only [Act.put, List.setIfInBounds_toArray, List.set_cons_zero, List.set_cons_succ]
                refine wpAnyH_take (i := 8) (oi := { dst := some 66, op := Op.nilCheck (Operand.tmp 58), type := 0, pos := "build.go:43", after := #[{ on := 0, ground := Ground.data }, { on := 0, ground := Ground.phase }, { on := 1, ground := Ground.phase }, { on := 2, ground := Ground.phase }, { on := 3, ground := Ground.phase }, { on := 4, ground := Ground.phase }, { on := 5, ground := Ground.phase }, { on := 6, ground := Ground.phase }, { on := 7, ground := Ground.phase }], guard := none }) (v := .pointer (some ⟨g, 0, none⟩)) rfl (by kernel_rfl) (by kernel_rfl) (by kernel_rfl) (fun _ _ _ h => h) (Or.inl ⟨by rfl, by intro w _; go_simp⟩) N5 ?_
                try simp only [Act.put, List.setIfInBounds_toArray, List.set_cons_zero, List.set_cons_succ]
                refine wpAnyH_take (i := 9) (oi := { dst := some 67, op := Op.fieldAddr 61 (Operand.tmp 66) 1, type := 0, pos := "build.go:43", after := #[{ on := 8, ground := Ground.data }, { on := 0, ground := Ground.phase }, { on := 1, ground := Ground.phase }, { on := 2, ground := Ground.phase }, { on := 3, ground := Ground.phase }, { on := 4, ground := Ground.phase }, { on := 5, ground := Ground.phase }, { on := 6, ground := Ground.phase }, { on := 7, ground := Ground.phase }], guard := none }) (v := .pointer (some ⟨g, 1, none⟩)) rfl (by kernel_rfl) (by kernel_rfl) (by kernel_rfl) (fun _ _ _ h => h) (Or.inl ⟨by rfl, by intro w _; go_simp⟩) N5 ?_
                try simp only [Act.put, List.setIfInBounds_toArray, List.set_cons_zero, List.set_cons_succ]
                refine wpAnyH_ready (rs := [10]) (by kernel_rfl) (by decide) (AllReadyH.cons rfl (fun K1 hK1 => ?_) AllReadyH.nil)
                have N6 := N5.far (g := g) (i := 1) (x := .int .i64 (b + NB + EB)) hgne
                rw [if_pos (by rfl)]
                go_simp
                refine hK1.out _ _ N6 (fun _ => ?_)
                clear hK1 K1
                refine wpAnyH_done (by kernel_rfl) ?_ _
                (try go_wp2_with fail)
                go_meet
                obtain ⟨Y1, Y2⟩ := HB6.bytes (b + NB + EB)
                exact ⟨Y1, HF6.trans Y2 hfp4, N6, by rw [World.size_setCell]; exact LB6⟩
              · skip
                rw [if_pos (by rfl)]
                go_simp
                refine (CE W1).mono ?_
                rintro en5 w5 ⟨rfl, L5⟩
                have N5 := N0.below L5
                have HB6 := HB5.out.below L5
                have HF6 := HF5.out.below L5
                have hg6 : w5.cell? ⟨g, 1, none⟩ = some (.int .i64 (b + NB)) := by rw [Lib.cell_of_heap HB6.hg]; rfl
                have fg6 : w5.frozen? ⟨g, 1, none⟩ = false := Lib.frozen_of_heap HB6.hg 1
                have LB6 : w.heap.size ≤ w5.heap.size := Nat.le_trans LB5 L5.size
                go_wp2_with fail
                refine hK1.out _ _ N5 (fun _ => ?_)
                clear hK1 K1
                try simp only [Act.put, List.setIfInBounds_toArray, List.set_cons_zero, List.set_cons_succ]
                refine wpAnyH_ready (rs := [3]) (by kernel_rfl) (by decide) (AllReadyH.cons rfl (fun K1 hK1 => ?_) AllReadyH.nil)
                rw [if_pos (by rfl)]
                go_simp
                refine hK1.out _ _ N5 (fun _ => ?_)
                clear hK1 K1
                try simp only [Act.put, List.setIfInBounds_toArray, List.set_cons_zero, List.set_cons_succ]
                refine wpAnyH_take (i := 7) (oi := { dst := some 65, op := Op.binOp BinOp.add 3 (Operand.tmp 61) (Operand.tmp 64) 3, type := 3, pos := "build.go:43", after := #[{ on := 3, ground := Ground.data }, { on := 6, ground := Ground.data }], guard := none }) (v := .int .i64 (b + NB + EB)) rfl (by kernel_rfl) (by kernel_rfl) (by kernel_rfl) (fun _ _ _ h => h) (Or.inl ⟨by rfl, by intro w _; go_simp⟩) N5 ?_
                try simp only [Act.put, List.setIfInBounds_toArray, List.set_cons_zero, List.set_cons_succ]
                refine wpAnyH_take (i := 8) (oi := { dst := some 66, op := Op.nilCheck (Operand.tmp 58), type := 0, pos := "build.go:43", after := #[{ on := 0, ground := Ground.data }, { on := 0, ground := Ground.phase }, { on := 1, ground := Ground.phase }, { on := 2, ground := Ground.phase }, { on := 3, ground := Ground.phase }, { on := 4, ground := Ground.phase }, { on := 5, ground := Ground.phase }, { on := 6, ground := Ground.phase }, { on := 7, ground := Ground.phase }], guard := none }) (v := .pointer (some ⟨g, 0, none⟩)) rfl (by kernel_rfl) (by kernel_rfl) (by kernel_rfl) (fun _ _ _ h => h) (Or.inl ⟨by rfl, by intro w _; go_simp⟩) N5 ?_
                try simp only [Act.put, List.setIfInBounds_toArray, List.set_cons_zero, List.set_cons_succ]
                refine wpAnyH_take (i := 9) (oi := { dst := some 67, op := Op.fieldAddr 61 (Operand.tmp 66) 1, type := 0, pos := "build.go:43", after := #[{ on := 8, ground := Ground.data }, { on := 0, ground := Ground.phase }, { on := 1, ground := Ground.phase }, { on := 2, ground := Ground.phase }, { on := 3, ground := Ground.phase }, { on := 4, ground := Ground.phase }, { on := 5, ground := Ground.phase }, { on := 6, ground := Ground.phase }, { on := 7, ground := Ground.phase }], guard := none }) (v := .pointer (some ⟨g, 1, none⟩)) rfl (by kernel_rfl) (by kernel_rfl) (by kernel_rfl) (fun _ _ _ h => h) (Or.inl ⟨by rfl, by intro w _; go_simp⟩) N5 ?_
                try simp only [Act.put, List.setIfInBounds_toArray, List.set_cons_zero, List.set_cons_succ]
                refine wpAnyH_ready (rs := [10]) (by kernel_rfl) (by decide) (AllReadyH.cons rfl (fun K1 hK1 => ?_) AllReadyH.nil)
                have N6 := N5.far (g := g) (i := 1) (x := .int .i64 (b + NB + EB)) hgne
                rw [if_pos (by rfl)]
                go_simp
                refine hK1.out _ _ N6 (fun _ => ?_)
                clear hK1 K1
                refine wpAnyH_done (by kernel_rfl) ?_ _
                (try go_wp2_with fail)
                go_meet
                obtain ⟨Y1, Y2⟩ := HB6.bytes (b + NB + EB)
                exact ⟨Y1, HF6.trans Y2 hfp4, N6, by rw [World.size_setCell]; exact LB6⟩
            case rest =>
              obtain ⟨B6, F6, EX6, LB7⟩ := hcut
              obtain ⟨W6, hW6⟩ : ∃ W, W = wc := ⟨_, rfl⟩
              subst hW6
              have HB7 : Hid (Bst W6 g B S6 (b + NB + EB) (.slice xo6 S6.length co6) fp6) := B6
              have HF7 : Hid (Ff g fp w W6) := F6
              clear N0 HB5 HF5 hg1 LB5 B6 F6 CE
              obtain ⟨g2, cap2, w', PS⟩ := Bst.push HB7.out hS6l s k e t
              have d0x : W6.drew.cell? ⟨g, 0, none⟩ = some (.slice xo6 S6.length co6) := by rw [show W6.drew.cell? ⟨g, 0, none⟩ = W6.cell? ⟨g, 0, none⟩ from rfl, Lib.cell_of_heap HB7.out.hg]; rfl
              have hg6 : g < W6.heap.size := Nat.lt_of_lt_of_le HB7.out.lt HB7.out.hB
              have hn6 : ne < W6.heap.size := EX6.lt
              obtain ⟨kne, hne2⟩ := PS.keep ne hn6 hnf6
              have hgg2 := PS.hgg2
              have hgg2' : g2 ≠ g := fun h => hgg2 h.symm
              have hne2' : g2 ≠ ne := fun h => hne2 h.symm
              have N0 : EX ne s k e t W6.drew := EX6
              have N1 : EX ne s k e t (W6.drew.alloc (.cells #[.string ⟨#[]⟩, .int .i64 0, .bool false, .string ⟨#[]⟩, .slice none 0 0] 52)) := EX6.same (Below.heap_alloc W6.drew _ ne hn6)
              have N2 : EX ne s k e t w' := EX6.same kne
              have N3 : EX ne s k e t (((((w'.setCell ⟨g2, S6.length * 5, none⟩ (.string s)).setCell ⟨g2, S6.length * 5 + 1, none⟩ (.int .i64 k)).setCell ⟨g2, S6.length * 5 + 2, none⟩ (.bool e)).setCell ⟨g2, S6.length * 5 + 3, none⟩ (.string t)).setCell ⟨g2, S6.length * 5 + 4, none⟩ (.slice none 0 0)) := ((((N2.far hne2).far hne2).far hne2).far hne2).far hne2
              have N4 : EX ne s k e t ((((((w'.setCell ⟨g2, S6.length * 5, none⟩ (.string s)).setCell ⟨g2, S6.length * 5 + 1, none⟩ (.int .i64 k)).setCell ⟨g2, S6.length * 5 + 2, none⟩ (.bool e)).setCell ⟨g2, S6.length * 5 + 3, none⟩ (.string t)).setCell ⟨g2, S6.length * 5 + 4, none⟩ (.slice none 0 0)).setCell ⟨g, 0, none⟩ (.slice (some ⟨g2, 0, none⟩) (S6.length + 1) cap2)) := N3.far hneg
              have N7 : EX ne s k e t (w'.setCell ⟨g, 0, none⟩ (.slice (some ⟨g2, 0, none⟩) (S6.length + 1) cap2)) := N2.far hneg
              have N8 : EX ne s k e t ((((((w'.setCell ⟨g, 0, none⟩ (.slice (some ⟨g2, 0, none⟩) (S6.length + 1) cap2)).setCell ⟨g2, S6.length * 5, none⟩ (.string s)).setCell ⟨g2, S6.length * 5 + 1, none⟩ (.int .i64 k)).setCell ⟨g2, S6.length * 5 + 2, none⟩ (.bool e)).setCell ⟨g2, S6.length * 5 + 3, none⟩ (.string t)).setCell ⟨g2, S6.length * 5 + 4, none⟩ (.slice none 0 0)) := ((((N7.far hne2).far hne2).far hne2).far hne2).far hne2
              have d0a : (W6.drew.alloc (.cells #[.string ⟨#[]⟩, .int .i64 0, .bool false, .string ⟨#[]⟩, .slice none 0 0] 52)).cell? ⟨g, 0, none⟩ = some (.slice xo6 S6.length co6) := (World.cell?_of_block (w := W6.drew) (a := ⟨g, 0, none⟩) (Below.heap_alloc W6.drew _ g hg6)).trans d0x
              have d0' : w'.cell? ⟨g, 0, none⟩ = some (.slice xo6 S6.length co6) := (World.cell?_of_block (w := W6) (a := ⟨g, 0, none⟩) PS.kg).trans d0x
              have df0 : w'.frozen? ⟨g, 0, none⟩ = false := (World.frozen?_of_block (w := W6) (a := ⟨g, 0, none⟩) PS.kg).trans (Lib.frozen_of_heap HB7.out.hg 0)
              have z0 := PS.z0
              have z1 := PS.z1
              have z2 := PS.z2
              have z3 := PS.z3
              have z4 := PS.z4
              have f0 := PS.f (S6.length * 5)
              have f1 := PS.f (S6.length * 5 + 1)
              have f2 := PS.f (S6.length * 5 + 2)
              have f3 := PS.f (S6.length * 5 + 3)
              have f4 := PS.f (S6.length * 5 + 4)
              have hapD : (Builtin.append_ #[30, 30] 30 #[.slice xo6 S6.length co6, .slice (some ⟨W6.drew.heap.size, 0, none⟩) 1 1]).run Tryd.prog (W6.drew.alloc (.cells #[.string ⟨#[]⟩, .int .i64 0, .bool false, .string ⟨#[]⟩, .slice none 0 0] 52)) = .ok (.slice (some ⟨g2, 0, none⟩) (S6.length + 1) cap2) w' := PS.hap
              obtain ⟨fpn, O1, O2, O3⟩ := PS.out
              have HO1 : Hid (Bst ((((((w'.setCell ⟨g2, S6.length * 5, none⟩ (.string s)).setCell ⟨g2, S6.length * 5 + 1, none⟩ (.int .i64 k)).setCell ⟨g2, S6.length * 5 + 2, none⟩ (.bool e)).setCell ⟨g2, S6.length * 5 + 3, none⟩ (.string t)).setCell ⟨g2, S6.length * 5 + 4, none⟩ (.slice none 0 0)).setCell ⟨g, 0, none⟩ (.slice (some ⟨g2, 0, none⟩) (S6.length + 1) cap2)) g B (⟨s, k, e, t, [], []⟩ :: S6) (b + NB + EB) (.slice (some ⟨g2, 0, none⟩) (S6.length + 1) cap2) fpn) := O1
              have HO2 : Hid (Ff g fp w ((((((w'.setCell ⟨g2, S6.length * 5, none⟩ (.string s)).setCell ⟨g2, S6.length * 5 + 1, none⟩ (.int .i64 k)).setCell ⟨g2, S6.length * 5 + 2, none⟩ (.bool e)).setCell ⟨g2, S6.length * 5 + 3, none⟩ (.string t)).setCell ⟨g2, S6.length * 5 + 4, none⟩ (.slice none 0 0)).setCell ⟨g, 0, none⟩ (.slice (some ⟨g2, 0, none⟩) (S6.length + 1) cap2))) := HF7.out.trans O2 hfp6
              have HO3 : Hid (∀ x ∈ fpn, x ∈ fp ∨ w.heap.size ≤ x) := fun x hx => by
                rcases O3 x hx with h | h
                · exact hfp6 x h
                · exact Or.inr (Nat.le_trans HF7.out.size h)
              have q1 : (0 : Int) ≤ (S6.length : Int) := by omega
              have q2 : (S6.length : Int) < (S6.length : Int) + 1 := by omega
              have q3 : S6.length < S6.length + 1 := by omega
              clear O1 O2 O3 PS EX6 kne HB7 HF7
              go_upto_region 14 with fail
              go_cut [] from 71 to 81 (fun wx => wx = (((((w'.setCell ⟨g2, S6.length * 5, none⟩ (.string s)).setCell ⟨g2, S6.length * 5 + 1, none⟩ (.int .i64 k)).setCell ⟨g2, S6.length * 5 + 2, none⟩ (.bool e)).setCell ⟨g2, S6.length * 5 + 3, none⟩ (.string t)).setCell ⟨g2, S6.length * 5 + 4, none⟩ (.slice none 0 0)).setCell ⟨g, 0, none⟩ (.slice (some ⟨g2, 0, none⟩) (S6.length + 1) cap2))
              case first =>
                refine wp_region_held_drew (S := EX ne s k e t) (by kernel_rfl) N0 (fun _ => ?_)
                generalize W6.drew = W1 at N0 N1 d0x d0a hapD ⊢
                refine wpAnyH_take (i := 0) (oi := { dst := some 71, op := Op.move (Operand.tmp 0), type := 100, pos := "build.go:47", after := #[], guard := none }) (v := .pointer (some ⟨g, 0, none⟩)) rfl (by kernel_rfl) (by kernel_rfl) (by kernel_rfl) (fun _ _ _ h => h) (Or.inl ⟨by rfl, by intro w _; go_simp⟩) N0 ?_
                try simp only [Act.put, List.setIfInBounds_toArray, List.set_cons_zero, List.set_cons_succ]
                refine wpAnyH_take (i := 1) (oi := { dst := some 72, op := Op.nilCheck (Operand.tmp 71), type := 0, pos := "build.go:47", after := #[{ on := 0, ground := Ground.data }], guard := none }) (v := .pointer (some ⟨g, 0, none⟩)) rfl (by kernel_rfl) (by kernel_rfl) (by kernel_rfl) (fun _ _ _ h => h) (Or.inl ⟨by rfl, by intro w _; go_simp⟩) N0 ?_
                try simp only [Act.put, List.setIfInBounds_toArray, List.set_cons_zero, List.set_cons_succ]
                refine wpAnyH_take (i := 2) (oi := { dst := some 73, op := Op.fieldAddr 61 (Operand.tmp 72) 0, type := 0, pos := "build.go:47", after := #[{ on := 1, ground := Ground.data }], guard := none }) (v := .pointer (some ⟨g, 0, none⟩)) rfl (by kernel_rfl) (by kernel_rfl) (by kernel_rfl) (fun _ _ _ h => h) (Or.inl ⟨by rfl, by intro w _; go_simp⟩) N0 ?_
                try simp only [Act.put, List.setIfInBounds_toArray, List.set_cons_zero, List.set_cons_succ]
                refine wpAnyH_take (i := 4) (oi := { dst := some 75, op := Op.load 52 (Operand.tmp 8), type := 52, pos := "build.go:47", after := #[], guard := none }) (v := .agg #[.string s, .int .i64 k, .bool e, .string t, .slice none 0 0]) rfl (by kernel_rfl) (by kernel_rfl) (by kernel_rfl) (fun _ _ _ h => h) (Or.inl ⟨by rfl, by rintro w ⟨s0, s1, s2, s3, s4⟩; go_simp⟩) N0 ?_
                try simp only [Act.put, List.setIfInBounds_toArray, List.set_cons_zero, List.set_cons_succ]
                refine wpAnyH_ready (rs := [3, 6]) (by kernel_rfl) (by decide) (AllReadyH.cons rfl (fun K1 hK1 => ?_) (AllReadyH.cons rfl (fun K1 hK1 => ?_) AllReadyH.nil))
                · skip
                  rw [if_pos (by rfl)]
                  go_simp
                  refine hK1.out _ _ N0 (fun _ => ?_)
                  clear hK1 K1
                  try simp only [Act.put, List.setIfInBounds_toArray, List.set_cons_zero, List.set_cons_succ]
                  refine wpAnyH_take (i := 5) (oi := { dst := some 76, op := Op.call { callee := Callee.builtin Builtin.len, args := #[Operand.tmp 74], argTypes := #[30] }, type := 3, pos := "build.go:47", after := #[{ on := 3, ground := Ground.data }], guard := none }) (v := .int .i64 (S6.length : Int)) rfl (by kernel_rfl) (by kernel_rfl) (by kernel_rfl) (fun _ _ _ h => h) (Or.inl ⟨by rfl, by intro w _; go_simp⟩) N0 ?_
                  try simp only [Act.put, List.setIfInBounds_toArray, List.set_cons_zero, List.set_cons_succ]
                  refine wpAnyH_ready (rs := [6]) (by kernel_rfl) (by decide) (AllReadyH.cons rfl (fun K1 hK1 => ?_) AllReadyH.nil)
                  rw [if_pos (by rfl)]
                  go_simp
                  refine hK1.out _ _ N1 (fun _ => ?_)
                  clear hK1 K1
                  try simp only [Act.put, List.setIfInBounds_toArray, List.set_cons_zero, List.set_cons_succ]
                  refine wpAnyH_ready (rs := [7]) (by kernel_rfl) (by decide) (AllReadyH.cons rfl (fun K1 hK1 => ?_) AllReadyH.nil)
                  refine step_app (o := { dst := some 78, op := Op.call { callee := Callee.builtin Builtin.append, args := #[Operand.tmp 74, Operand.tmp 77], argTypes := #[30, 30] }, type := 30, pos := "build.go:47", after := #[{ on := 3, ground := Ground.data }, { on := 6, ground := Ground.data }, { on := 0, ground := Ground.phase }, { on := 1, ground := Ground.phase }, { on := 2, ground := Ground.phase }, { on := 3, ground := Ground.phase }, { on := 4, ground := Ground.phase }, { on := 5, ground := Ground.phase }, { on := 6, ground := Ground.phase }], guard := none }) rfl (.tmp 74) (.tmp 77) 30 rfl (.slice xo6 S6.length co6) (.slice (some ⟨W1.heap.size, 0, none⟩) 1 1) rfl rfl (.slice (some ⟨g2, 0, none⟩) (S6.length + 1) cap2) w' hapD ?_
                  refine hK1.out _ _ N2 (fun _ => ?_)
                  clear hK1 K1
                  try simp only [Act.put, List.setIfInBounds_toArray, List.set_cons_zero, List.set_cons_succ]
                  refine wpAnyH_take (i := 8) (oi := { dst := some 79, op := Op.indexAddr 30 (Operand.tmp 78) (Operand.tmp 76), type := 0, pos := "build.go:47", after := #[{ on := 7, ground := Ground.data }, { on := 5, ground := Ground.data }, { on := 0, ground := Ground.phase }, { on := 1, ground := Ground.phase }, { on := 2, ground := Ground.phase }, { on := 3, ground := Ground.phase }, { on := 4, ground := Ground.phase }, { on := 5, ground := Ground.phase }, { on := 6, ground := Ground.phase }, { on := 7, ground := Ground.phase }, { on := 12, ground := Ground.gcOnly Departure.appendInPlace }], guard := none }) (v := .pointer (some ⟨g2, S6.length * 5, none⟩)) rfl (by kernel_rfl) (by kernel_rfl) (by kernel_rfl) (fun _ _ _ h => h) (Or.inl ⟨by rfl, by intro w _; go_simp⟩) N2 ?_
                  try simp only [Act.put, List.setIfInBounds_toArray, List.set_cons_zero, List.set_cons_succ]
                  refine wpAnyH_take (i := 10) (oi := { dst := some 80, op := Op.nilCheck (Operand.tmp 71), type := 0, pos := "build.go:47", after := #[{ on := 0, ground := Ground.data }, { on := 0, ground := Ground.phase }, { on := 1, ground := Ground.phase }, { on := 2, ground := Ground.phase }, { on := 3, ground := Ground.phase }, { on := 4, ground := Ground.phase }, { on := 5, ground := Ground.phase }, { on := 6, ground := Ground.phase }, { on := 7, ground := Ground.phase }, { on := 8, ground := Ground.textOnly Departure.appendInPlace }, { on := 9, ground := Ground.textOnly Departure.appendInPlace }], guard := none }) (v := .pointer (some ⟨g, 0, none⟩)) rfl (by kernel_rfl) (by kernel_rfl) (by kernel_rfl) (fun _ _ _ h => h) (Or.inl ⟨by rfl, by intro w _; go_simp⟩) N2 ?_
                  try simp only [Act.put, List.setIfInBounds_toArray, List.set_cons_zero, List.set_cons_succ]
                  refine wpAnyH_take (i := 11) (oi := { dst := some 81, op := Op.fieldAddr 61 (Operand.tmp 80) 0, type := 0, pos := "build.go:47", after := #[{ on := 10, ground := Ground.data }, { on := 0, ground := Ground.phase }, { on := 1, ground := Ground.phase }, { on := 2, ground := Ground.phase }, { on := 3, ground := Ground.phase }, { on := 4, ground := Ground.phase }, { on := 5, ground := Ground.phase }, { on := 6, ground := Ground.phase }, { on := 7, ground := Ground.phase }, { on := 8, ground := Ground.textOnly Departure.appendInPlace }, { on := 9, ground := Ground.textOnly Departure.appendInPlace }], guard := none }) (v := .pointer (some ⟨g, 0, none⟩)) rfl (by kernel_rfl) (by kernel_rfl) (by kernel_rfl) (fun _ _ _ h => h) (Or.inl ⟨by rfl, by intro w _; go_simp⟩) N2 ?_
                  try simp only [Act.put, List.setIfInBounds_toArray, List.set_cons_zero, List.set_cons_succ]
                  refine wpAnyH_ready (rs := [9, 12]) (by kernel_rfl) (by decide) (AllReadyH.cons rfl (fun K1 hK1 => ?_) (AllReadyH.cons rfl (fun K1 hK1 => ?_) AllReadyH.nil))
                  · skip
                    rw [if_pos (by rfl)]
                    go_simp
                    refine hK1.out _ _ N3 (fun _ => ?_)
                    clear hK1 K1
                    refine wpAnyH_ready (rs := [12]) (by kernel_rfl) (by decide) (AllReadyH.cons rfl (fun K1 hK1 => ?_) AllReadyH.nil)
                    rw [if_pos (by rfl)]
                    go_simp
                    refine hK1.out _ _ N4 (fun _ => ?_)
                    clear hK1 K1
                    refine wpAnyH_done (by kernel_rfl) ?_ _
                    (try go_wp2_with fail)
                    go_meet
                    rfl
                  · skip
                    rw [if_pos (by rfl)]
                    go_simp
                    refine hK1.out _ _ N7 (fun _ => ?_)
                    clear hK1 K1
                    refine wpAnyH_ready (rs := [9]) (by kernel_rfl) (by decide) (AllReadyH.cons rfl (fun K1 hK1 => ?_) AllReadyH.nil)
                    rw [if_pos (by rfl)]
                    go_simp
                    refine hK1.out _ _ N8 (fun _ => ?_)
                    clear hK1 K1
                    refine wpAnyH_done (by kernel_rfl) ?_ _
                    (try go_wp2_with fail)
                    go_meet
                    exact set5_comm w' g2 (S6.length * 5) _ _ _ _ _ ⟨g, 0, none⟩ _ hgg2
                · skip
                  rw [if_pos (by rfl)]
                  go_simp
                  refine hK1.out _ _ N1 (fun _ => ?_)
                  clear hK1 K1
                  try simp only [Act.put, List.setIfInBounds_toArray, List.set_cons_zero, List.set_cons_succ]
                  refine wpAnyH_ready (rs := [3]) (by kernel_rfl) (by decide) (AllReadyH.cons rfl (fun K1 hK1 => ?_) AllReadyH.nil)
                  rw [if_pos (by rfl)]
                  go_simp
                  refine hK1.out _ _ N1 (fun _ => ?_)
                  clear hK1 K1
                  try simp only [Act.put, List.setIfInBounds_toArray, List.set_cons_zero, List.set_cons_succ]
                  refine wpAnyH_take (i := 5) (oi := { dst := some 76, op := Op.call { callee := Callee.builtin Builtin.len, args := #[Operand.tmp 74], argTypes := #[30] }, type := 3, pos := "build.go:47", after := #[{ on := 3, ground := Ground.data }], guard := none }) (v := .int .i64 (S6.length : Int)) rfl (by kernel_rfl) (by kernel_rfl) (by kernel_rfl) (fun _ _ _ h => h) (Or.inl ⟨by rfl, by intro w _; go_simp⟩) N1 ?_
                  try simp only [Act.put, List.setIfInBounds_toArray, List.set_cons_zero, List.set_cons_succ]
                  refine wpAnyH_ready (rs := [7]) (by kernel_rfl) (by decide) (AllReadyH.cons rfl (fun K1 hK1 => ?_) AllReadyH.nil)
                  refine step_app (o := { dst := some 78, op := Op.call { callee := Callee.builtin Builtin.append, args := #[Operand.tmp 74, Operand.tmp 77], argTypes := #[30, 30] }, type := 30, pos := "build.go:47", after := #[{ on := 3, ground := Ground.data }, { on := 6, ground := Ground.data }, { on := 0, ground := Ground.phase }, { on := 1, ground := Ground.phase }, { on := 2, ground := Ground.phase }, { on := 3, ground := Ground.phase }, { on := 4, ground := Ground.phase }, { on := 5, ground := Ground.phase }, { on := 6, ground := Ground.phase }], guard := none }) rfl (.tmp 74) (.tmp 77) 30 rfl (.slice xo6 S6.length co6) (.slice (some ⟨W1.heap.size, 0, none⟩) 1 1) rfl rfl (.slice (some ⟨g2, 0, none⟩) (S6.length + 1) cap2) w' hapD ?_
                  refine hK1.out _ _ N2 (fun _ => ?_)
                  clear hK1 K1
                  try simp only [Act.put, List.setIfInBounds_toArray, List.set_cons_zero, List.set_cons_succ]
                  refine wpAnyH_take (i := 8) (oi := { dst := some 79, op := Op.indexAddr 30 (Operand.tmp 78) (Operand.tmp 76), type := 0, pos := "build.go:47", after := #[{ on := 7, ground := Ground.data }, { on := 5, ground := Ground.data }, { on := 0, ground := Ground.phase }, { on := 1, ground := Ground.phase }, { on := 2, ground := Ground.phase }, { on := 3, ground := Ground.phase }, { on := 4, ground := Ground.phase }, { on := 5, ground := Ground.phase }, { on := 6, ground := Ground.phase }, { on := 7, ground := Ground.phase }, { on := 12, ground := Ground.gcOnly Departure.appendInPlace }], guard := none }) (v := .pointer (some ⟨g2, S6.length * 5, none⟩)) rfl (by kernel_rfl) (by kernel_rfl) (by kernel_rfl) (fun _ _ _ h => h) (Or.inl ⟨by rfl, by intro w _; go_simp⟩) N2 ?_
                  try simp only [Act.put, List.setIfInBounds_toArray, List.set_cons_zero, List.set_cons_succ]
                  refine wpAnyH_take (i := 10) (oi := { dst := some 80, op := Op.nilCheck (Operand.tmp 71), type := 0, pos := "build.go:47", after := #[{ on := 0, ground := Ground.data }, { on := 0, ground := Ground.phase }, { on := 1, ground := Ground.phase }, { on := 2, ground := Ground.phase }, { on := 3, ground := Ground.phase }, { on := 4, ground := Ground.phase }, { on := 5, ground := Ground.phase }, { on := 6, ground := Ground.phase }, { on := 7, ground := Ground.phase }, { on := 8, ground := Ground.textOnly Departure.appendInPlace }, { on := 9, ground := Ground.textOnly Departure.appendInPlace }], guard := none }) (v := .pointer (some ⟨g, 0, none⟩)) rfl (by kernel_rfl) (by kernel_rfl) (by kernel_rfl) (fun _ _ _ h => h) (Or.inl ⟨by rfl, by intro w _; go_simp⟩) N2 ?_
                  try simp only [Act.put, List.setIfInBounds_toArray, List.set_cons_zero, List.set_cons_succ]
                  refine wpAnyH_take (i := 11) (oi := { dst := some 81, op := Op.fieldAddr 61 (Operand.tmp 80) 0, type := 0, pos := "build.go:47", after := #[{ on := 10, ground := Ground.data }, { on := 0, ground := Ground.phase }, { on := 1, ground := Ground.phase }, { on := 2, ground := Ground.phase }, { on := 3, ground := Ground.phase }, { on := 4, ground := Ground.phase }, { on := 5, ground := Ground.phase }, { on := 6, ground := Ground.phase }, { on := 7, ground := Ground.phase }, { on := 8, ground := Ground.textOnly Departure.appendInPlace }, { on := 9, ground := Ground.textOnly Departure.appendInPlace }], guard := none }) (v := .pointer (some ⟨g, 0, none⟩)) rfl (by kernel_rfl) (by kernel_rfl) (by kernel_rfl) (fun _ _ _ h => h) (Or.inl ⟨by rfl, by intro w _; go_simp⟩) N2 ?_
                  try simp only [Act.put, List.setIfInBounds_toArray, List.set_cons_zero, List.set_cons_succ]
                  refine wpAnyH_ready (rs := [9, 12]) (by kernel_rfl) (by decide) (AllReadyH.cons rfl (fun K1 hK1 => ?_) (AllReadyH.cons rfl (fun K1 hK1 => ?_) AllReadyH.nil))
                  · skip
                    rw [if_pos (by rfl)]
                    go_simp
                    refine hK1.out _ _ N3 (fun _ => ?_)
                    clear hK1 K1
                    refine wpAnyH_ready (rs := [12]) (by kernel_rfl) (by decide) (AllReadyH.cons rfl (fun K1 hK1 => ?_) AllReadyH.nil)
                    rw [if_pos (by rfl)]
                    go_simp
                    refine hK1.out _ _ N4 (fun _ => ?_)
                    clear hK1 K1
                    refine wpAnyH_done (by kernel_rfl) ?_ _
                    (try go_wp2_with fail)
                    go_meet
                    rfl
                  · skip
                    rw [if_pos (by rfl)]
                    go_simp
                    refine hK1.out _ _ N7 (fun _ => ?_)
                    clear hK1 K1
                    refine wpAnyH_ready (rs := [9]) (by kernel_rfl) (by decide) (AllReadyH.cons rfl (fun K1 hK1 => ?_) AllReadyH.nil)
                    rw [if_pos (by rfl)]
                    go_simp
                    refine hK1.out _ _ N8 (fun _ => ?_)
                    clear hK1 K1
                    refine wpAnyH_done (by kernel_rfl) ?_ _
                    (try go_wp2_with fail)
                    go_meet
                    exact set5_comm w' g2 (S6.length * 5) _ _ _ _ _ ⟨g, 0, none⟩ _ hgg2
              case rest =>
                rw [← hcut] at HO1 HO2
                have a9 : wc.cell? ⟨g, 1, none⟩ = some (.int .i64 (b + NB + EB)) := by rw [Lib.cell_of_heap HO1.out.hg]; rfl
                clear hcut N0 N1 N2 N3 N4 N7 N8 d0x d0a d0' df0 z0 z1 z2 z3 z4 f0 f1 f2 f3 f4 hapD
                by_cases hM : b + NB + EB ≤ 1048576
                · have hMb : decide (b + NB + EB ≤ 1048576) = true := decide_eq_true hM
                  have HADD2 := HADD.out hM
                  go_wp2
                  go_ret
                  exact ⟨by unfold AddP; rw [HADD2]; exact ⟨rfl, _, fpn, HO1.out, HO3.out⟩, HO2.out⟩
                · have hMb : decide (b + NB + EB ≤ 1048576) = false := decide_eq_false hM
                  have HADD2 := HADDN.out (by omega)
                  go_wp2
                  go_ret
                  exact ⟨by unfold AddP; rw [HADD2]; rfl, HO2.out⟩
    · have HADD : Hid (addR spN (p, k, e, t) S b = none) := by unfold Hid addR; dsimp only; rw [hsp]; dsimp only; rw [if_pos hC]
      have X3 := X2.same (Below.heap_alloc w2 (.cells #[.int .i64 (pathF p).1, .int .i64 (pathF p).2] 35) nb X2.lt)
      obtain ⟨y0, y1, y2, y3⟩ := X3
      have hCb : (cfP k e t 0 != 0) = true := by rw [bne_iff_ne]; exact hC
      rw [hF] at B3 y0 y1 y2 y3 ⊢
      generalize cfP k e t 0 = cf at hC hCb CF
      go_wp2_with fail
      generalize w2.alloc (.cells #[.int .i64 0, .int .i64 (pathF p).2] 35) = W1 at B3 y0 y1 y2 y3 ⊢
      refine (CF W1).mono ?_
      rintro en W2 ⟨rfl, L4⟩
      have HFF : Hid (Ff g fp w W2) := Ff.of_below (B3.trans (L4.mono B3.size))
      clear CF L4 B3 CN
      go_wp2
      try rw [Exit.noGoto_ret]
      go_ret
      exact ⟨by unfold AddP; rw [HADD.out]; rfl, HFF.out⟩
  · rw [if_neg hF] at hsp
    have HADD : Hid (addR spN (p, k, e, t) S b = none) := by unfold Hid addR; dsimp only; rw [hsp]
    have hFb : ((pathF p).1 != 0) = true := by rw [bne_iff_ne]; exact hF
    have HFF : Hid (Ff g fp w (w2.alloc (.cells #[.int .i64 (pathF p).1, .int .i64 (pathF p).2] 35))) := Ff.of_below B3
    generalize (pathF p).1 = f1 at hF hFb B3 HFF ⊢
    generalize (pathF p).2 = f2 at B3 HFF ⊢
    go_wp2
    try rw [Exit.noGoto_ret]
    go_ret
    exact ⟨by unfold AddP; rw [HADD.out]; rfl, HFF.out⟩

end Go.Proofs.YtnggbemnblcnaaaDoor
namespace Go.Proofs.YtnggbemnblcnaaaDoor
open Go.RowKit

/-- The first row that can't be, counted from i. -/
def bAt : List RW → List OE × Int → Nat → Option Nat
  | [], _, _ => none
  | r :: L, s, i => match addR spN r s.1 s.2 with
    | none => some i
    | some s' => bAt L s' (i + 1)
/-- Build's fault. -/
def bF (L : List RW) : Int × Int := if L = [] then (50, 0) else match bAt L ([], 24) 0 with
  | none => (0, 0)
  | some i => (64, (i : Int))
theorem bAt_app (A : List RW) (r : RW) (B : List RW) (s s' : List OE × Int) (i : Nat) (h : runR spN A s = some s') : bAt (A ++ r :: B) s i = (match addR spN r s'.1 s'.2 with | none => some (i + A.length) | some t => bAt B t (i + A.length + 1)) := by
  induction A generalizing s i with
  | nil =>
    have h : s = s' := Option.some.inj h
    subst h
    rfl
  | cons a A ih =>
    rw [runR] at h
    rw [List.cons_append, bAt]
    cases ha : addR spN a s.1 s.2 with
    | none => rw [ha] at h; cases h
    | some t =>
      rw [ha] at h
      have h : runR spN A t = some s' := h
      dsimp only
      rw [ih t (i + 1) h, List.length_cons, show i + 1 + A.length = i + (A.length + 1) by omega]
theorem bAt_all (A : List RW) (s s' : List OE × Int) (i : Nat) (h : runR spN A s = some s') : bAt A s i = none := by
  induction A generalizing s i with
  | nil => rfl
  | cons a A ih =>
    rw [runR] at h
    rw [bAt]
    cases ha : addR spN a s.1 s.2 with
    | none => rw [ha] at h; cases h
    | some t =>
      rw [ha] at h
      exact ih t (i + 1) h
theorem runR_snoc (A : List RW) (r : RW) (s s' : List OE × Int) (h : runR spN A s = some s') : runR spN (A ++ [r]) s = addR spN r s'.1 s'.2 := by
  rw [runR_app, h]
  show (addR spN r s'.1 s'.2).bind (runR spN []) = _
  cases addR spN r s'.1 s'.2 <;> rfl
theorem addR_le {r : RW} {S S' : List OE} {b b' : Int} (hb : 0 ≤ b) (h : addR spN r S b = some (S', b')) : 0 ≤ b' ∧ b' ≤ 1048576 ∧ S' ≠ [] := by
  have h1 := nb_bd r.2.1 r.2.2.1 r.2.2.2
  unfold addR at h
  cases hsp : spN r.1 with
  | none => rw [hsp] at h; cases h
  | some ns =>
    rw [hsp] at h
    dsimp only at h
    split at h
    · cases h
    · split at h
      · split at h
        · cases h; exact ⟨by omega, by omega, by simp⟩
        · cases h
      · cases h
      · cases h
      · rename_i s _
        have h2 := eb_bd s
        split at h
        · cases h
        · split at h
          · cases h
          · split at h
            · cases h
            · split at h
              · cases h
              · split at h
                · cases h
                · split at h
                  · cases h; exact ⟨by omega, by omega, by simp⟩
                  · cases h
theorem rows_open (S : List OE) : S.length ≤ (rowsS S).length := by
  induction S with
  | nil => exact Nat.zero_le _
  | cons o S ih => rw [rowsS, List.length_append, List.length_cons, List.length_cons]; omega
/-- What Build answers and leaves. -/
def BldP (L : List RW) (w : World) (en : Ending) (w' : World) : Prop :=
  ∃ (k : Int) (e : Bool) (t : ByteArray) (x : Option Addr) (n c : Nat), en = .returned (.tuple #[.agg #[.int .i64 k, .bool e, .string t, .slice x n c], .agg #[.int .i64 (bF L).1, .int .i64 (bF L).2]]) ∧
    ((bF L).1 = 0 → ∃ S b o fp, runR spN L ([], 24) = some (S, b) ∧ clo 1 S = [o] ∧ k = o.k ∧ e = o.e ∧ t = o.t ∧ TrV w' w.heap.size o.tr (.slice x n c) fp) ∧ ((bF L).1 ≠ 0 → k = 0 ∧ e = false ∧ t = ⟨#[]⟩ ∧ x = none ∧ n = 0 ∧ c = 0)
theorem Ff.toBelow {g : Nat} {fp : List Nat} {a b : World} {n : Nat} (h : Ff g fp a b) (h1 : n ≤ g) (h2 : ∀ x ∈ fp, n ≤ x) (hn : n ≤ a.heap.size) : Below n a b :=
  ⟨h.os, h.tape, h.output, h.size, fun k hk => h.keep k (by omega) (by omega) (fun hm => by have := h2 k hm; omega)⟩
theorem word_frS : frS [⟨#[100, 101, 112, 111, 116, 45, 97, 114, 99, 104, 105, 118, 101, 45, 49]⟩] = 24 := by decide +kernel

theorem own_up {w : World} {B B' : Nat} {e : TypeId} {q : Nat} {v : Value} {n : Nat} {xs : List Value} (h : w.ownsRow B e q v n xs) (hB : B' ≤ B) : w.ownsRow B' e q v n xs := by
  obtain ⟨h1, h2 | ⟨g, cap, cur, hv, hb, r⟩⟩ := h
  · exact ⟨h1, .inl h2⟩
  · exact ⟨h1, .inr ⟨g, cap, cur, hv, by omega, r⟩⟩
mutual
theorem TrV.mono {w : World} {B B' : Nat} (hB : B' ≤ B) : ∀ (T : Tr) (v : Value) (fp : List Nat), TrV w B T v fp → TrV w B' T v fp
  | .mk k e t nms ks, v, fp, h => by
    rw [TrV] at h ⊢
    obtain ⟨cs, fq, h1, h2, rfl⟩ := h
    exact ⟨cs, fq, own_up h1 hB, KidV.mono hB nms ks cs fq h2, rfl⟩
theorem KidV.mono {w : World} {B B' : Nat} (hB : B' ≤ B) : ∀ (nms : List ByteArray) (ks : List Tr) (cs : List Value) (fq : List Nat), KidV w B nms ks cs fq → KidV w B' nms ks cs fq
  | [], [], cs, fq, h => by rw [KidV] at h ⊢; exact h
  | s :: nms, T :: ks, cs, fq, h => by
    rw [KidV] at h ⊢
    obtain ⟨v, cs', fp, fq', rfl, h2, h3, rfl⟩ := h
    exact ⟨v, cs', fp, fq', rfl, TrV.mono hB T v fp h2, KidV.mono hB nms ks cs' fq' h3, rfl⟩
  | [], _ :: _, cs, fq, h => by simp [KidV] at h
  | _ :: _, [], cs, fq, h => by simp [KidV] at h
end
/-- Six cells stored into two blocks. -/
theorem six {W : World} {n : Nat} {a0 a1 a2 a3 p0 p1 b0 b1 b2 b3 q0 q1 : Value} {T T' : TypeId} (h0 : W.heap[n]? = some (.cells #[a0, a1, a2, a3] T (0, 0))) (h1 : W.heap[n + 1]? = some (.cells #[p0, p1] T' (0, 0))) (W' : World) (hW : W' = (((((W.setCell ⟨n, 0, none⟩ b0).setCell ⟨n, 1, none⟩ b1).setCell ⟨n, 2, none⟩ b2).setCell ⟨n, 3, none⟩ b3).setCell ⟨n + 1, 0, none⟩ q0).setCell ⟨n + 1, 1, none⟩ q1) :
    W'.cell? ⟨n, 0, none⟩ = some b0 ∧ W'.cell? ⟨n, 1, none⟩ = some b1 ∧ W'.cell? ⟨n, 2, none⟩ = some b2 ∧ W'.cell? ⟨n, 3, none⟩ = some b3 ∧ W'.cell? ⟨n + 1, 0, none⟩ = some q0 ∧ W'.cell? ⟨n + 1, 1, none⟩ = some q1 ∧ Below n W W' ∧ ∀ k, k ≠ n → k ≠ n + 1 → W'.heap[k]? = W.heap[k]? := by
  have e0 : W'.heap[n]? = some (.cells #[b0, b1, b2, b3] T (0, 0)) := by
    rw [hW]
    simp [World.setCell, Array.getElem?_modify, h0]
  have e1 : W'.heap[n + 1]? = some (.cells #[q0, q1] T' (0, 0)) := by
    rw [hW]
    simp [World.setCell, Array.getElem?_modify, h1]
  have hB : Below n W W' := by
    rw [hW]
    exact ((((((Below.refl n W).setCell (p := ⟨n, 0, none⟩) (Nat.le_refl _) _).setCell (p := ⟨n, 1, none⟩) (Nat.le_refl _) _).setCell (p := ⟨n, 2, none⟩) (Nat.le_refl _) _).setCell (p := ⟨n, 3, none⟩) (Nat.le_refl _) _).setCell (p := ⟨n + 1, 0, none⟩) (Nat.le_succ _) _).setCell (p := ⟨n + 1, 1, none⟩) (Nat.le_succ _) _
  refine ⟨by rw [Lib.cell_of_heap e0]; rfl, by rw [Lib.cell_of_heap e0]; rfl, by rw [Lib.cell_of_heap e0]; rfl, by rw [Lib.cell_of_heap e0]; rfl, by rw [Lib.cell_of_heap e1]; rfl, by rw [Lib.cell_of_heap e1]; rfl, hB, fun k h2 h3 => ?_⟩
  rw [hW]
  exact (Below.heap_setCell _ ⟨n + 1, 1, none⟩ _ k h3).trans ((Below.heap_setCell _ ⟨n + 1, 0, none⟩ _ k h3).trans ((Below.heap_setCell _ ⟨n, 3, none⟩ _ k h2).trans ((Below.heap_setCell _ ⟨n, 2, none⟩ _ k h2).trans ((Below.heap_setCell _ ⟨n, 1, none⟩ _ k h2).trans (Below.heap_setCell _ ⟨n, 0, none⟩ _ k h2)))))

set_option maxHeartbeats 16000000 in
set_option maxRecDepth 20000 in
theorem build_any (L : List RW) (x : Option Addr) (c : Nat) (w : World) (hX : RIs w x L) (hn : L.length ≤ 1048576) (hsm : smR L) :
    Calls Tryd.prog 7 #[.slice x L.length c] w fun en w' => BldP L w en w' ∧ Below w.heap.size w w' := by
  by_cases hL : L = []
  · have hb : bF L = (50, 0) := by unfold bF; rw [if_pos hL]
    have HB : Hid (bF L = (50, 0)) := hb
    have hl0 : L.length = 0 := by rw [hL]; rfl
    rw [hl0]
    clear hb hX hsm
    go_enter Tryd.func7, Tryd.ntmps7
    go_wp2
    have q0 := fun i => World.cell?_alloc_new w #[.int .i64 0, .bool false, .string ⟨#[]⟩, .slice none 0 0] 32 i
    have q1 := fun i => World.cell?_alloc_new (w.alloc (.cells #[.int .i64 0, .bool false, .string ⟨#[]⟩, .slice none 0 0] 32)) #[.int .i64 50, .int .i64 0] 35 i
    have q2 : ∀ i, ((w.alloc (.cells #[.int .i64 0, .bool false, .string ⟨#[]⟩, .slice none 0 0] 32)).alloc (.cells #[.int .i64 50, .int .i64 0] 35)).cell? ⟨w.heap.size, i, none⟩ = (w.alloc (.cells #[.int .i64 0, .bool false, .string ⟨#[]⟩, .slice none 0 0] 32)).cell? ⟨w.heap.size, i, none⟩ := fun i => World.cell?_of_block (Below.heap_alloc _ _ _ (by show w.heap.size < _; rw [World.size_alloc]; omega))
    rw [World.size_alloc] at q1
    have r0 := (q2 0).trans (q0 0)
    have r1 := (q2 1).trans (q0 1)
    have r2 := (q2 2).trans (q0 2)
    have r3 := (q2 3).trans (q0 3)
    have e0 := q1 0
    have e1 := q1 1
    have HBL : Hid (Below w.heap.size w ((w.alloc (.cells #[.int .i64 0, .bool false, .string ⟨#[]⟩, .slice none 0 0] 32)).alloc (.cells #[.int .i64 50, .int .i64 0] 35))) := ((Below.refl _ _).alloc (Nat.le_refl _) _).alloc (by rw [World.size_alloc]; omega) _
    clear q0 q1 q2
    generalize (w.alloc (.cells #[.int .i64 0, .bool false, .string ⟨#[]⟩, .slice none 0 0] 32)).alloc (.cells #[.int .i64 50, .int .i64 0] 35) = W at r0 r1 r2 r3 e0 e1 HBL ⊢
    refine bodyPost_ret (v := .tuple #[.agg #[.int .i64 0, .bool false, .string ⟨#[]⟩, .slice none 0 0], .agg #[.int .i64 50, .int .i64 0]]) (by simp [results, Tryd.results7, go_sem, r0, r1, r2, r3, e0, e1]) rfl ⟨⟨0, false, ⟨#[]⟩, none, 0, 0, by rw [HB.out], fun h => (by rw [HB.out] at h; cases h), fun _ => ⟨rfl, rfl, rfl, rfl, rfl, rfl⟩⟩, HBL.out⟩
  · have hpos : 0 < L.length := List.length_pos_iff.2 hL
    have hne : ((L.length : Int) == 0) = false := by rw [beq_eq_false_iff_ne]; omega
    have HX : Hid (RIs w x L) := hX
    have HSM : Hid (smR L) := hsm
    have HL : Hid (L ≠ []) := hL
    clear hX hsm hL
    go_enter Tryd.func7, Tryd.ntmps7
    go_wp2_with fail
    have C0 := tframed_any (some ⟨w.heap.size + 1 + 1, 0, none⟩) 1 [⟨#[100, 101, 112, 111, 116, 45, 97, 114, 99, 104, 105, 118, 101, 45, 49]⟩] (((w.alloc (.cells #[.int .i64 0, .bool false, .string ⟨#[]⟩, .slice none 0 0] 32)).alloc (.cells #[.int .i64 0, .int .i64 0] 35)).alloc (.cells #[.string ⟨#[100, 101, 112, 111, 116, 45, 97, 114, 99, 104, 105, 118, 101, 45, 49]⟩] 9)) (by
      have h := StrL.lit ((w.alloc (.cells #[.int .i64 0, .bool false, .string ⟨#[]⟩, .slice none 0 0] 32)).alloc (.cells #[.int .i64 0, .int .i64 0] 35)) #[.string ⟨#[100, 101, 112, 111, 116, 45, 97, 114, 99, 104, 105, 118, 101, 45, 49]⟩] 9 [⟨#[100, 101, 112, 111, 116, 45, 97, 114, 99, 104, 105, 118, 101, 45, 49]⟩] rfl
      rw [World.size_alloc, World.size_alloc] at h
      exact h) (by decide) (by intro s hs; simp at hs; subst hs; decide)
    rw [word_frS] at C0
    refine C0.mono ?_
    rintro en w3 ⟨rfl, hw3⟩
    have q0 := fun i => World.cell?_alloc_new w #[.int .i64 0, .bool false, .string ⟨#[]⟩, .slice none 0 0] 32 i
    have q1 := fun i => World.cell?_alloc_new (w.alloc (.cells #[.int .i64 0, .bool false, .string ⟨#[]⟩, .slice none 0 0] 32)) #[.int .i64 0, .int .i64 0] 35 i
    have hz3 : w.heap.size + 2 < w3.heap.size := by rw [hw3, World.size_alloc, World.size_alloc, World.size_alloc]; omega
    have s0 : w3.heap[w.heap.size]? = (w.alloc (.cells #[.int .i64 0, .bool false, .string ⟨#[]⟩, .slice none 0 0] 32)).heap[w.heap.size]? := by
      rw [hw3]
      exact (Below.heap_alloc _ _ _ (by rw [World.size_alloc, World.size_alloc]; omega)).trans (Below.heap_alloc _ _ _ (by rw [World.size_alloc]; omega))
    have s1 : w3.heap[w.heap.size + 1]? = ((w.alloc (.cells #[.int .i64 0, .bool false, .string ⟨#[]⟩, .slice none 0 0] 32)).alloc (.cells #[.int .i64 0, .int .i64 0] 35)).heap[w.heap.size + 1]? := by
      rw [hw3]
      exact Below.heap_alloc _ _ _ (by rw [World.size_alloc, World.size_alloc]; omega)
    have u0 : w3.heap[w.heap.size]? = some (.cells #[.int .i64 0, .bool false, .string ⟨#[]⟩, .slice none 0 0] 32 (0, 0)) := s0.trans Array.getElem?_push_size
    have u1 : w3.heap[w.heap.size + 1]? = some (.cells #[.int .i64 0, .int .i64 0] 35 (0, 0)) := s1.trans (by
      have h : ((w.alloc (.cells #[.int .i64 0, .bool false, .string ⟨#[]⟩, .slice none 0 0] 32)).alloc (.cells #[.int .i64 0, .int .i64 0] 35)).heap[(w.alloc (.cells #[.int .i64 0, .bool false, .string ⟨#[]⟩, .slice none 0 0] 32)).heap.size]? = some (.cells #[.int .i64 0, .int .i64 0] 35 (0, 0)) := Array.getElem?_push_size
      rw [World.size_alloc] at h
      exact h)
    have B3 : Below w.heap.size w w3 := by
      rw [hw3]
      exact (((Below.refl _ _).alloc (Nat.le_refl _) _).alloc (by rw [World.size_alloc]; omega) _).alloc (by rw [World.size_alloc, World.size_alloc]; omega) _
    clear hw3 q0 q1 s0 s1 C0
    go_wp2_with fail
    have HB4 : Hid (Bst (w3.alloc (.cells #[.slice none 0 0, .int .i64 24] 61)) w3.heap.size (w3.heap.size + 1) [] 24 (.slice none 0 0) []) := ⟨Array.getElem?_push_size, Opn.nil _ _, by omega, by rw [World.size_alloc]; omega⟩
    have B4 : Below w3.heap.size w3 (w3.alloc (.cells #[.slice none 0 0, .int .i64 24] 61)) := (Below.refl _ _).alloc (Nat.le_refl _) _
    have v0 := (B4.block w.heap.size (by omega)).trans u0
    have v1 := (B4.block (w.heap.size + 1) (by omega)).trans u1
    have HW4 : Hid (Below w.heap.size w (w3.alloc (.cells #[.slice none 0 0, .int .i64 24] 61))) := B3.trans (B4.mono (by omega))
    have hz4 : w3.heap.size < (w3.alloc (.cells #[.slice none 0 0, .int .i64 24] 61)).heap.size := by rw [World.size_alloc]; omega
    generalize w3.alloc (.cells #[.slice none 0 0, .int .i64 24] 61) = W4 at HB4 B4 v0 v1 HW4 hz4 ⊢
    generalize hg : w3.heap.size = g at HB4 B4 hz3 hz4 ⊢
    have HV0 : Hid (W4.heap[w.heap.size]? = some (.cells #[.int .i64 0, .bool false, .string ⟨#[]⟩, .slice none 0 0] 32 (0, 0))) := v0
    have HV1 : Hid (W4.heap[w.heap.size + 1]? = some (.cells #[.int .i64 0, .int .i64 0] 35 (0, 0))) := v1
    have HR0 : Hid (runR spN (L.take 0) ([], 24) = some ([], 24)) := rfl
    have HF0 : Hid (Ff g [] W4 W4) := Ff.refl _ _ _
    clear v0 v1 u0 u1 B3 B4 hg
    go_loopg [5, 6, 17] L.length (fun gk u5 u6 iv wr => ∃ (i : Nat) (S : List OE) (b : Int) (v : Value) (fp : List Nat), gk + i = L.length ∧ iv = .int .i64 (i : Int) ∧ Hid (runR spN (L.take i) ([], 24) = some (S, b)) ∧ Hid (Bst wr g (g + 1) S b v fp) ∧ Hid (Ff g [] W4 wr) ∧ Hid (∀ y ∈ fp, W4.heap.size ≤ y) ∧ Hid (((S = [] ∧ b = 24) ∨ (lenS S ∧ okS S b)) ∧ (rowsS S).length = i ∧ 0 ≤ b ∧ b ≤ 1048576))
    case atStart => exact ⟨0, [], 24, .slice none 0 0, [], rfl, rfl, HR0, HB4, HF0, (fun y hy => absurd hy (by simp)), ⟨Or.inl ⟨rfl, rfl⟩, rfl, by decide, by decide⟩⟩
    case round =>
      obtain ⟨i, S, b, v, fp, hgk, rfl, hR, hB, hF, hfp, hK⟩ := hrel
      clear HR0 HB4 HF0
      have hlen : lenS S := by
        rcases hK.out.1 with h | h
        · rw [h.1]; intro o ho; cases ho
        · exact h.1
      have hSl := rows_open S
      have HN : Hid (wr.heap[w.heap.size]? = some (.cells #[.int .i64 0, .bool false, .string ⟨#[]⟩, .slice none 0 0] 32 (0, 0))) := (hF.out.keep _ (by omega) (by omega) (by simp)).trans HV0.out
      have HN1 : Hid (wr.heap[w.heap.size + 1]? = some (.cells #[.int .i64 0, .int .i64 0] 35 (0, 0))) := (hF.out.keep _ (by omega) (by omega) (by simp)).trans HV1.out
      have HBW : Hid (Below w.heap.size w wr) := HW4.out.trans (hF.out.toBelow (by omega) (by simp) (by omega))
      by_cases hi : i < L.length
      · have hi' : (i : Int) < (L.length : Int) := by omega
        obtain ⟨r, hr⟩ : ∃ r, L[i]? = some r := ⟨_, List.getElem?_eq_getElem hi⟩
        obtain ⟨gr, og, hxr, hgr, c0, c1, c2, c3⟩ := (HX.out.below HBW.out (Nat.le_refl _)) i r hr
        subst hxr
        have hsmr := HSM.out r (List.mem_of_getElem? hr)
        have hst : L.take (i + 1) = L.take i ++ [r] := by
          rw [List.take_succ_eq_append_getElem hi]
          congr 1
          have := hr
          rw [List.getElem?_eq_getElem hi] at this
          rw [Option.some.inj this]
        have hsp : L = L.take i ++ r :: L.drop (i + 1) := by
          have := hr
          rw [List.getElem?_eq_getElem hi] at this
          rw [← Option.some.inj this]
          simp
        have HRN : Hid (runR spN (L.take (i + 1)) ([], 24) = addR spN r S b) := by unfold Hid; rw [hst]; exact runR_snoc _ r _ _ hR.out
        have HFA : Hid (addR spN r S b = none → bF L = (64, (i : Int))) := fun h => by
          unfold bF
          rw [if_neg HL.out]
          have h9 := bAt_app (L.take i) r (L.drop (i + 1)) ([], 24) (S, b) 0 hR.out
          rw [← hsp] at h9
          dsimp only at h9
          rw [h] at h9
          rw [h9, List.length_take, show 0 + min i L.length = i by omega]
        obtain ⟨pr, kr, er, tr⟩ := r
        dsimp only at c0 c1 c2 c3 hsmr
        have BB : Below wr.heap.size wr (wr.alloc (.cells #[.string pr, .int .i64 kr, .bool er, .string tr] 27)) := (Below.refl _ _).alloc (Nat.le_refl _) _
        have C := add_any g (g + 1) S b v fp pr tr kr er _ (hB.out.below BB) hlen (by rw [hK.out.2.1]; omega) (by rw [hK.out.2.1] at hSl; omega) hK.out.2.2.1 hK.out.2.2.2 hsmr.1 hsmr.2
        have hFB : Ff g [] W4 (wr.alloc (.cells #[.string pr, .int .i64 kr, .bool er, .string tr] 27)) := hF.out.below BB
        have hBB : Below w.heap.size w (wr.alloc (.cells #[.string pr, .int .i64 kr, .bool er, .string tr] 27)) := HBW.out.trans (BB.mono HBW.out.size)
        clear hst hsp hr hB
        go_wp2_with fail
        refine C.mono ?_
        rintro en w5 ⟨AP, F5⟩
        have hF5 : Hid (Ff g [] W4 w5) := hFB.trans F5 (fun y hy => Or.inr (hfp.out y hy))
        have HBW5 : Hid (Below w.heap.size w w5) := HW4.out.trans (hF5.out.toBelow (by omega) (by simp) (by omega))
        have HN5 : w5.heap[w.heap.size]? = some (.cells #[.int .i64 0, .bool false, .string ⟨#[]⟩, .slice none 0 0] 32 (0, 0)) := (hF5.out.keep _ (by omega) (by omega) (by simp)).trans HV0.out
        have HN6 : w5.heap[w.heap.size + 1]? = some (.cells #[.int .i64 0, .int .i64 0] 35 (0, 0)) := (hF5.out.keep _ (by omega) (by omega) (by simp)).trans HV1.out
        clear C hFB hBB BB c0 c1 c2 c3 HN HN1
        unfold AddP at AP
        cases had : addR spN (pr, kr, er, tr) S b with
        | none =>
          rw [had] at AP
          obtain rfl := AP
          have HFF : Hid (bF L = (64, (i : Int))) := HFA.out had
          have d0 : w5.cell? ⟨w.heap.size, 0, none⟩ = some (.int .i64 0) := by rw [Lib.cell_of_heap HN5]; rfl
          have d1 : w5.cell? ⟨w.heap.size, 1, none⟩ = some (.bool false) := by rw [Lib.cell_of_heap HN5]; rfl
          have d2 : w5.cell? ⟨w.heap.size, 2, none⟩ = some (.string ⟨#[]⟩) := by rw [Lib.cell_of_heap HN5]; rfl
          have d3 : w5.cell? ⟨w.heap.size, 3, none⟩ = some (.slice none 0 0) := by rw [Lib.cell_of_heap HN5]; rfl
          have g0 := Lib.frozen_of_heap HN5 0
          have g1 := Lib.frozen_of_heap HN5 1
          have g2 := Lib.frozen_of_heap HN5 2
          have g3 := Lib.frozen_of_heap HN5 3
          have p0 : w5.cell? ⟨w.heap.size + 1, 0, none⟩ = some (.int .i64 0) := by rw [Lib.cell_of_heap HN6]; rfl
          have p1 : w5.cell? ⟨w.heap.size + 1, 1, none⟩ = some (.int .i64 0) := by rw [Lib.cell_of_heap HN6]; rfl
          have k0 := Lib.frozen_of_heap HN6 0
          have k1 := Lib.frozen_of_heap HN6 1
          have SX := fun W' h => six (b0 := .int .i64 0) (b1 := .bool false) (b2 := .string ⟨#[]⟩) (b3 := .slice none 0 0) (q0 := .int .i64 64) (q1 := .int .i64 (i : Int)) HN5 HN6 W' h
          clear HN5 HN6 F5 hF5
          go_wp2
          obtain ⟨r0, r1, r2, r3, e0, e1, BX6, -⟩ := SX _ rfl
          have HBL : Hid (Below w.heap.size w ((((((w5.setCell ⟨w.heap.size, 0, none⟩ (.int .i64 0)).setCell ⟨w.heap.size, 1, none⟩ (.bool false)).setCell ⟨w.heap.size, 2, none⟩ (.string ⟨#[]⟩)).setCell ⟨w.heap.size, 3, none⟩ (.slice none 0 0)).setCell ⟨w.heap.size + 1, 0, none⟩ (.int .i64 64)).setCell ⟨w.heap.size + 1, 1, none⟩ (.int .i64 (i : Int)))) := HBW5.out.trans BX6
          clear SX BX6 d0 d1 d2 d3 g0 g1 g2 g3 p0 p1 k0 k1
          generalize (((((w5.setCell ⟨w.heap.size, 0, none⟩ (.int .i64 0)).setCell ⟨w.heap.size, 1, none⟩ (.bool false)).setCell ⟨w.heap.size, 2, none⟩ (.string ⟨#[]⟩)).setCell ⟨w.heap.size, 3, none⟩ (.slice none 0 0)).setCell ⟨w.heap.size + 1, 0, none⟩ (.int .i64 64)).setCell ⟨w.heap.size + 1, 1, none⟩ (.int .i64 (i : Int)) = W at r0 r1 r2 r3 e0 e1 HBL ⊢
          refine bodyPost_ret (v := .tuple #[.agg #[.int .i64 0, .bool false, .string ⟨#[]⟩, .slice none 0 0], .agg #[.int .i64 64, .int .i64 (i : Int)]]) (by simp [results, Tryd.results7, go_sem, r0, r1, r2, r3, e0, e1]) rfl ⟨⟨0, false, ⟨#[]⟩, none, 0, 0, by rw [HFF.out], fun h => (by rw [HFF.out] at h; cases h), fun _ => ⟨rfl, rfl, rfl, rfl, rfl, rfl⟩⟩, HBL.out⟩
        | some sb =>
          obtain ⟨S', b'⟩ := sb
          rw [had] at AP
          obtain ⟨rfl, v', fp', hB', hfp'⟩ := AP
          have hk := hK.out
          have hkeep := addR_keeps spN_right had hk.1
          have hle := addR_le hk.2.2.1 had
          have HK2 : Hid (((S' = [] ∧ b' = 24) ∨ (lenS S' ∧ okS S' b')) ∧ (rowsS S').length = i + 1 ∧ 0 ≤ b' ∧ b' ≤ 1048576) := ⟨Or.inr ⟨hkeep.1, hkeep.2.1⟩, by rw [hkeep.2.2, List.length_append, hk.2.1]; rfl, hle.1, hle.2.1⟩
          have HR2 : Hid (runR spN (L.take (i + 1)) ([], 24) = some (S', b')) := by unfold Hid; rw [HRN.out, had]
          have HFP2 : Hid (∀ y ∈ fp', W4.heap.size ≤ y) := fun y hy => by
            rcases hfp' y hy with h | h
            · exact hfp.out y h
            · rw [World.size_alloc] at h
              have := hF.out.size
              omega
          have HB2 : Hid (Bst w5 g (g + 1) S' b' v' fp') := hB'
          clear hk hkeep hle hB' hfp' had HRN HFA F5 HN5 HN6
          go_wp2
          go_roundg (gk - 1)
          case measure => omega
          case rel => exact ⟨i + 1, S', b', v', fp', by omega, by go_num, HR2, HB2, hF5, HFP2, HK2⟩
      · have hi' : ¬ (i : Int) < (L.length : Int) := by omega
        have hRL : runR spN L ([], 24) = some (S, b) := by have h := hR.out; rw [List.take_of_length_le (by omega)] at h; exact h
        have HRL : Hid (runR spN L ([], 24) = some (S, b)) := hRL
        have HFF : Hid (bF L = (0, 0)) := by unfold Hid bF; rw [if_neg HL.out, bAt_all L _ _ 0 hRL]
        have C := closeTo_any g (g + 1) 1 (Nat.le_refl _) (by omega) S b v fp wr hB.out hlen (by rw [hK.out.2.1]; omega) (by rw [hK.out.2.1] at hSl; omega)
        have hpS : 1 ≤ S.length := by
          have h1 := hK.out.2.1
          cases S with
          | nil => have h2 : (rowsS []).length = 0 := rfl; omega
          | cons o S => simp
        have hcl := clo_len 1 (Nat.le_refl _) S hpS
        obtain ⟨o, ho⟩ := List.length_eq_one_iff.1 hcl
        rw [ho] at C
        clear hRL hcl
        go_wp2_with fail
        refine C.mono ?_
        rintro en w5 ⟨rfl, ⟨v5, fp5, B5, hf5⟩, F5⟩
        have hF5 : Hid (Ff g [] W4 w5) := hF.out.trans F5 (fun y hy => Or.inr (hfp.out y hy))
        have HBW5 : Hid (Below w.heap.size w w5) := HW4.out.trans (hF5.out.toBelow (by omega) (by simp) (by omega))
        have HN5 : w5.heap[w.heap.size]? = some (.cells #[.int .i64 0, .bool false, .string ⟨#[]⟩, .slice none 0 0] 32 (0, 0)) := (hF5.out.keep _ (by omega) (by omega) (by simp)).trans HV0.out
        have HN6 : w5.heap[w.heap.size + 1]? = some (.cells #[.int .i64 0, .int .i64 0] 35 (0, 0)) := (hF5.out.keep _ (by omega) (by omega) (by simp)).trans HV1.out
        obtain ⟨q, co, u, fk, hv, hco, hqf, hcell, hTr, hfk⟩ := B5.op.get 0 o rfl
        subst hv
        have a5 : w5.cell? ⟨g, 0, none⟩ = some (.slice (some ⟨q, 0, none⟩) 1 co) := by rw [Lib.cell_of_heap B5.hg]; rfl
        obtain ⟨xk, ck, rfl⟩ := hTr.shape
        have n1 : w5.cell? ⟨q, 1, none⟩ = some (.int .i64 o.k) := hcell 1 (by decide)
        have n2 : w5.cell? ⟨q, 2, none⟩ = some (.bool o.e) := hcell 2 (by decide)
        have n3 : w5.cell? ⟨q, 3, none⟩ = some (.string o.t) := hcell 3 (by decide)
        have n4 : w5.cell? ⟨q, 4, none⟩ = some (.slice xk o.tr.nms.length ck) := hcell 4 (by decide)
        have d0 : w5.cell? ⟨w.heap.size, 0, none⟩ = some (.int .i64 0) := by rw [Lib.cell_of_heap HN5]; rfl
        have d1 : w5.cell? ⟨w.heap.size, 1, none⟩ = some (.bool false) := by rw [Lib.cell_of_heap HN5]; rfl
        have d2 : w5.cell? ⟨w.heap.size, 2, none⟩ = some (.string ⟨#[]⟩) := by rw [Lib.cell_of_heap HN5]; rfl
        have d3 : w5.cell? ⟨w.heap.size, 3, none⟩ = some (.slice none 0 0) := by rw [Lib.cell_of_heap HN5]; rfl
        have g0 := Lib.frozen_of_heap HN5 0
        have g1 := Lib.frozen_of_heap HN5 1
        have g2 := Lib.frozen_of_heap HN5 2
        have g3 := Lib.frozen_of_heap HN5 3
        have p0 : w5.cell? ⟨w.heap.size + 1, 0, none⟩ = some (.int .i64 0) := by rw [Lib.cell_of_heap HN6]; rfl
        have p1 : w5.cell? ⟨w.heap.size + 1, 1, none⟩ = some (.int .i64 0) := by rw [Lib.cell_of_heap HN6]; rfl
        have k0 := Lib.frozen_of_heap HN6 0
        have k1 := Lib.frozen_of_heap HN6 1
        have SX := fun W' h => six (b0 := .int .i64 o.k) (b1 := .bool o.e) (b2 := .string o.t) (b3 := .slice xk o.tr.nms.length ck) (q0 := .int .i64 0) (q1 := .int .i64 0) HN5 HN6 W' h
        have hfkg := fun y hy => (B5.op.lt y (hfk y hy)).1
        have hql := (B5.op.lt q hqf).1
        have HTR : Hid (TrV w5 (g + 1) o.tr (.slice xk o.tr.nms.length ck) fk) := hTr
        have HO : Hid (clo 1 S = [o]) := ho
        have qn0 : q ≠ w.heap.size := by omega
        have qn1 : q ≠ w.heap.size + 1 := by omega
        have gn0 : g ≠ w.heap.size := by omega
        have gn1 : g ≠ w.heap.size + 1 := by omega
        generalize hnn : o.tr.nms.length = nn at n4 SX HTR
        clear HN5 HN6 F5 hF5 C hcell hTr hf5 hco hnn ho B5 hfk
        go_wp2
        obtain ⟨r0, r1, r2, r3, e0, e1, BX6, KX6⟩ := SX _ rfl
        have HBL : Hid (Below w.heap.size w ((((((w5.setCell ⟨w.heap.size, 0, none⟩ (.int .i64 o.k)).setCell ⟨w.heap.size, 1, none⟩ (.bool o.e)).setCell ⟨w.heap.size, 2, none⟩ (.string o.t)).setCell ⟨w.heap.size, 3, none⟩ (.slice xk nn ck)).setCell ⟨w.heap.size + 1, 0, none⟩ (.int .i64 0)).setCell ⟨w.heap.size + 1, 1, none⟩ (.int .i64 0))) := HBW5.out.trans BX6
        have HT6 : Hid (TrV ((((((w5.setCell ⟨w.heap.size, 0, none⟩ (.int .i64 o.k)).setCell ⟨w.heap.size, 1, none⟩ (.bool o.e)).setCell ⟨w.heap.size, 2, none⟩ (.string o.t)).setCell ⟨w.heap.size, 3, none⟩ (.slice xk nn ck)).setCell ⟨w.heap.size + 1, 0, none⟩ (.int .i64 0)).setCell ⟨w.heap.size + 1, 1, none⟩ (.int .i64 0)) w.heap.size o.tr (.slice xk nn ck) fk) := TrV.mono (B := g + 1) (by omega) _ _ _ (TrV.same _ _ _ HTR.out (fun y hy => KX6 y (by have := hfkg y hy; omega) (by have := hfkg y hy; omega)))
        clear SX BX6 KX6 d0 d1 d2 d3 g0 g1 g2 g3 p0 p1 k0 k1 HTR
        generalize (((((w5.setCell ⟨w.heap.size, 0, none⟩ (.int .i64 o.k)).setCell ⟨w.heap.size, 1, none⟩ (.bool o.e)).setCell ⟨w.heap.size, 2, none⟩ (.string o.t)).setCell ⟨w.heap.size, 3, none⟩ (.slice xk nn ck)).setCell ⟨w.heap.size + 1, 0, none⟩ (.int .i64 0)).setCell ⟨w.heap.size + 1, 1, none⟩ (.int .i64 0) = W at r0 r1 r2 r3 e0 e1 HBL HT6 ⊢
        refine bodyPost_ret (v := .tuple #[.agg #[.int .i64 o.k, .bool o.e, .string o.t, .slice xk nn ck], .agg #[.int .i64 0, .int .i64 0]]) (by simp [results, Tryd.results7, go_sem, r0, r1, r2, r3, e0, e1]) rfl ⟨⟨o.k, o.e, o.t, xk, nn, ck, by rw [HFF.out], fun _ => ⟨S, b, o, fk, HRL.out, HO.out, rfl, rfl, rfl, HT6.out⟩, fun h => absurd (by rw [HFF.out]) h⟩, HBL.out⟩

end Go.Proofs.YtnggbemnblcnaaaDoor
