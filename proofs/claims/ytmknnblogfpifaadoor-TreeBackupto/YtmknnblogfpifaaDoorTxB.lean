/- closeTo, walked: its region by hand (own text of the verifier). -/
import Derived.Test.YtmknnblogfpifaaDoorTwH
import Derived.Test.YtmknnblogfpifaaDoorTvC
import Derived.Deep.RegionLaw
import Derived.Deep.RegionHeldLaw
import Derived.Deep.Cut
import Derived.Deep.CutRange
namespace Go.Proofs.YtmknnblogfpifaaDoor
open Go.RowKit

/-- What the region reads. -/
def SS (g q n co : Nat) (o : OE) (xu : Option Addr) (cu : Nat) (W : World) : Prop := W.cell? ⟨g, 0, none⟩ = some (.slice (some ⟨q, 0, none⟩) (n + 2) co) ∧ W.cell? ⟨q, (n + 1) * 5, none⟩ = some (.string o.nm) ∧ W.cell? ⟨q, (n + 1) * 5 + 1, none⟩ = some (.int .i64 o.k) ∧ W.cell? ⟨q, (n + 1) * 5 + 2, none⟩ = some (.bool o.e) ∧ W.cell? ⟨q, (n + 1) * 5 + 3, none⟩ = some (.string o.t) ∧ W.cell? ⟨q, (n + 1) * 5 + 4, none⟩ = some (.slice xu o.nms.length cu)
theorem SS.put {g q n co : Nat} {o : OE} {xu : Option Addr} {cu : Nat} {W : World} {x : Value} (h : SS g q n co o xu cu W) (hgq : g ≠ q) : SS g q n co o xu cu (W.setCell ⟨q, n * 5 + 1 + 3, none⟩ x) :=
  ⟨(World.cell?_setCell_other _ _ _ _ (fun e => by have h9 := hgq; injection e; omega)).trans h.1, (World.cell?_setCell_other _ _ _ _ (fun e => by have h9 := hgq; injection e; omega)).trans h.2.1, (World.cell?_setCell_other _ _ _ _ (fun e => by have h9 := hgq; injection e; omega)).trans h.2.2.1, (World.cell?_setCell_other _ _ _ _ (fun e => by have h9 := hgq; injection e; omega)).trans h.2.2.2.1, (World.cell?_setCell_other _ _ _ _ (fun e => by have h9 := hgq; injection e; omega)).trans h.2.2.2.2.1, (World.cell?_setCell_other _ _ _ _ (fun e => by have h9 := hgq; injection e; omega)).trans h.2.2.2.2.2⟩
theorem SS.far {g q n co : Nat} {o : OE} {xu : Option Addr} {cu : Nat} {W : World} {x : Value} {g2 k : Nat} (h : SS g q n co o xu cu W) (h1 : g ≠ g2) (h2 : q ≠ g2) : SS g q n co o xu cu (W.setCell ⟨g2, k, none⟩ x) :=
  ⟨(World.cell?_setCell_other _ _ _ _ (fun e => by injection e; omega)).trans h.1, (World.cell?_setCell_other _ _ _ _ (fun e => by injection e; omega)).trans h.2.1, (World.cell?_setCell_other _ _ _ _ (fun e => by injection e; omega)).trans h.2.2.1, (World.cell?_setCell_other _ _ _ _ (fun e => by injection e; omega)).trans h.2.2.2.1, (World.cell?_setCell_other _ _ _ _ (fun e => by injection e; omega)).trans h.2.2.2.2.1, (World.cell?_setCell_other _ _ _ _ (fun e => by injection e; omega)).trans h.2.2.2.2.2⟩
theorem SS.five {g q n co : Nat} {o : OE} {xu : Option Addr} {cu : Nat} {W : World} {a b c d e : Value} {g2 k0 k1 k2 k3 k4 : Nat} (h : SS g q n co o xu cu W) (h1 : g ≠ g2) (h2 : q ≠ g2) : SS g q n co o xu cu (((((W.setCell ⟨g2, k0, none⟩ a).setCell ⟨g2, k1, none⟩ b).setCell ⟨g2, k2, none⟩ c).setCell ⟨g2, k3, none⟩ d).setCell ⟨g2, k4, none⟩ e) :=
  ((((h.far h1 h2).far h1 h2).far h1 h2).far h1 h2).far h1 h2

set_option maxHeartbeats 16000000 in
set_option maxRecDepth 8000 in
theorem closeTo_any (g B c : Nat) (hc : 1 ≤ c) (hc2 : c ≤ 1073741824) (S : List OE) (b : Int) (v : Value) (fp : List Nat) (w : World) (H : Bst w g B S b v fp) (hl : lenS S) (hr : (rowsS S).length ≤ 1073741824) (hSl : S.length ≤ 1073741824) :
    Calls Tryd.prog 26 #[.pointer (some ⟨g, 0, none⟩), .int .i64 (c : Int)] w fun e w' => e = .returned (.tuple #[]) ∧ (∃ v' fp', Bst w' g B (clo c S) b v' fp' ∧ ∀ x ∈ fp', x ∈ fp ∨ w.heap.size ≤ x) ∧ Ff g fp w w' := by
  have HH : Hid (Bst w g B S b v fp) := H
  have HL : Hid (lenS S) := hl
  have HR : Hid ((rowsS S).length ≤ 1073741824) := hr
  clear H hl hr
  go_enter Tryd.func26, Tryd.ntmps26
  go_wp2_with fail
  go_loopg [4, 5] S.length (fun gk _ _ wr => ∃ (S1 : List OE) (v1 : Value) (fp1 : List Nat), S1.length = gk ∧ Hid (clo c S1 = clo c S) ∧ Hid (Bst wr g B S1 b v1 fp1) ∧ Hid (∀ x ∈ fp1, x ∈ fp ∨ w.heap.size ≤ x) ∧ Hid (Ff g fp w wr) ∧ Hid (lenS S1) ∧ Hid ((rowsS S1).length ≤ 1073741824) ∧ S1.length ≤ 1073741824)
  case atStart => exact ⟨S, v, fp, rfl, rfl, HH, fun x hx => Or.inl hx, Ff.refl _ _ _, HL, HR, hSl⟩
  case round =>
    obtain ⟨S1, v1, fp1, hgk, hclo, hB, hfp, hF, hL, hR, hS1⟩ := hrel
    clear HH HL HR
    obtain ⟨xo, co, rfl⟩ := hB.out.op.shape
    have a0 : wr.cell? ⟨g, 0, none⟩ = some (.slice xo S1.length co) := by rw [Lib.cell_of_heap hB.out.hg]; rfl
    by_cases hlt : c < S1.length
    · have hltI : (c : Int) < (S1.length : Int) := by omega
      match S1, hlt with
      | [], hlt => simp at hlt
      | [o], hlt => simp at hlt; omega
      | o :: h :: R, hlt =>
        obtain ⟨q, co', xu, cu, xh, ch, g2, cap2, w', ST⟩ := Bst.step hB.out hL.out hR.out
        have hv := ST.hv
        rw [show (o :: h :: R).length = R.length + 2 from rfl] at hv
        injection hv with e1 _ e2
        subst e1 e2
        have hcap := ST.hco
        have hRl : R.length + 2 ≤ 1073741824 := hS1
        have HGK : Hid ((o :: h :: R).length = gk) := hgk
        have a0' : wr.cell? ⟨g, 0, none⟩ = some (.slice (some ⟨q, 0, none⟩) (R.length + 2) co) := a0
        have hltR : (c : Int) < (R.length : Int) + 2 := by simp at hltI; omega
        have HST : Hid (Stp wr g B o h R b (.slice (some ⟨q, 0, none⟩) (R.length + 2) co) fp1 q co xu cu xh ch g2 cap2 w') := ST
        have i1 : ((R.length : Int) + 2 - 1 - 1).toNat = R.length := by omega
        have i2 : ((R.length : Int) + 2 - 1).toNat = R.length + 1 := by omega
        have w1 : IntKind.i64.wrap ((R.length : Int) + 2 - 1) = (R.length : Int) + 2 - 1 := by rw [IntKind.wrap_i64]; omega
        have w2 : IntKind.i64.wrap ((R.length : Int) + 2 - 1 - 1) = (R.length : Int) + 2 - 1 - 1 := by rw [IntKind.wrap_i64]; omega
        have j1 : (0 : Int) ≤ (R.length : Int) + 2 - 1 - 1 := by omega
        have j2 : (R.length : Int) + 2 - 1 - 1 < (R.length : Int) + 2 := by omega
        have j3 : (0 : Int) ≤ (R.length : Int) + 2 - 1 := by omega
        have j4 : (R.length : Int) + 2 - 1 < (R.length : Int) + 2 := by omega
        clear hgk a0 hltI hlt hS1 ST
        have b0 := HST.out.b0
        have b1 := HST.out.b1
        have b2 := HST.out.b2
        have b3 := HST.out.b3
        have b4 := HST.out.b4
        have hq2 := HST.out.hq2
        have hgq := HST.out.hgq
        have hgg2 := HST.out.hgg2
        have hgl := HST.out.hgl
        have hql := HST.out.hql
        have kS : ∀ W : World, W.heap[g]? = wr.heap[g]? → W.heap[q]? = wr.heap[q]? → SS g q R.length co o xu cu W := fun W e1 e2 => ⟨(World.cell?_of_block (w := wr) (a := ⟨g, 0, none⟩) e1).trans a0', (World.cell?_of_block (w := wr) (a := ⟨q, (R.length + 1) * 5, none⟩) e2).trans b0, (World.cell?_of_block (w := wr) (a := ⟨q, (R.length + 1) * 5 + 1, none⟩) e2).trans b1, (World.cell?_of_block (w := wr) (a := ⟨q, (R.length + 1) * 5 + 2, none⟩) e2).trans b2, (World.cell?_of_block (w := wr) (a := ⟨q, (R.length + 1) * 5 + 3, none⟩) e2).trans b3, (World.cell?_of_block (w := wr) (a := ⟨q, (R.length + 1) * 5 + 4, none⟩) e2).trans b4⟩
        have N0 : SS g q R.length co o xu cu wr.drew := kS _ rfl rfl
        have N1 : SS g q R.length co o xu cu (wr.drew.alloc (.cells #[.string ⟨#[]⟩, .int .i64 0, .bool false, .string ⟨#[]⟩, .slice none 0 0] 54)) := kS _ (Below.heap_alloc wr.drew _ _ hgl) (Below.heap_alloc wr.drew _ _ hql)
        have N2 : SS g q R.length co o xu cu w' := kS _ HST.out.kg HST.out.kq
        have N3 : SS g q R.length co o xu cu (((((w'.setCell ⟨g2, h.nms.length * 5, none⟩ (.string o.nm)).setCell ⟨g2, h.nms.length * 5 + 1, none⟩ (.int .i64 o.k)).setCell ⟨g2, h.nms.length * 5 + 2, none⟩ (.bool o.e)).setCell ⟨g2, h.nms.length * 5 + 3, none⟩ (.string o.t)).setCell ⟨g2, h.nms.length * 5 + 4, none⟩ (.slice xu o.nms.length cu)) := kS _ ((set5_other w' g2 (h.nms.length * 5) (.string o.nm) (.int .i64 o.k) (.bool o.e) (.string o.t) (.slice xu o.nms.length cu) g hgg2).trans HST.out.kg) ((set5_other w' g2 (h.nms.length * 5) (.string o.nm) (.int .i64 o.k) (.bool o.e) (.string o.t) (.slice xu o.nms.length cu) q hq2).trans HST.out.kq)
        have N4 : SS g q R.length co o xu cu ((((((w'.setCell ⟨g2, h.nms.length * 5, none⟩ (.string o.nm)).setCell ⟨g2, h.nms.length * 5 + 1, none⟩ (.int .i64 o.k)).setCell ⟨g2, h.nms.length * 5 + 2, none⟩ (.bool o.e)).setCell ⟨g2, h.nms.length * 5 + 3, none⟩ (.string o.t)).setCell ⟨g2, h.nms.length * 5 + 4, none⟩ (.slice xu o.nms.length cu)).setCell ⟨q, R.length * 5 + 1 + 3, none⟩ (.slice (some ⟨g2, 0, none⟩) (h.nms.length + 1) cap2)) := SS.put N3 hgq
        have N5 : SS g q R.length co o xu cu (w'.setCell ⟨q, R.length * 5 + 1 + 3, none⟩ (.slice (some ⟨g2, 0, none⟩) (h.nms.length + 1) cap2)) := SS.put N2 hgq
        have N6 : SS g q R.length co o xu cu (((((((w'.setCell ⟨q, R.length * 5 + 1 + 3, none⟩ (.slice (some ⟨g2, 0, none⟩) (h.nms.length + 1) cap2)).setCell ⟨g2, h.nms.length * 5, none⟩ (.string o.nm)).setCell ⟨g2, h.nms.length * 5 + 1, none⟩ (.int .i64 o.k)).setCell ⟨g2, h.nms.length * 5 + 2, none⟩ (.bool o.e)).setCell ⟨g2, h.nms.length * 5 + 3, none⟩ (.string o.t)).setCell ⟨g2, h.nms.length * 5 + 4, none⟩ (.slice xu o.nms.length cu))) := SS.five N5 hgg2 hq2
        have d4x : wr.drew.cell? ⟨q, R.length * 5 + 1 + 3, none⟩ = some (.slice xh h.nms.length ch) := HST.out.d4
        have d4a : (wr.drew.alloc (.cells #[.string ⟨#[]⟩, .int .i64 0, .bool false, .string ⟨#[]⟩, .slice none 0 0] 54)).cell? ⟨q, R.length * 5 + 1 + 3, none⟩ = some (.slice xh h.nms.length ch) := (World.cell?_of_block (w := wr) (a := ⟨q, R.length * 5 + 1 + 3, none⟩) (Below.heap_alloc wr.drew _ _ hql)).trans HST.out.d4
        have d4' : w'.cell? ⟨q, R.length * 5 + 1 + 3, none⟩ = some (.slice xh h.nms.length ch) := (World.cell?_of_block (w := wr) (a := ⟨q, R.length * 5 + 1 + 3, none⟩) HST.out.kq).trans HST.out.d4
        have df : w'.frozen? ⟨q, R.length * 5 + 1 + 3, none⟩ = false := HST.out.df
        have z0 := HST.out.z0
        have z1 := HST.out.z1
        have z2 := HST.out.z2
        have z3 := HST.out.z3
        have z4 := HST.out.z4
        have f0 := HST.out.f (h.nms.length * 5)
        have f1 := HST.out.f (h.nms.length * 5 + 1)
        have f2 := HST.out.f (h.nms.length * 5 + 2)
        have f3 := HST.out.f (h.nms.length * 5 + 3)
        have f4 := HST.out.f (h.nms.length * 5 + 4)
        have hapD : (Builtin.append_ #[23, 23] 23 #[.slice xh h.nms.length ch, .slice (some ⟨wr.drew.heap.size, 0, none⟩) 1 1]).run Tryd.prog (wr.drew.alloc (.cells #[.string ⟨#[]⟩, .int .i64 0, .bool false, .string ⟨#[]⟩, .slice none 0 0] 54)) = .ok (.slice (some ⟨g2, 0, none⟩) (h.nms.length + 1) cap2) w' := HST.out.hap
        have hgg2' : g2 ≠ g := fun e => hgg2 e.symm
        have hq2' : g2 ≠ q := fun e => hq2 e.symm
        have hgq' : q ≠ g := fun e => hgq e.symm
        have hlI : (0 : Int) ≤ (h.nms.length : Int) := by omega
        have j5 : ¬ (R.length : Int) + 2 < 1 := by omega
        have hlI2 : (h.nms.length : Int) < (h.nms.length : Int) + 1 := by omega
        have hlN : h.nms.length < h.nms.length + 1 := by omega
        have HEQ : Hid (((set5 w' g2 (h.nms.length * 5) (entV o.nm o.tr (.slice xu o.nms.length cu))).setCell ⟨q, R.length * 5 + 4, none⟩ (.slice (some ⟨g2, 0, none⟩) (h.nms.length + 1) cap2)) = (((((w'.setCell ⟨g2, h.nms.length * 5, none⟩ (.string o.nm)).setCell ⟨g2, h.nms.length * 5 + 1, none⟩ (.int .i64 o.k)).setCell ⟨g2, h.nms.length * 5 + 2, none⟩ (.bool o.e)).setCell ⟨g2, h.nms.length * 5 + 3, none⟩ (.string o.t)).setCell ⟨g2, h.nms.length * 5 + 4, none⟩ (.slice xu o.nms.length cu)).setCell ⟨q, R.length * 5 + 4, none⟩ (.slice (some ⟨g2, 0, none⟩) (h.nms.length + 1) cap2)) := rfl
        clear b0 b1 b2 b3 b4 kS
        go_upto_region 3 with fail
        go_cut [] from 6 to 52 (fun wx => wx = (((((w'.setCell ⟨g2, h.nms.length * 5, none⟩ (.string o.nm)).setCell ⟨g2, h.nms.length * 5 + 1, none⟩ (.int .i64 o.k)).setCell ⟨g2, h.nms.length * 5 + 2, none⟩ (.bool o.e)).setCell ⟨g2, h.nms.length * 5 + 3, none⟩ (.string o.t)).setCell ⟨g2, h.nms.length * 5 + 4, none⟩ (.slice xu o.nms.length cu)).setCell ⟨q, R.length * 5 + 4, none⟩ (.slice (some ⟨g2, 0, none⟩) (h.nms.length + 1) cap2))
        case first =>
          refine wp_region_held_drew (S := SS g q R.length co o xu cu) (by kernel_rfl) N0 (fun _ => ?_)
          generalize wr.drew = W1 at N0 N1 d4x d4a hapD ⊢
          refine wpAnyH_take (i := 0) (oi := { dst := some 27, op := Op.move (Operand.tmp 5), type := 70, pos := "build.go:76", after := #[], guard := none }) (v := .pointer (some ⟨q, R.length * 5 + 1, none⟩)) rfl (by kernel_rfl) (by kernel_rfl) (by kernel_rfl) (fun _ _ _ h => h) (Or.inl ⟨by rfl, by intro w _; go_simp⟩) N0 ?_
          try simp only [Act.put, List.setIfInBounds_toArray, List.set_cons_zero, List.set_cons_succ]
          refine wpAnyH_take (i := 1) (oi := { dst := some 28, op := Op.nilCheck (Operand.tmp 27), type := 0, pos := "build.go:76", after := #[{ on := 0, ground := Ground.data }], guard := none }) (v := .pointer (some ⟨q, R.length * 5 + 1, none⟩)) rfl (by kernel_rfl) (by kernel_rfl) (by kernel_rfl) (fun _ _ _ h => h) (Or.inl ⟨by rfl, by intro w _; go_simp⟩) N0 ?_
          try simp only [Act.put, List.setIfInBounds_toArray, List.set_cons_zero, List.set_cons_succ]
          refine wpAnyH_take (i := 2) (oi := { dst := some 29, op := Op.fieldAddr 25 (Operand.tmp 28) 3, type := 0, pos := "build.go:76", after := #[{ on := 1, ground := Ground.data }], guard := none }) (v := .pointer (some ⟨q, R.length * 5 + 1 + 3, none⟩)) rfl (by kernel_rfl) (by kernel_rfl) (by kernel_rfl) (fun _ _ _ h => h) (Or.inl ⟨by rfl, by intro w _; go_simp⟩) N0 ?_
          try simp only [Act.put, List.setIfInBounds_toArray, List.set_cons_zero, List.set_cons_succ]
          refine wpAnyH_take (i := 4) (oi := { dst := some 31, op := Op.move (Operand.tmp 0), type := 85, pos := "build.go:76", after := #[], guard := none }) (v := .pointer (some ⟨g, 0, none⟩)) rfl (by kernel_rfl) (by kernel_rfl) (by kernel_rfl) (fun _ _ _ h => h) (Or.inl ⟨by rfl, by intro w _; go_simp⟩) N0 ?_
          try simp only [Act.put, List.setIfInBounds_toArray, List.set_cons_zero, List.set_cons_succ]
          refine wpAnyH_take (i := 5) (oi := { dst := some 32, op := Op.nilCheck (Operand.tmp 31), type := 0, pos := "build.go:76", after := #[{ on := 4, ground := Ground.data }], guard := none }) (v := .pointer (some ⟨g, 0, none⟩)) rfl (by kernel_rfl) (by kernel_rfl) (by kernel_rfl) (fun _ _ _ h => h) (Or.inl ⟨by rfl, by intro w _; go_simp⟩) N0 ?_
          try simp only [Act.put, List.setIfInBounds_toArray, List.set_cons_zero, List.set_cons_succ]
          refine wpAnyH_take (i := 6) (oi := { dst := some 33, op := Op.fieldAddr 65 (Operand.tmp 32) 0, type := 0, pos := "build.go:76", after := #[{ on := 5, ground := Ground.data }], guard := none }) (v := .pointer (some ⟨g, 0, none⟩)) rfl (by kernel_rfl) (by kernel_rfl) (by kernel_rfl) (fun _ _ _ h => h) (Or.inl ⟨by rfl, by intro w _; go_simp⟩) N0 ?_
          try simp only [Act.put, List.setIfInBounds_toArray, List.set_cons_zero, List.set_cons_succ]
          refine wpAnyH_take (i := 7) (oi := { dst := some 34, op := Op.load 23 (Operand.tmp 33), type := 23, pos := "build.go:76", after := #[{ on := 6, ground := Ground.data }], guard := none }) (v := .slice (some ⟨q, 0, none⟩) (R.length + 2) co) rfl (by kernel_rfl) (by kernel_rfl) (by kernel_rfl) (fun _ _ _ h => h) (Or.inl ⟨by rfl, by rintro w ⟨s0, s1, s2, s3, s4, s5⟩; go_simp⟩) N0 ?_
          try simp only [Act.put, List.setIfInBounds_toArray, List.set_cons_zero, List.set_cons_succ]
          refine wpAnyH_take (i := 8) (oi := { dst := some 35, op := Op.move (Operand.tmp 4), type := 3, pos := "build.go:76", after := #[], guard := none }) (v := .int .i64 ((R.length : Int) + 2 - 1)) rfl (by kernel_rfl) (by kernel_rfl) (by kernel_rfl) (fun _ _ _ h => h) (Or.inl ⟨by rfl, by intro w _; go_simp⟩) N0 ?_
          try simp only [Act.put, List.setIfInBounds_toArray, List.set_cons_zero, List.set_cons_succ]
          refine wpAnyH_take (i := 9) (oi := { dst := some 36, op := Op.indexAddr 23 (Operand.tmp 34) (Operand.tmp 35), type := 0, pos := "build.go:76", after := #[{ on := 7, ground := Ground.data }, { on := 8, ground := Ground.data }], guard := none }) (v := .pointer (some ⟨q, (R.length + 1) * 5, none⟩)) rfl (by kernel_rfl) (by kernel_rfl) (by kernel_rfl) (fun _ _ _ h => h) (Or.inl ⟨by rfl, by intro w _; go_simp⟩) N0 ?_
          try simp only [Act.put, List.setIfInBounds_toArray, List.set_cons_zero, List.set_cons_succ]
          refine wpAnyH_take (i := 10) (oi := { dst := some 37, op := Op.load 54 (Operand.tmp 36), type := 54, pos := "build.go:76", after := #[{ on := 9, ground := Ground.data }], guard := none }) (v := .agg #[.string o.nm, .int .i64 o.k, .bool o.e, .string o.t, .slice xu o.nms.length cu]) rfl (by kernel_rfl) (by kernel_rfl) (by kernel_rfl) (fun _ _ _ h => h) (Or.inl ⟨by rfl, by rintro w ⟨s0, s1, s2, s3, s4, s5⟩; go_simp⟩) N0 ?_
          try simp only [Act.put, List.setIfInBounds_toArray, List.set_cons_zero, List.set_cons_succ]
          refine wpAnyH_ready (rs := [3, 12]) (by kernel_rfl) (by decide) (AllReadyH.cons rfl (fun K1 hK1 => ?_) (AllReadyH.cons rfl (fun K1 hK1 => ?_) AllReadyH.nil))
          · skip
            rw [if_pos (by rfl)]
            go_simp
            refine hK1.out _ _ N0 (fun _ => ?_)
            clear hK1 K1
            try simp only [Act.put, List.setIfInBounds_toArray, List.set_cons_zero, List.set_cons_succ]
            refine wpAnyH_take (i := 11) (oi := { dst := some 38, op := Op.call { callee := Callee.builtin Builtin.len, args := #[Operand.tmp 30], argTypes := #[23] }, type := 3, pos := "build.go:76", after := #[{ on := 3, ground := Ground.data }], guard := none }) (v := .int .i64 (h.nms.length : Int)) rfl (by kernel_rfl) (by kernel_rfl) (by kernel_rfl) (fun _ _ _ h => h) (Or.inl ⟨by rfl, by intro w _; go_simp⟩) N0 ?_
            try simp only [Act.put, List.setIfInBounds_toArray, List.set_cons_zero, List.set_cons_succ]
            refine wpAnyH_ready (rs := [12]) (by kernel_rfl) (by decide) (AllReadyH.cons rfl (fun K1 hK1 => ?_) AllReadyH.nil)
            rw [if_pos (by rfl)]
            go_simp
            refine hK1.out _ _ N1 (fun _ => ?_)
            clear hK1 K1
            try simp only [Act.put, List.setIfInBounds_toArray, List.set_cons_zero, List.set_cons_succ]
            refine wpAnyH_ready (rs := [13]) (by kernel_rfl) (by decide) (AllReadyH.cons rfl (fun K1 hK1 => ?_) AllReadyH.nil)
            refine step_app (o := { dst := some 40, op := Op.call { callee := Callee.builtin Builtin.append, args := #[Operand.tmp 30, Operand.tmp 39], argTypes := #[23, 23] }, type := 23, pos := "build.go:76", after := #[{ on := 3, ground := Ground.data }, { on := 12, ground := Ground.data }, { on := 0, ground := Ground.phase }, { on := 1, ground := Ground.phase }, { on := 2, ground := Ground.phase }, { on := 3, ground := Ground.phase }, { on := 4, ground := Ground.phase }, { on := 5, ground := Ground.phase }, { on := 6, ground := Ground.phase }, { on := 7, ground := Ground.phase }, { on := 8, ground := Ground.phase }, { on := 9, ground := Ground.phase }, { on := 10, ground := Ground.phase }, { on := 11, ground := Ground.phase }, { on := 12, ground := Ground.phase }], guard := none }) rfl (.tmp 30) (.tmp 39) 23 rfl (.slice xh h.nms.length ch) (.slice (some ⟨W1.heap.size, 0, none⟩) 1 1) rfl rfl (.slice (some ⟨g2, 0, none⟩) (h.nms.length + 1) cap2) w' hapD ?_
            refine hK1.out _ _ N2 (fun _ => ?_)
            clear hK1 K1
            try simp only [Act.put, List.setIfInBounds_toArray, List.set_cons_zero, List.set_cons_succ]
            refine wpAnyH_take (i := 14) (oi := { dst := some 41, op := Op.indexAddr 23 (Operand.tmp 40) (Operand.tmp 38), type := 0, pos := "build.go:76", after := #[{ on := 13, ground := Ground.data }, { on := 11, ground := Ground.data }, { on := 0, ground := Ground.phase }, { on := 1, ground := Ground.phase }, { on := 2, ground := Ground.phase }, { on := 3, ground := Ground.phase }, { on := 4, ground := Ground.phase }, { on := 5, ground := Ground.phase }, { on := 6, ground := Ground.phase }, { on := 7, ground := Ground.phase }, { on := 8, ground := Ground.phase }, { on := 9, ground := Ground.phase }, { on := 10, ground := Ground.phase }, { on := 11, ground := Ground.phase }, { on := 12, ground := Ground.phase }, { on := 13, ground := Ground.phase }, { on := 18, ground := Ground.gcOnly Departure.appendInPlace }], guard := none }) (v := .pointer (some ⟨g2, h.nms.length * 5, none⟩)) rfl (by kernel_rfl) (by kernel_rfl) (by kernel_rfl) (fun _ _ _ h => h) (Or.inl ⟨by rfl, by intro w _; go_simp⟩) N2 ?_
            try simp only [Act.put, List.setIfInBounds_toArray, List.set_cons_zero, List.set_cons_succ]
            refine wpAnyH_take (i := 16) (oi := { dst := some 42, op := Op.nilCheck (Operand.tmp 27), type := 0, pos := "build.go:76", after := #[{ on := 0, ground := Ground.data }, { on := 0, ground := Ground.phase }, { on := 1, ground := Ground.phase }, { on := 2, ground := Ground.phase }, { on := 3, ground := Ground.phase }, { on := 4, ground := Ground.phase }, { on := 5, ground := Ground.phase }, { on := 6, ground := Ground.phase }, { on := 7, ground := Ground.phase }, { on := 8, ground := Ground.phase }, { on := 9, ground := Ground.phase }, { on := 10, ground := Ground.phase }, { on := 11, ground := Ground.phase }, { on := 12, ground := Ground.phase }, { on := 13, ground := Ground.phase }, { on := 14, ground := Ground.textOnly Departure.appendInPlace }, { on := 15, ground := Ground.textOnly Departure.appendInPlace }], guard := none }) (v := .pointer (some ⟨q, R.length * 5 + 1, none⟩)) rfl (by kernel_rfl) (by kernel_rfl) (by kernel_rfl) (fun _ _ _ h => h) (Or.inl ⟨by rfl, by intro w _; go_simp⟩) N2 ?_
            try simp only [Act.put, List.setIfInBounds_toArray, List.set_cons_zero, List.set_cons_succ]
            refine wpAnyH_take (i := 17) (oi := { dst := some 43, op := Op.fieldAddr 25 (Operand.tmp 42) 3, type := 0, pos := "build.go:76", after := #[{ on := 16, ground := Ground.data }, { on := 0, ground := Ground.phase }, { on := 1, ground := Ground.phase }, { on := 2, ground := Ground.phase }, { on := 3, ground := Ground.phase }, { on := 4, ground := Ground.phase }, { on := 5, ground := Ground.phase }, { on := 6, ground := Ground.phase }, { on := 7, ground := Ground.phase }, { on := 8, ground := Ground.phase }, { on := 9, ground := Ground.phase }, { on := 10, ground := Ground.phase }, { on := 11, ground := Ground.phase }, { on := 12, ground := Ground.phase }, { on := 13, ground := Ground.phase }, { on := 14, ground := Ground.textOnly Departure.appendInPlace }, { on := 15, ground := Ground.textOnly Departure.appendInPlace }], guard := none }) (v := .pointer (some ⟨q, R.length * 5 + 1 + 3, none⟩)) rfl (by kernel_rfl) (by kernel_rfl) (by kernel_rfl) (fun _ _ _ h => h) (Or.inl ⟨by rfl, by intro w _; go_simp⟩) N2 ?_
            try simp only [Act.put, List.setIfInBounds_toArray, List.set_cons_zero, List.set_cons_succ]
            refine wpAnyH_ready (rs := [15, 18]) (by kernel_rfl) (by decide) (AllReadyH.cons rfl (fun K1 hK1 => ?_) (AllReadyH.cons rfl (fun K1 hK1 => ?_) AllReadyH.nil))
            · skip
              rw [if_pos (by rfl)]
              go_simp
              refine hK1.out _ _ N3 (fun _ => ?_)
              clear hK1 K1
              refine wpAnyH_ready (rs := [18]) (by kernel_rfl) (by decide) (AllReadyH.cons rfl (fun K1 hK1 => ?_) AllReadyH.nil)
              rw [if_pos (by rfl)]
              go_simp
              refine hK1.out _ _ N4 (fun _ => ?_)
              clear hK1 K1
              refine wpAnyH_done (by kernel_rfl) ?_ _
              (try go_wp2_with fail)
              go_meet
              rfl
            · skip
              rw [if_pos (by rfl)]
              go_simp
              refine hK1.out _ _ N5 (fun _ => ?_)
              clear hK1 K1
              refine wpAnyH_ready (rs := [15]) (by kernel_rfl) (by decide) (AllReadyH.cons rfl (fun K1 hK1 => ?_) AllReadyH.nil)
              rw [if_pos (by rfl)]
              go_simp
              refine hK1.out _ _ N6 (fun _ => ?_)
              clear hK1 K1
              refine wpAnyH_done (by kernel_rfl) ?_ _
              (try go_wp2_with fail)
              go_meet
              exact set5_comm w' g2 (h.nms.length * 5) _ _ _ _ _ ⟨q, R.length * 5 + 4, none⟩ _ hq2
          · skip
            rw [if_pos (by rfl)]
            go_simp
            refine hK1.out _ _ N1 (fun _ => ?_)
            clear hK1 K1
            try simp only [Act.put, List.setIfInBounds_toArray, List.set_cons_zero, List.set_cons_succ]
            refine wpAnyH_ready (rs := [3]) (by kernel_rfl) (by decide) (AllReadyH.cons rfl (fun K1 hK1 => ?_) AllReadyH.nil)
            rw [if_pos (by rfl)]
            go_simp
            refine hK1.out _ _ N1 (fun _ => ?_)
            clear hK1 K1
            try simp only [Act.put, List.setIfInBounds_toArray, List.set_cons_zero, List.set_cons_succ]
            refine wpAnyH_take (i := 11) (oi := { dst := some 38, op := Op.call { callee := Callee.builtin Builtin.len, args := #[Operand.tmp 30], argTypes := #[23] }, type := 3, pos := "build.go:76", after := #[{ on := 3, ground := Ground.data }], guard := none }) (v := .int .i64 (h.nms.length : Int)) rfl (by kernel_rfl) (by kernel_rfl) (by kernel_rfl) (fun _ _ _ h => h) (Or.inl ⟨by rfl, by intro w _; go_simp⟩) N1 ?_
            try simp only [Act.put, List.setIfInBounds_toArray, List.set_cons_zero, List.set_cons_succ]
            refine wpAnyH_ready (rs := [13]) (by kernel_rfl) (by decide) (AllReadyH.cons rfl (fun K1 hK1 => ?_) AllReadyH.nil)
            refine step_app (o := { dst := some 40, op := Op.call { callee := Callee.builtin Builtin.append, args := #[Operand.tmp 30, Operand.tmp 39], argTypes := #[23, 23] }, type := 23, pos := "build.go:76", after := #[{ on := 3, ground := Ground.data }, { on := 12, ground := Ground.data }, { on := 0, ground := Ground.phase }, { on := 1, ground := Ground.phase }, { on := 2, ground := Ground.phase }, { on := 3, ground := Ground.phase }, { on := 4, ground := Ground.phase }, { on := 5, ground := Ground.phase }, { on := 6, ground := Ground.phase }, { on := 7, ground := Ground.phase }, { on := 8, ground := Ground.phase }, { on := 9, ground := Ground.phase }, { on := 10, ground := Ground.phase }, { on := 11, ground := Ground.phase }, { on := 12, ground := Ground.phase }], guard := none }) rfl (.tmp 30) (.tmp 39) 23 rfl (.slice xh h.nms.length ch) (.slice (some ⟨W1.heap.size, 0, none⟩) 1 1) rfl rfl (.slice (some ⟨g2, 0, none⟩) (h.nms.length + 1) cap2) w' hapD ?_
            refine hK1.out _ _ N2 (fun _ => ?_)
            clear hK1 K1
            try simp only [Act.put, List.setIfInBounds_toArray, List.set_cons_zero, List.set_cons_succ]
            refine wpAnyH_take (i := 14) (oi := { dst := some 41, op := Op.indexAddr 23 (Operand.tmp 40) (Operand.tmp 38), type := 0, pos := "build.go:76", after := #[{ on := 13, ground := Ground.data }, { on := 11, ground := Ground.data }, { on := 0, ground := Ground.phase }, { on := 1, ground := Ground.phase }, { on := 2, ground := Ground.phase }, { on := 3, ground := Ground.phase }, { on := 4, ground := Ground.phase }, { on := 5, ground := Ground.phase }, { on := 6, ground := Ground.phase }, { on := 7, ground := Ground.phase }, { on := 8, ground := Ground.phase }, { on := 9, ground := Ground.phase }, { on := 10, ground := Ground.phase }, { on := 11, ground := Ground.phase }, { on := 12, ground := Ground.phase }, { on := 13, ground := Ground.phase }, { on := 18, ground := Ground.gcOnly Departure.appendInPlace }], guard := none }) (v := .pointer (some ⟨g2, h.nms.length * 5, none⟩)) rfl (by kernel_rfl) (by kernel_rfl) (by kernel_rfl) (fun _ _ _ h => h) (Or.inl ⟨by rfl, by intro w _; go_simp⟩) N2 ?_
            try simp only [Act.put, List.setIfInBounds_toArray, List.set_cons_zero, List.set_cons_succ]
            refine wpAnyH_take (i := 16) (oi := { dst := some 42, op := Op.nilCheck (Operand.tmp 27), type := 0, pos := "build.go:76", after := #[{ on := 0, ground := Ground.data }, { on := 0, ground := Ground.phase }, { on := 1, ground := Ground.phase }, { on := 2, ground := Ground.phase }, { on := 3, ground := Ground.phase }, { on := 4, ground := Ground.phase }, { on := 5, ground := Ground.phase }, { on := 6, ground := Ground.phase }, { on := 7, ground := Ground.phase }, { on := 8, ground := Ground.phase }, { on := 9, ground := Ground.phase }, { on := 10, ground := Ground.phase }, { on := 11, ground := Ground.phase }, { on := 12, ground := Ground.phase }, { on := 13, ground := Ground.phase }, { on := 14, ground := Ground.textOnly Departure.appendInPlace }, { on := 15, ground := Ground.textOnly Departure.appendInPlace }], guard := none }) (v := .pointer (some ⟨q, R.length * 5 + 1, none⟩)) rfl (by kernel_rfl) (by kernel_rfl) (by kernel_rfl) (fun _ _ _ h => h) (Or.inl ⟨by rfl, by intro w _; go_simp⟩) N2 ?_
            try simp only [Act.put, List.setIfInBounds_toArray, List.set_cons_zero, List.set_cons_succ]
            refine wpAnyH_take (i := 17) (oi := { dst := some 43, op := Op.fieldAddr 25 (Operand.tmp 42) 3, type := 0, pos := "build.go:76", after := #[{ on := 16, ground := Ground.data }, { on := 0, ground := Ground.phase }, { on := 1, ground := Ground.phase }, { on := 2, ground := Ground.phase }, { on := 3, ground := Ground.phase }, { on := 4, ground := Ground.phase }, { on := 5, ground := Ground.phase }, { on := 6, ground := Ground.phase }, { on := 7, ground := Ground.phase }, { on := 8, ground := Ground.phase }, { on := 9, ground := Ground.phase }, { on := 10, ground := Ground.phase }, { on := 11, ground := Ground.phase }, { on := 12, ground := Ground.phase }, { on := 13, ground := Ground.phase }, { on := 14, ground := Ground.textOnly Departure.appendInPlace }, { on := 15, ground := Ground.textOnly Departure.appendInPlace }], guard := none }) (v := .pointer (some ⟨q, R.length * 5 + 1 + 3, none⟩)) rfl (by kernel_rfl) (by kernel_rfl) (by kernel_rfl) (fun _ _ _ h => h) (Or.inl ⟨by rfl, by intro w _; go_simp⟩) N2 ?_
            try simp only [Act.put, List.setIfInBounds_toArray, List.set_cons_zero, List.set_cons_succ]
            refine wpAnyH_ready (rs := [15, 18]) (by kernel_rfl) (by decide) (AllReadyH.cons rfl (fun K1 hK1 => ?_) (AllReadyH.cons rfl (fun K1 hK1 => ?_) AllReadyH.nil))
            · skip
              rw [if_pos (by rfl)]
              go_simp
              refine hK1.out _ _ N3 (fun _ => ?_)
              clear hK1 K1
              refine wpAnyH_ready (rs := [18]) (by kernel_rfl) (by decide) (AllReadyH.cons rfl (fun K1 hK1 => ?_) AllReadyH.nil)
              rw [if_pos (by rfl)]
              go_simp
              refine hK1.out _ _ N4 (fun _ => ?_)
              clear hK1 K1
              refine wpAnyH_done (by kernel_rfl) ?_ _
              (try go_wp2_with fail)
              go_meet
              rfl
            · skip
              rw [if_pos (by rfl)]
              go_simp
              refine hK1.out _ _ N5 (fun _ => ?_)
              clear hK1 K1
              refine wpAnyH_ready (rs := [15]) (by kernel_rfl) (by decide) (AllReadyH.cons rfl (fun K1 hK1 => ?_) AllReadyH.nil)
              rw [if_pos (by rfl)]
              go_simp
              refine hK1.out _ _ N6 (fun _ => ?_)
              clear hK1 K1
              refine wpAnyH_done (by kernel_rfl) ?_ _
              (try go_wp2_with fail)
              go_meet
              exact set5_comm w' g2 (h.nms.length * 5) _ _ _ _ _ ⟨q, R.length * 5 + 4, none⟩ _ hq2
        case rest =>
          clear N0 N1 N2 N3 N4 N5 N6 d4x d4a d4' df z0 z1 z2 z3 z4 f0 f1 f2 f3 f4 hapD a0'
          rw [← HEQ.out] at hcut
          obtain ⟨fpn, X1, X2, X3⟩ := HST.out.out
          have X4 := HST.out.hgw
          rw [← hcut] at X1 X2 X4
          clear hcut HEQ HST
          have a1 : wc.cell? ⟨g, 0, none⟩ = some (.slice (some ⟨q, 0, none⟩) (R.length + 2) co) := by rw [Lib.cell_of_heap X4]; rfl
          have af : wc.frozen? ⟨g, 0, none⟩ = false := Lib.frozen_of_heap X4 0
          have hcapI : (R.length : Int) + 2 - 1 ≤ (co : Int) := by omega
          have hX1 : Hid (Bst (wc.setCell ⟨g, 0, none⟩ (.slice (some ⟨q, 0, none⟩) (R.length + 1) co)) g B (h.push o.nm o.tr :: R) b (.slice (some ⟨q, 0, none⟩) (R.length + 1) co) fpn) := X1
          have HC2 : Hid (clo c (h.push o.nm o.tr :: R) = clo c S) := by
            unfold Hid
            rw [← hclo.out, clo_step c o h R (by omega)]
          have HF3 : Hid (Ff g fp w (wc.setCell ⟨g, 0, none⟩ (.slice (some ⟨q, 0, none⟩) (R.length + 1) co))) := Ff.trans hF.out X2 hfp.out
          have HFP3 : Hid (∀ x ∈ fpn, x ∈ fp ∨ w.heap.size ≤ x) := fun x hx => by
            rcases X3 x hx with hm | hm
            · exact hfp.out x hm
            · exact Or.inr (Nat.le_trans hF.out.size hm)
          have HR3 : Hid ((rowsS (h.push o.nm o.tr :: R)).length ≤ 1073741824) := by
            unfold Hid
            rw [rowsS_close o h R (hL.out h (by simp))]
            exact hR.out
          have HL3 : Hid (lenS (h.push o.nm o.tr :: R)) := lenS_close hL.out
          clear X1 X2 X3 X4 hF hfp hR hL hclo hB
          go_wp2
          go_roundg (gk - 1)
          case measure => have := HGK.out; simp at this; omega
          case rel => exact ⟨h.push o.nm o.tr :: R, _, _, by have := HGK.out; simp at this ⊢; omega, HC2, hX1, HFP3, HF3, HL3, HR3, by simp; omega⟩
    · have hltI : ¬ (c : Int) < (S1.length : Int) := by omega
      have HC : Hid (clo c S = S1) := by
        unfold Hid
        rw [← hclo.out, clo_stop c S1 (by omega)]
      go_wp2
      go_end0
      exact ⟨rfl, ⟨_, fp1, by rw [HC.out]; exact hB.out, hfp.out⟩, hF.out⟩

end Go.Proofs.YtmknnblogfpifaaDoor
