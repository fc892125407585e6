/- info.Same; walked. -/
import Derived.Test.YtjhbfkckkinfjaaDoorIoE
import Derived.Test.YtjhbfkckkinfjaaDoorInV
import Derived.BigFrame
namespace Go.Proofs.YtjhbfkckkinfjaaDoor
open Go.RowKit Go.Shelf

theorem wpList_load_midG {ops : Array Oper} {rest : List Oper} {op : Oper} {a : Act} {w : World} {Q : Exit → Act → World → Prop} (hw : Region.wanted op (yielded ops a.tmps) = true) (ty : TypeId) (x : Operand) (ho : op.op = .load ty x)
    (b o : Nat) (hx : a.eval x = .pointer (some ⟨b, o, none⟩)) (cs : List Value) (d : TypeDesc) (hc : w.rangeAt b o cs)
    (hu : Tryd.prog.underlying ty = some d) (hd : d.isRow = true) (hi : (Tryd.prog.info? ty).map (·.size) = some cs.length)
    (h : wpList Tryd.prog ops Q rest (a.put op.dst (.agg cs.toArray)) w) : wpList Tryd.prog ops Q (op :: rest) a w :=
  BigFrame.wpList_want hw fun _ hK => wp_load_mid ty x ho b o hx cs d hc hu hd hi (hK _ _ h)
/-- Two infos are the same. -/
def smB (P : ByteArray) (D : Nat → Int) (z : Int) (fr : Nat → ByteArray) (nr : Nat) (F : ByteArray) (fs : Nat → ByteArray) (ns : Nat) (P' : ByteArray) (D' : Nat → Int) (z' : Int) (fr' : Nat → ByteArray) (nr' : Nat) (F' : ByteArray) (fs' : Nat → ByteArray) (ns' : Nat) : Bool :=
  (P.toList == P'.toList) && (((List.range 32).all fun i => D i == D' i) && ((z == z') && ((F.toList == F'.toList) && (eqT fr nr fr' nr' && eqT fs ns fs' ns'))))

set_option maxRecDepth 100000 in
set_option maxHeartbeats 4000000 in
theorem same_any (P : ByteArray) (D : Nat → Int) (z : Int) (F : ByteArray) (xr : Option Addr) (nr cr : Nat) (fr : Nat → ByteArray) (xs : Option Addr) (ns cz : Nat) (fs : Nat → ByteArray) (P' : ByteArray) (D' : Nat → Int) (z' : Int) (F' : ByteArray) (xr' : Option Addr) (nr' cr' : Nat) (fr' : Nat → ByteArray) (xs' : Option Addr) (ns' cz' : Nat) (fs' : Nat → ByteArray) (w : World)
    (hr : SIs w xr nr fr) (hs : SIs w xs ns fs) (hr' : SIs w xr' nr' fr') (hs' : SIs w xs' ns' fs') (h1 : nr ≤ 1152921504606846976) (h2 : ns ≤ 1152921504606846976) (h3 : nr' ≤ 1152921504606846976) (h4 : ns' ≤ 1152921504606846976) :
    Calls Tryd.prog 8 #[.agg (infC P D z (.slice xr nr cr) F (.slice xs ns cz)), .agg (infC P' D' z' (.slice xr' nr' cr') F' (.slice xs' ns' cz'))] w fun e w' => e = .returned (.bool (smB P D z fr nr F fs ns P' D' z' fr' nr' F' fs' ns')) ∧ Below w.heap.size w w' := by
  have I0 : Hid (Inf ((w.alloc (.cells (infC P D z (.slice xr nr cr) F (.slice xs ns cz)) 26)).alloc (.cells (infC P' D' z' (.slice xr' nr' cr') F' (.slice xs' ns' cz')) 26)) w.heap.size P D z (.slice xr nr cr) F (.slice xs ns cz)) := (Inf.box _ _ _ _ _ _ _ _).same (Below.heap_alloc _ _ _ (by rw [World.size_alloc]; omega))
  have J0 : Hid (Inf ((w.alloc (.cells (infC P D z (.slice xr nr cr) F (.slice xs ns cz)) 26)).alloc (.cells (infC P' D' z' (.slice xr' nr' cr') F' (.slice xs' ns' cz')) 26)) (w.heap.size + 1) P' D' z' (.slice xr' nr' cr') F' (.slice xs' ns' cz')) := by
    have := Inf.box (w.alloc (.cells (infC P D z (.slice xr nr cr) F (.slice xs ns cz)) 26)) 26 P' D' z' (.slice xr' nr' cr') F' (.slice xs' ns' cz')
    rw [World.size_alloc] at this
    exact this
  have B0 : Hid (Below w.heap.size w ((w.alloc (.cells (infC P D z (.slice xr nr cr) F (.slice xs ns cz)) 26)).alloc (.cells (infC P' D' z' (.slice xr' nr' cr') F' (.slice xs' ns' cz')) 26))) := ((Below.refl _ _).alloc (Nat.le_refl _) _).alloc (by rw [World.size_alloc]; omega) _
  have C1 := fun W (b : Below w.heap.size w W) => slEq_any xr xr' nr cr nr' cr' fr fr' W (hr.below b (Nat.le_refl _)) (hr'.below b (Nat.le_refl _)) h1 h3
  have C2 := fun W (b : Below w.heap.size w W) => slEq_any xs xs' ns cz ns' cz' fs fs' W (hs.below b (Nat.le_refl _)) (hs'.below b (Nat.le_refl _)) h2 h4
  have heq : ∀ w, (Op.equalIn 10000 23 (.agg (cs .u8 32 D)) (.agg (cs .u8 32 D'))).run Tryd.prog w = .ok ((List.range 32).all fun i => D i == D' i) w := fun w => by
    obtain ⟨i, hi⟩ := Option.isSome_iff_exists.1 (show (Tryd.prog.info? 5).isSome = true by kernel_rfl)
    exact run_equalIn_cs w 9998 23 5 .u8 .u8 32 D D' undDIG hi (by kernel_rfl) (by kernel_rfl)
  clear hr hs hr' hs' h1 h2 h3 h4
  unfold smB
  generalize e5 : eqT fr nr fr' nr' = b5 at C1 ⊢
  generalize e6 : eqT fs ns fs' ns' = b6 at C2 ⊢
  generalize (List.range 32).all (fun i => D i == D' i) = b2 at heq ⊢
  cases e1 : (P.toList == P'.toList)
  rotate_left
  · cases b2
    rotate_left
    · cases e3 : (z == z')
      rotate_left
      · cases e4 : (F.toList == F'.toList)
        rotate_left
        · cases b5
          rotate_left
          · clear e5 e6
            go_enter Tryd.func8, Tryd.ntmps8
            iterate 12 go_step
            generalize (w.alloc (.cells (infC P D z (.slice xr nr cr) F (.slice xs ns cz)) 26)).alloc (.cells (infC P' D' z' (.slice xr' nr' cr') F' (.slice xs' ns' cz')) 26) = w0 at I0 J0 B0 ⊢
            have p1 := I0.out.path
            have p2 := I0.out.size
            have p3 := I0.out.refs
            have p4 := I0.out.from_
            have p5 := I0.out.signs
            have q1 := J0.out.path
            have q2 := J0.out.size
            have q3 := J0.out.refs
            have q4 := J0.out.from_
            have q5 := J0.out.signs
            have R1 := I0.out.digRange
            have R2 := J0.out.digRange
            go_wp2_with (first
              | (refine wpList_load_midG (by rfl) 23 (.tmp 11) (by rfl) w.heap.size 1 (by rfl) (cs .u8 32 D).toList (.array 32 5) R1 undDIG rfl (by rw [szD32, Array.length_toList, cs_size]) ?_)
              | (refine wpList_load_midG (by rfl) 23 (.tmp 13) (by rfl) (w.heap.size + 1) 1 (by rfl) (cs .u8 32 D').toList (.array 32 5) R2 undDIG rfl (by rw [szD32, Array.length_toList, cs_size]) ?_))
            refine (C1 _ B0.out).mono ?_
            rintro e w1 ⟨rfl, b1⟩
            have c34' := (I0.out.below b1 I0.out.lt).refs
            have c36a := (I0.out.below b1 I0.out.lt).signs
            have c36b := (J0.out.below b1 J0.out.lt).signs
            have B1 : Hid (Below w.heap.size w w1) := B0.out.trans (b1.mono B0.out.size)
            clear b1 C1
            go_wp2_with fail
            refine (C2 _ B1.out).mono ?_
            rintro e w2 ⟨rfl, b2⟩
            have B2 : Hid (Below w.heap.size w w2) := B1.out.trans (b2.mono B1.out.size)
            clear b2 C2
            go_wp2
            go_ret
            exact ⟨rfl, B2.out⟩
          · clear e5 e6
            go_enter Tryd.func8, Tryd.ntmps8
            iterate 12 go_step
            generalize (w.alloc (.cells (infC P D z (.slice xr nr cr) F (.slice xs ns cz)) 26)).alloc (.cells (infC P' D' z' (.slice xr' nr' cr') F' (.slice xs' ns' cz')) 26) = w0 at I0 J0 B0 ⊢
            have p1 := I0.out.path
            have p2 := I0.out.size
            have p3 := I0.out.refs
            have p4 := I0.out.from_
            have p5 := I0.out.signs
            have q1 := J0.out.path
            have q2 := J0.out.size
            have q3 := J0.out.refs
            have q4 := J0.out.from_
            have q5 := J0.out.signs
            have R1 := I0.out.digRange
            have R2 := J0.out.digRange
            go_wp2_with (first
              | (refine wpList_load_midG (by rfl) 23 (.tmp 11) (by rfl) w.heap.size 1 (by rfl) (cs .u8 32 D).toList (.array 32 5) R1 undDIG rfl (by rw [szD32, Array.length_toList, cs_size]) ?_)
              | (refine wpList_load_midG (by rfl) 23 (.tmp 13) (by rfl) (w.heap.size + 1) 1 (by rfl) (cs .u8 32 D').toList (.array 32 5) R2 undDIG rfl (by rw [szD32, Array.length_toList, cs_size]) ?_))
            refine (C1 _ B0.out).mono ?_
            rintro e w1 ⟨rfl, b1⟩
            have c34' := (I0.out.below b1 I0.out.lt).refs
            have c36a := (I0.out.below b1 I0.out.lt).signs
            have c36b := (J0.out.below b1 J0.out.lt).signs
            have B1 : Hid (Below w.heap.size w w1) := B0.out.trans (b1.mono B0.out.size)
            clear b1 C1
            go_wp2_with fail
            go_ret
            exact ⟨rfl, B1.out⟩
        · clear e5 e6
          go_enter Tryd.func8, Tryd.ntmps8
          iterate 12 go_step
          generalize (w.alloc (.cells (infC P D z (.slice xr nr cr) F (.slice xs ns cz)) 26)).alloc (.cells (infC P' D' z' (.slice xr' nr' cr') F' (.slice xs' ns' cz')) 26) = w0 at I0 J0 B0 ⊢
          have p1 := I0.out.path
          have p2 := I0.out.size
          have p3 := I0.out.refs
          have p4 := I0.out.from_
          have p5 := I0.out.signs
          have q1 := J0.out.path
          have q2 := J0.out.size
          have q3 := J0.out.refs
          have q4 := J0.out.from_
          have q5 := J0.out.signs
          have R1 := I0.out.digRange
          have R2 := J0.out.digRange
          go_wp2_with (first
            | (refine wpList_load_midG (by rfl) 23 (.tmp 11) (by rfl) w.heap.size 1 (by rfl) (cs .u8 32 D).toList (.array 32 5) R1 undDIG rfl (by rw [szD32, Array.length_toList, cs_size]) ?_)
            | (refine wpList_load_midG (by rfl) 23 (.tmp 13) (by rfl) (w.heap.size + 1) 1 (by rfl) (cs .u8 32 D').toList (.array 32 5) R2 undDIG rfl (by rw [szD32, Array.length_toList, cs_size]) ?_))
          go_ret
          exact ⟨rfl, B0.out⟩
      · clear e5 e6
        go_enter Tryd.func8, Tryd.ntmps8
        iterate 12 go_step
        generalize (w.alloc (.cells (infC P D z (.slice xr nr cr) F (.slice xs ns cz)) 26)).alloc (.cells (infC P' D' z' (.slice xr' nr' cr') F' (.slice xs' ns' cz')) 26) = w0 at I0 J0 B0 ⊢
        have p1 := I0.out.path
        have p2 := I0.out.size
        have p3 := I0.out.refs
        have p4 := I0.out.from_
        have p5 := I0.out.signs
        have q1 := J0.out.path
        have q2 := J0.out.size
        have q3 := J0.out.refs
        have q4 := J0.out.from_
        have q5 := J0.out.signs
        have R1 := I0.out.digRange
        have R2 := J0.out.digRange
        go_wp2_with (first
          | (refine wpList_load_midG (by rfl) 23 (.tmp 11) (by rfl) w.heap.size 1 (by rfl) (cs .u8 32 D).toList (.array 32 5) R1 undDIG rfl (by rw [szD32, Array.length_toList, cs_size]) ?_)
          | (refine wpList_load_midG (by rfl) 23 (.tmp 13) (by rfl) (w.heap.size + 1) 1 (by rfl) (cs .u8 32 D').toList (.array 32 5) R2 undDIG rfl (by rw [szD32, Array.length_toList, cs_size]) ?_))
        go_ret
        exact ⟨rfl, B0.out⟩
    · clear e5 e6
      go_enter Tryd.func8, Tryd.ntmps8
      iterate 12 go_step
      generalize (w.alloc (.cells (infC P D z (.slice xr nr cr) F (.slice xs ns cz)) 26)).alloc (.cells (infC P' D' z' (.slice xr' nr' cr') F' (.slice xs' ns' cz')) 26) = w0 at I0 J0 B0 ⊢
      have p1 := I0.out.path
      have p2 := I0.out.size
      have p3 := I0.out.refs
      have p4 := I0.out.from_
      have p5 := I0.out.signs
      have q1 := J0.out.path
      have q2 := J0.out.size
      have q3 := J0.out.refs
      have q4 := J0.out.from_
      have q5 := J0.out.signs
      have R1 := I0.out.digRange
      have R2 := J0.out.digRange
      go_wp2_with (first
        | (refine wpList_load_midG (by rfl) 23 (.tmp 11) (by rfl) w.heap.size 1 (by rfl) (cs .u8 32 D).toList (.array 32 5) R1 undDIG rfl (by rw [szD32, Array.length_toList, cs_size]) ?_)
        | (refine wpList_load_midG (by rfl) 23 (.tmp 13) (by rfl) (w.heap.size + 1) 1 (by rfl) (cs .u8 32 D').toList (.array 32 5) R2 undDIG rfl (by rw [szD32, Array.length_toList, cs_size]) ?_))
      go_ret
      exact ⟨rfl, B0.out⟩
  · clear e5 e6
    go_enter Tryd.func8, Tryd.ntmps8
    iterate 12 go_step
    generalize (w.alloc (.cells (infC P D z (.slice xr nr cr) F (.slice xs ns cz)) 26)).alloc (.cells (infC P' D' z' (.slice xr' nr' cr') F' (.slice xs' ns' cz')) 26) = w0 at I0 J0 B0 ⊢
    have p1 := I0.out.path
    have p2 := I0.out.size
    have p3 := I0.out.refs
    have p4 := I0.out.from_
    have p5 := I0.out.signs
    have q1 := J0.out.path
    have q2 := J0.out.size
    have q3 := J0.out.refs
    have q4 := J0.out.from_
    have q5 := J0.out.signs
    have R1 := I0.out.digRange
    have R2 := J0.out.digRange
    go_wp2_with fail
    go_ret
    exact ⟨rfl, B0.out⟩
end Go.Proofs.YtjhbfkckkinfjaaDoor
