/- The laws' plain; walked. -/
import Derived.Test.YtgnlkggodchlbaaDoorInT
import Derived.Test.YtgnlkggodchlbaaDoorInN
import Derived.Laws.Tables
namespace Go.Proofs.YtgnlkggodchlbaaDoor
open Go.RowKit Go.Shelf

theorem Inf.digRange {w : World} {g : Nat} {P : ByteArray} {D : Nat → Int} {z : Int} {vr : Value} {F : ByteArray} {vs : Value} (h : Inf w g P D z vr F vs) : w.rangeAt g 1 (cs .u8 32 D).toList := fun j v hv => by
  have hj : j < 32 := by
    have := (List.getElem?_eq_some_iff.1 hv).1
    rw [Array.length_toList, cs_size] at this; exact this
  rw [h.dig j hj, ← hv]
  simp [cs, hj]

set_option maxRecDepth 100000 in
theorem built_inf (P : ByteArray) (D : Nat → Int) (z : Int) (F : ByteArray) (xr : Option Addr) (nr cr : Nat) (xs : Option Addr) (ns cs' : Nat) : Tryd.prog.built 36 [(0, .string P), (1, .agg (cs .u8 32 D)), (2, .int .i64 z), (3, .slice xr nr cr), (4, .string F), (5, .slice xs ns cs')] = some (infC P D z (.slice xr nr cr) F (.slice xs ns cs')) := by kernel_rfl

theorem wpList_build_some {ops : Array Oper} {rest : List Oper} {o : Oper} {a : Act} {w : World} {Q : Exit → Act → World → Prop} (hg : o.guard = none) (t : TypeId) (parts : Array (Nat × Operand)) (ho : o.op = .build t parts) (cells : Array Value)
    (l : List (Nat × Value)) (hl : (parts.map fun (i, x) => (i, a.eval x)).toList = l) (hb : Tryd.prog.built t l = some cells) (h : wpList Tryd.prog ops Q rest (a.put o.dst (.agg cells)) w) : wpList Tryd.prog ops Q (o :: rest) a w := by
  refine wpList_build hg t parts ho (by rw [hl, hb]; rfl) ?_
  rw [hl, hb]; exact h
/-- The document's whole info stored. -/
theorem wpList_store_rinf {ops : Array Oper} {rest : List Oper} {o : Oper} {a : Act} {w : World} {Q : Exit → Act → World → Prop} {g : Nat} {P P' : ByteArray} {D D' : Nat → Int} {z z' : Int} {vr vr' : Value} {F F' : ByteArray} {vs vs' : Value} (hgd : o.guard = none) (x y : Operand) (ho : o.op = .store 36 x y)
    (hx : a.eval x = .pointer (some ⟨g, 0, none⟩)) (hy : a.eval y = .agg (infC P' D' z' vr' F' vs')) (h : Inf w g P D z vr F vs) (h1 : vr'.oneCell' = true) (h2 : vs'.oneCell' = true) (hdst : o.dst = none)
    (hK : ∀ W, W.rangeAt g 0 (infL P' D' z' vr' F' vs') → Upd w W g → wpList Tryd.prog ops Q rest a W) : wpList Tryd.prog ops Q (o :: rest) a w := by
  refine wpList_store_mid hgd 36 x y ho g 0 (infC P' D' z' vr' F' vs') hx hy (by rw [infC_size]; exact h.there37) (by rw [infC_size]; exact szRINF) (inf_one _ _ _ _ _ _ h1 h2) ?_
  rw [hdst]
  obtain ⟨s1, s2, s3, s4, s5⟩ := setCells_only g (infL P' D' z' vr' F' vs') 0 w
  exact hK _ (World.rangeAt_setCells_same w g 0 (infL P' D' z' vr' F' vs') (by rw [infL_len]; exact h.there37)) ⟨s3, s4, s5, s1, fun i _ hne => s2 i hne⟩
theorem results_rinf {P' : ByteArray} {D' : Nat → Int} {z' : Int} {vr' : Value} {F' : ByteArray} {vs' : Value} {fn : Func} {p : Tmp} (hr : fn.results = #[.cell p 36]) (tmps : Array Value) (w : World) (g : Nat)
    (hp : tmps.getD p undef = .pointer (some ⟨g, 0, none⟩)) (h1 : w.rangeAt g 0 (infL P' D' z' vr' F' vs')) :
    (results fn tmps).run Tryd.prog w = .ok (.agg (infC P' D' z' vr' F' vs')) w := by
  have l1 := run_loadVar_mid (P := Tryd.prog) w g 0 36 (infL P' D' z' vr' F' vs') _ h1 Tryd.underlying36 rfl (by rw [szRINF]; exact congrArg some (infL_len P' D' z' vr' F' vs').symm)
  have hp' : tmps[p]?.getD undef = .pointer (some ⟨g, 0, none⟩) := by simpa using hp
  simp [results, hr, hp', asAddr, l1]
  rfl

set_option maxRecDepth 100000 in
set_option maxHeartbeats 400000 in
theorem plain_any (P : ByteArray) (D : Nat → Int) (z : Int) (F : ByteArray) (xr : Option Addr) (nr cr : Nat) (xs : Option Addr) (ns cs' : Nat) (w : World) :
    Calls Tryd.prog 13 #[.agg (infC P D z (.slice xr nr cr) F (.slice xs ns cs'))] w fun e w' => e = .returned (.agg (infC P D z (.slice xr nr cr) F (.slice xs ns cs'))) ∧ Below w.heap.size w w' := by
  have I0 : Inf ((w.alloc (.cells (infC P D z (.slice xr nr cr) F (.slice xs ns cs')) 26)).alloc (.cells (infC ⟨#[]⟩ (fun _ => 0) 0 (.slice none 0 0) ⟨#[]⟩ (.slice none 0 0)) 36)) w.heap.size P D z (.slice xr nr cr) F (.slice xs ns cs') := (Inf.box _ _ _ _ _ _ _ _).same (Below.heap_alloc _ _ _ (by rw [World.size_alloc]; omega))
  go_enter Tryd.func13, Tryd.ntmps13
  iterate 9 go_step
  rw [inf_zero]
  have J0 : Hid (Inf ((w.alloc (.cells (infC P D z (.slice xr nr cr) F (.slice xs ns cs')) 26)).alloc (.cells (infC ⟨#[]⟩ (fun _ => 0) 0 (.slice none 0 0) ⟨#[]⟩ (.slice none 0 0)) 36)) (w.heap.size + 1) ⟨#[]⟩ (fun _ => 0) 0 (.slice none 0 0) ⟨#[]⟩ (.slice none 0 0)) := by
    have := Inf.box (w.alloc (.cells (infC P D z (.slice xr nr cr) F (.slice xs ns cs')) 26)) 36 ⟨#[]⟩ (fun _ => 0) 0 (.slice none 0 0) ⟨#[]⟩ (.slice none 0 0)
    rw [World.size_alloc] at this
    exact this
  have B0 : Hid (Below w.heap.size w ((w.alloc (.cells (infC P D z (.slice xr nr cr) F (.slice xs ns cs')) 26)).alloc (.cells (infC ⟨#[]⟩ (fun _ => 0) 0 (.slice none 0 0) ⟨#[]⟩ (.slice none 0 0)) 36))) := ((Below.refl _ _).alloc (Nat.le_refl _) _).alloc (by rw [World.size_alloc]; omega) _
  generalize (w.alloc (.cells (infC P D z (.slice xr nr cr) F (.slice xs ns cs')) 26)).alloc (.cells (infC ⟨#[]⟩ (fun _ => 0) 0 (.slice none 0 0) ⟨#[]⟩ (.slice none 0 0)) 36) = w0 at I0 J0 B0 ⊢
  have c0 := I0.path
  have c33 := I0.size
  have c34 := I0.refs
  have c35 := I0.from_
  have c36 := I0.signs
  have RG := I0.digRange
  go_wp2_with (refine wpList_load_mid (by rfl) 23 (.tmp 5) (by rfl) w.heap.size 1 (by rfl) (cs .u8 32 D).toList (.array 32 5) RG undDIG rfl (by rw [szD32, Array.length_toList, cs_size]) ?_; refine Hid.out ?_)
  unfold Hid
  rw [Array.toArray_toList]
  iterate 24 go_step
  refine wpList_build_some (by rfl) 36 _ (by rfl) (infC P D z (.slice xr nr cr) F (.slice xs ns cs')) _ ?_ (built_inf P D z F xr nr cr xs ns cs') ?_
  · kernel_rfl
  refine wpList_store_rinf (by rfl) _ _ (by rfl) (by rfl) (by rfl) J0.out rfl rfl (by rfl) ?_
  intro W RW UW

  go_wp2
  exact bodyPost_ret (results_rinf Tryd.results13 _ _ (w.heap.size + 1) rfl RW) rfl ⟨rfl, UW.below B0.out (by omega) B0.out.size⟩

end Go.Proofs.YtgnlkggodchlbaaDoor
