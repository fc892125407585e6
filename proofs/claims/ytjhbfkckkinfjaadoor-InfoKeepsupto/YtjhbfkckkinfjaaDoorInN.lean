/- info.Parse at the text that the laws read first; walked. -/
import Derived.Test.YtjhbfkckkinfjaaDoorInM
namespace Go.Proofs.YtjhbfkckkinfjaaDoor
open Go.RowKit Go.Shelf

def fsP : ByteArray := ⟨#[47, 100, 101, 112, 111, 116, 47, 115, 116, 111, 114, 101, 47, 48, 49, 50, 51, 52, 53, 54, 55, 56, 57, 97, 98, 99, 100, 102, 103, 104, 105, 106, 107, 108, 109, 110, 112, 113, 114, 115, 118, 119, 120, 121, 122, 45, 97]⟩
def lnT : ByteArray := ⟨((List.append ([80, 97, 116, 104, 58, 32, 47, 100, 101, 112, 111, 116, 47, 115, 116, 111, 114, 101, 47, 48, 49, 50, 51, 52, 53, 54, 55, 56, 57, 97, 98, 99, 100] : List UInt8) [102, 103, 104, 105, 106, 107, 108, 109, 110, 112, 113, 114, 115, 118, 119, 120, 121, 122, 45, 97, 10, 72, 97, 115, 104, 58, 32, 115, 104, 97, 50, 53, 54, 58]).append (List.append ([48, 48, 48, 48, 48, 48, 48, 48, 48, 48, 48, 48, 48, 48, 48, 48, 48, 48, 48, 48, 48, 48, 48, 48, 48, 48, 48, 48, 48, 48, 48, 48, 48, 48] : List UInt8) [48, 48, 48, 48, 48, 48, 48, 48, 48, 48, 48, 48, 48, 48, 48, 48, 48, 48, 10, 83, 105, 122, 101, 58, 32, 57, 54, 10, 82, 101, 102, 115, 58, 10])).toArray⟩
def ln0 : ByteArray := hdP ++ fsP
def ln1 : ByteArray := hdH ++ ⟨#[48, 48, 48, 48, 48, 48, 48, 48, 48, 48, 48, 48, 48, 48, 48, 48, 48, 48, 48, 48, 48, 48, 48, 48, 48, 48, 48, 48, 48, 48, 48, 48, 48, 48, 48, 48, 48, 48, 48, 48, 48, 48, 48, 48, 48, 48, 48, 48, 48, 48, 48, 48]⟩
def ln2 : ByteArray := hdZ ++ ⟨#[57, 54]⟩
/-- What is left behind k lines. -/
def lnR : Nat → ByteArray
  | 0 => lnT
  | 1 => ⟨#[72, 97, 115, 104, 58, 32, 115, 104, 97, 50, 53, 54, 58, 48, 48, 48, 48, 48, 48, 48, 48, 48, 48, 48, 48, 48, 48, 48, 48, 48, 48, 48, 48, 48, 48, 48, 48, 48, 48, 48, 48, 48, 48, 48, 48, 48, 48, 48, 48, 48, 48, 48, 48, 48, 48, 48, 48, 48, 48, 48, 48, 48, 48, 48, 48, 10, 83, 105, 122, 101, 58, 32, 57, 54, 10, 82, 101, 102, 115, 58, 10]⟩
  | 2 => ⟨#[83, 105, 122, 101, 58, 32, 57, 54, 10, 82, 101, 102, 115, 58, 10]⟩
  | 3 => ⟨#[82, 101, 102, 115, 58, 10]⟩
  | _ => emp
def lnL : Nat → ByteArray
  | 0 => ln0
  | 1 => ln1
  | 2 => ln2
  | _ => hdR
theorem ln_cut : ∀ k, k < 4 → ctA (lnR k) 10 = lnL k ∧ ctB (lnR k) 10 = lnR (k + 1) ∧ ctF (lnR k) 10 = true := by decide +kernel
theorem ln_size : ∀ k, k < 5 → (lnR k).size ≤ 140737488351232 := by decide +kernel
theorem ln_P : rpC ln0 hdP = 0 ∧ rpS ln0 hdP = fsP := by decide +kernel
theorem ln_H : rhC ln1 = 0 := by decide +kernel
theorem ln_Z : rzC ln2 = 0 ∧ rzV ln2 = 96 := by decide +kernel
theorem nl_bt : bt nl 0 = 10 := by decide +kernel
theorem inf_zero : (#[.string ⟨#[]⟩, .int .u8 0, .int .u8 0, .int .u8 0, .int .u8 0, .int .u8 0, .int .u8 0, .int .u8 0, .int .u8 0, .int .u8 0, .int .u8 0, .int .u8 0, .int .u8 0, .int .u8 0, .int .u8 0, .int .u8 0, .int .u8 0, .int .u8 0, .int .u8 0, .int .u8 0, .int .u8 0, .int .u8 0, .int .u8 0, .int .u8 0, .int .u8 0, .int .u8 0, .int .u8 0, .int .u8 0, .int .u8 0, .int .u8 0, .int .u8 0, .int .u8 0, .int .u8 0, .int .i64 0, .slice none 0 0, .string ⟨#[]⟩, .slice none 0 0] : Array Value) = infC ⟨#[]⟩ (fun _ => 0) 0 (.slice none 0 0) ⟨#[]⟩ (.slice none 0 0) := by rfl
theorem inf_one (P : ByteArray) (D : Nat → Int) (z : Int) (vr : Value) (F : ByteArray) (vs : Value) (h1 : vr.oneCell' = true) (h2 : vs.oneCell' = true) : (infC P D z vr F vs).all (·.oneCell') = true := by
  apply all_oneCell_toArray
  intro v hv
  unfold infL at hv
  simp only [List.mem_cons, List.mem_append, List.mem_map, List.mem_nil_iff, or_false] at hv
  rcases hv with rfl | ⟨_, _, rfl⟩ | rfl | rfl | rfl | rfl
  · rfl
  · rfl
  · rfl
  · exact h1
  · rfl
  · exact h2
theorem Inf.there37 {w : World} {g : Nat} {P : ByteArray} {D : Nat → Int} {z : Int} {vr : Value} {F : ByteArray} {vs : Value} (h : Inf w g P D z vr F vs) : w.there g 0 37 := fun j hj => by
  rw [Nat.zero_add]
  refine ⟨?_, h.free j hj⟩
  by_cases h0 : j = 0
  · subst h0; rw [h.path]; rfl
  · by_cases h1 : j < 33
    · obtain ⟨i, rfl⟩ : ∃ i, j = 1 + i := ⟨j - 1, by omega⟩
      rw [h.dig i (by omega)]; rfl
    · rcases (show j = 33 ∨ j = 34 ∨ j = 35 ∨ j = 36 from by omega) with rfl | rfl | rfl | rfl
      · rw [h.size]; rfl
      · rw [h.refs]; rfl
      · rw [h.from_]; rfl
      · rw [h.signs]; rfl
/-- The whole info stored. -/
theorem wpList_store_inf {ops : Array Oper} {rest : List Oper} {o : Oper} {a : Act} {w : World} {Q : Exit → Act → World → Prop} {g : Nat} {P P' : ByteArray} {D D' : Nat → Int} {z z' : Int} {vr vr' : Value} {F F' : ByteArray} {vs vs' : Value} (hgd : o.guard = none) (x y : Operand) (ho : o.op = .store 26 x y)
    (hx : a.eval x = .pointer (some ⟨g, 0, none⟩)) (hy : a.eval y = .agg (infC P' D' z' vr' F' vs')) (h : Inf w g P D z vr F vs) (h1 : vr'.oneCell' = true) (h2 : vs'.oneCell' = true) (hdst : o.dst = none)
    (hK : ∀ W, W.rangeAt g 0 (infL P' D' z' vr' F' vs') → Upd w W g → wpList Tryd.prog ops Q rest a W) : wpList Tryd.prog ops Q (o :: rest) a w := by
  refine wpList_store_mid hgd 26 x y ho g 0 (infC P' D' z' vr' F' vs') hx hy (by rw [infC_size]; exact h.there37) (by rw [infC_size]; exact szINF) (inf_one _ _ _ _ _ _ h1 h2) ?_
  rw [hdst]
  obtain ⟨s1, s2, s3, s4, s5⟩ := setCells_only g (infL P' D' z' vr' F' vs') 0 w
  exact hK _ (World.rangeAt_setCells_same w g 0 (infL P' D' z' vr' F' vs') (by rw [infL_len]; exact h.there37)) ⟨s3, s4, s5, s1, fun i _ hne => s2 i hne⟩
theorem szFLT : (Tryd.prog.info? 34).map (·.size) = some 2 := by kernel_rfl
theorem results_cc {P' : ByteArray} {D' : Nat → Int} {z' : Int} {vr' : Value} {F' : ByteArray} {vs' : Value} {fn : Func} {p q : Tmp} (hr : fn.results = #[.cell p 26, .cell q 34]) (tmps : Array Value) (w : World) (g f : Nat) (a b : Int)
    (hp : tmps.getD p undef = .pointer (some ⟨g, 0, none⟩)) (hq : tmps.getD q undef = .pointer (some ⟨f, 0, none⟩)) (h1 : w.rangeAt g 0 (infL P' D' z' vr' F' vs')) (h2 : w.cell? ⟨f, 0, none⟩ = some (.int .i64 a)) (h3 : w.cell? ⟨f, 1, none⟩ = some (.int .i64 b)) :
    (results fn tmps).run Tryd.prog w = .ok (.tuple #[.agg (infC P' D' z' vr' F' vs'), .agg #[.int .i64 a, .int .i64 b]]) w := by
  have l1 := run_loadVar_mid (P := Tryd.prog) w g 0 26 (infL P' D' z' vr' F' vs') _ h1 Tryd.underlying26 rfl (by rw [szINF]; exact congrArg some (infL_len P' D' z' vr' F' vs').symm)
  have l2 := run_loadVar_mid (P := Tryd.prog) w f 0 34 [.int .i64 a, .int .i64 b] _ (fun j v hj => by
    match j, hj with
    | 0, hj => simp at hj; subst hj; exact h2
    | 1, hj => simp at hj; subst hj; exact h3) Tryd.underlying34 rfl szFLT
  have hp' : tmps[p]?.getD undef = .pointer (some ⟨g, 0, none⟩) := by simpa using hp
  have hq' : tmps[q]?.getD undef = .pointer (some ⟨f, 0, none⟩) := by simpa using hq
  simp [results, hr, hp', hq', asAddr, l1, l2]
  rfl

theorem range_set {w : World} {g : Nat} {L : List Value} (h : w.rangeAt g 0 L) (b i : Nat) (v : Value) (hne : g ≠ b) : (w.setCell ⟨b, i, none⟩ v).rangeAt g 0 L := fun j u hj =>
  (World.cell?_setCell_other _ _ _ _ (fun c => hne (by injection c with c1 _ _; exact c1.symm))).trans (h j u hj)
/-- The info behind k lines. -/
def lnP (k : Nat) : ByteArray := if k = 0 then ⟨#[]⟩ else fsP
def lnD (k : Nat) : Nat → Int := if k ≤ 1 then fun _ => 0 else rhD ln1
def lnZ (k : Nat) : Int := if k ≤ 2 then 0 else 96

set_option maxRecDepth 100000 in
set_option maxHeartbeats 4000000 in
theorem parse_ln (w : World) :
    Calls Tryd.prog 9 #[.string lnT] w fun e w' => e = .returned (.tuple #[.agg (infC fsP (rhD ln1) 96 (.slice none 0 0) ⟨#[]⟩ (.slice none 0 0)), .agg #[.int .i64 0, .int .i64 0]]) ∧ Below w.heap.size w w' := by
  have CT := fun k (hk : k < 4) W => cut_any (lnR k) nl 10 W rfl nl_bt (ln_size k (by omega))
  go_enter Tryd.func9, Tryd.ntmps9
  rw [show (⟨#[10]⟩ : ByteArray) = nl from rfl]
  go_wp2
  rw [inf_zero]
  have J0 : Hid (Inf (((w.alloc (.cells (infC ⟨#[]⟩ (fun _ => 0) 0 (.slice none 0 0) ⟨#[]⟩ (.slice none 0 0)) 26)).alloc (.cells #[.int .i64 0, .int .i64 0] 34)).alloc (.cells (infC ⟨#[]⟩ (fun _ => 0) 0 (.slice none 0 0) ⟨#[]⟩ (.slice none 0 0)) 26)) w.heap.size ⟨#[]⟩ (fun _ => 0) 0 (.slice none 0 0) ⟨#[]⟩ (.slice none 0 0)) :=
    ((Inf.box w 26 _ _ _ _ _ _).same (Below.heap_alloc _ _ _ (by rw [World.size_alloc]; omega))).same (Below.heap_alloc _ _ _ (by rw [World.size_alloc, World.size_alloc]; omega))
  have F0 : Hid (Row .i64 (((w.alloc (.cells (infC ⟨#[]⟩ (fun _ => 0) 0 (.slice none 0 0) ⟨#[]⟩ (.slice none 0 0)) 26)).alloc (.cells #[.int .i64 0, .int .i64 0] 34)).alloc (.cells (infC ⟨#[]⟩ (fun _ => 0) 0 (.slice none 0 0) ⟨#[]⟩ (.slice none 0 0)) 26)) (w.heap.size + 1) 2 (fun _ => 0)) := by
    have := Row.arr (k := .i64) (w := w.alloc (.cells (infC ⟨#[]⟩ (fun _ => 0) 0 (.slice none 0 0) ⟨#[]⟩ (.slice none 0 0)) 26)) (e := 34) (C := #[.int .i64 0, .int .i64 0]) (n := 2) (f := fun _ => 0) (fun j hj => by rcases (show j = 0 ∨ j = 1 from by omega) with rfl | rfl <;> rfl)
    rw [World.size_alloc] at this
    exact this.alloc (by rw [World.size_alloc, World.size_alloc]; omega) _
  have I0 : Hid (Inf (((w.alloc (.cells (infC ⟨#[]⟩ (fun _ => 0) 0 (.slice none 0 0) ⟨#[]⟩ (.slice none 0 0)) 26)).alloc (.cells #[.int .i64 0, .int .i64 0] 34)).alloc (.cells (infC ⟨#[]⟩ (fun _ => 0) 0 (.slice none 0 0) ⟨#[]⟩ (.slice none 0 0)) 26)) (w.heap.size + 2) (lnP 0) (lnD 0) (lnZ 0) (.slice none 0 0) ⟨#[]⟩ (.slice none 0 0)) := by
    have := Inf.box ((w.alloc (.cells (infC ⟨#[]⟩ (fun _ => 0) 0 (.slice none 0 0) ⟨#[]⟩ (.slice none 0 0)) 26)).alloc (.cells #[.int .i64 0, .int .i64 0] 34)) 26 ⟨#[]⟩ (fun _ => 0) 0 (.slice none 0 0) ⟨#[]⟩ (.slice none 0 0)
    rw [World.size_alloc, World.size_alloc] at this
    exact this
  have B0 : Hid (Below w.heap.size w (((w.alloc (.cells (infC ⟨#[]⟩ (fun _ => 0) 0 (.slice none 0 0) ⟨#[]⟩ (.slice none 0 0)) 26)).alloc (.cells #[.int .i64 0, .int .i64 0] 34)).alloc (.cells (infC ⟨#[]⟩ (fun _ => 0) 0 (.slice none 0 0) ⟨#[]⟩ (.slice none 0 0)) 26))) :=
    (((Below.refl _ _).alloc (Nat.le_refl _) _).alloc (by rw [World.size_alloc]; omega) _).alloc (by rw [World.size_alloc, World.size_alloc]; omega) _
  generalize ((w.alloc (.cells (infC ⟨#[]⟩ (fun _ => 0) 0 (.slice none 0 0) ⟨#[]⟩ (.slice none 0 0)) 26)).alloc (.cells #[.int .i64 0, .int .i64 0] 34)).alloc (.cells (infC ⟨#[]⟩ (fun _ => 0) 0 (.slice none 0 0) ⟨#[]⟩ (.slice none 0 0)) 26) = w0 at J0 F0 I0 B0 ⊢
  go_loopw [0, 5] (fun tx xi wr => ∃ k : Nat, k ≤ 4 ∧ xi = .int .i64 (k : Int) ∧ tx = .string (lnR k) ∧ Hid (Inf wr (w.heap.size + 2) (lnP k) (lnD k) (lnZ k) (.slice none 0 0) ⟨#[]⟩ (.slice none 0 0)) ∧ Hid (Inf wr w.heap.size ⟨#[]⟩ (fun _ => 0) 0 (.slice none 0 0) ⟨#[]⟩ (.slice none 0 0)) ∧ Hid (Row .i64 wr (w.heap.size + 1) 2 (fun _ => 0)) ∧ Hid (Below w.heap.size w wr)) (fun _ i _ => 4 - (intOf i).toNat)
  case atStart => exact ⟨0, by omega, rfl, rfl, I0, J0, F0, B0⟩
  case round =>
  clear I0 J0 F0 B0
  obtain ⟨k, hk, rfl, rfl, IR, JR, FR, BR⟩ := hrel
  rcases (show k = 0 ∨ k = 1 ∨ k = 2 ∨ k = 3 ∨ k = 4 from by omega) with rfl | rfl | rfl | rfl | rfl
  · -- line 0
    obtain ⟨q1, q2, q3⟩ := ln_cut 0 (by omega)
    have CC := CT 0 (by omega) wr
    rw [q1, q2, q3] at CC
    clear q1 q2 q3
    go_wp2_with fail
    refine CC.mono ?_
    clear CC
    rintro e w4 ⟨rfl, b4⟩
    have I4 : Inf w4 (w.heap.size + 2) (lnP 0) (lnD 0) (lnZ 0) (.slice none 0 0) ⟨#[]⟩ (.slice none 0 0) := IR.out.below b4 IR.out.lt
    have J4 : Inf w4 w.heap.size ⟨#[]⟩ (fun _ => 0) 0 (.slice none 0 0) ⟨#[]⟩ (.slice none 0 0) := JR.out.below b4 JR.out.lt
    have F4 : Row .i64 w4 (w.heap.size + 1) 2 (fun _ => 0) := FR.out.below b4 (by have := IR.out.lt; omega)
    have B4 : Below w.heap.size w w4 := BR.out.trans (b4.mono BR.out.size)
    clear b4
    have CL := tl0_any (w.heap.size + 2) ln0 w4 I4
    rw [ln_P.1, ln_P.2] at CL
    go_wp2_with fail
    refine CL.mono ?_
    clear CL
    rintro e w5 ⟨rfl, I5, b5⟩
    have I5' : Hid (Inf w5 (w.heap.size + 2) (lnP 1) (lnD 1) (lnZ 1) (.slice none 0 0) ⟨#[]⟩ (.slice none 0 0)) := I5
    have J5 : Hid (Inf w5 w.heap.size ⟨#[]⟩ (fun _ => 0) 0 (.slice none 0 0) ⟨#[]⟩ (.slice none 0 0)) := J4.below b5 (by omega)
    have F5 : Hid (Row .i64 w5 (w.heap.size + 1) 2 (fun _ => 0)) := F4.below b5 (by omega)
    have B5 : Hid (Below w.heap.size w w5) := B4.trans (b5.mono (by omega))
    clear I5 J4 F4 B4 b5 I4 IR JR FR BR
    go_wp2
    go_roundw
    case rel => exact ⟨1, by omega, by go_num, rfl, I5', J5, F5, B5⟩
    case measure => simp [intOf]
  · -- line 1
    obtain ⟨q1, q2, q3⟩ := ln_cut 1 (by omega)
    have CC := CT 1 (by omega) wr
    rw [q1, q2, q3] at CC
    clear q1 q2 q3
    go_wp2_with fail
    refine CC.mono ?_
    clear CC
    rintro e w4 ⟨rfl, b4⟩
    have I4 : Inf w4 (w.heap.size + 2) (lnP 1) (lnD 1) (lnZ 1) (.slice none 0 0) ⟨#[]⟩ (.slice none 0 0) := IR.out.below b4 IR.out.lt
    have J4 : Inf w4 w.heap.size ⟨#[]⟩ (fun _ => 0) 0 (.slice none 0 0) ⟨#[]⟩ (.slice none 0 0) := JR.out.below b4 JR.out.lt
    have F4 : Row .i64 w4 (w.heap.size + 1) 2 (fun _ => 0) := FR.out.below b4 (by have := IR.out.lt; omega)
    have B4 : Below w.heap.size w w4 := BR.out.trans (b4.mono BR.out.size)
    clear b4
    have CL := tl1_any (w.heap.size + 2) ln1 w4 (by decide +kernel) I4
    rw [ln_H] at CL
    go_wp2_with fail
    refine CL.mono ?_
    clear CL
    rintro e w5 ⟨rfl, I5, b5⟩
    have I5' : Hid (Inf w5 (w.heap.size + 2) (lnP 2) (lnD 2) (lnZ 2) (.slice none 0 0) ⟨#[]⟩ (.slice none 0 0)) := I5
    have J5 : Hid (Inf w5 w.heap.size ⟨#[]⟩ (fun _ => 0) 0 (.slice none 0 0) ⟨#[]⟩ (.slice none 0 0)) := J4.below b5 (by omega)
    have F5 : Hid (Row .i64 w5 (w.heap.size + 1) 2 (fun _ => 0)) := F4.below b5 (by omega)
    have B5 : Hid (Below w.heap.size w w5) := B4.trans (b5.mono (by omega))
    clear I5 J4 F4 B4 b5 I4 IR JR FR BR
    go_wp2
    go_roundw
    case rel => exact ⟨2, by omega, by go_num, rfl, I5', J5, F5, B5⟩
    case measure => simp [intOf]
  · -- line 2
    obtain ⟨q1, q2, q3⟩ := ln_cut 2 (by omega)
    have CC := CT 2 (by omega) wr
    rw [q1, q2, q3] at CC
    clear q1 q2 q3
    go_wp2_with fail
    refine CC.mono ?_
    clear CC
    rintro e w4 ⟨rfl, b4⟩
    have I4 : Inf w4 (w.heap.size + 2) (lnP 2) (lnD 2) (lnZ 2) (.slice none 0 0) ⟨#[]⟩ (.slice none 0 0) := IR.out.below b4 IR.out.lt
    have J4 : Inf w4 w.heap.size ⟨#[]⟩ (fun _ => 0) 0 (.slice none 0 0) ⟨#[]⟩ (.slice none 0 0) := JR.out.below b4 JR.out.lt
    have F4 : Row .i64 w4 (w.heap.size + 1) 2 (fun _ => 0) := FR.out.below b4 (by have := IR.out.lt; omega)
    have B4 : Below w.heap.size w w4 := BR.out.trans (b4.mono BR.out.size)
    clear b4
    have CL := tl2_any (w.heap.size + 2) ln2 w4 (by decide +kernel) I4
    rw [ln_Z.1, ln_Z.2] at CL
    go_wp2_with fail
    refine CL.mono ?_
    clear CL
    rintro e w5 ⟨rfl, I5, b5⟩
    have I5' : Hid (Inf w5 (w.heap.size + 2) (lnP 3) (lnD 3) (lnZ 3) (.slice none 0 0) ⟨#[]⟩ (.slice none 0 0)) := I5
    have J5 : Hid (Inf w5 w.heap.size ⟨#[]⟩ (fun _ => 0) 0 (.slice none 0 0) ⟨#[]⟩ (.slice none 0 0)) := J4.below b5 (by omega)
    have F5 : Hid (Row .i64 w5 (w.heap.size + 1) 2 (fun _ => 0)) := F4.below b5 (by omega)
    have B5 : Hid (Below w.heap.size w w5) := B4.trans (b5.mono (by omega))
    clear I5 J4 F4 B4 b5 I4 IR JR FR BR
    go_wp2
    go_roundw
    case rel => exact ⟨3, by omega, by go_num, rfl, I5', J5, F5, B5⟩
    case measure => simp [intOf]
  · -- line 3
    obtain ⟨q1, q2, q3⟩ := ln_cut 3 (by omega)
    have CC := CT 3 (by omega) wr
    rw [q1, q2, q3] at CC
    clear q1 q2 q3
    go_wp2_with fail
    refine CC.mono ?_
    clear CC
    rintro e w4 ⟨rfl, b4⟩
    have I4 : Inf w4 (w.heap.size + 2) (lnP 3) (lnD 3) (lnZ 3) (.slice none 0 0) ⟨#[]⟩ (.slice none 0 0) := IR.out.below b4 IR.out.lt
    have J4 : Inf w4 w.heap.size ⟨#[]⟩ (fun _ => 0) 0 (.slice none 0 0) ⟨#[]⟩ (.slice none 0 0) := JR.out.below b4 JR.out.lt
    have F4 : Row .i64 w4 (w.heap.size + 1) 2 (fun _ => 0) := FR.out.below b4 (by have := IR.out.lt; omega)
    have B4 : Below w.heap.size w w4 := BR.out.trans (b4.mono BR.out.size)
    clear b4
    have CL := tl3_empty (w.heap.size + 2) w4 I4
    skip
    go_wp2_with fail
    refine CL.mono ?_
    clear CL
    rintro e w5 ⟨rfl, I5, b5⟩
    have I5' : Hid (Inf w5 (w.heap.size + 2) (lnP 4) (lnD 4) (lnZ 4) (.slice none 0 0) ⟨#[]⟩ (.slice none 0 0)) := I5
    have J5 : Hid (Inf w5 w.heap.size ⟨#[]⟩ (fun _ => 0) 0 (.slice none 0 0) ⟨#[]⟩ (.slice none 0 0)) := J4.below b5 (by omega)
    have F5 : Hid (Row .i64 w5 (w.heap.size + 1) 2 (fun _ => 0)) := F4.below b5 (by omega)
    have B5 : Hid (Below w.heap.size w w5) := B4.trans (b5.mono (by omega))
    clear I5 J4 F4 B4 b5 I4 IR JR FR BR
    go_wp2
    go_roundw
    case rel => exact ⟨4, by omega, by go_num, rfl, I5', J5, F5, B5⟩
    case measure => simp [intOf]
  · clear CT
    have hz : Hid (w.heap.size + 2 < wr.heap.size) := IR.out.lt
    have eR : lnR 4 = ⟨#[]⟩ := rfl
    rw [eR]
    have IR' : Inf wr (w.heap.size + 2) fsP (rhD ln1) 96 (.slice none 0 0) ⟨#[]⟩ (.slice none 0 0) := IR.out
    have JR' := JR.out
    have c0 := FR.out.cell 0 (by omega)
    have c1 := FR.out.cell 1 (by omega)
    have f0 := FR.out.free 0 (by omega)
    have f1 := FR.out.free 1 (by omega)
    clear IR JR
    go_wp2_with (first
      | (refine wpList_load_inf (by rfl) (.tmp 4) (by rfl) (by rfl) IR' ?_)
      | (refine wpList_store_inf (by rfl) (.tmp 2) (.tmp 39) (by rfl) (by rfl) (by rfl) JR' rfl rfl (by rfl) ?_; intro W5 R5 U5; refine Hid.out ?_))
    unfold Hid
    have F5 : Row .i64 W5 (w.heap.size + 1) 2 (fun _ => 0) := FR.out.upd U5 (by have := hz.out; omega) (by omega)
    have B5 : Hid (Below w.heap.size w W5) := U5.below BR.out (Nat.le_refl _) (by have := hz.out; omega)
    have d0 := F5.cell 0 (by omega)
    have d1 := F5.cell 1 (by omega)
    have g0 := F5.free 0 (by omega)
    have g1 := F5.free 1 (by omega)
    clear c0 c1 f0 f1 FR BR
    go_wp2
    refine bodyPost_ret (results_cc Tryd.results9 _ _ w.heap.size (w.heap.size + 1) 0 0 rfl rfl (range_set (range_set R5 _ _ _ (by omega)) _ _ _ (by omega)) ?_ ?_) rfl ⟨rfl, (B5.out.setCell (by show _ ≤ w.heap.size + 1; omega) _).setCell (by show _ ≤ w.heap.size + 1; omega) _⟩
    · exact ((F5.set 0 0 (by omega)).set 1 0 (by omega)).cell 0 (by omega)
    · exact ((F5.set 0 0 (by omega)).set 1 0 (by omega)).cell 1 (by omega)

end Go.Proofs.YtjhbfkckkinfjaaDoor
