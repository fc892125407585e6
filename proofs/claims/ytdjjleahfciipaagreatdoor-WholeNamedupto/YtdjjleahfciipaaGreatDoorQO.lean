/- Gathered: ScN ScO. -/
import Derived.Test.YtdjjleahfciipaaGreatDoorQN
/- scan.Scanner: what it is in memory; note, walked (own text of the verifier). -/
namespace Go.Proofs.YtdjjleahfciipaaGreatDoor
open Go.RowKit Go.Maps Go.WideMaps
namespace Sc

def tv_ (F : List (List UInt8)) : List Value := F.map fun h => Value.string (ba h)
/-- Block g is a scanner: its window, its set of sought texts at block m, the texts that it found. -/
structure SM (W : World) (g n : Nat) (kept : List UInt8) (m N : Nat) (S F : List (List UInt8)) (fv : Value) : Prop where
  win : Win W g n kept
  cm : W.cell? ⟨g, 33, none⟩ = some (.map (some m))
  cf : W.cell? ⟨g, 34, none⟩ = some fv
  ff : W.frozen? ⟨g, 34, none⟩ = false
  st : SetM W m N S
  fr : W.ownsRow 0 9 1 fv F.length (tv_ F)
  fg : fv.ownBlock ≠ some g
theorem row_same' {w w' : World} {B : Nat} {t : TypeId} {v : Value} {n : Nat} {xs : List Value} (h : w.ownsRow B t 1 v n xs) (e : ∀ k, v.ownBlock = some k → w'.heap[k]? = w.heap[k]?) : w'.ownsRow B t 1 v n xs := by
  obtain ⟨h1, h2 | ⟨g, cap, cur, hv, hb, hg, r⟩⟩ := h
  · exact ⟨h1, .inl h2⟩
  · exact ⟨h1, .inr ⟨g, cap, cur, hv, hb, (e g (by rw [hv]; rfl)).trans hg, r⟩⟩
theorem row_cells {w : World} {B : Nat} {t : TypeId} {v : Value} {n : Nat} {xs : List Value} (h : w.ownsRow B t 1 v n xs) (k : Nat) (hk : v.ownBlock = some k) : ∃ cur, w.heap[k]? = some (.cells cur t (0, 0)) := by
  obtain ⟨h1, h2 | ⟨g, cap, cur, hv, hb, hg, r⟩⟩ := h
  · rw [h2.1] at hk; cases hk
  · rw [hv] at hk
    obtain rfl := Option.some.inj hk
    exact ⟨cur, hg⟩
theorem SM.lt {W : World} {g n : Nat} {kept : List UInt8} {m N : Nat} {S F : List (List UInt8)} {fv : Value} (h : SM W g n kept m N S F fv) : g < W.heap.size := h.win.lt
theorem SM.apart {W : World} {g n : Nat} {kept : List UInt8} {m N : Nat} {S F : List (List UInt8)} {fv : Value} (h : SM W g n kept m N S F fv) : m ≠ g ∧ fv.ownBlock ≠ some m := by
  obtain ⟨es, cl, he⟩ := h.st.isMap
  refine ⟨fun e => ?_, fun e => ?_⟩
  · subst e
    have := h.cm
    simp [World.cell?, he] at this
  · obtain ⟨cur, hc⟩ := row_cells h.fr m e
    rw [hc] at he; cases he
theorem SM.same {W W' : World} {g n : Nat} {kept : List UInt8} {m N : Nat} {S F : List (List UInt8)} {fv : Value} (h : SM W g n kept m N S F fv) (e : W'.heap[g]? = W.heap[g]?) (em : W'.heap[m]? = W.heap[m]?) (ef : ∀ k, fv.ownBlock = some k → W'.heap[k]? = W.heap[k]?) : SM W' g n kept m N S F fv := by
  have c : ∀ i, W'.cell? ⟨g, i, none⟩ = W.cell? ⟨g, i, none⟩ := fun i => World.cell?_of_block (w := W) (w' := W') (a := ⟨g, i, none⟩) e
  have fz : ∀ i, W'.frozen? ⟨g, i, none⟩ = W.frozen? ⟨g, i, none⟩ := fun i => World.frozen?_of_block (w := W) (w' := W') (a := ⟨g, i, none⟩) e
  exact ⟨h.win.same e, (c _).trans h.cm, (c _).trans h.cf, (fz _).trans h.ff, h.st.same em, row_same' h.fr ef, h.fg⟩
theorem SM.below {W W' : World} {g n : Nat} {kept : List UInt8} {m N : Nat} {S F : List (List UInt8)} {fv : Value} (h : SM W g n kept m N S F fv) (b : Below W.heap.size W W') : SM W' g n kept m N S F fv :=
  h.same (b.block _ h.lt) (b.block _ h.st.lt) (fun k hk => by
    obtain ⟨cur, hc⟩ := row_cells h.fr k hk
    exact b.block k (Array.getElem?_eq_some_iff.1 hc).1)

structure KS (g m : Nat) (pb : Option Nat) (a b : World) : Prop where
  os : b.os = a.os
  tape : b.tape = a.tape
  output : b.output = a.output
  size : a.heap.size ≤ b.heap.size
  block : ∀ k, k < a.heap.size → k ≠ g → k ≠ m → some k ≠ pb → b.heap[k]? = a.heap[k]?
theorem KS.refl (g m : Nat) (pb : Option Nat) (a : World) : KS g m pb a a := ⟨rfl, rfl, rfl, Nat.le_refl _, fun _ _ _ _ _ => rfl⟩
theorem KS.grown {g m : Nat} {pb r : Option Nat} {a b c : World} (h : KS g m pb a b) (k : b.grownBy c r) (hr : ∀ j, r = some j → j = g ∨ j = m ∨ some j = pb ∨ a.heap.size ≤ j) : KS g m pb a c :=
  ⟨k.os.trans h.os, k.tape.trans h.tape, k.output.trans h.output, Nat.le_trans h.size k.size, fun i h1 h2 h3 h4 => (k.block i (Nat.lt_of_lt_of_le h1 h.size) (fun e => by rcases hr i e.symm with q | q | q | q; exact h2 q; exact h3 q; exact h4 q; omega)).trans (h.block i h1 h2 h3 h4)⟩
theorem KS.below {g m B : Nat} {pb : Option Nat} {a b c : World} (h : KS g m pb a b) (k : Below B b c) (hB : a.heap.size ≤ B) : KS g m pb a c :=
  ⟨k.os.trans h.os, k.tape.trans h.tape, k.output.trans h.output, Nat.le_trans h.size k.size, fun i h1 h2 h3 h4 => (k.block i (by omega)).trans (h.block i h1 h2 h3 h4)⟩

theorem SM.found {W W1 W2 : World} {g n : Nat} {kept l : List UInt8} {m N : Nat} {S F : List (List UInt8)} {fv fv' : Value} (h : SM W g n kept m N S F fv) (b : Below W.heap.size W W1) (G : W1.grownBy W2 fv.ownBlock) (own : W2.ownsRow 0 9 1 fv' (F ++ [l]).length (tv_ (F ++ [l]))) (hb : fv'.ownBlock = fv.ownBlock ∨ fv'.ownBlock = some W1.heap.size) :
    SM (W2.setCell ⟨g, 34, none⟩ fv') g n kept m N S (F ++ [l]) fv' ∧ W2.cell? ⟨g, 34, none⟩ = some fv ∧ W2.frozen? ⟨g, 34, none⟩ = false := by
  have h1 := h.below b
  have lg := h1.lt
  have lm := h1.st.lt
  have ap := h1.apart
  have eg : W2.heap[g]? = W1.heap[g]? := G.block g lg (fun e => h1.fg e.symm)
  have em : W2.heap[m]? = W1.heap[m]? := G.block m lm (fun e => ap.2 e.symm)
  have e3 : ∀ k, k ≠ g → (W2.setCell ⟨g, 34, none⟩ fv').heap[k]? = W2.heap[k]? := fun k hk => Below.heap_setCell W2 ⟨g, 34, none⟩ fv' k hk
  have c : ∀ i, W2.cell? ⟨g, i, none⟩ = W1.cell? ⟨g, i, none⟩ := fun i => World.cell?_of_block (w := W1) (w' := W2) (a := ⟨g, i, none⟩) eg
  have c34 : W2.cell? ⟨g, 34, none⟩ = some fv := (c 34).trans h1.cf
  have f34 : W2.frozen? ⟨g, 34, none⟩ = false := (World.frozen?_of_block (w := W1) (w' := W2) (a := ⟨g, 34, none⟩) eg).trans h1.ff
  have co : ∀ i, i ≠ 34 → (W2.setCell ⟨g, 34, none⟩ fv').cell? ⟨g, i, none⟩ = W1.cell? ⟨g, i, none⟩ := fun i hi => (World.cell?_setCell_other _ _ _ _ (by intro q; injection q with _ q; exact hi q.symm)).trans (c i)
  have fo : ∀ i, (W2.setCell ⟨g, 34, none⟩ fv').frozen? ⟨g, i, none⟩ = W1.frozen? ⟨g, i, none⟩ := fun i => by rw [World.frozen?_setCell]; exact World.frozen?_of_block (w := W1) (w' := W2) (a := ⟨g, i, none⟩) eg
  have hw := h1.win
  have hsh := hw.sh
  have pg' : fv'.ownBlock ≠ some g := fun q => by
    rcases hb with r | r
    · rw [r] at q; exact h1.fg q
    · rw [r] at q; have := Option.some.inj q; omega
  exact ⟨⟨⟨(co 0 (by omega)).trans hw.c0, (fo 0).trans hw.f0, (co 1 (by omega)).trans hw.c1, (fo 1).trans hw.f1, fun i b hb => (co _ (by have := (List.getElem?_eq_some_iff.1 hb).1; omega)).trans (hw.kp i b hb), fun i hi => by rw [co _ (by omega)]; exact hw.rm i hi, fun i hi => (fo _).trans (hw.fr i hi), hsh⟩, (co 33 (by omega)).trans h1.cm, World.cell?_setCell_same _ _ _ c34, by rw [World.frozen?_setCell]; exact f34, h1.st.same ((e3 m ap.1).trans em), row_same' own (fun k hk => e3 k (fun q => pg' (by rw [← q]; exact hk))), pg'⟩, c34, f34⟩
theorem und22 : Tryz.prog.underlying 43 = some (.slice 9) := by kernel_rfl
theorem info9 : (Tryz.prog.info? 9).map (fun i => (i.zero, i.size, i.bytes)) = some (some (.string ⟨#[]⟩), 1, 16) := by kernel_rfl
/-- append(found, hash). -/
theorem app_found (W : World) (xp : Option Addr) (np cp : Nat) (F : List (List UInt8)) (l : List UInt8) (hr : W.ownsRow 0 9 1 (.slice xp np cp) F.length (tv_ F)) (hl : F.length ≤ 268435456) :
    ∃ xq nq cq W2, (Builtin.append_ #[43, 43] 43 #[.slice xp np cp, .slice (some ⟨W.heap.size, 0, none⟩) 1 1]).run Tryz.prog (W.alloc (.cells #[.string (ba l)] 9)) = .ok (.slice xq nq cq) W2 ∧ W2.ownsRow 0 9 1 (.slice xq nq cq) (F ++ [l]).length (tv_ (F ++ [l])) ∧ (W.alloc (.cells #[.string (ba l)] 9)).grownBy W2 (Value.slice xp np cp).ownBlock ∧ ((Value.slice xq nq cq).ownBlock = (Value.slice xp np cp).ownBlock ∨ (Value.slice xq nq cq).ownBlock = some (W.alloc (.cells #[.string (ba l)] 9)).heap.size) := by
  obtain ⟨i0, hi, hz0, hz1, hz2⟩ := info_parts info9
  obtain ⟨v', w2, h1, h2, h3, _, h5⟩ := run_append_own_at (P := Tryz.prog) (W.alloc (.cells #[.string (ba l)] 9)) 0 43 43 9 i0 (.string ⟨#[]⟩) 1 16 und22 hi hz0 hz1 hz2 rfl (by decide) (.slice xp np cp) F.length (tv_ F) (hr.alloc _) ⟨W.heap.size, 0, none⟩ 1 1 [.string (ba l)] rfl (fun j u hj =>
      match j, hj with
      | 0, hj => by simp at hj; subst hj; exact (World.cell?_alloc_new W _ _ 0).trans rfl) (by intro u hu; simp at hu; subst hu; rfl) (by unfold maxLen; omega) (by omega) (Nat.zero_le _)
  obtain ⟨xq, cq, rfl⟩ := slice_of_row h2
  refine ⟨xq, _, cq, w2, h1, ?_, h3, h5⟩
  rw [List.length_append, show tv_ (F ++ [l]) = tv_ F ++ [.string (ba l)] by unfold tv_; simp]
  exact h2

set_option maxRecDepth 100000 in
set_option maxHeartbeats 8000000 in
theorem note_any (g n : Nat) (kept : List UInt8) (m N : Nat) (S F : List (List UInt8)) (fv : Value) (x : Option Addr) (c : Nat) (l : List UInt8) (hl : l.length = 32) (w : World) (hS : SM w g n kept m N S F fv) (hF : F.length ≤ 268435456) (hc : ∀ W, Below w.heap.size w W → (convert 45 9 (.slice x 32 c)).run Tryz.prog W = .ok (.string (ba l)) W) :
    Calls Tryz.prog 34 #[.pointer (some ⟨g, 0, none⟩), .slice x 32 c] w fun e w' => e = .returned (.tuple #[]) ∧ ((l ∉ S ∧ Below w.heap.size w w') ∨ (l ∈ S ∧ ∃ S' fv', (∀ h, h ∈ S' ↔ h ∈ S ∧ h ≠ l) ∧ SM w' g n kept m N S' (F ++ [l]) fv' ∧ KS g m fv.ownBlock w w' ∧ (fv'.ownBlock = fv.ownBlock ∨ ∀ k, fv'.ownBlock = some k → w.heap.size ≤ k))) := by
  have HS : Hid (SM w g n kept m N S F fv) := hS
  have HC : Hid (∀ W, Below w.heap.size w W → (convert 45 9 (.slice x 32 c)).run Tryz.prog W = .ok (.string (ba l)) W) := hc
  have hsz : (ba l).size ≤ maxLen := by rw [ba_size]; unfold maxLen; omega
  have HL : Hid (∃ b : Bool, (b = true ↔ l ∈ S) ∧ ∀ W, SetM W m N S → (Instr.lookup 75 (.map (some m)) (.string (ba l)) true).run Tryz.prog W = .ok (.tuple #[.agg #[], .bool b]) W) := by
    obtain ⟨b, hb, hm⟩ := hS.st.look (ba l) hsz
    refine ⟨b, hm, fun W hW => ?_⟩
    obtain ⟨b', hb', hm'⟩ := hW.look (ba l) hsz
    have : b' = b := by
      have h1 : b' = true ↔ b = true := hm'.trans hm.symm
      cases b <;> cases b' <;> simp_all
    rw [this] at hb'
    exact hb'
  obtain ⟨b, hb, hlk⟩ := HL.out
  have HK : Hid (∀ W, SetM W m N S → (Instr.lookup 75 (.map (some m)) (.string (ba l)) true).run Tryz.prog W = .ok (.tuple #[.agg #[], .bool b]) W) := hlk
  have HB : Hid (b = true ↔ l ∈ S) := hb
  clear hS hc HL hlk hb
  go_enter Tryz.func34, Tryz.ntmps34
  go_upto_region 0 with fail
  have S1 : Hid _ := HS.out.below (Below.refl _ _).drew
  refine wp_region_held_drew (S := fun V => V.cell? ⟨g, 33, none⟩ = some (.map (some m)) ∧ (convert 45 9 (.slice x 32 c)).run Tryz.prog V = .ok (.string (ba l)) V ∧ (Instr.lookup 75 (.map (some m)) (.string (ba l)) true).run Tryz.prog V = .ok (.tuple #[.agg #[], .bool b]) V) (by kernel_rfl) ⟨S1.out.cm, HC.out _ (Below.refl _ _).drew, HK.out _ S1.out.st⟩ (fun hH => ?_)
  -- @R0
  refine wpAnyH_take (i := 0) (oi := { dst := some 8, op := Op.move (Operand.tmp 0), type := 40, pos := "scan.go:42", after := #[], guard := none }) (v := .pointer (some ⟨g, 0, none⟩)) rfl (by kernel_rfl) (by kernel_rfl) (by kernel_rfl) (fun _ _ _ h => h) (Or.inl ⟨by rfl, by intro w _; go_simp⟩) hH ?_
  simp only [Act.put, List.setIfInBounds_toArray, List.set_cons_zero, List.set_cons_succ]
  refine wpAnyH_take (i := 1) (oi := { dst := some 9, op := Op.nilCheck (Operand.tmp 8), type := 0, pos := "scan.go:42", after := #[{ on := 0, ground := Ground.data }], guard := none }) (v := .pointer (some ⟨g, 0, none⟩)) rfl (by kernel_rfl) (by kernel_rfl) (by kernel_rfl) (fun _ _ _ h => h) (Or.inl ⟨by rfl, by intro w _; go_simp⟩) hH ?_
  simp only [Act.put, List.setIfInBounds_toArray, List.set_cons_zero, List.set_cons_succ]
  refine wpAnyH_take (i := 2) (oi := { dst := some 10, op := Op.fieldAddr 80 (Operand.tmp 9) 1, type := 0, pos := "scan.go:42", after := #[{ on := 1, ground := Ground.data }], guard := none }) (v := .pointer (some ⟨g, 33, none⟩)) rfl (by kernel_rfl) (by kernel_rfl) (by kernel_rfl) (fun _ _ _ h => h) (Or.inl ⟨by rfl, by intro w _; go_simp⟩) hH ?_
  simp only [Act.put, List.setIfInBounds_toArray, List.set_cons_zero, List.set_cons_succ]
  refine wpAnyH_take (i := 3) (oi := { dst := some 11, op := Op.load 75 (Operand.tmp 10), type := 75, pos := "scan.go:42", after := #[{ on := 2, ground := Ground.data }], guard := none }) (v := .map (some m)) rfl (by kernel_rfl) (by kernel_rfl) (by kernel_rfl) (fun _ _ _ h => h) (Or.inl ⟨by rfl, by intro w' s'; have q0 := s'.1; go_simp⟩) hH ?_
  simp only [Act.put, List.setIfInBounds_toArray, List.set_cons_zero, List.set_cons_succ]
  refine wpAnyH_take (i := 4) (oi := { dst := some 12, op := Op.move (Operand.tmp 1), type := 45, pos := "scan.go:42", after := #[], guard := none }) (v := .slice x 32 c) rfl (by kernel_rfl) (by kernel_rfl) (by kernel_rfl) (fun _ _ _ h => h) (Or.inl ⟨by rfl, by intro w _; go_simp⟩) hH ?_
  simp only [Act.put, List.setIfInBounds_toArray, List.set_cons_zero, List.set_cons_succ]
  refine wpAnyH_take (i := 5) (oi := { dst := some 13, op := Op.convert 45 9 (Operand.tmp 12), type := 9, pos := "scan.go:42", after := #[{ on := 4, ground := Ground.data }], guard := none }) (v := .string (ba l)) rfl (by kernel_rfl) (by kernel_rfl) (by kernel_rfl) (fun _ _ _ h => h) (Or.inl ⟨by rfl, by intro w' s'; have q0 := s'.2.1; go_simp⟩) hH ?_
  simp only [Act.put, List.setIfInBounds_toArray, List.set_cons_zero, List.set_cons_succ]
  refine wpAnyH_take (i := 6) (oi := { dst := some 14, op := Op.lookup 75 (Operand.tmp 11) (Operand.tmp 13) true, type := 124, pos := "scan.go:42", after := #[{ on := 3, ground := Ground.data }, { on := 5, ground := Ground.data }], guard := none }) (v := .tuple #[.agg #[], .bool b]) rfl (by kernel_rfl) (by kernel_rfl) (by kernel_rfl) (fun _ _ _ h => h) (Or.inl ⟨by rfl, by intro w' s'; have q0 := s'.2.2; go_simp⟩) hH ?_
  simp only [Act.put, List.setIfInBounds_toArray, List.set_cons_zero, List.set_cons_succ]
  refine wpAnyH_take (i := 7) (oi := { dst := some 7, op := Op.move (Operand.tmp 14), type := 124, pos := "scan.go:42", after := #[{ on := 6, ground := Ground.data }], guard := none }) (v := .tuple #[.agg #[], .bool b]) rfl (by kernel_rfl) (by kernel_rfl) (by kernel_rfl) (fun _ _ _ h => h) (Or.inl ⟨by rfl, by intro w _; go_simp⟩) hH ?_
  simp only [Act.put, List.setIfInBounds_toArray, List.set_cons_zero, List.set_cons_succ]
  refine wpAnyH_take (i := 8) (oi := { dst := some 15, op := Op.extract (Operand.tmp 7) 0, type := 81, pos := "scan.go:42", after := #[{ on := 7, ground := Ground.data }], guard := none }) (v := .agg #[]) rfl (by kernel_rfl) (by kernel_rfl) (by kernel_rfl) (fun _ _ _ h => h) (Or.inl ⟨by rfl, by intro w _; go_simp⟩) hH ?_
  simp only [Act.put, List.setIfInBounds_toArray, List.set_cons_zero, List.set_cons_succ]
  refine wpAnyH_take (i := 9) (oi := { dst := some 16, op := Op.extract (Operand.tmp 7) 1, type := 4, pos := "scan.go:42", after := #[{ on := 7, ground := Ground.data }, { on := 11, ground := Ground.gcOnly Departure.lateStores }], guard := none }) (v := .bool b) rfl (by kernel_rfl) (by kernel_rfl) (by kernel_rfl) (fun _ _ _ h => h) (Or.inl ⟨by rfl, by intro w _; go_simp⟩) hH ?_
  simp only [Act.put, List.setIfInBounds_toArray, List.set_cons_zero, List.set_cons_succ]
  have bA : Below w.heap.size w (w.drew.alloc (.cells #[] 81)) := (Below.refl _ _).drew.alloc (Nat.le_refl _) _
  have SA : Hid _ := HS.out.below bA
  have hHA : (w.drew.alloc (.cells #[] 81)).cell? ⟨g, 33, none⟩ = some (.map (some m)) ∧ (convert 45 9 (.slice x 32 c)).run Tryz.prog (w.drew.alloc (.cells #[] 81)) = .ok (.string (ba l)) (w.drew.alloc (.cells #[] 81)) ∧ (Instr.lookup 75 (.map (some m)) (.string (ba l)) true).run Tryz.prog (w.drew.alloc (.cells #[] 81)) = .ok (.tuple #[.agg #[], .bool b]) (w.drew.alloc (.cells #[] 81)) := ⟨SA.out.cm, HC.out _ bA, HK.out _ SA.out.st⟩
  refine wpAnyH_ready (rs := [10]) (by kernel_rfl) (by decide) (AllReadyH.cons rfl (fun K hK => ?_) AllReadyH.nil)
  rw [if_pos (by rfl)]
  go_simp
  try simp only [World.alloc_drew]
  refine hK.out _ _ hHA (fun _ => ?_)
  clear hK K
  try simp only [Act.put, List.setIfInBounds_toArray, List.set_cons_zero, List.set_cons_succ]
  refine wpAnyH_ready (rs := [11]) (by kernel_rfl) (by decide) (AllReadyH.cons rfl (fun K hK => ?_) AllReadyH.nil)
  rw [if_pos (by rfl)]
  go_simp
  refine hK.out _ _ hHA (fun _ => ?_)
  clear hK K
  try simp only [Act.put, List.setIfInBounds_toArray, List.set_cons_zero, List.set_cons_succ]
  refine wpAnyH_ready (rs := [12]) (by kernel_rfl) (by decide) (AllReadyH.cons rfl (fun K hK => ?_) AllReadyH.nil)
  rw [if_pos (by rfl)]
  go_simp
  refine hK.out _ _ hHA (fun _ => ?_)
  clear hK K
  refine wpAnyH_done (by kernel_rfl) ?_ _
  clear hHA hH S1
  -- @E0
  have bD : Below w.heap.size w (w.alloc (.cells #[] 81)).drew := bA
  have SD : Hid (SM (w.alloc (.cells #[] 81)).drew g n kept m N S F fv) := SA.out
  clear bA SA
  have HCD : Hid (Below w.heap.size w (w.alloc (.cells #[] 81)).drew) := bD
  have cvD := HC.out _ bD
  clear bD
  generalize (w.alloc (.cells #[] 81)).drew = w1 at *
  cases b with
  | false =>
    have hno : l ∉ S := fun h => by have := HB.out.2 h; cases this
    go_wp2
    exact bodyPost_ret (v := .tuple #[]) (by simp [results, Tryz.results34]) rfl ⟨rfl, .inl ⟨hno, HCD.out⟩⟩
  | true =>
    have hyes : Hid (l ∈ S) := HB.out.1 rfl
    have c33 := SD.out.cm
    have c34 := SD.out.cf
    obtain ⟨w2, S', hdel, st2, hS', ht⟩ := SD.out.st.del (ba l) hsz 0
    have G2 := ht.grown
    have eg : w2.heap[g]? = w1.heap[g]? := G2.block g SD.out.lt (fun e => SD.out.apart.1 (Option.some.inj e).symm)
    have S2 : Hid (SM w2 g n kept m N S' F fv) := by
      have h := SD.out
      have c : ∀ i, w2.cell? ⟨g, i, none⟩ = w1.cell? ⟨g, i, none⟩ := fun i => World.cell?_of_block (w := w1) (w' := w2) (a := ⟨g, i, none⟩) eg
      exact ⟨h.win.same eg, (c _).trans h.cm, (c _).trans h.cf, (World.frozen?_of_block (w := w1) (w' := w2) (a := ⟨g, 34, none⟩) eg).trans h.ff, st2, row_same' h.fr (fun k hk => by
        obtain ⟨cur, hc⟩ := row_cells h.fr k hk
        exact G2.block k (Array.getElem?_eq_some_iff.1 hc).1 (fun e => h.apart.2 (by rw [hk, Option.some.inj e]))), h.fg⟩
    have K2 : Hid (KS g m fv.ownBlock w w2) := ((KS.refl g m fv.ownBlock w).below HCD.out (Nat.le_refl _)).grown G2 (fun j hj => .inr (.inl (Option.some.inj hj).symm))
    have HS' : Hid (∀ h, h ∈ S' ↔ h ∈ S ∧ h ≠ l) := hS'
    clear st2 hS' ht G2 eg
    have d34 := S2.out.cf
    have SD2 : Hid _ := S2.out
    have KD2 : Hid _ := K2.out
    clear d34 S2 K2
    obtain ⟨xp, cp, hfv⟩ := slice_of_row SD2.out.fr
    have d34 : w2.cell? ⟨g, 34, none⟩ = some (.slice xp F.length cp) := by rw [← hfv]; exact SD2.out.cf
    have bW : Below w2.heap.size w2 (w2.alloc (.cells #[.string (ba l)] 9)) := (Below.refl _ _).alloc (Nat.le_refl _) _
    have d34a : (w2.alloc (.cells #[.string (ba l)] 9)).cell? ⟨g, 34, none⟩ = some (.slice xp F.length cp) := (bW.cell (p := ⟨g, 34, none⟩) SD2.out.lt).trans d34
    obtain ⟨xq, nq, cq, w3, hap, own3, G3, ho3⟩ := app_found w2 xp F.length cp F l (by rw [← hfv]; exact SD2.out.fr) hF
    obtain ⟨S4, y34, z34⟩ := SD2.out.found (fv' := .slice xq nq cq) bW (by rw [hfv]; exact G3) own3 (by rw [hfv]; exact ho3)
    rw [hfv] at y34
    have HFV : Hid (fv = .slice xp F.length cp) := hfv
    have K3 : Hid (KS g m fv.ownBlock w (w3.setCell ⟨g, 34, none⟩ (.slice xq nq cq))) := ((KD2.out.below bW (by exact KD2.out.size)).grown G3 (fun j hj => .inr (.inr (.inl (by rw [hfv]; exact hj.symm))))).grown (gb_setC w3 g 34 _) (fun j hj => .inl (Option.some.inj hj).symm)
    have S5 : Hid _ := S4
    have hO : Hid ((Value.slice xq nq cq).ownBlock = fv.ownBlock ∨ ∀ k, (Value.slice xq nq cq).ownBlock = some k → w.heap.size ≤ k) := by
      rcases ho3 with q | q
      · left; rw [q, hfv]
      · right
        intro k hk
        rw [q] at hk
        have := Option.some.inj hk
        have h2 := KD2.out.size
        have h3 := bW.size
        omega
    clear S4 G3 ho3 own3 bW KD2 hfv
    have HAP : Hid _ := hap
    clear hap
    go_wp2_with (at_builtin; refine wpList_plain rfl fun _ hK => operWp_app 43 43 (.tmp 30) (.tmp 32) rfl _ _ _ _ (by rfl) (by rfl) HAP.out (hK _ _ ?_))
    go_end0
    exact ⟨rfl, .inr ⟨hyes.out, S', HS'.out, _, S5.out, K3.out, hO.out⟩⟩

end Sc
end Go.Proofs.YtdjjleahfciipaaGreatDoor
/- scan.Scanner: Feed's closure, walked (own text of the verifier). -/
namespace Go.Proofs.YtdjjleahfciipaaGreatDoor
open Go.RowKit Go.Maps Go.WideMaps
namespace Sc

theorem KS.trans {g m : Nat} {pb pc : Option Nat} {a b c : World} (h : KS g m pb a b) (k : KS g m pc b c) (hp : pc = pb ∨ ∀ j, pc = some j → a.heap.size ≤ j) : KS g m pb a c :=
  ⟨k.os.trans h.os, k.tape.trans h.tape, k.output.trans h.output, Nat.le_trans h.size k.size, fun i h1 h2 h3 h4 => (k.block i (Nat.lt_of_lt_of_le h1 h.size) h2 h3 (fun e => by
    rcases hp with q | q
    · exact h4 (by rw [e, q])
    · have := q i e.symm; omega)).trans (h.block i h1 h2 h3 h4)⟩
/-- In the midst of a scanner's Feed, at a place. -/
structure SJ (W0 W : World) (g Ss St n o : Nat) (kept all text : List UInt8) (m N : Nat) (H : List (List UInt8)) (pb : Option Nat) (xv : Value) (a : Nat) (S F : List (List UInt8)) (fv : Value) : Prop where
  fb : FB H all (o + a) F S
  fl : F.length ≤ o + a
  sm : SM W g n kept m N S F fv
  bs : Boxed W Ss 40 (.pointer (some ⟨g, 0, none⟩))
  bt : Boxed W St 45 xv
  tx : Txt W xv text
  ap : ∀ k, fv.ownBlock = some k → k ≠ Ss ∧ k ≠ St
  ord : g < Ss ∧ m < Ss ∧ Ss < St
  px : fv.ownBlock = pb ∨ ∀ k, fv.ownBlock = some k → W0.heap.size ≤ k
  kx : KS g m pb W0 W
  xb : ∀ a l c, xv = .slice (some a) l c → a.block < St ∧ a.block ≠ m ∧ ∀ k, fv.ownBlock = some k → k ≠ a.block
  w0 : W0.heap.size ≤ Ss

theorem SJ.below {W0 W W' : World} {g Ss St n o : Nat} {kept all text : List UInt8} {m N : Nat} {H : List (List UInt8)} {pb : Option Nat} {xv : Value} {a : Nat} {S F : List (List UInt8)} {fv : Value} (h : SJ W0 W g Ss St n o kept all text m N H pb xv a S F fv) (b : Below W.heap.size W W') : SJ W0 W' g Ss St n o kept all text m N H pb xv a S F fv :=
  ⟨h.fb, h.fl, h.sm.below b, (b.block _ h.bs.lt).trans h.bs, (b.block _ h.bt.lt).trans h.bt, h.tx.below b, h.ap, h.ord, h.px, h.kx.below b h.kx.size, h.xb, h.w0⟩
theorem SJ.next {W0 W w2 : World} {g Ss St n o : Nat} {kept all text : List UInt8} {m N : Nat} {H : List (List UInt8)} {pb : Option Nat} {xv : Value} {a : Nat} {S F : List (List UInt8)} {fv : Value} (h : SJ W0 W g Ss St n o kept all text m N H pb xv a S F fv) (htx : text = all.drop o)
    (hN : (win text a ∉ S ∧ Below W.heap.size W w2) ∨ (win text a ∈ S ∧ ∃ S' fv', (∀ h, h ∈ S' ↔ h ∈ S ∧ h ≠ win text a) ∧ SM w2 g n kept m N S' (F ++ [win text a]) fv' ∧ KS g m fv.ownBlock W w2 ∧ (fv'.ownBlock = fv.ownBlock ∨ ∀ k, fv'.ownBlock = some k → W.heap.size ≤ k)))
    (hxg : ∀ x l c, xv = .slice (some x) l c → x.block ≠ g) : ∃ S' F' fv', SJ W0 w2 g Ss St n o kept all text m N H pb xv (a + 1) S' F' fv' := by
  have hw : win text a = win all (o + a) := by rw [htx, win_drop]
  rcases hN with ⟨h1, b⟩ | ⟨h1, S', fv', h2, h3, h4, h5⟩
  · have hb := h.below b
    exact ⟨S, F, fv, ⟨h.fb.step_no (by rw [← hw]; exact h1), by have := h.fl; omega, hb.sm, hb.bs, hb.bt, hb.tx, hb.ap, hb.ord, hb.px, hb.kx, hb.xb, hb.w0⟩⟩
  · obtain ⟨o1, o2, o3⟩ := h.ord
    have ls := h.bs.lt
    have lt := h.bt.lt
    have e : ∀ k, k < W.heap.size → k ≠ g → k ≠ m → (∀ j, fv.ownBlock = some j → j ≠ k) → w2.heap[k]? = W.heap[k]? := fun k q1 q2 q3 q4 => h4.block k q1 q2 q3 (fun q => q4 k q.symm rfl)
    refine ⟨S', F ++ [win text a], fv', ⟨?_, by rw [List.length_append]; have := h.fl; simp; omega, h3, (e Ss ls (by omega) (by omega) (fun j hj => (h.ap j hj).1)).trans h.bs, (e St lt (by omega) (by omega) (fun j hj => (h.ap j hj).2)).trans h.bt, h.tx.same (fun x l c hv ha => ?_), fun k hk => ?_, h.ord, ?_, h.kx.trans h4 h.px, fun x l c hv => ?_, h.w0⟩⟩
    · rw [hw]
      exact h.fb.step_yes (by rw [← hw]; exact h1) (fun g => by rw [← hw]; exact h2 g)
    · have hx := h.xb x l c hv
      exact e _ ha (hxg x l c hv) hx.2.1 (fun j hj => hx.2.2 j hj)
    · rcases h5 with q | q
      · exact h.ap k (by rw [← q]; exact hk)
      · have := q k hk; exact ⟨by omega, by omega⟩
    · rcases h5 with q | q
      · rw [q]; exact h.px
      · right; intro k hk; have := q k hk; have := h.kx.size; omega
    · have hx := h.xb x l c hv
      refine ⟨hx.1, hx.2.1, fun k hk => ?_⟩
      rcases h5 with q | q
      · exact hx.2.2 k (by rw [← q]; exact hk)
      · have := q k hk; omega

set_option maxRecDepth 100000 in
set_option maxHeartbeats 4000000 in
theorem sfeedc_any (W0 W : World) (g Ss St n o : Nat) (kept all text : List UInt8) (m N : Nat) (H : List (List UInt8)) (pb : Option Nat) (xv : Value) (a : Nat) (S F : List (List UInt8)) (fv : Value)
    (h : SJ W0 W g Ss St n o kept all text m N H pb xv a S F fv) (htx : text = all.drop o) (hat : a + 32 ≤ text.length) (htl : all.length ≤ 268435456) (hxg : ∀ x l c, xv = .slice (some x) l c → x.block ≠ g) :
    Calls Tryz.prog 33 #[.int .i64 (a : Int), .pointer (some ⟨Ss, 0, none⟩), .pointer (some ⟨St, 0, none⟩)] W fun e W' => e = .returned (.int .i64 1) ∧ ∃ S' F' fv', SJ W0 W' g Ss St n o kept all text m N H pb xv (a + 1) S' F' fv' := by
  have hlen : text.length = all.length - o := by rw [htx, List.length_drop]
  obtain ⟨A, oo, c, hxv, hA, _, hlc⟩ := h.tx.at (by omega)
  have ct := h.bt.cell
  rw [hxv] at ct
  have cs := h.bs.cell
  have h1 : (a : Int) + 32 ≤ (c : Int) := by omega
  have h2 : IntKind.i64.wrap ((a : Int) + 32) = (a : Int) + 32 := by rw [IntKind.wrap_i64]; omega
  have h3 : a + 32 ≤ c := by omega
  have HF : Hid (SJ W0 W g Ss St n o kept all text m N H pb xv a S F fv) := h
  clear h
  go_enter Tryz.func33, Tryz.ntmps33
  go_upto_region 1 with fail
  refine wp_region_held_drew (S := fun V => V.cell? ⟨Ss, 0, none⟩ = some (.pointer (some ⟨g, 0, none⟩)) ∧ V.cell? ⟨St, 0, none⟩ = some (.slice (some ⟨A, oo, none⟩) text.length c)) (by kernel_rfl) ⟨cs, ct⟩ (fun hH => ?_)
  have HD : Hid _ := HF.out.below (Below.refl _ _).drew
  clear HF ct cs hA
  generalize W.drew = wd at *
  have hTx : ∀ V, Below wd.heap.size wd V → Txt V (.slice (some ⟨A, oo, none⟩) text.length c) text := fun V b => by rw [← hxv]; exact HD.out.tx.below b
  have hcv : ∀ V, Below wd.heap.size wd V → (convert 45 9 (.slice (some ⟨A, oo + a, none⟩) 32 (c - a))).run Tryz.prog V = .ok (.string (ba (win text a))) V := fun V b => by
    have := conv_win (hTx V b) (p := a) (q := a + 32) (by omega) hat (c - a)
    rw [win_td, show a + 32 - a = 32 by omega] at this
    exact this
  have CN := note_any g n kept m N S F fv (some ⟨A, oo + a, none⟩) (c - a) (win text a) (by rw [win_len]; omega) wd HD.out.sm (by have := HD.out.fl; omega) hcv
  clear hTx hcv
  have h4 : ¬ c = a := by omega
  have f0 : (0 : Int) ≤ (a : Int) + 32 := by omega
  have f1 : ((a : Int) + 32).toNat = a + 32 := by omega
  have f2 : a ≤ a + 32 := by omega
  have f3 : a + 32 - a = 32 := by omega
  -- @R
  refine wpAnyH_take (i := 0) (oi := { dst := some 5, op := Op.load 40 (Operand.tmp 1), type := 40, pos := "scan.go:34", after := #[], guard := none }) (v := .pointer (some ⟨g, 0, none⟩)) rfl (by kernel_rfl) (by kernel_rfl) (by kernel_rfl) (fun _ _ _ h => h) (Or.inl ⟨by rfl, by intro w' s'; have q0 := s'.1; go_simp⟩) hH ?_
  simp only [Act.put, List.setIfInBounds_toArray, List.set_cons_zero, List.set_cons_succ]
  refine wpAnyH_take (i := 1) (oi := { dst := some 6, op := Op.load 45 (Operand.tmp 2), type := 45, pos := "scan.go:34", after := #[], guard := none }) (v := .slice (some ⟨A, oo, none⟩) text.length c) rfl (by kernel_rfl) (by kernel_rfl) (by kernel_rfl) (fun _ _ _ h => h) (Or.inl ⟨by rfl, by intro w' s'; have q0 := s'.2; go_simp⟩) hH ?_
  simp only [Act.put, List.setIfInBounds_toArray, List.set_cons_zero, List.set_cons_succ]
  refine wpAnyH_take (i := 2) (oi := { dst := some 7, op := Op.move (Operand.tmp 0), type := 3, pos := "scan.go:34", after := #[], guard := none }) (v := .int .i64 (a : Int)) rfl (by kernel_rfl) (by kernel_rfl) (by kernel_rfl) (fun _ _ _ h => h) (Or.inl ⟨by rfl, by intro w _; go_simp⟩) hH ?_
  simp only [Act.put, List.setIfInBounds_toArray, List.set_cons_zero, List.set_cons_succ]
  refine wpAnyH_take (i := 3) (oi := { dst := some 8, op := Op.move (Operand.tmp 0), type := 3, pos := "scan.go:34", after := #[], guard := none }) (v := .int .i64 (a : Int)) rfl (by kernel_rfl) (by kernel_rfl) (by kernel_rfl) (fun _ _ _ h => h) (Or.inl ⟨by rfl, by intro w _; go_simp⟩) hH ?_
  simp only [Act.put, List.setIfInBounds_toArray, List.set_cons_zero, List.set_cons_succ]
  refine wpAnyH_take (i := 4) (oi := { dst := some 9, op := Op.binOp BinOp.add 3 (Operand.tmp 8) (Operand.const (Value.int IntKind.i64 32)) 3, type := 3, pos := "scan.go:34", after := #[{ on := 3, ground := Ground.data }], guard := none }) (v := .int .i64 ((a : Int) + 32)) rfl (by kernel_rfl) (by kernel_rfl) (by kernel_rfl) (fun _ _ _ h => h) (Or.inl ⟨by rfl, by intro w _; go_simp⟩) hH ?_
  simp only [Act.put, List.setIfInBounds_toArray, List.set_cons_zero, List.set_cons_succ]
  refine wpAnyH_take (i := 5) (oi := { dst := some 10, op := Op.slice 45 (Operand.tmp 6) (some (Operand.tmp 7)) (some (Operand.tmp 9)) none, type := 45, pos := "scan.go:34", after := #[{ on := 1, ground := Ground.data }, { on := 2, ground := Ground.data }, { on := 4, ground := Ground.data }], guard := none }) (v := .slice (some ⟨A, oo + a, none⟩) 32 (c - a)) rfl (by kernel_rfl) (by kernel_rfl) (by kernel_rfl) (fun _ _ _ h => h) (Or.inl ⟨by rfl, by intro w' s'; have q0 := f0; have q1 := f1; have q2 := f2; have q3 := f3; go_simp⟩) hH ?_
  simp only [Act.put, List.setIfInBounds_toArray, List.set_cons_zero, List.set_cons_succ]
  refine wpAnyH_ready (rs := [6]) (by kernel_rfl) (by decide) (AllReadyH.cons rfl (fun K hK => ?_) AllReadyH.nil)
  rw [if_pos (by rfl)]
  go_simp
  with_reducible refine CN.mono ?_
  rintro e w2 ⟨rfl, hN⟩
  have HN : Hid _ := hN
  have hH2 : w2.cell? ⟨Ss, 0, none⟩ = some (.pointer (some ⟨g, 0, none⟩)) ∧ w2.cell? ⟨St, 0, none⟩ = some (.slice (some ⟨A, oo, none⟩) text.length c) := by
    have q := SJ.next HD.out htx HN.out (fun x l c e => hxg x l c e)
    obtain ⟨S', F', fv', q⟩ := q
    exact ⟨q.bs.cell, by have := q.bt.cell; rw [hxv] at this; exact this⟩
  clear hN
  go_wp2_with fail
  refine hK.out _ _ hH2 (fun _ => ?_)
  clear hK K
  refine wpAnyH_done (by kernel_rfl) ?_ _
  clear CN hH2 hH
  go_wp2
  go_ret
  exact ⟨rfl, SJ.next HD.out htx HN.out (fun x l c e => hxg x l c e)⟩
  -- @E

end Sc
end Go.Proofs.YtdjjleahfciipaaGreatDoor
