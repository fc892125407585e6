/- scan.Scanner: what it is in memory; note, walked (own text of the verifier). -/
import Derived.Test.YtojefckhefanhabScM
namespace Go.Proofs.Ytojefckhefanhab
open Go.RowKit Go.Maps Go.WideMaps
namespace Sc

def tv_ (F : List (List UInt8)) : List Value := F.map fun h => Value.string (ba h)
/-- Block g is a scanner: its window, its set of sought texts at block m, the texts that it found. -/
structure SM (W : World) (g n : Nat) (kept : List UInt8) (m N : Nat) (S F : List (List UInt8)) (fv : Value) : Prop where
  win : Win W g n kept
  cm : W.cell? ⟨g, 33, none⟩ = some (.map (some m))
  cf : W.cell? ⟨g, 34, none⟩ = some fv
  ff : W.frozen? ⟨g, 34, none⟩ = false
  st : SetM W m N S
  fr : W.ownsRow 0 9 1 fv F.length (tv_ F)
  fg : fv.ownBlock ≠ some g
theorem row_same' {w w' : World} {B : Nat} {t : TypeId} {v : Value} {n : Nat} {xs : List Value} (h : w.ownsRow B t 1 v n xs) (e : ∀ k, v.ownBlock = some k → w'.heap[k]? = w.heap[k]?) : w'.ownsRow B t 1 v n xs := by
  obtain ⟨h1, h2 | ⟨g, cap, cur, hv, hb, hg, r⟩⟩ := h
  · exact ⟨h1, .inl h2⟩
  · exact ⟨h1, .inr ⟨g, cap, cur, hv, hb, (e g (by rw [hv]; rfl)).trans hg, r⟩⟩
theorem row_cells {w : World} {B : Nat} {t : TypeId} {v : Value} {n : Nat} {xs : List Value} (h : w.ownsRow B t 1 v n xs) (k : Nat) (hk : v.ownBlock = some k) : ∃ cur, w.heap[k]? = some (.cells cur t (0, 0)) := by
  obtain ⟨h1, h2 | ⟨g, cap, cur, hv, hb, hg, r⟩⟩ := h
  · rw [h2.1] at hk; cases hk
  · rw [hv] at hk
    obtain rfl := Option.some.inj hk
    exact ⟨cur, hg⟩
theorem SM.lt {W : World} {g n : Nat} {kept : List UInt8} {m N : Nat} {S F : List (List UInt8)} {fv : Value} (h : SM W g n kept m N S F fv) : g < W.heap.size := h.win.lt
theorem SM.apart {W : World} {g n : Nat} {kept : List UInt8} {m N : Nat} {S F : List (List UInt8)} {fv : Value} (h : SM W g n kept m N S F fv) : m ≠ g ∧ fv.ownBlock ≠ some m := by
  obtain ⟨es, cl, he⟩ := h.st.isMap
  refine ⟨fun e => ?_, fun e => ?_⟩
  · subst e
    have := h.cm
    simp [World.cell?, he] at this
  · obtain ⟨cur, hc⟩ := row_cells h.fr m e
    rw [hc] at he; cases he
theorem SM.same {W W' : World} {g n : Nat} {kept : List UInt8} {m N : Nat} {S F : List (List UInt8)} {fv : Value} (h : SM W g n kept m N S F fv) (e : W'.heap[g]? = W.heap[g]?) (em : W'.heap[m]? = W.heap[m]?) (ef : ∀ k, fv.ownBlock = some k → W'.heap[k]? = W.heap[k]?) : SM W' g n kept m N S F fv := by
  have c : ∀ i, W'.cell? ⟨g, i, none⟩ = W.cell? ⟨g, i, none⟩ := fun i => World.cell?_of_block (w := W) (w' := W') (a := ⟨g, i, none⟩) e
  have fz : ∀ i, W'.frozen? ⟨g, i, none⟩ = W.frozen? ⟨g, i, none⟩ := fun i => World.frozen?_of_block (w := W) (w' := W') (a := ⟨g, i, none⟩) e
  exact ⟨h.win.same e, (c _).trans h.cm, (c _).trans h.cf, (fz _).trans h.ff, h.st.same em, row_same' h.fr ef, h.fg⟩
theorem SM.below {W W' : World} {g n : Nat} {kept : List UInt8} {m N : Nat} {S F : List (List UInt8)} {fv : Value} (h : SM W g n kept m N S F fv) (b : Below W.heap.size W W') : SM W' g n kept m N S F fv :=
  h.same (b.block _ h.lt) (b.block _ h.st.lt) (fun k hk => by
    obtain ⟨cur, hc⟩ := row_cells h.fr k hk
    exact b.block k (Array.getElem?_eq_some_iff.1 hc).1)

structure KS (g m : Nat) (pb : Option Nat) (a b : World) : Prop where
  os : b.os = a.os
  tape : b.tape = a.tape
  output : b.output = a.output
  size : a.heap.size ≤ b.heap.size
  block : ∀ k, k < a.heap.size → k ≠ g → k ≠ m → some k ≠ pb → b.heap[k]? = a.heap[k]?
theorem KS.refl (g m : Nat) (pb : Option Nat) (a : World) : KS g m pb a a := ⟨rfl, rfl, rfl, Nat.le_refl _, fun _ _ _ _ _ => rfl⟩
theorem KS.grown {g m : Nat} {pb r : Option Nat} {a b c : World} (h : KS g m pb a b) (k : b.grownBy c r) (hr : ∀ j, r = some j → j = g ∨ j = m ∨ some j = pb ∨ a.heap.size ≤ j) : KS g m pb a c :=
  ⟨k.os.trans h.os, k.tape.trans h.tape, k.output.trans h.output, Nat.le_trans h.size k.size, fun i h1 h2 h3 h4 => (k.block i (Nat.lt_of_lt_of_le h1 h.size) (fun e => by rcases hr i e.symm with q | q | q | q; exact h2 q; exact h3 q; exact h4 q; omega)).trans (h.block i h1 h2 h3 h4)⟩
theorem KS.below {g m B : Nat} {pb : Option Nat} {a b c : World} (h : KS g m pb a b) (k : Below B b c) (hB : a.heap.size ≤ B) : KS g m pb a c :=
  ⟨k.os.trans h.os, k.tape.trans h.tape, k.output.trans h.output, Nat.le_trans h.size k.size, fun i h1 h2 h3 h4 => (k.block i (by omega)).trans (h.block i h1 h2 h3 h4)⟩

theorem SM.found {W W1 W2 : World} {g n : Nat} {kept l : List UInt8} {m N : Nat} {S F : List (List UInt8)} {fv fv' : Value} (h : SM W g n kept m N S F fv) (b : Below W.heap.size W W1) (G : W1.grownBy W2 fv.ownBlock) (own : W2.ownsRow 0 9 1 fv' (F ++ [l]).length (tv_ (F ++ [l]))) (hb : fv'.ownBlock = fv.ownBlock ∨ fv'.ownBlock = some W1.heap.size) :
    SM (W2.setCell ⟨g, 34, none⟩ fv') g n kept m N S (F ++ [l]) fv' ∧ W2.cell? ⟨g, 34, none⟩ = some fv ∧ W2.frozen? ⟨g, 34, none⟩ = false := by
  have h1 := h.below b
  have lg := h1.lt
  have lm := h1.st.lt
  have ap := h1.apart
  have eg : W2.heap[g]? = W1.heap[g]? := G.block g lg (fun e => h1.fg e.symm)
  have em : W2.heap[m]? = W1.heap[m]? := G.block m lm (fun e => ap.2 e.symm)
  have e3 : ∀ k, k ≠ g → (W2.setCell ⟨g, 34, none⟩ fv').heap[k]? = W2.heap[k]? := fun k hk => Below.heap_setCell W2 ⟨g, 34, none⟩ fv' k hk
  have c : ∀ i, W2.cell? ⟨g, i, none⟩ = W1.cell? ⟨g, i, none⟩ := fun i => World.cell?_of_block (w := W1) (w' := W2) (a := ⟨g, i, none⟩) eg
  have c34 : W2.cell? ⟨g, 34, none⟩ = some fv := (c 34).trans h1.cf
  have f34 : W2.frozen? ⟨g, 34, none⟩ = false := (World.frozen?_of_block (w := W1) (w' := W2) (a := ⟨g, 34, none⟩) eg).trans h1.ff
  have co : ∀ i, i ≠ 34 → (W2.setCell ⟨g, 34, none⟩ fv').cell? ⟨g, i, none⟩ = W1.cell? ⟨g, i, none⟩ := fun i hi => (World.cell?_setCell_other _ _ _ _ (by intro q; injection q with _ q; exact hi q.symm)).trans (c i)
  have fo : ∀ i, (W2.setCell ⟨g, 34, none⟩ fv').frozen? ⟨g, i, none⟩ = W1.frozen? ⟨g, i, none⟩ := fun i => by rw [World.frozen?_setCell]; exact World.frozen?_of_block (w := W1) (w' := W2) (a := ⟨g, i, none⟩) eg
  have hw := h1.win
  have hsh := hw.sh
  have pg' : fv'.ownBlock ≠ some g := fun q => by
    rcases hb with r | r
    · rw [r] at q; exact h1.fg q
    · rw [r] at q; have := Option.some.inj q; omega
  exact ⟨⟨⟨(co 0 (by omega)).trans hw.c0, (fo 0).trans hw.f0, (co 1 (by omega)).trans hw.c1, (fo 1).trans hw.f1, fun i b hb => (co _ (by have := (List.getElem?_eq_some_iff.1 hb).1; omega)).trans (hw.kp i b hb), fun i hi => by rw [co _ (by omega)]; exact hw.rm i hi, fun i hi => (fo _).trans (hw.fr i hi), hsh⟩, (co 33 (by omega)).trans h1.cm, World.cell?_setCell_same _ _ _ c34, by rw [World.frozen?_setCell]; exact f34, h1.st.same ((e3 m ap.1).trans em), row_same' own (fun k hk => e3 k (fun q => pg' (by rw [← q]; exact hk))), pg'⟩, c34, f34⟩
theorem und22 : Try.prog.underlying 23 = some (.slice 9) := by kernel_rfl
theorem info9 : (Try.prog.info? 9).map (fun i => (i.zero, i.size, i.bytes)) = some (some (.string ⟨#[]⟩), 1, 16) := by kernel_rfl
/-- append(found, hash). -/
theorem app_found (W : World) (xp : Option Addr) (np cp : Nat) (F : List (List UInt8)) (l : List UInt8) (hr : W.ownsRow 0 9 1 (.slice xp np cp) F.length (tv_ F)) (hl : F.length ≤ 268435456) :
    ∃ xq nq cq W2, (Builtin.append_ #[23, 23] 23 #[.slice xp np cp, .slice (some ⟨W.heap.size, 0, none⟩) 1 1]).run Try.prog (W.alloc (.cells #[.string (ba l)] 9)) = .ok (.slice xq nq cq) W2 ∧ W2.ownsRow 0 9 1 (.slice xq nq cq) (F ++ [l]).length (tv_ (F ++ [l])) ∧ (W.alloc (.cells #[.string (ba l)] 9)).grownBy W2 (Value.slice xp np cp).ownBlock ∧ ((Value.slice xq nq cq).ownBlock = (Value.slice xp np cp).ownBlock ∨ (Value.slice xq nq cq).ownBlock = some (W.alloc (.cells #[.string (ba l)] 9)).heap.size) := by
  obtain ⟨i0, hi, hz0, hz1, hz2⟩ := info_parts info9
  obtain ⟨v', w2, h1, h2, h3, _, h5⟩ := run_append_own_at (P := Try.prog) (W.alloc (.cells #[.string (ba l)] 9)) 0 23 23 9 i0 (.string ⟨#[]⟩) 1 16 und22 hi hz0 hz1 hz2 rfl (by decide) (.slice xp np cp) F.length (tv_ F) (hr.alloc _) ⟨W.heap.size, 0, none⟩ 1 1 [.string (ba l)] rfl (fun j u hj =>
      match j, hj with
      | 0, hj => by simp at hj; subst hj; exact (World.cell?_alloc_new W _ _ 0).trans rfl) (by intro u hu; simp at hu; subst hu; rfl) (by unfold maxLen; omega) (by omega) (Nat.zero_le _)
  obtain ⟨xq, cq, rfl⟩ := slice_of_row h2
  refine ⟨xq, _, cq, w2, h1, ?_, h3, h5⟩
  rw [List.length_append, show tv_ (F ++ [l]) = tv_ F ++ [.string (ba l)] by unfold tv_; simp]
  exact h2

set_option maxRecDepth 100000 in
set_option maxHeartbeats 8000000 in
theorem note_any (g n : Nat) (kept : List UInt8) (m N : Nat) (S F : List (List UInt8)) (fv : Value) (x : Option Addr) (c : Nat) (l : List UInt8) (hl : l.length = 32) (w : World) (hS : SM w g n kept m N S F fv) (hF : F.length ≤ 268435456) (hc : ∀ W, Below w.heap.size w W → (convert 31 9 (.slice x 32 c)).run Try.prog W = .ok (.string (ba l)) W) :
    Calls Try.prog 19 #[.pointer (some ⟨g, 0, none⟩), .slice x 32 c] w fun e w' => e = .returned (.tuple #[]) ∧ ((l ∉ S ∧ Below w.heap.size w w') ∨ (l ∈ S ∧ ∃ S' fv', (∀ h, h ∈ S' ↔ h ∈ S ∧ h ≠ l) ∧ SM w' g n kept m N S' (F ++ [l]) fv' ∧ KS g m fv.ownBlock w w' ∧ (fv'.ownBlock = fv.ownBlock ∨ ∀ k, fv'.ownBlock = some k → w.heap.size ≤ k))) := by
  have HS : Hid (SM w g n kept m N S F fv) := hS
  have HC : Hid (∀ W, Below w.heap.size w W → (convert 31 9 (.slice x 32 c)).run Try.prog W = .ok (.string (ba l)) W) := hc
  have hsz : (ba l).size ≤ maxLen := by rw [ba_size]; unfold maxLen; omega
  have HL : Hid (∃ b : Bool, (b = true ↔ l ∈ S) ∧ ∀ W, SetM W m N S → (Instr.lookup 43 (.map (some m)) (.string (ba l)) true).run Try.prog W = .ok (.tuple #[.agg #[], .bool b]) W) := by
    obtain ⟨b, hb, hm⟩ := hS.st.look (ba l) hsz
    refine ⟨b, hm, fun W hW => ?_⟩
    obtain ⟨b', hb', hm'⟩ := hW.look (ba l) hsz
    have : b' = b := by
      have h1 : b' = true ↔ b = true := hm'.trans hm.symm
      cases b <;> cases b' <;> simp_all
    rw [this] at hb'
    exact hb'
  obtain ⟨b, hb, hlk⟩ := HL.out
  have HK : Hid (∀ W, SetM W m N S → (Instr.lookup 43 (.map (some m)) (.string (ba l)) true).run Try.prog W = .ok (.tuple #[.agg #[], .bool b]) W) := hlk
  have HB : Hid (b = true ↔ l ∈ S) := hb
  clear hS hc HL hlk hb
  go_enter Try.func19, Try.ntmps19
  go_upto_region 0 with fail
  have S1 : Hid _ := HS.out.below (Below.refl _ _).drew
  refine wp_region_held_drew (S := fun V => V.cell? ⟨g, 33, none⟩ = some (.map (some m)) ∧ (convert 31 9 (.slice x 32 c)).run Try.prog V = .ok (.string (ba l)) V ∧ (Instr.lookup 43 (.map (some m)) (.string (ba l)) true).run Try.prog V = .ok (.tuple #[.agg #[], .bool b]) V) (by kernel_rfl) ⟨S1.out.cm, HC.out _ (Below.refl _ _).drew, HK.out _ S1.out.st⟩ (fun hH => ?_)
  -- @R0
  refine wpAnyH_take (i := 0) (oi := { dst := some 8, op := Op.move (Operand.tmp 0), type := 24, pos := "scan.go:42", after := #[], guard := none }) (v := .pointer (some ⟨g, 0, none⟩)) rfl (by kernel_rfl) (by kernel_rfl) (by kernel_rfl) (fun _ _ _ h => h) (Or.inl ⟨by rfl, by intro w _; go_simp⟩) hH ?_
  simp only [Act.put, List.setIfInBounds_toArray, List.set_cons_zero, List.set_cons_succ]
  refine wpAnyH_take (i := 1) (oi := { dst := some 9, op := Op.nilCheck (Operand.tmp 8), type := 0, pos := "scan.go:42", after := #[{ on := 0, ground := Ground.data }], guard := none }) (v := .pointer (some ⟨g, 0, none⟩)) rfl (by kernel_rfl) (by kernel_rfl) (by kernel_rfl) (fun _ _ _ h => h) (Or.inl ⟨by rfl, by intro w _; go_simp⟩) hH ?_
  simp only [Act.put, List.setIfInBounds_toArray, List.set_cons_zero, List.set_cons_succ]
  refine wpAnyH_take (i := 2) (oi := { dst := some 10, op := Op.fieldAddr 48 (Operand.tmp 9) 1, type := 0, pos := "scan.go:42", after := #[{ on := 1, ground := Ground.data }], guard := none }) (v := .pointer (some ⟨g, 33, none⟩)) rfl (by kernel_rfl) (by kernel_rfl) (by kernel_rfl) (fun _ _ _ h => h) (Or.inl ⟨by rfl, by intro w _; go_simp⟩) hH ?_
  simp only [Act.put, List.setIfInBounds_toArray, List.set_cons_zero, List.set_cons_succ]
  refine wpAnyH_take (i := 3) (oi := { dst := some 11, op := Op.load 43 (Operand.tmp 10), type := 43, pos := "scan.go:42", after := #[{ on := 2, ground := Ground.data }], guard := none }) (v := .map (some m)) rfl (by kernel_rfl) (by kernel_rfl) (by kernel_rfl) (fun _ _ _ h => h) (Or.inl ⟨by rfl, by intro w' s'; have q0 := s'.1; go_simp⟩) hH ?_
  simp only [Act.put, List.setIfInBounds_toArray, List.set_cons_zero, List.set_cons_succ]
  refine wpAnyH_take (i := 4) (oi := { dst := some 12, op := Op.move (Operand.tmp 1), type := 31, pos := "scan.go:42", after := #[], guard := none }) (v := .slice x 32 c) rfl (by kernel_rfl) (by kernel_rfl) (by kernel_rfl) (fun _ _ _ h => h) (Or.inl ⟨by rfl, by intro w _; go_simp⟩) hH ?_
  simp only [Act.put, List.setIfInBounds_toArray, List.set_cons_zero, List.set_cons_succ]
  refine wpAnyH_take (i := 5) (oi := { dst := some 13, op := Op.convert 31 9 (Operand.tmp 12), type := 9, pos := "scan.go:42", after := #[{ on := 4, ground := Ground.data }], guard := none }) (v := .string (ba l)) rfl (by kernel_rfl) (by kernel_rfl) (by kernel_rfl) (fun _ _ _ h => h) (Or.inl ⟨by rfl, by intro w' s'; have q0 := s'.2.1; go_simp⟩) hH ?_
  simp only [Act.put, List.setIfInBounds_toArray, List.set_cons_zero, List.set_cons_succ]
  refine wpAnyH_take (i := 6) (oi := { dst := some 14, op := Op.lookup 43 (Operand.tmp 11) (Operand.tmp 13) true, type := 70, pos := "scan.go:42", after := #[{ on := 3, ground := Ground.data }, { on := 5, ground := Ground.data }], guard := none }) (v := .tuple #[.agg #[], .bool b]) rfl (by kernel_rfl) (by kernel_rfl) (by kernel_rfl) (fun _ _ _ h => h) (Or.inl ⟨by rfl, by intro w' s'; have q0 := s'.2.2; go_simp⟩) hH ?_
  simp only [Act.put, List.setIfInBounds_toArray, List.set_cons_zero, List.set_cons_succ]
  refine wpAnyH_take (i := 7) (oi := { dst := some 7, op := Op.move (Operand.tmp 14), type := 70, pos := "scan.go:42", after := #[{ on := 6, ground := Ground.data }], guard := none }) (v := .tuple #[.agg #[], .bool b]) rfl (by kernel_rfl) (by kernel_rfl) (by kernel_rfl) (fun _ _ _ h => h) (Or.inl ⟨by rfl, by intro w _; go_simp⟩) hH ?_
  simp only [Act.put, List.setIfInBounds_toArray, List.set_cons_zero, List.set_cons_succ]
  refine wpAnyH_take (i := 8) (oi := { dst := some 15, op := Op.extract (Operand.tmp 7) 0, type := 50, pos := "scan.go:42", after := #[{ on := 7, ground := Ground.data }], guard := none }) (v := .agg #[]) rfl (by kernel_rfl) (by kernel_rfl) (by kernel_rfl) (fun _ _ _ h => h) (Or.inl ⟨by rfl, by intro w _; go_simp⟩) hH ?_
  simp only [Act.put, List.setIfInBounds_toArray, List.set_cons_zero, List.set_cons_succ]
  refine wpAnyH_take (i := 9) (oi := { dst := some 16, op := Op.extract (Operand.tmp 7) 1, type := 4, pos := "scan.go:42", after := #[{ on := 7, ground := Ground.data }, { on := 11, ground := Ground.gcOnly Departure.lateStores }], guard := none }) (v := .bool b) rfl (by kernel_rfl) (by kernel_rfl) (by kernel_rfl) (fun _ _ _ h => h) (Or.inl ⟨by rfl, by intro w _; go_simp⟩) hH ?_
  simp only [Act.put, List.setIfInBounds_toArray, List.set_cons_zero, List.set_cons_succ]
  have bA : Below w.heap.size w (w.drew.alloc (.cells #[] 50)) := (Below.refl _ _).drew.alloc (Nat.le_refl _) _
  have SA : Hid _ := HS.out.below bA
  have hHA : (w.drew.alloc (.cells #[] 50)).cell? ⟨g, 33, none⟩ = some (.map (some m)) ∧ (convert 31 9 (.slice x 32 c)).run Try.prog (w.drew.alloc (.cells #[] 50)) = .ok (.string (ba l)) (w.drew.alloc (.cells #[] 50)) ∧ (Instr.lookup 43 (.map (some m)) (.string (ba l)) true).run Try.prog (w.drew.alloc (.cells #[] 50)) = .ok (.tuple #[.agg #[], .bool b]) (w.drew.alloc (.cells #[] 50)) := ⟨SA.out.cm, HC.out _ bA, HK.out _ SA.out.st⟩
  refine wpAnyH_ready (rs := [10]) (by kernel_rfl) (by decide) (AllReadyH.cons rfl (fun K hK => ?_) AllReadyH.nil)
  rw [if_pos (by rfl)]
  go_simp
  try simp only [World.alloc_drew]
  refine hK.out _ _ hHA (fun _ => ?_)
  clear hK K
  try simp only [Act.put, List.setIfInBounds_toArray, List.set_cons_zero, List.set_cons_succ]
  refine wpAnyH_ready (rs := [11]) (by kernel_rfl) (by decide) (AllReadyH.cons rfl (fun K hK => ?_) AllReadyH.nil)
  rw [if_pos (by rfl)]
  go_simp
  refine hK.out _ _ hHA (fun _ => ?_)
  clear hK K
  try simp only [Act.put, List.setIfInBounds_toArray, List.set_cons_zero, List.set_cons_succ]
  refine wpAnyH_ready (rs := [12]) (by kernel_rfl) (by decide) (AllReadyH.cons rfl (fun K hK => ?_) AllReadyH.nil)
  rw [if_pos (by rfl)]
  go_simp
  refine hK.out _ _ hHA (fun _ => ?_)
  clear hK K
  refine wpAnyH_done (by kernel_rfl) ?_ _
  clear hHA hH S1
  -- @E0
  have bD : Below w.heap.size w (w.alloc (.cells #[] 50)).drew := bA
  have SD : Hid (SM (w.alloc (.cells #[] 50)).drew g n kept m N S F fv) := SA.out
  clear bA SA
  have HCD : Hid (Below w.heap.size w (w.alloc (.cells #[] 50)).drew) := bD
  have cvD := HC.out _ bD
  clear bD
  generalize (w.alloc (.cells #[] 50)).drew = w1 at *
  cases b with
  | false =>
    have hno : l ∉ S := fun h => by have := HB.out.2 h; cases this
    go_wp2
    exact bodyPost_ret (v := .tuple #[]) (by simp [results, Try.results19]) rfl ⟨rfl, .inl ⟨hno, HCD.out⟩⟩
  | true =>
    have hyes : Hid (l ∈ S) := HB.out.1 rfl
    have c33 := SD.out.cm
    have c34 := SD.out.cf
    obtain ⟨w2, S', hdel, st2, hS', ht⟩ := SD.out.st.del (ba l) hsz 0
    have G2 := ht.grown
    have eg : w2.heap[g]? = w1.heap[g]? := G2.block g SD.out.lt (fun e => SD.out.apart.1 (Option.some.inj e).symm)
    have S2 : Hid (SM w2 g n kept m N S' F fv) := by
      have h := SD.out
      have c : ∀ i, w2.cell? ⟨g, i, none⟩ = w1.cell? ⟨g, i, none⟩ := fun i => World.cell?_of_block (w := w1) (w' := w2) (a := ⟨g, i, none⟩) eg
      exact ⟨h.win.same eg, (c _).trans h.cm, (c _).trans h.cf, (World.frozen?_of_block (w := w1) (w' := w2) (a := ⟨g, 34, none⟩) eg).trans h.ff, st2, row_same' h.fr (fun k hk => by
        obtain ⟨cur, hc⟩ := row_cells h.fr k hk
        exact G2.block k (Array.getElem?_eq_some_iff.1 hc).1 (fun e => h.apart.2 (by rw [hk, Option.some.inj e]))), h.fg⟩
    have K2 : Hid (KS g m fv.ownBlock w w2) := ((KS.refl g m fv.ownBlock w).below HCD.out (Nat.le_refl _)).grown G2 (fun j hj => .inr (.inl (Option.some.inj hj).symm))
    have HS' : Hid (∀ h, h ∈ S' ↔ h ∈ S ∧ h ≠ l) := hS'
    clear st2 hS' ht G2 eg
    have d34 := S2.out.cf
    have SD2 : Hid _ := S2.out
    have KD2 : Hid _ := K2.out
    clear d34 S2 K2
    obtain ⟨xp, cp, hfv⟩ := slice_of_row SD2.out.fr
    have d34 : w2.cell? ⟨g, 34, none⟩ = some (.slice xp F.length cp) := by rw [← hfv]; exact SD2.out.cf
    have bW : Below w2.heap.size w2 (w2.alloc (.cells #[.string (ba l)] 9)) := (Below.refl _ _).alloc (Nat.le_refl _) _
    have d34a : (w2.alloc (.cells #[.string (ba l)] 9)).cell? ⟨g, 34, none⟩ = some (.slice xp F.length cp) := (bW.cell (p := ⟨g, 34, none⟩) SD2.out.lt).trans d34
    obtain ⟨xq, nq, cq, w3, hap, own3, G3, ho3⟩ := app_found w2 xp F.length cp F l (by rw [← hfv]; exact SD2.out.fr) hF
    obtain ⟨S4, y34, z34⟩ := SD2.out.found (fv' := .slice xq nq cq) bW (by rw [hfv]; exact G3) own3 (by rw [hfv]; exact ho3)
    rw [hfv] at y34
    have HFV : Hid (fv = .slice xp F.length cp) := hfv
    have K3 : Hid (KS g m fv.ownBlock w (w3.setCell ⟨g, 34, none⟩ (.slice xq nq cq))) := ((KD2.out.below bW (by exact KD2.out.size)).grown G3 (fun j hj => .inr (.inr (.inl (by rw [hfv]; exact hj.symm))))).grown (gb_setC w3 g 34 _) (fun j hj => .inl (Option.some.inj hj).symm)
    have S5 : Hid _ := S4
    have hO : Hid ((Value.slice xq nq cq).ownBlock = fv.ownBlock ∨ ∀ k, (Value.slice xq nq cq).ownBlock = some k → w.heap.size ≤ k) := by
      rcases ho3 with q | q
      · left; rw [q, hfv]
      · right
        intro k hk
        rw [q] at hk
        have := Option.some.inj hk
        have h2 := KD2.out.size
        have h3 := bW.size
        omega
    clear S4 G3 ho3 own3 bW KD2 hfv
    have HAP : Hid _ := hap
    clear hap
    go_wp2_with (at_builtin; refine wpList_plain rfl fun _ hK => operWp_app 23 23 (.tmp 30) (.tmp 32) rfl _ _ _ _ (by rfl) (by rfl) HAP.out (hK _ _ ?_))
    go_end0
    exact ⟨rfl, .inr ⟨hyes.out, S', HS'.out, _, S5.out, K3.out, hO.out⟩⟩

end Sc
end Go.Proofs.Ytojefckhefanhab
