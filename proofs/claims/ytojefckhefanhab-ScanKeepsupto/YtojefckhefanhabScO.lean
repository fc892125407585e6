/- scan.Scanner: Feed's closure, walked (own text of the verifier). -/
import Derived.Test.YtojefckhefanhabScN
namespace Go.Proofs.Ytojefckhefanhab
open Go.RowKit Go.Maps Go.WideMaps
namespace Sc

theorem KS.trans {g m : Nat} {pb pc : Option Nat} {a b c : World} (h : KS g m pb a b) (k : KS g m pc b c) (hp : pc = pb ∨ ∀ j, pc = some j → a.heap.size ≤ j) : KS g m pb a c :=
  ⟨k.os.trans h.os, k.tape.trans h.tape, k.output.trans h.output, Nat.le_trans h.size k.size, fun i h1 h2 h3 h4 => (k.block i (Nat.lt_of_lt_of_le h1 h.size) h2 h3 (fun e => by
    rcases hp with q | q
    · exact h4 (by rw [e, q])
    · have := q i e.symm; omega)).trans (h.block i h1 h2 h3 h4)⟩
/-- In the midst of a scanner's Feed, at a place. -/
structure SJ (W0 W : World) (g Ss St n o : Nat) (kept all text : List UInt8) (m N : Nat) (H : List (List UInt8)) (pb : Option Nat) (xv : Value) (a : Nat) (S F : List (List UInt8)) (fv : Value) : Prop where
  fb : FB H all (o + a) F S
  fl : F.length ≤ o + a
  sm : SM W g n kept m N S F fv
  bs : Boxed W Ss 24 (.pointer (some ⟨g, 0, none⟩))
  bt : Boxed W St 31 xv
  tx : Txt W xv text
  ap : ∀ k, fv.ownBlock = some k → k ≠ Ss ∧ k ≠ St
  ord : g < Ss ∧ m < Ss ∧ Ss < St
  px : fv.ownBlock = pb ∨ ∀ k, fv.ownBlock = some k → W0.heap.size ≤ k
  kx : KS g m pb W0 W
  xb : ∀ a l c, xv = .slice (some a) l c → a.block < St ∧ a.block ≠ m ∧ ∀ k, fv.ownBlock = some k → k ≠ a.block
  w0 : W0.heap.size ≤ Ss

theorem SJ.below {W0 W W' : World} {g Ss St n o : Nat} {kept all text : List UInt8} {m N : Nat} {H : List (List UInt8)} {pb : Option Nat} {xv : Value} {a : Nat} {S F : List (List UInt8)} {fv : Value} (h : SJ W0 W g Ss St n o kept all text m N H pb xv a S F fv) (b : Below W.heap.size W W') : SJ W0 W' g Ss St n o kept all text m N H pb xv a S F fv :=
  ⟨h.fb, h.fl, h.sm.below b, (b.block _ h.bs.lt).trans h.bs, (b.block _ h.bt.lt).trans h.bt, h.tx.below b, h.ap, h.ord, h.px, h.kx.below b h.kx.size, h.xb, h.w0⟩
theorem SJ.next {W0 W w2 : World} {g Ss St n o : Nat} {kept all text : List UInt8} {m N : Nat} {H : List (List UInt8)} {pb : Option Nat} {xv : Value} {a : Nat} {S F : List (List UInt8)} {fv : Value} (h : SJ W0 W g Ss St n o kept all text m N H pb xv a S F fv) (htx : text = all.drop o)
    (hN : (win text a ∉ S ∧ Below W.heap.size W w2) ∨ (win text a ∈ S ∧ ∃ S' fv', (∀ h, h ∈ S' ↔ h ∈ S ∧ h ≠ win text a) ∧ SM w2 g n kept m N S' (F ++ [win text a]) fv' ∧ KS g m fv.ownBlock W w2 ∧ (fv'.ownBlock = fv.ownBlock ∨ ∀ k, fv'.ownBlock = some k → W.heap.size ≤ k)))
    (hxg : ∀ x l c, xv = .slice (some x) l c → x.block ≠ g) : ∃ S' F' fv', SJ W0 w2 g Ss St n o kept all text m N H pb xv (a + 1) S' F' fv' := by
  have hw : win text a = win all (o + a) := by rw [htx, win_drop]
  rcases hN with ⟨h1, b⟩ | ⟨h1, S', fv', h2, h3, h4, h5⟩
  · have hb := h.below b
    exact ⟨S, F, fv, ⟨h.fb.step_no (by rw [← hw]; exact h1), by have := h.fl; omega, hb.sm, hb.bs, hb.bt, hb.tx, hb.ap, hb.ord, hb.px, hb.kx, hb.xb, hb.w0⟩⟩
  · obtain ⟨o1, o2, o3⟩ := h.ord
    have ls := h.bs.lt
    have lt := h.bt.lt
    have e : ∀ k, k < W.heap.size → k ≠ g → k ≠ m → (∀ j, fv.ownBlock = some j → j ≠ k) → w2.heap[k]? = W.heap[k]? := fun k q1 q2 q3 q4 => h4.block k q1 q2 q3 (fun q => q4 k q.symm rfl)
    refine ⟨S', F ++ [win text a], fv', ⟨?_, by rw [List.length_append]; have := h.fl; simp; omega, h3, (e Ss ls (by omega) (by omega) (fun j hj => (h.ap j hj).1)).trans h.bs, (e St lt (by omega) (by omega) (fun j hj => (h.ap j hj).2)).trans h.bt, h.tx.same (fun x l c hv ha => ?_), fun k hk => ?_, h.ord, ?_, h.kx.trans h4 h.px, fun x l c hv => ?_, h.w0⟩⟩
    · rw [hw]
      exact h.fb.step_yes (by rw [← hw]; exact h1) (fun g => by rw [← hw]; exact h2 g)
    · have hx := h.xb x l c hv
      exact e _ ha (hxg x l c hv) hx.2.1 (fun j hj => hx.2.2 j hj)
    · rcases h5 with q | q
      · exact h.ap k (by rw [← q]; exact hk)
      · have := q k hk; exact ⟨by omega, by omega⟩
    · rcases h5 with q | q
      · rw [q]; exact h.px
      · right; intro k hk; have := q k hk; have := h.kx.size; omega
    · have hx := h.xb x l c hv
      refine ⟨hx.1, hx.2.1, fun k hk => ?_⟩
      rcases h5 with q | q
      · exact hx.2.2 k (by rw [← q]; exact hk)
      · have := q k hk; omega

set_option maxRecDepth 100000 in
set_option maxHeartbeats 4000000 in
theorem sfeedc_any (W0 W : World) (g Ss St n o : Nat) (kept all text : List UInt8) (m N : Nat) (H : List (List UInt8)) (pb : Option Nat) (xv : Value) (a : Nat) (S F : List (List UInt8)) (fv : Value)
    (h : SJ W0 W g Ss St n o kept all text m N H pb xv a S F fv) (htx : text = all.drop o) (hat : a + 32 ≤ text.length) (htl : all.length ≤ 268435456) (hxg : ∀ x l c, xv = .slice (some x) l c → x.block ≠ g) :
    Calls Try.prog 18 #[.int .i64 (a : Int), .pointer (some ⟨Ss, 0, none⟩), .pointer (some ⟨St, 0, none⟩)] W fun e W' => e = .returned (.int .i64 1) ∧ ∃ S' F' fv', SJ W0 W' g Ss St n o kept all text m N H pb xv (a + 1) S' F' fv' := by
  have hlen : text.length = all.length - o := by rw [htx, List.length_drop]
  obtain ⟨A, oo, c, hxv, hA, _, hlc⟩ := h.tx.at (by omega)
  have ct := h.bt.cell
  rw [hxv] at ct
  have cs := h.bs.cell
  have h1 : (a : Int) + 32 ≤ (c : Int) := by omega
  have h2 : IntKind.i64.wrap ((a : Int) + 32) = (a : Int) + 32 := by rw [IntKind.wrap_i64]; omega
  have h3 : a + 32 ≤ c := by omega
  have HF : Hid (SJ W0 W g Ss St n o kept all text m N H pb xv a S F fv) := h
  clear h
  go_enter Try.func18, Try.ntmps18
  go_upto_region 1 with fail
  refine wp_region_held_drew (S := fun V => V.cell? ⟨Ss, 0, none⟩ = some (.pointer (some ⟨g, 0, none⟩)) ∧ V.cell? ⟨St, 0, none⟩ = some (.slice (some ⟨A, oo, none⟩) text.length c)) (by kernel_rfl) ⟨cs, ct⟩ (fun hH => ?_)
  have HD : Hid _ := HF.out.below (Below.refl _ _).drew
  clear HF ct cs hA
  generalize W.drew = wd at *
  have hTx : ∀ V, Below wd.heap.size wd V → Txt V (.slice (some ⟨A, oo, none⟩) text.length c) text := fun V b => by rw [← hxv]; exact HD.out.tx.below b
  have hcv : ∀ V, Below wd.heap.size wd V → (convert 31 9 (.slice (some ⟨A, oo + a, none⟩) 32 (c - a))).run Try.prog V = .ok (.string (ba (win text a))) V := fun V b => by
    have := conv_win (hTx V b) (p := a) (q := a + 32) (by omega) hat (c - a)
    rw [win_td, show a + 32 - a = 32 by omega] at this
    exact this
  have CN := note_any g n kept m N S F fv (some ⟨A, oo + a, none⟩) (c - a) (win text a) (by rw [win_len]; omega) wd HD.out.sm (by have := HD.out.fl; omega) hcv
  clear hTx hcv
  have h4 : ¬ c = a := by omega
  have f0 : (0 : Int) ≤ (a : Int) + 32 := by omega
  have f1 : ((a : Int) + 32).toNat = a + 32 := by omega
  have f2 : a ≤ a + 32 := by omega
  have f3 : a + 32 - a = 32 := by omega
  -- @R
  refine wpAnyH_take (i := 0) (oi := { dst := some 5, op := Op.load 24 (Operand.tmp 1), type := 24, pos := "scan.go:34", after := #[], guard := none }) (v := .pointer (some ⟨g, 0, none⟩)) rfl (by kernel_rfl) (by kernel_rfl) (by kernel_rfl) (fun _ _ _ h => h) (Or.inl ⟨by rfl, by intro w' s'; have q0 := s'.1; go_simp⟩) hH ?_
  simp only [Act.put, List.setIfInBounds_toArray, List.set_cons_zero, List.set_cons_succ]
  refine wpAnyH_take (i := 1) (oi := { dst := some 6, op := Op.load 31 (Operand.tmp 2), type := 31, pos := "scan.go:34", after := #[], guard := none }) (v := .slice (some ⟨A, oo, none⟩) text.length c) rfl (by kernel_rfl) (by kernel_rfl) (by kernel_rfl) (fun _ _ _ h => h) (Or.inl ⟨by rfl, by intro w' s'; have q0 := s'.2; go_simp⟩) hH ?_
  simp only [Act.put, List.setIfInBounds_toArray, List.set_cons_zero, List.set_cons_succ]
  refine wpAnyH_take (i := 2) (oi := { dst := some 7, op := Op.move (Operand.tmp 0), type := 3, pos := "scan.go:34", after := #[], guard := none }) (v := .int .i64 (a : Int)) rfl (by kernel_rfl) (by kernel_rfl) (by kernel_rfl) (fun _ _ _ h => h) (Or.inl ⟨by rfl, by intro w _; go_simp⟩) hH ?_
  simp only [Act.put, List.setIfInBounds_toArray, List.set_cons_zero, List.set_cons_succ]
  refine wpAnyH_take (i := 3) (oi := { dst := some 8, op := Op.move (Operand.tmp 0), type := 3, pos := "scan.go:34", after := #[], guard := none }) (v := .int .i64 (a : Int)) rfl (by kernel_rfl) (by kernel_rfl) (by kernel_rfl) (fun _ _ _ h => h) (Or.inl ⟨by rfl, by intro w _; go_simp⟩) hH ?_
  simp only [Act.put, List.setIfInBounds_toArray, List.set_cons_zero, List.set_cons_succ]
  refine wpAnyH_take (i := 4) (oi := { dst := some 9, op := Op.binOp BinOp.add 3 (Operand.tmp 8) (Operand.const (Value.int IntKind.i64 32)) 3, type := 3, pos := "scan.go:34", after := #[{ on := 3, ground := Ground.data }], guard := none }) (v := .int .i64 ((a : Int) + 32)) rfl (by kernel_rfl) (by kernel_rfl) (by kernel_rfl) (fun _ _ _ h => h) (Or.inl ⟨by rfl, by intro w _; go_simp⟩) hH ?_
  simp only [Act.put, List.setIfInBounds_toArray, List.set_cons_zero, List.set_cons_succ]
  refine wpAnyH_take (i := 5) (oi := { dst := some 10, op := Op.slice 31 (Operand.tmp 6) (some (Operand.tmp 7)) (some (Operand.tmp 9)) none, type := 31, pos := "scan.go:34", after := #[{ on := 1, ground := Ground.data }, { on := 2, ground := Ground.data }, { on := 4, ground := Ground.data }], guard := none }) (v := .slice (some ⟨A, oo + a, none⟩) 32 (c - a)) rfl (by kernel_rfl) (by kernel_rfl) (by kernel_rfl) (fun _ _ _ h => h) (Or.inl ⟨by rfl, by intro w' s'; have q0 := f0; have q1 := f1; have q2 := f2; have q3 := f3; go_simp⟩) hH ?_
  simp only [Act.put, List.setIfInBounds_toArray, List.set_cons_zero, List.set_cons_succ]
  refine wpAnyH_ready (rs := [6]) (by kernel_rfl) (by decide) (AllReadyH.cons rfl (fun K hK => ?_) AllReadyH.nil)
  rw [if_pos (by rfl)]
  go_simp
  with_reducible refine CN.mono ?_
  rintro e w2 ⟨rfl, hN⟩
  have HN : Hid _ := hN
  have hH2 : w2.cell? ⟨Ss, 0, none⟩ = some (.pointer (some ⟨g, 0, none⟩)) ∧ w2.cell? ⟨St, 0, none⟩ = some (.slice (some ⟨A, oo, none⟩) text.length c) := by
    have q := SJ.next HD.out htx HN.out (fun x l c e => hxg x l c e)
    obtain ⟨S', F', fv', q⟩ := q
    exact ⟨q.bs.cell, by have := q.bt.cell; rw [hxv] at this; exact this⟩
  clear hN
  go_wp2_with fail
  refine hK.out _ _ hH2 (fun _ => ?_)
  clear hK K
  refine wpAnyH_done (by kernel_rfl) ?_ _
  clear CN hH2 hH
  go_wp2
  go_ret
  exact ⟨rfl, SJ.next HD.out htx HN.out (fun x l c e => hxg x l c e)⟩
  -- @E

end Sc
end Go.Proofs.Ytojefckhefanhab
