/- Gathered: ScO ScT ScU ScX SaB SaC SaD SaE SvB ScY. -/
import Derived.Carry
import Derived.Test.YtojefckhefanhabDoorQf
/- scan.Scanner: Feed's closure, walked (own text of the verifier). -/
namespace Go.Proofs.YtojefckhefanhabDoor
open Go.RowKit Go.Maps Go.WideMaps
namespace Sc

theorem KS.trans {g m : Nat} {pb pc : Option Nat} {a b c : World} (h : KS g m pb a b) (k : KS g m pc b c) (hp : pc = pb ∨ ∀ j, pc = some j → a.heap.size ≤ j) : KS g m pb a c :=
  ⟨k.os.trans h.os, k.tape.trans h.tape, k.output.trans h.output, Nat.le_trans h.size k.size, fun i h1 h2 h3 h4 => (k.block i (Nat.lt_of_lt_of_le h1 h.size) h2 h3 (fun e => by
    rcases hp with q | q
    · exact h4 (by rw [e, q])
    · have := q i e.symm; omega)).trans (h.block i h1 h2 h3 h4)⟩
/-- In the midst of a scanner's Feed, at a place. -/
structure SJ (W0 W : World) (g Ss St n o : Nat) (kept all text : List UInt8) (m N : Nat) (H : List (List UInt8)) (pb : Option Nat) (xv : Value) (a : Nat) (S F : List (List UInt8)) (fv : Value) : Prop where
  fb : FB H all (o + a) F S
  fl : F.length ≤ o + a
  sm : SM W g n kept m N S F fv
  bs : Boxed W Ss 33 (.pointer (some ⟨g, 0, none⟩))
  bt : Boxed W St 38 xv
  tx : Txt W xv text
  ap : ∀ k, fv.ownBlock = some k → k ≠ Ss ∧ k ≠ St
  ord : g < Ss ∧ m < Ss ∧ Ss < St
  px : fv.ownBlock = pb ∨ ∀ k, fv.ownBlock = some k → W0.heap.size ≤ k
  kx : KS g m pb W0 W
  xb : ∀ a l c, xv = .slice (some a) l c → a.block < St ∧ a.block ≠ m ∧ ∀ k, fv.ownBlock = some k → k ≠ a.block
  w0 : W0.heap.size ≤ Ss

theorem SJ.below {W0 W W' : World} {g Ss St n o : Nat} {kept all text : List UInt8} {m N : Nat} {H : List (List UInt8)} {pb : Option Nat} {xv : Value} {a : Nat} {S F : List (List UInt8)} {fv : Value} (h : SJ W0 W g Ss St n o kept all text m N H pb xv a S F fv) (b : Below W.heap.size W W') : SJ W0 W' g Ss St n o kept all text m N H pb xv a S F fv :=
  ⟨h.fb, h.fl, h.sm.below b, (b.block _ h.bs.lt).trans h.bs, (b.block _ h.bt.lt).trans h.bt, h.tx.below b, h.ap, h.ord, h.px, h.kx.below b h.kx.size, h.xb, h.w0⟩
theorem SJ.next {W0 W w2 : World} {g Ss St n o : Nat} {kept all text : List UInt8} {m N : Nat} {H : List (List UInt8)} {pb : Option Nat} {xv : Value} {a : Nat} {S F : List (List UInt8)} {fv : Value} (h : SJ W0 W g Ss St n o kept all text m N H pb xv a S F fv) (htx : text = all.drop o)
    (hN : (win text a ∉ S ∧ Below W.heap.size W w2) ∨ (win text a ∈ S ∧ ∃ S' fv', (∀ h, h ∈ S' ↔ h ∈ S ∧ h ≠ win text a) ∧ SM w2 g n kept m N S' (F ++ [win text a]) fv' ∧ KS g m fv.ownBlock W w2 ∧ (fv'.ownBlock = fv.ownBlock ∨ ∀ k, fv'.ownBlock = some k → W.heap.size ≤ k)))
    (hxg : ∀ x l c, xv = .slice (some x) l c → x.block ≠ g) : ∃ S' F' fv', SJ W0 w2 g Ss St n o kept all text m N H pb xv (a + 1) S' F' fv' := by
  have hw : win text a = win all (o + a) := by rw [htx, win_drop]
  rcases hN with ⟨h1, b⟩ | ⟨h1, S', fv', h2, h3, h4, h5⟩
  · have hb := h.below b
    exact ⟨S, F, fv, ⟨h.fb.step_no (by rw [← hw]; exact h1), by have := h.fl; omega, hb.sm, hb.bs, hb.bt, hb.tx, hb.ap, hb.ord, hb.px, hb.kx, hb.xb, hb.w0⟩⟩
  · obtain ⟨o1, o2, o3⟩ := h.ord
    have ls := h.bs.lt
    have lt := h.bt.lt
    have e : ∀ k, k < W.heap.size → k ≠ g → k ≠ m → (∀ j, fv.ownBlock = some j → j ≠ k) → w2.heap[k]? = W.heap[k]? := fun k q1 q2 q3 q4 => h4.block k q1 q2 q3 (fun q => q4 k q.symm rfl)
    refine ⟨S', F ++ [win text a], fv', ⟨?_, by rw [List.length_append]; have := h.fl; simp; omega, h3, (e Ss ls (by omega) (by omega) (fun j hj => (h.ap j hj).1)).trans h.bs, (e St lt (by omega) (by omega) (fun j hj => (h.ap j hj).2)).trans h.bt, h.tx.same (fun x l c hv ha => ?_), fun k hk => ?_, h.ord, ?_, h.kx.trans h4 h.px, fun x l c hv => ?_, h.w0⟩⟩
    · rw [hw]
      exact h.fb.step_yes (by rw [← hw]; exact h1) (fun g => by rw [← hw]; exact h2 g)
    · have hx := h.xb x l c hv
      exact e _ ha (hxg x l c hv) hx.2.1 (fun j hj => hx.2.2 j hj)
    · rcases h5 with q | q
      · exact h.ap k (by rw [← q]; exact hk)
      · have := q k hk; exact ⟨by omega, by omega⟩
    · rcases h5 with q | q
      · rw [q]; exact h.px
      · right; intro k hk; have := q k hk; have := h.kx.size; omega
    · have hx := h.xb x l c hv
      refine ⟨hx.1, hx.2.1, fun k hk => ?_⟩
      rcases h5 with q | q
      · exact hx.2.2 k (by rw [← q]; exact hk)
      · have := q k hk; omega

set_option maxRecDepth 100000 in
set_option maxHeartbeats 4000000 in
theorem sfeedc_any (W0 W : World) (g Ss St n o : Nat) (kept all text : List UInt8) (m N : Nat) (H : List (List UInt8)) (pb : Option Nat) (xv : Value) (a : Nat) (S F : List (List UInt8)) (fv : Value)
    (h : SJ W0 W g Ss St n o kept all text m N H pb xv a S F fv) (htx : text = all.drop o) (hat : a + 32 ≤ text.length) (htl : all.length ≤ 268435456) (hxg : ∀ x l c, xv = .slice (some x) l c → x.block ≠ g) :
    Calls Tryd.prog 22 #[.int .i64 (a : Int), .pointer (some ⟨Ss, 0, none⟩), .pointer (some ⟨St, 0, none⟩)] W fun e W' => e = .returned (.int .i64 1) ∧ ∃ S' F' fv', SJ W0 W' g Ss St n o kept all text m N H pb xv (a + 1) S' F' fv' := by
  have hlen : text.length = all.length - o := by rw [htx, List.length_drop]
  obtain ⟨A, oo, c, hxv, hA, _, hlc⟩ := h.tx.at (by omega)
  have ct := h.bt.cell
  rw [hxv] at ct
  have cs := h.bs.cell
  have h1 : (a : Int) + 32 ≤ (c : Int) := by omega
  have h2 : IntKind.i64.wrap ((a : Int) + 32) = (a : Int) + 32 := by rw [IntKind.wrap_i64]; omega
  have h3 : a + 32 ≤ c := by omega
  have HF : Hid (SJ W0 W g Ss St n o kept all text m N H pb xv a S F fv) := h
  clear h
  go_enter Tryd.func22, Tryd.ntmps22
  go_upto_region 1 with fail
  refine wp_region_held_drew (S := fun V => V.cell? ⟨Ss, 0, none⟩ = some (.pointer (some ⟨g, 0, none⟩)) ∧ V.cell? ⟨St, 0, none⟩ = some (.slice (some ⟨A, oo, none⟩) text.length c)) (by kernel_rfl) ⟨cs, ct⟩ (fun hH => ?_)
  have HD : Hid _ := HF.out.below (Below.refl _ _).drew
  clear HF ct cs hA
  generalize W.drew = wd at *
  have hTx : ∀ V, Below wd.heap.size wd V → Txt V (.slice (some ⟨A, oo, none⟩) text.length c) text := fun V b => by rw [← hxv]; exact HD.out.tx.below b
  have hcv : ∀ V, Below wd.heap.size wd V → (convert 38 9 (.slice (some ⟨A, oo + a, none⟩) 32 (c - a))).run Tryd.prog V = .ok (.string (ba (win text a))) V := fun V b => by
    have := conv_win (hTx V b) (p := a) (q := a + 32) (by omega) hat (c - a)
    rw [win_td, show a + 32 - a = 32 by omega] at this
    exact this
  have CN := note_any g n kept m N S F fv (some ⟨A, oo + a, none⟩) (c - a) (win text a) (by rw [win_len]; omega) wd HD.out.sm (by have := HD.out.fl; omega) hcv
  clear hTx hcv
  have h4 : ¬ c = a := by omega
  have f0 : (0 : Int) ≤ (a : Int) + 32 := by omega
  have f1 : ((a : Int) + 32).toNat = a + 32 := by omega
  have f2 : a ≤ a + 32 := by omega
  have f3 : a + 32 - a = 32 := by omega
  -- @R
  refine wpAnyH_take (i := 0) (oi := { dst := some 5, op := Op.load 33 (Operand.tmp 1), type := 33, pos := "scan.go:34", after := #[], guard := none }) (v := .pointer (some ⟨g, 0, none⟩)) rfl (by kernel_rfl) (by kernel_rfl) (by kernel_rfl) (fun _ _ _ h => h) (Or.inl ⟨by rfl, by intro w' s'; have q0 := s'.1; go_simp⟩) hH ?_
  simp only [Act.put, List.setIfInBounds_toArray, List.set_cons_zero, List.set_cons_succ]
  refine wpAnyH_take (i := 1) (oi := { dst := some 6, op := Op.load 38 (Operand.tmp 2), type := 38, pos := "scan.go:34", after := #[], guard := none }) (v := .slice (some ⟨A, oo, none⟩) text.length c) rfl (by kernel_rfl) (by kernel_rfl) (by kernel_rfl) (fun _ _ _ h => h) (Or.inl ⟨by rfl, by intro w' s'; have q0 := s'.2; go_simp⟩) hH ?_
  simp only [Act.put, List.setIfInBounds_toArray, List.set_cons_zero, List.set_cons_succ]
  refine wpAnyH_take (i := 2) (oi := { dst := some 7, op := Op.move (Operand.tmp 0), type := 3, pos := "scan.go:34", after := #[], guard := none }) (v := .int .i64 (a : Int)) rfl (by kernel_rfl) (by kernel_rfl) (by kernel_rfl) (fun _ _ _ h => h) (Or.inl ⟨by rfl, by intro w _; go_simp⟩) hH ?_
  simp only [Act.put, List.setIfInBounds_toArray, List.set_cons_zero, List.set_cons_succ]
  refine wpAnyH_take (i := 3) (oi := { dst := some 8, op := Op.move (Operand.tmp 0), type := 3, pos := "scan.go:34", after := #[], guard := none }) (v := .int .i64 (a : Int)) rfl (by kernel_rfl) (by kernel_rfl) (by kernel_rfl) (fun _ _ _ h => h) (Or.inl ⟨by rfl, by intro w _; go_simp⟩) hH ?_
  simp only [Act.put, List.setIfInBounds_toArray, List.set_cons_zero, List.set_cons_succ]
  refine wpAnyH_take (i := 4) (oi := { dst := some 9, op := Op.binOp BinOp.add 3 (Operand.tmp 8) (Operand.const (Value.int IntKind.i64 32)) 3, type := 3, pos := "scan.go:34", after := #[{ on := 3, ground := Ground.data }], guard := none }) (v := .int .i64 ((a : Int) + 32)) rfl (by kernel_rfl) (by kernel_rfl) (by kernel_rfl) (fun _ _ _ h => h) (Or.inl ⟨by rfl, by intro w _; go_simp⟩) hH ?_
  simp only [Act.put, List.setIfInBounds_toArray, List.set_cons_zero, List.set_cons_succ]
  refine wpAnyH_take (i := 5) (oi := { dst := some 10, op := Op.slice 38 (Operand.tmp 6) (some (Operand.tmp 7)) (some (Operand.tmp 9)) none, type := 38, pos := "scan.go:34", after := #[{ on := 1, ground := Ground.data }, { on := 2, ground := Ground.data }, { on := 4, ground := Ground.data }], guard := none }) (v := .slice (some ⟨A, oo + a, none⟩) 32 (c - a)) rfl (by kernel_rfl) (by kernel_rfl) (by kernel_rfl) (fun _ _ _ h => h) (Or.inl ⟨by rfl, by intro w' s'; have q0 := f0; have q1 := f1; have q2 := f2; have q3 := f3; go_simp⟩) hH ?_
  simp only [Act.put, List.setIfInBounds_toArray, List.set_cons_zero, List.set_cons_succ]
  refine wpAnyH_ready (rs := [6]) (by kernel_rfl) (by decide) (AllReadyH.cons rfl (fun K hK => ?_) AllReadyH.nil)
  rw [if_pos (by rfl)]
  go_simp
  with_reducible refine CN.mono ?_
  rintro e w2 ⟨rfl, hN⟩
  have HN : Hid _ := hN
  have hH2 : w2.cell? ⟨Ss, 0, none⟩ = some (.pointer (some ⟨g, 0, none⟩)) ∧ w2.cell? ⟨St, 0, none⟩ = some (.slice (some ⟨A, oo, none⟩) text.length c) := by
    have q := SJ.next HD.out htx HN.out (fun x l c e => hxg x l c e)
    obtain ⟨S', F', fv', q⟩ := q
    exact ⟨q.bs.cell, by have := q.bt.cell; rw [hxv] at this; exact this⟩
  clear hN
  go_wp2_with fail
  refine hK.out _ _ hH2 (fun _ => ?_)
  clear hK K
  refine wpAnyH_done (by kernel_rfl) ?_ _
  clear CN hH2 hH
  go_wp2
  go_ret
  exact ⟨rfl, SJ.next HD.out htx HN.out (fun x l c e => hxg x l c e)⟩
  -- @E

end Sc
end Go.Proofs.YtojefckhefanhabDoor
/- scan.Scanner's Feed, walked (own text of the verifier). -/
namespace Go.Proofs.YtojefckhefanhabDoor
open Go.RowKit Go.Maps Go.WideMaps
namespace Sc

/-- What a scanner has come to that has taken A in. -/
structure GF (H : List (List UInt8)) (A kept : List UInt8) (S F : List (List UInt8)) : Prop where
  le : kept.length ≤ A.length
  kp : kept = A.drop (A.length - kept.length)
  base : Base Lt A (A.length - kept.length)
  fb : FB H A (A.length - kept.length) F S
  fl : F.length ≤ A.length - kept.length
theorem GF.fed {H : List (List UInt8)} {A kept p : List UInt8} {S F : List (List UInt8)} {r : Nat} (h : GF H A kept S F) (h1 : r ≤ (kept ++ p).length) (h2 : (kept ++ p).length < r + 32) (S' F' : List (List UInt8)) (fb : FB H (A ++ p) (A.length - kept.length + r) F' S') (fl : F'.length ≤ A.length - kept.length + r)
    (dn : ∀ q, q < A.length - kept.length + r → q + 32 ≤ (A ++ p).length ∨ bad Lt (A ++ p) q) : GF H (A ++ p) ((kept ++ p).drop r) S' F' := by
  have hle := h.le
  have e : (A ++ p).length - ((kept ++ p).drop r).length = A.length - kept.length + r := by
    rw [List.length_drop, List.length_append, List.length_append] at *
    omega
  refine ⟨?_, ?_, ?_, by rw [e]; exact fb, by rw [e]; exact fl⟩
  · rw [List.length_drop, List.length_append, List.length_append] at *; omega
  · have q : kept ++ p = (A ++ p).drop (A.length - kept.length) := by rw [List.drop_append_of_le_length (by omega), ← h.kp]
    rw [e, q, List.drop_drop]
  · rw [e]
    refine ⟨?_, ?_, dn⟩
    · rw [List.length_append] at *; omega
    · rw [List.length_append] at *; omega
theorem SM.taken {w w' : World} {g n k m N : Nat} {kept kept' : List UInt8} {S F : List (List UInt8)} {fv : Value} (h : SM w g n kept m N S F fv) (hw : Win w' g k kept') (G : w.grownBy w' (some g)) (hi : ∀ i, 33 ≤ i → w'.cell? ⟨g, i, none⟩ = w.cell? ⟨g, i, none⟩ ∧ w'.frozen? ⟨g, i, none⟩ = w.frozen? ⟨g, i, none⟩) : SM w' g k kept' m N S F fv :=
  ⟨hw, (hi _ (by omega)).1.trans h.cm, (hi _ (by omega)).1.trans h.cf, (hi _ (by omega)).2.trans h.ff, h.st.same (G.block m h.st.lt (fun e => h.apart.1 (Option.some.inj e))), row_same' h.fr (fun k hk => by
    obtain ⟨cur, hc⟩ := row_cells h.fr k hk
    exact G.block k (Array.getElem?_eq_some_iff.1 hc).1 (fun e => h.fg (by rw [hk, Option.some.inj e]))), h.fg⟩

set_option maxRecDepth 100000 in
set_option maxHeartbeats 8000000 in
theorem sfeed_any (g m N : Nat) (H : List (List UInt8)) (A kept p : List UInt8) (S F : List (List UInt8)) (fv y : Value) (w : World) (hS : SM w g A.length kept m N S F fv) (hG : GF H A kept S F) (hH : ∀ h ∈ H, isH Lt h) (hp : Txt w y p) (hyg : ∀ x l c, y = .slice (some x) l c → x.block ≠ g) (hpl : A.length + p.length ≤ 268435456) :
    Calls Tryd.prog 9 #[.pointer (some ⟨g, 0, none⟩), y] w fun e w' => ∃ kept' S' F' fv', e = .returned (.tuple #[]) ∧ SM w' g (A ++ p).length kept' m N S' F' fv' ∧ GF H (A ++ p) kept' S' F' ∧ KS g m fv.ownBlock w w' ∧ (fv'.ownBlock = fv.ownBlock ∨ ∀ k, fv'.ownBlock = some k → w.heap.size ≤ k) := by
  have HS : Hid (SM w g A.length kept m N S F fv) := hS
  have HP : Hid (Txt w y p) := hp
  clear hS hp
  go_enter Tryd.func9, Tryd.ntmps9
  go_wp2_with fail
  have bA : Below w.heap.size w (w.alloc (.cells #[.pointer (some ⟨g, 0, none⟩)] 33)) := (Below.refl _ _).alloc (Nat.le_refl _) _
  have S1 : Hid _ := HS.out.below bA
  have P1 : Hid _ := HP.out.below bA
  have B1 : Hid (Boxed (w.alloc (.cells #[.pointer (some ⟨g, 0, none⟩)] 33)) w.heap.size 33 (.pointer (some ⟨g, 0, none⟩))) := Boxed.new _ _ _
  have HB1 : Hid _ := bA
  have hz1 : Hid ((w.alloc (.cells #[.pointer (some ⟨g, 0, none⟩)] 33)).heap.size = w.heap.size + 1) := World.size_alloc _ _
  clear bA
  generalize w.alloc (.cells #[.pointer (some ⟨g, 0, none⟩)] 33) = w3 at *
  obtain ⟨S2, hS2⟩ : ∃ S, w.heap.size = S := ⟨_, rfl⟩
  have HS2 : Hid (w.heap.size = S2) := hS2
  rw [hS2] at B1 hz1 ⊢
  clear hS2
  have hgS : g < S2 := by rw [← HS2.out]; exact HS.out.lt
  have hmS : m < S2 := by rw [← HS2.out]; exact HS.out.st.lt
  have hpvS : Hid (∀ k, fv.ownBlock = some k → k < S2) := fun k hk => by
    rw [← HS2.out]
    obtain ⟨cur, hc⟩ := row_cells HS.out.fr k hk
    exact (Array.getElem?_eq_some_iff.1 hc).1
  have CT := take_any g A.length kept y p w3 S1.out.win P1.out hyg (by omega) (by omega)
  with_reducible refine CT.mono ?_
  rintro e w4 ⟨x, c, rfl, T4, W4, G4, hx, hi4⟩
  clear CT
  have hsh := S1.out.win.sh
  have hlen : (kept ++ p).length = kept.length + p.length := List.length_append
  have SX : Hid (SM w4 g (A.length + p.length) kept m N S F fv) := S1.out.taken W4 G4 hi4
  have T4' : Hid (Txt w4 (.slice x (kept ++ p).length c) (kept ++ p)) := T4
  have B4 : Hid (Boxed w4 S2 33 (.pointer (some ⟨g, 0, none⟩))) := B1.out.kept G4 (fun e => by injection e; omega)
  have hz4 : Hid (S2 + 1 ≤ w4.heap.size) := by unfold Hid; rw [← hz1.out]; exact G4.size
  have K4 : Hid (KS g m fv.ownBlock w w4) := ((KS.refl g m fv.ownBlock w).below HB1.out (Nat.le_refl _)).grown G4 (fun j hj => .inl (Option.some.inj hj).symm)
  have hxx : Hid ((p = [] ∧ x = some ⟨g, 2, none⟩) ∨ ∃ b, x = some ⟨b, 0, none⟩ ∧ S2 + 1 ≤ b ∧ p ≠ []) := by rw [← hz1.out]; exact hx
  have hxl : Hid (∀ a, x = some a → a.block < w4.heap.size) := fun a ha => by
    rcases hxx.out with ⟨_, h2⟩ | ⟨b, h2, h3, h4⟩
    · rw [h2] at ha; obtain rfl := Option.some.inj ha; exact SX.out.lt
    · rw [h2] at ha
      obtain rfl := Option.some.inj ha
      have hz : 0 < (kept ++ p).length := by
        rw [List.length_append]
        have := List.length_pos_iff.2 h4
        omega
      obtain ⟨a', o', c', e, hlt, _⟩ := T4.at hz
      injection e with e _ _
      rw [h2] at e
      injection e with e
      injection e with e _
      rw [e]; exact hlt
  clear T4 W4 G4 hx hi4 S1 P1 B1 HB1 hz1
  obtain ⟨Ab, Ao, hxs⟩ : ∃ Ab Ao, x = some ⟨Ab, Ao, none⟩ := by
    rcases hxx.out with ⟨_, h2⟩ | ⟨b, h2, _⟩
    · exact ⟨g, 2, h2⟩
    · exact ⟨b, 0, h2⟩
  have hxg : Hid (32 ≤ kept.length + p.length → Ab ≠ g) := fun h32 e => by
    rcases hxx.out with ⟨h1, _⟩ | ⟨b, h2, h3, _⟩
    · rw [h1] at h32; simp at h32; omega
    · rw [h2] at hxs; injection hxs with hxs; injection hxs with hxs _; omega
  have hxb : Hid (Ab < w4.heap.size ∧ Ab ≠ m ∧ ∀ k, fv.ownBlock = some k → k ≠ Ab) := by
    refine ⟨hxl.out ⟨Ab, Ao, none⟩ hxs, ?_, fun k hk => ?_⟩
    · rcases hxx.out with ⟨_, h2⟩ | ⟨b, h2, h3, _⟩
      · rw [h2] at hxs; injection hxs with hxs; injection hxs with hxs _; rw [← hxs]; exact fun e => SX.out.apart.1 e.symm
      · rw [h2] at hxs; injection hxs with hxs; injection hxs with hxs _; omega
    · rcases hxx.out with ⟨_, h2⟩ | ⟨b, h2, h3, _⟩
      · rw [h2] at hxs; injection hxs with hxs; injection hxs with hxs _; rw [← hxs]; exact fun e => SX.out.fg (by rw [hk, e])
      · rw [h2] at hxs; injection hxs with hxs; injection hxs with hxs _; have := hpvS.out k hk; omega
  subst hxs
  clear hxx hxl
  obtain ⟨o, ho⟩ : ∃ o, A.length - kept.length = o := ⟨_, rfl⟩
  have HO : Hid (A.length - kept.length = o) := ho
  have hle := hG.le
  have hall : kept ++ p = (A ++ p).drop o := by rw [← ho, List.drop_append_of_le_length (by omega), ← hG.kp]
  have hAp : (A ++ p).length = A.length + p.length := List.length_append
  have b7 : Below w4.heap.size w4 (w4.alloc (.cells #[.slice (some ⟨Ab, Ao, none⟩) (kept ++ p).length c] 38)) := (Below.refl _ _).alloc (Nat.le_refl _) _
  have HJ0 : Hid (SJ w (w4.alloc (.cells #[.slice (some ⟨Ab, Ao, none⟩) (kept ++ p).length c] 38)) g S2 w4.heap.size (A.length + p.length) o kept (A ++ p) (kept ++ p) m N H fv.ownBlock (.slice (some ⟨Ab, Ao, none⟩) (kept ++ p).length c) 0 S F fv) := by
    refine ⟨⟨hG.fb.nd, fun h => ?_, fun h => ?_⟩, by have := hG.fl; omega, SX.out.below b7, bx_of b7 B4.out, Boxed.new _ _ _, T4'.out.below b7, fun k hk => ?_, ⟨hgS, hmS, by have := hz4.out; omega⟩, .inl rfl, K4.out.below b7 K4.out.size, fun a l cc e => ?_, Nat.le_of_eq HS2.out⟩
    · rw [hG.fb.mem h]
      constructor
      · rintro ⟨h1, h2⟩; exact ⟨h1, by rw [Nat.add_zero, ← ho]; exact (hG.base.more p (hH h h1)).2 h2⟩
      · rintro ⟨h1, h2⟩; rw [Nat.add_zero, ← ho] at h2; exact ⟨h1, (hG.base.more p (hH h h1)).1 h2⟩
    · rw [hG.fb.sgt h]
      constructor
      · rintro ⟨h1, h2⟩; exact ⟨h1, fun q => h2 (by rw [Nat.add_zero, ← ho] at q; exact (hG.base.more p (hH h h1)).1 q)⟩
      · rintro ⟨h1, h2⟩; exact ⟨h1, fun q => h2 (by rw [Nat.add_zero, ← ho]; exact (hG.base.more p (hH h h1)).2 q)⟩
    · have := hpvS.out k hk
      have := hz4.out
      exact ⟨by omega, by omega⟩
    · injection e with e _ _
      injection e with e
      subst e
      exact hxb.out
  clear b7 SX B4 K4 hxb hpvS T4'
  have HALL : Hid (kept ++ p = (A ++ p).drop o) := hall
  clear hall
  obtain ⟨S6, hS6⟩ : ∃ S, w4.heap.size = S := ⟨_, rfl⟩
  go_wp2_with fail
  rw [hlen] at HJ0
  rw [hS6] at HJ0 hz4
  clear hS6
  generalize w4.alloc (.cells #[.slice (some ⟨Ab, Ao, none⟩) (kept.length + p.length) c] 38) = w7 at *
  have CS := slide_any 22 #[.pointer (some ⟨S2, 0, none⟩), .pointer (some ⟨S6, 0, none⟩)] (enters_of Tryd.func22 (by kernel_rfl) rfl) (.slice (some ⟨Ab, Ao, none⟩) (kept.length + p.length) c) (kept ++ p)
    (fun at_ W => (∃ S F fv', SJ w W g S2 S6 (A.length + p.length) o kept (A ++ p) (kept ++ p) m N H fv.ownBlock (.slice (some ⟨Ab, Ao, none⟩) (kept.length + p.length) c) at_ S F fv') ∧ ∀ q, q < o + at_ → q + 32 ≤ (A ++ p).length ∨ bad Lt (A ++ p) q)
    (fun q W hq => by obtain ⟨⟨S, F, fv', h⟩, _⟩ := hq; exact h.tx) (by rw [hlen]; omega)
    (fun q W hq hlt hb => by
      obtain ⟨⟨S, F, fv', h⟩, hd⟩ := hq
      have hb' : bad Lt (A ++ p) (o + q) := bad_drop (by rw [← HALL.out]; exact hb)
      refine ⟨⟨S, F, fv', ⟨h.fb.step_bad hH hb', by have := h.fl; omega, h.sm, h.bs, h.bt, h.tx, h.ap, h.ord, h.px, h.kx, h.xb, h.w0⟩⟩, fun k hk => ?_⟩
      by_cases e : k < o + q
      · exact hd k e
      · obtain rfl : k = o + q := by omega
        exact .inr hb')
    (fun q W hq h32 _ => by
      obtain ⟨⟨S, F, fv', h⟩, hd⟩ := hq
      have := sfeedc_any w W g S2 S6 (A.length + p.length) o kept (A ++ p) (kept ++ p) m N H fv.ownBlock _ q S F fv' h HALL.out h32 (by omega) (fun xx l cc e => by injection e with e _ _; injection e with e; subst e; exact hxg.out (by rw [← hlen]; omega))
      refine (show Calls _ _ _ _ _ from ?_)
      refine (show Calls Tryd.prog 22 #[.int .i64 (q : Int), .pointer (some ⟨S2, 0, none⟩), .pointer (some ⟨S6, 0, none⟩)] W _ from this.mono ?_)
      rintro e W' ⟨rfl, S', F', fv'', h'⟩
      refine ⟨1, .inl rfl, rfl, ⟨S', F', fv'', h'⟩, fun k hk => ?_⟩
      by_cases e : k < o + q
      · exact hd k e
      · obtain rfl : k = o + q := by omega
        left
        have : (kept ++ p).length = (A ++ p).length - o := by rw [HALL.out, List.length_drop]
        omega)
    w7 ⟨⟨S, F, fv, HJ0.out⟩, fun q hq => by
      rw [Nat.add_zero, ← HO.out] at hq
      rcases hG.base.done q hq with h | h
      · left; omega
      · right; exact bad_app p h⟩
  with_reducible refine CS.mono ?_
  rintro e w9 ⟨r, hr1, hr2, rfl, ⟨S', F', fv', hJ⟩, hd⟩
  clear CS HJ0
  have HJ : Hid _ := hJ
  have HD : Hid _ := hd
  have HR2 : Hid ((kept ++ p).length < r + 32) := hr2
  have hlc : kept.length + p.length ≤ c := by
    obtain ⟨x', c', e, _, h2⟩ := hJ.tx
    injection e with _ _ e3
    rw [hlen] at h2
    omega
  have hrl : r ≤ kept.length + p.length := by rw [← hlen]; exact hr1
  have HR1 : Hid (r ≤ (kept ++ p).length) := hr1
  clear hJ hd hr2 hr1
  have g5 : (r : Int) ≤ (kept.length : Int) + (p.length : Int) := by omega
  have c6 := HJ.out.bt.cell
  have c2 := HJ.out.bs.cell
  go_upto_region 3 with fail
  have c6d : w9.drew.cell? ⟨S6, 0, none⟩ = some (.slice (some ⟨Ab, Ao, none⟩) (kept.length + p.length) c) := c6
  have c2d : w9.drew.cell? ⟨S2, 0, none⟩ = some (.pointer (some ⟨g, 0, none⟩)) := c2
  have HZD : Hid _ := HJ.out.below (Below.refl _ _).drew
  refine wp_region_held_drew (S := fun V => V.cell? ⟨S2, 0, none⟩ = some (.pointer (some ⟨g, 0, none⟩)) ∧ V.cell? ⟨S6, 0, none⟩ = some (.slice (some ⟨Ab, Ao, none⟩) (kept.length + p.length) c)) (by kernel_rfl) ⟨c2d, c6d⟩ (fun hH => ?_)
  clear HJ c6d c2d c6 c2
  generalize w9.drew = wD at *
  by_cases hI : r < c
  · have g6 : Hid (¬ c = r) := by unfold Hid; omega
    have hlk : ((kept ++ p).drop r).length ≤ 31 := by rw [List.length_drop]; have := HR2.out; omega
    have hvK : Txt wD (.slice (some ⟨Ab, Ao + r, none⟩) (kept.length + p.length - r) (c - r)) ((kept ++ p).drop r) := by have := HZD.out.tx; rw [← hlen] at this; have := this.sub (p := r) (q := (kept ++ p).length) HR1.out (Nat.le_refl _); rw [List.take_length] at this; rw [← hlen]; exact this
    have CK := keep_any g (A.length + p.length) kept (.slice (some ⟨Ab, Ao + r, none⟩) (kept.length + p.length - r) (c - r)) ((kept ++ p).drop r) wD HZD.out.sm.win hvK hlk
    clear hvK
    refine wpAnyH_take (i := 0) (oi := { dst := some 14, op := Op.load 33 (Operand.tmp 2), type := 33, pos := "scan.go:37", after := #[], guard := none }) (v := .pointer (some ⟨g, 0, none⟩)) rfl (by kernel_rfl) (by kernel_rfl) (by kernel_rfl) (fun _ _ _ h => h) (Or.inl ⟨by rfl, by intro w' s'; have q0 := s'.1; go_simp⟩) hH ?_
    simp only [Act.put, List.setIfInBounds_toArray, List.set_cons_zero, List.set_cons_succ]
    refine wpAnyH_take (i := 1) (oi := { dst := some 15, op := Op.nilCheck (Operand.tmp 14), type := 0, pos := "scan.go:37", after := #[{ on := 0, ground := Ground.data }], guard := none }) (v := .pointer (some ⟨g, 0, none⟩)) rfl (by kernel_rfl) (by kernel_rfl) (by kernel_rfl) (fun _ _ _ h => h) (Or.inl ⟨by rfl, by intro w _; go_simp⟩) hH ?_
    simp only [Act.put, List.setIfInBounds_toArray, List.set_cons_zero, List.set_cons_succ]
    refine wpAnyH_take (i := 2) (oi := { dst := some 16, op := Op.fieldAddr 56 (Operand.tmp 15) 0, type := 0, pos := "scan.go:37", after := #[{ on := 1, ground := Ground.data }], guard := none }) (v := .pointer (some ⟨g, 0, none⟩)) rfl (by kernel_rfl) (by kernel_rfl) (by kernel_rfl) (fun _ _ _ h => h) (Or.inl ⟨by rfl, by intro w _; go_simp⟩) hH ?_
    simp only [Act.put, List.setIfInBounds_toArray, List.set_cons_zero, List.set_cons_succ]
    refine wpAnyH_take (i := 3) (oi := { dst := some 17, op := Op.load 38 (Operand.tmp 4), type := 38, pos := "scan.go:37", after := #[], guard := none }) (v := .slice (some ⟨Ab, Ao, none⟩) (kept.length + p.length) c) rfl (by kernel_rfl) (by kernel_rfl) (by kernel_rfl) (fun _ _ _ h => h) (Or.inl ⟨by rfl, by intro w' s'; have q0 := s'.2; go_simp⟩) hH ?_
    simp only [Act.put, List.setIfInBounds_toArray, List.set_cons_zero, List.set_cons_succ]
    refine wpAnyH_take (i := 4) (oi := { dst := some 18, op := Op.move (Operand.tmp 5), type := 3, pos := "scan.go:37", after := #[], guard := none }) (v := .int .i64 (r : Int)) rfl (by kernel_rfl) (by kernel_rfl) (by kernel_rfl) (fun _ _ _ h => h) (Or.inl ⟨by rfl, by intro w _; go_simp⟩) hH ?_
    simp only [Act.put, List.setIfInBounds_toArray, List.set_cons_zero, List.set_cons_succ]
    refine wpAnyH_take (i := 5) (oi := { dst := some 19, op := Op.slice 38 (Operand.tmp 17) (some (Operand.tmp 18)) none none, type := 38, pos := "scan.go:37", after := #[{ on := 3, ground := Ground.data }, { on := 4, ground := Ground.data }], guard := none }) (v := .slice (some ⟨Ab, Ao + r, none⟩) (kept.length + p.length - r) (c - r)) rfl (by kernel_rfl) (by kernel_rfl) (by kernel_rfl) (fun _ _ _ h => h) (Or.inl ⟨by rfl, by intro w' s'; have q0 := g5; have q1 := g6.out; go_simp⟩) hH ?_
    simp only [Act.put, List.setIfInBounds_toArray, List.set_cons_zero, List.set_cons_succ]
    refine wpAnyH_ready (rs := [6]) (by kernel_rfl) (by decide) (AllReadyH.cons rfl (fun K hK => ?_) AllReadyH.nil)
    rw [if_pos (by rfl)]
    go_simp
    with_reducible refine CK.mono ?_
    rintro e wE ⟨rfl, winE, GE, hiE⟩
    clear CK
    have RK : Hid (SM wE g (A.length + p.length) ((kept ++ p).drop r) m N S' F' fv') := HZD.out.sm.taken winE GE hiE
    have kE : Hid (KS g m fv.ownBlock w wE) := HZD.out.kx.grown GE (fun j hj => .inl (Option.some.inj hj).symm)
    have hHE : wE.cell? ⟨S2, 0, none⟩ = some (.pointer (some ⟨g, 0, none⟩)) ∧ wE.cell? ⟨S6, 0, none⟩ = some (.slice (some ⟨Ab, Ao, none⟩) (kept.length + p.length) c) := ⟨(World.cell?_of_block (w := wD) (w' := wE) (a := ⟨S2, 0, none⟩) (GE.block S2 HZD.out.bs.lt (fun e => by injection e; omega))).trans hH.1, (World.cell?_of_block (w := wD) (w' := wE) (a := ⟨S6, 0, none⟩) (GE.block S6 HZD.out.bt.lt (fun e => by injection e; have := HZD.out.ord; omega))).trans hH.2⟩
    clear GE winE hiE hH
    go_wp2_with fail
    refine hK.out _ _ hHE (fun _ => ?_)
    clear hK K
    refine wpAnyH_done (by kernel_rfl) ?_ _
    clear hHE
    try go_wp2
    go_end0
    refine ⟨(kept ++ p).drop r, S', F', fv', rfl, by rw [hAp]; exact RK.out, hG.fed HR1.out HR2.out S' F' ?_ ?_ ?_, kE.out, HZD.out.px⟩
    · rw [HO.out]; exact HZD.out.fb
    · rw [HO.out]; exact HZD.out.fl
    · rw [HO.out]; exact HD.out
  · have g6 : Hid (c = r) := by unfold Hid; omega
    have hlk : ((kept ++ p).drop r).length ≤ 31 := by rw [List.length_drop]; have := HR2.out; omega
    have hvK : Txt wD (.slice (some ⟨Ab, Ao, none⟩) (kept.length + p.length - r) 0) ((kept ++ p).drop r) := Txt.nil (List.drop_eq_nil_of_le (by omega)) (by omega)
    have CK := keep_any g (A.length + p.length) kept (.slice (some ⟨Ab, Ao, none⟩) (kept.length + p.length - r) 0) ((kept ++ p).drop r) wD HZD.out.sm.win hvK hlk
    clear hvK
    refine wpAnyH_take (i := 0) (oi := { dst := some 14, op := Op.load 33 (Operand.tmp 2), type := 33, pos := "scan.go:37", after := #[], guard := none }) (v := .pointer (some ⟨g, 0, none⟩)) rfl (by kernel_rfl) (by kernel_rfl) (by kernel_rfl) (fun _ _ _ h => h) (Or.inl ⟨by rfl, by intro w' s'; have q0 := s'.1; go_simp⟩) hH ?_
    simp only [Act.put, List.setIfInBounds_toArray, List.set_cons_zero, List.set_cons_succ]
    refine wpAnyH_take (i := 1) (oi := { dst := some 15, op := Op.nilCheck (Operand.tmp 14), type := 0, pos := "scan.go:37", after := #[{ on := 0, ground := Ground.data }], guard := none }) (v := .pointer (some ⟨g, 0, none⟩)) rfl (by kernel_rfl) (by kernel_rfl) (by kernel_rfl) (fun _ _ _ h => h) (Or.inl ⟨by rfl, by intro w _; go_simp⟩) hH ?_
    simp only [Act.put, List.setIfInBounds_toArray, List.set_cons_zero, List.set_cons_succ]
    refine wpAnyH_take (i := 2) (oi := { dst := some 16, op := Op.fieldAddr 56 (Operand.tmp 15) 0, type := 0, pos := "scan.go:37", after := #[{ on := 1, ground := Ground.data }], guard := none }) (v := .pointer (some ⟨g, 0, none⟩)) rfl (by kernel_rfl) (by kernel_rfl) (by kernel_rfl) (fun _ _ _ h => h) (Or.inl ⟨by rfl, by intro w _; go_simp⟩) hH ?_
    simp only [Act.put, List.setIfInBounds_toArray, List.set_cons_zero, List.set_cons_succ]
    refine wpAnyH_take (i := 3) (oi := { dst := some 17, op := Op.load 38 (Operand.tmp 4), type := 38, pos := "scan.go:37", after := #[], guard := none }) (v := .slice (some ⟨Ab, Ao, none⟩) (kept.length + p.length) c) rfl (by kernel_rfl) (by kernel_rfl) (by kernel_rfl) (fun _ _ _ h => h) (Or.inl ⟨by rfl, by intro w' s'; have q0 := s'.2; go_simp⟩) hH ?_
    simp only [Act.put, List.setIfInBounds_toArray, List.set_cons_zero, List.set_cons_succ]
    refine wpAnyH_take (i := 4) (oi := { dst := some 18, op := Op.move (Operand.tmp 5), type := 3, pos := "scan.go:37", after := #[], guard := none }) (v := .int .i64 (r : Int)) rfl (by kernel_rfl) (by kernel_rfl) (by kernel_rfl) (fun _ _ _ h => h) (Or.inl ⟨by rfl, by intro w _; go_simp⟩) hH ?_
    simp only [Act.put, List.setIfInBounds_toArray, List.set_cons_zero, List.set_cons_succ]
    refine wpAnyH_take (i := 5) (oi := { dst := some 19, op := Op.slice 38 (Operand.tmp 17) (some (Operand.tmp 18)) none none, type := 38, pos := "scan.go:37", after := #[{ on := 3, ground := Ground.data }, { on := 4, ground := Ground.data }], guard := none }) (v := .slice (some ⟨Ab, Ao, none⟩) (kept.length + p.length - r) 0) rfl (by kernel_rfl) (by kernel_rfl) (by kernel_rfl) (fun _ _ _ h => h) (Or.inl ⟨by rfl, by intro w' s'; have q0 := g5; have q1 := g6.out; go_simp⟩) hH ?_
    simp only [Act.put, List.setIfInBounds_toArray, List.set_cons_zero, List.set_cons_succ]
    refine wpAnyH_ready (rs := [6]) (by kernel_rfl) (by decide) (AllReadyH.cons rfl (fun K hK => ?_) AllReadyH.nil)
    rw [if_pos (by rfl)]
    go_simp
    with_reducible refine CK.mono ?_
    rintro e wE ⟨rfl, winE, GE, hiE⟩
    clear CK
    have RK : Hid (SM wE g (A.length + p.length) ((kept ++ p).drop r) m N S' F' fv') := HZD.out.sm.taken winE GE hiE
    have kE : Hid (KS g m fv.ownBlock w wE) := HZD.out.kx.grown GE (fun j hj => .inl (Option.some.inj hj).symm)
    have hHE : wE.cell? ⟨S2, 0, none⟩ = some (.pointer (some ⟨g, 0, none⟩)) ∧ wE.cell? ⟨S6, 0, none⟩ = some (.slice (some ⟨Ab, Ao, none⟩) (kept.length + p.length) c) := ⟨(World.cell?_of_block (w := wD) (w' := wE) (a := ⟨S2, 0, none⟩) (GE.block S2 HZD.out.bs.lt (fun e => by injection e; omega))).trans hH.1, (World.cell?_of_block (w := wD) (w' := wE) (a := ⟨S6, 0, none⟩) (GE.block S6 HZD.out.bt.lt (fun e => by injection e; have := HZD.out.ord; omega))).trans hH.2⟩
    clear GE winE hiE hH
    go_wp2_with fail
    refine hK.out _ _ hHE (fun _ => ?_)
    clear hK K
    refine wpAnyH_done (by kernel_rfl) ?_ _
    clear hHE
    try go_wp2
    go_end0
    refine ⟨(kept ++ p).drop r, S', F', fv', rfl, by rw [hAp]; exact RK.out, hG.fed HR1.out HR2.out S' F' ?_ ?_ ?_, kE.out, HZD.out.px⟩
    · rw [HO.out]; exact HZD.out.fb
    · rw [HO.out]; exact HZD.out.fl
    · rw [HO.out]; exact HD.out

end Sc
end Go.Proofs.YtojefckhefanhabDoor
/- slices.Clone at []string, walked (own text of the verifier). -/
namespace Go.Proofs.YtojefckhefanhabDoor
open Go.RowKit
namespace Sc

set_option maxRecDepth 100000 in
set_option maxHeartbeats 8000000 in
theorem cloneS_any (a : Addr) (n c : Nat) (l : List (List UInt8)) (w : World) (hl : l.length = n) (hb : n ≤ 536870912) (hc : ∀ (j : Nat) (x : List UInt8), l[j]? = some x → w.cell? (a.add j) = some (.string (ba x))) :
    Calls Tryd.prog 25 #[.slice (some a) n c] w fun e w' => ∃ v', e = .returned v' ∧ w'.ownsRow w.heap.size 9 1 v' n (tv_ l) ∧ Below w.heap.size w w' := by
  have HC : Hid (∀ (j : Nat) (x : List UInt8), l[j]? = some x → w.cell? (a.add j) = some (.string (ba x))) := hc
  clear hc
  have hq : ∀ (w : World) (a : Option Addr) (n c n' c' : Nat), (binOp .eql 36 (.slice a n c) (.slice none n' c')).run Tryd.prog w = .ok (.bool a.isNone) w := fun w a n c n' c' => Lib.run_eql_slice_nil w _ _ a n c n' c' und22
  obtain ⟨i0, hi, hz0, hz1, hz2⟩ := info_parts info9
  go_enter Tryd.func25, Tryd.ntmps25
  go_wp2_with (at_builtin; refine wpList_append_own _ rfl _ _ 36 rfl w.heap.size 9 i0 (.string ⟨#[]⟩) 1 16 und22 hi hz0 hz1 hz2 rfl (by decide) _ _ _ rfl (World.ownsRow_made w #[] 0 (Nat.le_refl _) (Nat.zero_le _) rfl) a n c (tv_ l) rfl ?q1 ?q2 ?q3 ?q4 ?q5 ?q6 ?_)
  case q1 => rw [Nat.mul_one]; unfold tv_; rw [List.length_map]; exact hl
  case q2 =>
    intro j u hj
    unfold tv_ at hj
    rw [List.getElem?_map] at hj
    obtain ⟨x, hx, rfl⟩ := Option.map_eq_some_iff.1 hj
    exact Lib.cell?_alloc_some _ (HC.out j x hx)
  case q3 => intro u hu; unfold tv_ at hu; obtain ⟨x, _, rfl⟩ := List.mem_map.1 hu; rfl
  case q4 => unfold maxLen; omega
  case q5 => omega
  case q6 => simp
  intro v' w1 hown hgrow hnil
  go_wp2
  go_ret
  exact ⟨v', rfl, by simpa using hown, ((Below.refl _ w).alloc (Nat.le_refl _) _).grown hgrow (by simp) (by intro k hk; simp [Value.ownBlock] at hk; omega)⟩
theorem cloneS_nil (n c : Nat) (w : World) : Calls Tryd.prog 25 #[.slice none n c] w fun e w' => e = .returned (.slice none 0 0) ∧ w' = w := by
  have hq : ∀ (w : World) (a : Option Addr) (n c n' c' : Nat), (binOp .eql 36 (.slice a n c) (.slice none n' c')).run Tryd.prog w = .ok (.bool a.isNone) w := fun w a n c n' c' => Lib.run_eql_slice_nil w _ _ a n c n' c' und22
  go_enter Tryd.func25, Tryd.ntmps25
  go_wp2
  go_ret
  exact ⟨rfl, rfl⟩

end Sc
end Go.Proofs.YtojefckhefanhabDoor
/- scan.New, walked (own text of the verifier). -/
namespace Go.Proofs.YtojefckhefanhabDoor
open Go.RowKit Go.Maps Go.WideMaps
namespace Sc

/-- A new scanner. -/
theorem SM.new {W : World} {g m : Nat} {T : TypeId} (h : W.heap[g]? = some (.cells #[.int .i64 0, .int .i64 0, .int .u8 0, .int .u8 0, .int .u8 0, .int .u8 0, .int .u8 0, .int .u8 0, .int .u8 0, .int .u8 0, .int .u8 0, .int .u8 0, .int .u8 0, .int .u8 0, .int .u8 0, .int .u8 0, .int .u8 0, .int .u8 0, .int .u8 0, .int .u8 0, .int .u8 0, .int .u8 0, .int .u8 0, .int .u8 0, .int .u8 0, .int .u8 0, .int .u8 0, .int .u8 0, .int .u8 0, .int .u8 0, .int .u8 0, .int .u8 0, .int .u8 0, .map (some m), .slice none 0 0] T (0, 0))) (hm : SetM W m 0 []) : SM W g 0 [] m 0 [] [] (.slice none 0 0) := by
  have fz : ∀ i, W.frozen? ⟨g, i, none⟩ = false := fun i => Lib.frozen_of_heap h i
  refine ⟨⟨by rw [Lib.cell_of_heap h]; rfl, fz _, by rw [Lib.cell_of_heap h]; rfl, fz _, fun i b hb => by simp at hb, fun i hi => ?_, fun i _ => fz _, by simp⟩, by rw [Lib.cell_of_heap h]; rfl, by rw [Lib.cell_of_heap h]; rfl, fz _, hm, ⟨rfl, .inl ⟨rfl, rfl⟩⟩, by simp [Value.ownBlock]⟩
  rw [Lib.cell_of_heap h]
  simp
  omega
/-- One text more is sought. -/
theorem SM.seek {W W' : World} {g n : Nat} {kept : List UInt8} {m N N' : Nat} {S S' F : List (List UInt8)} {fv : Value} (h : SM W g n kept m N S F fv) (hm : SetM W' m N' S') (G : W.grownBy W' (some m)) : SM W' g n kept m N' S' F fv := by
  have e : W'.heap[g]? = W.heap[g]? := G.block g h.lt (fun e => h.apart.1 (Option.some.inj e).symm)
  have c : ∀ i, W'.cell? ⟨g, i, none⟩ = W.cell? ⟨g, i, none⟩ := fun i => World.cell?_of_block (w := W) (w' := W') (a := ⟨g, i, none⟩) e
  exact ⟨h.win.same e, (c _).trans h.cm, (c _).trans h.cf, (World.frozen?_of_block (w := W) (w' := W') (a := ⟨g, 34, none⟩) e).trans h.ff, hm, row_same' h.fr (fun k hk => by
    obtain ⟨cur, hc⟩ := row_cells h.fr k hk
    exact G.block k (Array.getElem?_eq_some_iff.1 hc).1 (fun e => h.apart.2 (by rw [hk, Option.some.inj e]))), h.fg⟩
theorem hsh_two (s : ByteArray) (h : hsh s ≠ 0) : hsh s = 131 := by
  unfold hsh at h ⊢
  by_cases q : hshOk s
  · rw [if_pos q] at h; exact absurd rfl h
  · rw [if_neg q]

set_option maxRecDepth 100000 in
set_option maxHeartbeats 8000000 in
theorem snew_any (hs : List ByteArray) (x : Option Addr) (c : Nat) (w : World) (hn : hs.length ≤ 268435456) (hc : ∀ (j : Nat) (s : ByteArray), hs[j]? = some s → ∃ a : Addr, x = some a ∧ a.block < w.heap.size ∧ w.cell? (a.add j) = some (.string s)) :
    Calls Tryd.prog 8 #[.slice x hs.length c] w fun e w' => Below w.heap.size w w' ∧ (((∃ s ∈ hs, hsh s ≠ 0) ∧ e = .returned (.tuple #[.pointer none, .int .i64 131])) ∨ ((∀ s ∈ hs, hsh s = 0) ∧ ∃ g m S, w.heap.size ≤ g ∧ w.heap.size ≤ m ∧ e = .returned (.tuple #[.pointer (some ⟨g, 0, none⟩), .int .i64 0]) ∧ SM w' g 0 [] m hs.length S [] (.slice none 0 0) ∧ ∀ h, h ∈ S ↔ ∃ s ∈ hs, s.data.toList = h)) := by
  have HC : Hid (∀ (j : Nat) (s : ByteArray), hs[j]? = some s → ∃ a : Addr, x = some a ∧ a.block < w.heap.size ∧ w.cell? (a.add j) = some (.string s)) := hc
  clear hc
  have hmm := @run_makeMap Tryd.prog
  go_enter Tryd.func8, Tryd.ntmps8
  go_wp2_with fail
  have zs : (w.alloc (.map #[] 0)).heap.size = w.heap.size + 1 := World.size_alloc _ _
  have B0 : Hid (Below w.heap.size w ((w.alloc (.map #[] 0)).alloc (.cells #[.int .i64 0, .int .i64 0, .int .u8 0, .int .u8 0, .int .u8 0, .int .u8 0, .int .u8 0, .int .u8 0, .int .u8 0, .int .u8 0, .int .u8 0, .int .u8 0, .int .u8 0, .int .u8 0, .int .u8 0, .int .u8 0, .int .u8 0, .int .u8 0, .int .u8 0, .int .u8 0, .int .u8 0, .int .u8 0, .int .u8 0, .int .u8 0, .int .u8 0, .int .u8 0, .int .u8 0, .int .u8 0, .int .u8 0, .int .u8 0, .int .u8 0, .int .u8 0, .int .u8 0, .map (some w.heap.size), .slice none 0 0] 56))) := ((Below.refl _ _).alloc (Nat.le_refl _) _).alloc (by rw [zs]; omega) _
  have S0 : Hid (SM ((w.alloc (.map #[] 0)).alloc (.cells #[.int .i64 0, .int .i64 0, .int .u8 0, .int .u8 0, .int .u8 0, .int .u8 0, .int .u8 0, .int .u8 0, .int .u8 0, .int .u8 0, .int .u8 0, .int .u8 0, .int .u8 0, .int .u8 0, .int .u8 0, .int .u8 0, .int .u8 0, .int .u8 0, .int .u8 0, .int .u8 0, .int .u8 0, .int .u8 0, .int .u8 0, .int .u8 0, .int .u8 0, .int .u8 0, .int .u8 0, .int .u8 0, .int .u8 0, .int .u8 0, .int .u8 0, .int .u8 0, .int .u8 0, .map (some w.heap.size), .slice none 0 0] 56)) (w.heap.size + 1) 0 [] w.heap.size 0 [] [] (.slice none 0 0)) := by
    refine SM.new (by have := heap_alloc_new (w.alloc (.map #[] 0)) (.cells #[.int .i64 0, .int .i64 0, .int .u8 0, .int .u8 0, .int .u8 0, .int .u8 0, .int .u8 0, .int .u8 0, .int .u8 0, .int .u8 0, .int .u8 0, .int .u8 0, .int .u8 0, .int .u8 0, .int .u8 0, .int .u8 0, .int .u8 0, .int .u8 0, .int .u8 0, .int .u8 0, .int .u8 0, .int .u8 0, .int .u8 0, .int .u8 0, .int .u8 0, .int .u8 0, .int .u8 0, .int .u8 0, .int .u8 0, .int .u8 0, .int .u8 0, .int .u8 0, .int .u8 0, .map (some w.heap.size), .slice none 0 0] 56); rw [zs] at this; exact this) ((SetM.made w).same ?_)
    exact heap_alloc_old _ _ (by rw [zs]; omega)
  clear hmm
  obtain ⟨M, hM⟩ : ∃ M, w.heap.size = M := ⟨_, rfl⟩
  have HM : Hid (w.heap.size = M) := hM
  rw [hM] at S0 B0 ⊢
  clear hM zs
  generalize ((w.alloc (.map #[] 0)).alloc _) = w0 at *
  go_loopw [13] (fun v W => ∃ (j : Nat) (S : List (List UInt8)), j ≤ hs.length ∧ v = .int .i64 (j : Int) ∧ (∀ s ∈ hs.take j, hsh s = 0) ∧ SM W (M + 1) 0 [] M j S [] (.slice none 0 0) ∧ (∀ h, h ∈ S ↔ ∃ s ∈ hs.take j, s.data.toList = h) ∧ Below M w W) (fun v _ => hs.length - (intOf v).toNat)
  case atStart => exact ⟨0, [], Nat.zero_le _, rfl, by simp, S0.out, by simp, B0.out⟩
  case round =>
    obtain ⟨j, S, hj, rfl, hok, hS, hm, hB⟩ := hrel
    have HSJ : Hid _ := hS
    have HBJ : Hid _ := hB
    have HOK : Hid _ := hok
    have HMJ : Hid _ := hm
    clear hS hB hok hm S0 B0
    by_cases hlt : j < hs.length
    · obtain ⟨s, hs0⟩ : ∃ s, hs[j]? = some s := ⟨_, List.getElem?_eq_getElem hlt⟩
      obtain ⟨a, rfl, ha, hc⟩ := HC.out j s hs0
      have hcw : wr.cell? (a.add j) = some (.string s) := by
        refine (HBJ.out.cell (p := a.add j) ?_).trans hc
        have : (a.add j).block = a.block := by unfold Addr.add; split <;> rfl
        rw [this, ← HM.out]; exact ha
      go_wp2_with fail
      refine (ckH_any s wr).mono ?_
      rintro e w2 ⟨rfl, rfl⟩
      have hmem : s ∈ hs := List.mem_of_getElem? hs0
      by_cases h0 : hsh s = 0
      · rw [h0]
        have hsz : s.size ≤ maxLen := by rw [(hshOk_of h0).1]; unfold maxLen; omega
        obtain ⟨w3, hup, st3, ht⟩ := HSJ.out.st.put (by unfold maxLen; omega) s hsz
        have c33 := HSJ.out.cm
        have S3 : Hid _ := HSJ.out.seek st3 ht.grown
        have B3 : Hid (Below M w w3) := HBJ.out.grown ht.grown (by have := HBJ.out.size; have := HM.out; omega) (fun k hk => by have := Option.some.inj hk; omega)
        clear st3 ht
        have htk : hs.take (j + 1) = hs.take j ++ [s] := by rw [List.take_add_one, hs0]; rfl
        have HTK : Hid _ := htk
        clear htk
        go_wp2
        go_roundw
        case rel =>
          refine ⟨j + 1, s.data.toList :: S, by omega, by go_num, fun q hq => ?_, S3.out, fun h => ?_, B3.out⟩
          · rw [HTK.out, List.mem_append, List.mem_singleton] at hq
            rcases hq with hq | rfl
            · exact HOK.out q hq
            · exact h0
          · rw [List.mem_cons, HMJ.out h, HTK.out]
            constructor
            · rintro (rfl | ⟨q, h1, h2⟩)
              · exact ⟨s, by simp, rfl⟩
              · exact ⟨q, by rw [List.mem_append]; exact .inl h1, h2⟩
            · rintro ⟨q, h1, h2⟩
              rw [List.mem_append, List.mem_singleton] at h1
              rcases h1 with h1 | rfl
              · exact .inr ⟨q, h1, h2⟩
              · exact .inl h2.symm
        case measure => simp [intOf]; omega
      · have h1 := hsh_two s h0
        rw [h1]
        go_wp2
        go_ret2
        exact ⟨by rw [HM.out]; exact HBJ.out, .inl ⟨⟨s, hmem, h0⟩, rfl⟩⟩
    · obtain rfl : j = hs.length := by omega
      go_wp2
      go_ret2
      have hall := HOK.out
      have hmm := HMJ.out
      rw [List.take_length] at hall hmm
      exact ⟨by rw [HM.out]; exact HBJ.out, .inr ⟨hall, M + 1, M, S, by rw [HM.out]; omega, Nat.le_of_eq HM.out, rfl, HSJ.out, hmm⟩⟩

end Sc
end Go.Proofs.YtojefckhefanhabDoor
/- depotlaw14's texts and ints, walked (own text of the verifier). -/
namespace Go.Proofs.YtojefckhefanhabDoor
open Go.RowKit
namespace Sc

/-- v is a slice of these texts. -/
def RT (w : World) (B : Nat) (v : Value) (L : List (List UInt8)) : Prop := ∃ x c, v = .slice x L.length c ∧ ∀ i t, L[i]? = some t → ∃ b o, x = some ⟨b, o, none⟩ ∧ b < B ∧ w.cell? ⟨b, o + i, none⟩ = some (.string (ba t))
/-- v is a slice of these numbers. -/
def RI (w : World) (B : Nat) (v : Value) (L : List Nat) : Prop := ∃ x c, v = .slice x L.length c ∧ ∀ i t, L[i]? = some t → ∃ b o, x = some ⟨b, o, none⟩ ∧ b < B ∧ w.cell? ⟨b, o + i, none⟩ = some (.int .i64 ((t : Nat) : Int))
theorem RT.below {w w' : World} {B C : Nat} {v : Value} {L : List (List UInt8)} (h : RT w B v L) (b : Below C w w') (hB : B ≤ C) : RT w' B v L := by
  obtain ⟨x, c, e, h⟩ := h
  refine ⟨x, c, e, fun i t ht => ?_⟩
  obtain ⟨g, o, e1, e2, e3⟩ := h i t ht
  exact ⟨g, o, e1, e2, (b.cell (p := ⟨g, o + i, none⟩) (by show g < C; omega)).trans e3⟩
theorem RI.below {w w' : World} {B C : Nat} {v : Value} {L : List Nat} (h : RI w B v L) (b : Below C w w') (hB : B ≤ C) : RI w' B v L := by
  obtain ⟨x, c, e, h⟩ := h
  refine ⟨x, c, e, fun i t ht => ?_⟩
  obtain ⟨g, o, e1, e2, e3⟩ := h i t ht
  exact ⟨g, o, e1, e2, (b.cell (p := ⟨g, o + i, none⟩) (by show g < C; omega)).trans e3⟩
/-- A row of numbers of one's own. -/
theorem ri_own {w : World} {B : Nat} {v : Value} {L : List Nat} (h : w.ownsRow B 3 1 v L.length (pv_ L)) : RI w w.heap.size v L := by
  have h0 := h
  rcases h.2 with ⟨rfl, e0⟩ | ⟨b, cap, cur, rfl, hBb, hb, h1, _, h3, h4⟩
  · refine ⟨none, 0, by rw [e0], fun i t ht => ?_⟩
    have := (List.getElem?_eq_some_iff.1 ht).1
    omega
  · refine ⟨some ⟨b, 0, none⟩, cap, rfl, fun i t ht => ⟨b, 0, rfl, (Array.getElem?_eq_some_iff.1 hb).1, ?_⟩⟩
    rw [Nat.zero_add]
    have := World.ownsRow.cells (g := b) h0 rfl i (.int .i64 (t : Int)) (by unfold pv_; rw [List.getElem?_map, ht]; rfl)
    rw [Addr.add_lit, Nat.zero_add] at this
    exact this

set_option maxHeartbeats 2000000 in
theorem ints_any (B C : Nat) (v u : Value) (L M : List Nat) (w : World) (hv : RI w B v L) (hu : RI w C u M) (_hl : L.length ≤ 1073741824) (hm : M.length ≤ 1073741824) :
    Calls Tryd.prog 7 #[v, u] w fun e w' => e = .returned (.bool (decide (L = M))) ∧ ∃ q, w' = w.drewN q := by
  obtain ⟨x, c, rfl, hx⟩ := hv
  obtain ⟨y, d, rfl, hy⟩ := hu
  generalize hE : decide (L = M) = E
  have HX : Hid (∀ i t, L[i]? = some t → ∃ b o, x = some ⟨b, o, none⟩ ∧ b < B ∧ w.cell? ⟨b, o + i, none⟩ = some (.int .i64 ((t : Nat) : Int))) := hx
  have HY : Hid (∀ i t, M[i]? = some t → ∃ b o, y = some ⟨b, o, none⟩ ∧ b < C ∧ w.cell? ⟨b, o + i, none⟩ = some (.int .i64 ((t : Nat) : Int))) := hy
  have HE : Hid (decide (L = M) = E) := hE
  clear hx hy hE
  by_cases hnm : L.length = M.length
  · have hee : ((L.length : Int) != (M.length : Int)) = false := by rw [hnm]; simp
    have Hnm : Hid (L.length = M.length) := hnm
    clear hnm
    go_enter Tryd.func7, Tryd.ntmps7
    go_wp2_with fail
    go_loopg [5, 13] L.length (fun gk u5 iv wr => ∃ k : Nat, gk + k = L.length ∧ iv = .int .i64 (k : Int) ∧ Hid (∀ i, i < k → L[i]? = M[i]?) ∧ Hid (∃ q, wr = w.drewN q))
    case atStart => exact ⟨0, rfl, rfl, fun i hi => absurd hi (by omega), 0, rfl⟩
    case round =>
      obtain ⟨k, hgk, rfl, hA, hq⟩ := hrel
      obtain ⟨q, hqq⟩ := hq.out
      subst hqq
      clear hq
      by_cases hk : k < L.length
      · obtain ⟨t, ht⟩ : ∃ t, L[k]? = some t := ⟨_, List.getElem?_eq_getElem hk⟩
        obtain ⟨s, hs⟩ : ∃ s, M[k]? = some s := ⟨_, List.getElem?_eq_getElem (by have := Hnm.out; omega)⟩
        obtain ⟨b1, o1, rfl, -, c1⟩ := HX.out k t ht
        obtain ⟨b2, o2, rfl, -, c2⟩ := HY.out k s hs
        have d1 : (w.drewN q).cell? ⟨b1, o1 + k, none⟩ = some (.int .i64 ((t : Nat) : Int)) := c1
        have d2 : (w.drewN q).cell? ⟨b2, o2 + k, none⟩ = some (.int .i64 ((s : Nat) : Int)) := c2
        have hkm : k < M.length := by have := Hnm.out; omega
        have hk' : (k : Int) < (L.length : Int) := by omega
        have hkm' : (k : Int) < (M.length : Int) := by omega
        by_cases hts : t = s
        · subst hts
          have hA2 : Hid (∀ i, i < k + 1 → L[i]? = M[i]?) := fun i hi => by
            by_cases e : i = k
            · rw [e, ht, hs]
            · exact hA.out i (by omega)
          have he : (((t : Nat) : Int) != ((t : Nat) : Int)) = false := by simp
          clear ht hs
          go_wp2_with fail
          go_quiet (fail)
          generalize hw9 : (w.drewN q).drewN nq = w9
          have HW : Hid (∃ q, w9 = w.drewN q) := ⟨q + nq, by rw [← hw9, World.drewN_drewN]⟩
          clear hw9
          go_wp2
          go_roundg (gk - 1)
          case measure => omega
          case rel => exact ⟨k + 1, by omega, by go_num, hA2, HW⟩
        · have he : (((t : Nat) : Int) == ((s : Nat) : Int)) = false := by rw [beq_eq_false_iff_ne]; omega
          have HF : Hid (E = false) := by
            unfold Hid
            rw [← HE.out]
            refine decide_eq_false (fun e => hts ?_)
            rw [e, hs] at ht
            injection ht with ht
            exact ht.symm
          clear ht hs
          go_wp2_with fail
          go_quiet (fail)
          generalize hw9 : (w.drewN q).drewN nq = w9
          have HW : Hid (∃ q, w9 = w.drewN q) := ⟨q + nq, by rw [← hw9, World.drewN_drewN]⟩
          clear hw9
          go_wp2
          try rw [Exit.noGoto_ret]
          go_ret
          exact ⟨by rw [HF.out]; rfl, HW.out⟩
      · have hk' : ¬ (k : Int) < (L.length : Int) := by omega
        have HF : Hid (E = true) := by
          unfold Hid
          rw [← HE.out]
          refine decide_eq_true (List.ext_getElem? (fun i => ?_))
          by_cases hi : i < k
          · exact hA.out i hi
          · rw [List.getElem?_eq_none (by omega), List.getElem?_eq_none (by have := Hnm.out; omega)]
        go_wp2
        go_ret
        exact ⟨by rw [HF.out]; rfl, _, rfl⟩
  · have hee : ((L.length : Int) != (M.length : Int)) = true := by rw [bne_iff_ne]; omega
    have HF : Hid (E = false) := by
      unfold Hid
      rw [← HE.out]
      exact decide_eq_false (fun e => hnm (by rw [e]))
    go_enter Tryd.func7, Tryd.ntmps7
    go_wp2
    try rw [Exit.noGoto_ret]
    go_ret
    exact ⟨by rw [HF.out]; rfl, 0, rfl⟩

end Sc
end Go.Proofs.YtojefckhefanhabDoor
/- depotref14's At and Within, walked (own text of the verifier). -/
namespace Go.Proofs.YtojefckhefanhabDoor
open Go.RowKit
namespace Sc

theorem ext_win (x : ByteArray) (k : Nat) : (x.extract k (k + 32)).toList = win x.data.toList k := by
  rw [ByteArray.toList_eq, ByteArray.data_extract, Array.toList_extract]
  unfold win
  simp [List.extract]
theorem size_list (x : ByteArray) : x.data.toList.length = x.size := by rw [Array.length_toList]; rfl

end Sc
end Go.Proofs.YtojefckhefanhabDoor
/- depotref14's Wanted, walked (own text of the verifier). -/
namespace Go.Proofs.YtojefckhefanhabDoor
open Go.RowKit
namespace Sc

end Sc
end Go.Proofs.YtojefckhefanhabDoor
/- depotref14's Rewrite, walked (own text of the verifier). -/
namespace Go.Proofs.YtojefckhefanhabDoor
open Go.RowKit
namespace Sc

theorem app_int (W : World) (B : Nat) (v : Value) (Ps : List Nat) (m : Nat) (hr : W.ownsRow B 3 1 v Ps.length (pv_ Ps)) (hB : B ≤ W.heap.size) (hl : Ps.length ≤ 1099511627776) :
    ∃ v' W2, (Builtin.append_ #[25, 25] 25 #[v, .slice (some ⟨W.heap.size, 0, none⟩) 1 1]).run Tryd.prog (W.alloc (.cells #[.int .i64 (m : Int)] 3)) = .ok v' W2 ∧ W2.ownsRow B 3 1 v' (Ps ++ [m]).length (pv_ (Ps ++ [m])) ∧ W.grownBy W2 v.ownBlock := by
  obtain ⟨i0, hi, hz0, hz1, hz2⟩ := info_parts info3
  obtain ⟨v', w2, h1, h2, h3, _, _⟩ := run_append_own_at (P := Tryd.prog) (W.alloc (.cells #[.int .i64 (m : Int)] 3)) B 25 25 3 i0 (.int .i64 0) 1 8 und41 hi hz0 hz1 hz2 rfl (by decide) v Ps.length (pv_ Ps) (hr.alloc _) ⟨W.heap.size, 0, none⟩ 1 1 [.int .i64 (m : Int)] rfl (fun j u hj =>
      match j, hj with
      | 0, hj => by simp at hj; subst hj; exact (World.cell?_alloc_new W _ _ 0).trans rfl) (by intro u hu; simp at hu; subst hu; rfl) (by unfold maxLen; omega) (by omega) (by rw [World.size_alloc]; omega)
  refine ⟨v', w2, h1, ?_, (World.grownBy_alloc W _ _).trans h3⟩
  rw [List.length_append, show pv_ (Ps ++ [m]) = pv_ Ps ++ [.int .i64 (m : Int)] by unfold pv_; simp]
  exact h2
theorem app_byte (W : World) (B : Nat) (v : Value) (l : List UInt8) (b : UInt8) (hr : W.ownsRow B 5 1 v l.length (bv l)) (hB : B ≤ W.heap.size) (hl : l.length ≤ 1099511627776) :
    ∃ v' W2, (Builtin.append_ #[38, 38] 38 #[v, .slice (some ⟨W.heap.size, 0, none⟩) 1 1]).run Tryd.prog (W.alloc (.cells #[.int .u8 (b.toNat : Int)] 5)) = .ok v' W2 ∧ W2.ownsRow B 5 1 v' (l ++ [b]).length (bv (l ++ [b])) ∧ W.grownBy W2 v.ownBlock := by
  obtain ⟨i0, hi, hz0, hz1, hz2⟩ := info_parts info5
  obtain ⟨v', w2, h1, h2, h3, _, _⟩ := run_append_own_at (P := Tryd.prog) (W.alloc (.cells #[.int .u8 (b.toNat : Int)] 5)) B 38 38 5 i0 (.int .u8 0) 1 1 und30 hi hz0 hz1 hz2 rfl (by decide) v l.length (bv l) (hr.alloc _) ⟨W.heap.size, 0, none⟩ 1 1 [.int .u8 (b.toNat : Int)] rfl (fun j u hj =>
      match j, hj with
      | 0, hj => by simp at hj; subst hj; exact (World.cell?_alloc_new W _ _ 0).trans rfl) (by intro u hu; simp at hu; subst hu; rfl) (by unfold maxLen; omega) (by omega) (by rw [World.size_alloc]; omega)
  refine ⟨v', w2, h1, ?_, (World.grownBy_alloc W _ _).trans h3⟩
  rw [List.length_append, show bv (l ++ [b]) = bv l ++ [.int .u8 (b.toNat : Int)] by unfold bv; simp]
  exact h2
theorem bv_cells (l : List UInt8) : Lib.byteCells l = bv l := by simp [Lib.byteCells, bv]
theorem app_str (W : World) (B : Nat) (v : Value) (l : List UInt8) (t : ByteArray) (hr : W.ownsRow B 5 1 v l.length (bv l)) (hB : B ≤ W.heap.size) (hl : l.length + t.size ≤ 1099511627776) :
    ∃ v' W2, (Builtin.append_ #[38, 9] 38 #[v, .string t]).run Tryd.prog W = .ok v' W2 ∧ W2.ownsRow B 5 1 v' (l ++ t.data.toList).length (bv (l ++ t.data.toList)) ∧ W.grownBy W2 v.ownBlock := by
  obtain ⟨i0, hi, hz0, hz1, hz2⟩ := info_parts info5
  obtain ⟨v', w2, h1, h2, h3, -⟩ := Lib.run_append_own_string (P := Tryd.prog) W B 38 9 38 5 i0 und30 Tryd.underlying9 hi hz0 hz1 hz2 v l.length (bv l) hr t (by unfold maxLen; omega) (by omega) hB
  refine ⟨v', w2, h1, ?_, h3⟩
  have e : bv l ++ Lib.strCells t = bv (l ++ t.data.toList) := by
    rw [Lib.strCells_eq, ← bv_cells, ← bv_cells, ← bytes_app]
  rw [← e, List.length_append, size_list]
  exact h2
theorem conv_row (W : World) (B : Nat) (v : Value) (l : List UInt8) (hr : W.ownsRow B 5 1 v l.length (bv l)) : (convert 38 9 v).run Tryd.prog W = .ok (.string (ba l)) W := by
  have h0 := hr
  rcases hr.2 with ⟨rfl, e0⟩ | ⟨b, cap, cur, rfl, hBb, hb, h1, _, h3, h4⟩
  · have e : l = [] := List.eq_nil_of_length_eq_zero e0
    rw [e]
    exact run_convert_bytes_nil W 38 5 Tryd.underlying38 Tryd.underlying5 0 0 9 Tryd.underlying9
  · exact run_convert_bytes_back (P := Tryd.prog) W 38 9 5 ⟨b, 0, none⟩ cap l und30 Tryd.underlying5 Tryd.underlying9 (fun j hj => World.ownsRow.cells (g := b) h0 rfl j _ (by unfold bv; rw [List.getElem?_map, List.getElem?_eq_getElem hj]; rfl))
theorem row_apart {W : World} {B C : Nat} {v u : Value} {n m : Nat} {xs ys : List Value} (h : W.ownsRow B 5 1 v n xs) (k : W.ownsRow C 3 1 u m ys) : ∀ b, v.ownBlock = some b → u.ownBlock ≠ some b := fun b hb hu => by
  obtain ⟨_, h1⟩ := row_cells h b hb
  obtain ⟨_, _, h2⟩ := row_i64 k b hu
  rw [h1] at h2
  injection h2 with h2
  injection h2 with _ h2
  exact absurd h2 (by decide)
theorem row_gb {W W' : World} {B : Nat} {e : TypeId} {q : Nat} {v : Value} {n : Nat} {xs : List Value} {r : Option Nat} (h : W.ownsRow B e q v n xs) (G : W.grownBy W' r) (hr : ∀ b, r = some b → v.ownBlock ≠ some b) : W'.ownsRow B e q v n xs :=
  row_same h fun k hk => G.block k (World.ownsRow.lt h k hk).2 (fun e => hr k e.symm hk)

end Sc
end Go.Proofs.YtojefckhefanhabDoor
/- Rewriting, plain: what stands between the places (own text of the verifier). -/
namespace Go.Proofs.YtojefckhefanhabDoor
namespace Sc

theorem pl_nil_rw {f : List UInt8} (t : List UInt8) (hf : f.length = 32) : ∀ (n : Nat) (l : List UInt8), l.length ≤ n → ∀ o, pl f o l = [] → rw' f t l = l ∧ ¬ occ f l := by
  intro n
  induction n with
  | zero =>
    intro l hl o _
    obtain rfl : l = [] := List.eq_nil_of_length_eq_zero (by omega)
    refine ⟨rw_short (by simp), fun ⟨p, hp⟩ => ?_⟩
    have := win_full (l := ([] : List UInt8)) (p := p) (by rw [hp]; exact hf)
    simp at this
  | succ n ih =>
    intro l hl o h
    by_cases h0 : l.length < 32
    · refine ⟨rw_short h0, fun ⟨p, hp⟩ => ?_⟩
      have := win_full (l := l) (p := p) (by rw [hp]; exact hf)
      omega
    · by_cases hw : l.take 32 = f
      · rw [pl_hit hw (by omega)] at h
        cases h
      · rw [pl_miss hw hf (by omega)] at h
        obtain ⟨h1, h2⟩ := ih (l.drop 1) (by rw [List.length_drop]; omega) (o + 1) h
        refine ⟨by rw [rw_miss hw hf (by omega), h1, List.take_append_drop], ?_⟩
        rintro ⟨p, hp⟩
        match p, hp with
        | 0, hp => exact hw (by rw [← hp]; unfold win; rw [List.drop_zero])
        | p + 1, hp => exact h2 ⟨p, by rw [win_drop, Nat.add_comm]; exact hp⟩
theorem pl_cons_rw {f : List UInt8} (t : List UInt8) (hf : f.length = 32) : ∀ (n : Nat) (l : List UInt8), l.length ≤ n → ∀ o p rest, pl f o l = p :: rest → ∃ q, p = o + q ∧ q + 32 ≤ l.length ∧ win l q = f ∧ rw' f t l = l.take q ++ (t ++ rw' f t (l.drop (q + 32))) ∧ pl f (p + 32) (l.drop (q + 32)) = rest := by
  intro n
  induction n with
  | zero =>
    intro l hl o p rest h
    rw [pl_short (by omega)] at h
    cases h
  | succ n ih =>
    intro l hl o p rest h
    by_cases h0 : l.length < 32
    · rw [pl_short h0] at h
      cases h
    · by_cases hw : l.take 32 = f
      · rw [pl_hit hw (by omega)] at h
        injection h with e1 e2
        refine ⟨0, e1.symm, by omega, by unfold win; rw [List.drop_zero]; exact hw, ?_, by rw [← e1, Nat.zero_add]; exact e2⟩
        rw [rw_hit hw (by omega), List.take_zero, List.nil_append, Nat.zero_add]
      · rw [pl_miss hw hf (by omega)] at h
        obtain ⟨q, h1, h2, h3, h4, h5⟩ := ih (l.drop 1) (by rw [List.length_drop]; omega) (o + 1) p rest h
        rw [List.length_drop] at h2
        refine ⟨q + 1, by omega, by omega, by rw [win_drop, Nat.add_comm] at h3; exact h3, ?_, ?_⟩
        · rw [rw_miss hw hf (by omega), h4, List.drop_drop, show 1 + (q + 32) = q + 1 + 32 by omega, ← List.append_assoc, Nat.add_comm q 1, List.take_add]
        · rw [List.drop_drop, show 1 + (q + 32) = q + 1 + 32 by omega] at h5
          exact h5
theorem pl_occ {f : List UInt8} (hf : f.length = 32) (l : List UInt8) (o : Nat) : pl f o l ≠ [] ↔ occ f l := by
  constructor
  · intro h
    match hp : pl f o l, h with
    | p :: rest, _ =>
      obtain ⟨q, _, _, h3, _⟩ := pl_cons_rw [] hf _ l (Nat.le_refl _) o p rest hp
      exact ⟨q, h3⟩
  · intro h e
    exact (pl_nil_rw [] hf _ l (Nat.le_refl _) o e).2 h
/-- Between the places: the texts as slices. -/
theorem between {l g t f : List UInt8} {A q : Nat} (_hA : A ≤ l.length) (hq : q + 32 ≤ l.length - A) (ht : t.length = 32) (hg : g.drop A = (l.drop A).take q ++ (t ++ rw' f t (l.drop (A + (q + 32))))) :
    (g.take (A + q)).drop A = (l.take (A + q)).drop A ∧ win g (A + q) = t ∧ g.drop (A + q + 32) = rw' f t (l.drop (A + q + 32)) := by
  have hlq : ((l.drop A).take q).length = q := by rw [List.length_take, List.length_drop]; omega
  refine ⟨?_, ?_, ?_⟩
  · rw [List.drop_take, List.drop_take, hg, Nat.add_sub_cancel_left, List.take_append_of_le_length (by omega), List.take_of_length_le (by omega)]
  · unfold win
    rw [← List.drop_drop, hg, List.drop_append_of_le_length (by omega), List.drop_of_length_le (by omega), List.nil_append, List.take_append_of_le_length (by omega), List.take_of_length_le (by omega)]
  · rw [Nat.add_assoc, ← List.drop_drop, hg, ← List.append_assoc, List.drop_append_of_le_length (by rw [List.length_append]; omega), List.drop_of_length_le (by rw [List.length_append]; omega), List.nil_append]
end Sc
end Go.Proofs.YtojefckhefanhabDoor
/- slices.Sort of no texts, walked (own text of the verifier). -/
namespace Go.Proofs.YtojefckhefanhabDoor
open Go.RowKit
namespace Sc

set_option maxRecDepth 100000 in
set_option maxHeartbeats 4000000 in
theorem len64_0 (w : World) : Calls Tryd.prog 55 #[.int .u64 0] w fun e w' => e = .returned (.int .i64 0) ∧ w' = w := by
  go_enter Tryd.func55, Tryd.ntmps55
  go_wp2
  go_ret
  refine ⟨?_, rfl⟩
  kernel_rfl
set_option maxRecDepth 100000 in
set_option maxHeartbeats 4000000 in
theorem len_0 (w : World) : Calls Tryd.prog 40 #[.int .u64 0] w fun e w' => e = .returned (.int .i64 0) ∧ w' = w := by
  go_enter Tryd.func40, Tryd.ntmps40
  go_wp2_with fail
  with_reducible refine (len64_0 _).mono ?_
  rintro e w' ⟨rfl, rfl⟩
  go_wp2
  go_ret
  exact ⟨rfl, rfl⟩
set_option maxRecDepth 100000 in
set_option maxHeartbeats 4000000 in
theorem ins_0 (w : World) : Calls Tryd.prog 45 #[.slice none 0 0, .int .i64 0, .int .i64 0] w fun e w' => e = .returned (.tuple #[]) ∧ w' = w := by
  go_enter Tryd.func45, Tryd.ntmps45
  go_wp2_with fail
  refine wp_loop_once ?_
  go_wp2
  go_end0
  exact ⟨rfl, rfl⟩
set_option maxRecDepth 100000 in
set_option maxHeartbeats 4000000 in
theorem pdq_0 (w : World) (L : Value) : Calls Tryd.prog 39 #[.slice none 0 0, .int .i64 0, .int .i64 0, L] w fun e w' => e = .returned (.tuple #[]) ∧ w' = w := by
  go_enter Tryd.func39, Tryd.ntmps39
  go_wp2_with fail
  refine wp_loop_once ?_
  go_wp2_with fail
  with_reducible refine (ins_0 _).mono ?_
  rintro e w' ⟨rfl, rfl⟩
  go_wp2
  exact bodyPost_ret (v := .tuple #[]) (by simp [results, Tryd.results39]) rfl ⟨rfl, rfl⟩
set_option maxRecDepth 100000 in
set_option maxHeartbeats 4000000 in
theorem sort_nil (w : World) : Calls Tryd.prog 26 #[.slice none 0 0] w fun e w' => e = .returned (.tuple #[]) ∧ w' = w := by
  go_enter Tryd.func26, Tryd.ntmps26
  go_wp2_with fail
  with_reducible refine (len_0 _).mono ?_
  rintro e w' ⟨rfl, rfl⟩
  go_wp2_with fail
  with_reducible refine (pdq_0 _ _).mono ?_
  rintro e w' ⟨rfl, rfl⟩
  go_wp2
  go_end0
  exact ⟨rfl, rfl⟩

end Sc
end Go.Proofs.YtojefckhefanhabDoor
