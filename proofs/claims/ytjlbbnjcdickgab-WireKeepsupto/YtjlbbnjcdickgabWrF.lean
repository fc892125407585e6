/- The reader's Feed. -/
import Derived.Test.YtjlbbnjcdickgabWrB
import Derived.Deep.LoopGhost
namespace Go.Proofs.Ytjlbbnjcdickgab
open Go.RowKit

/-- An item's cells. -/
def itC (i : It) : List Value := [.bool i.isInt, .int .u64 (i.num : Int), .string (ba i.text)]
/-- v is a slice of these items, in memory from B on. -/
def OwnI (w : World) (B : Nat) (v : Value) (L : List It) : Prop := w.ownsRow B 41 3 v L.length (L.flatMap itC)
theorem OwnI.nil (w : World) (B : Nat) : OwnI w B (.slice none 0 0) [] := World.ownsRow_nil _ _ _ _
theorem OwnI.alloc {w : World} {B : Nat} {v : Value} {L : List It} (h : OwnI w B v L) (o : Obj) : OwnI (w.alloc o) B v L := World.ownsRow.alloc h o
theorem OwnI.lt {w : World} {B : Nat} {v : Value} {L : List It} (h : OwnI w B v L) : ∀ k, v.ownBlock = some k → B ≤ k ∧ k < w.heap.size := World.ownsRow.lt h
theorem OwnI.same {w w' : World} {B : Nat} {v : Value} {L : List It} (h : OwnI w B v L) (e : ∀ k, v.ownBlock = some k → w'.heap[k]? = w.heap[k]?) : OwnI w' B v L := by
  obtain ⟨hl, h | ⟨g, cap, cur, hv, hb, hg, hr⟩⟩ := h
  · exact ⟨hl, .inl h⟩
  · exact ⟨hl, .inr ⟨g, cap, cur, hv, hb, (e g (by rw [hv]; rfl)).trans hg, hr⟩⟩
theorem OwnI.mv {w w' : World} {B g : Nat} {v v1 v2 : Value} {L : List It} (h : OwnI w B v L) (m : Mv w w' g v1 v2) (hg : g < B) (ho : ∀ k, v.ownBlock = some k → v1.ownBlock ≠ some k) : OwnI w' B v L :=
  h.same (fun k hk => m.block k (h.lt k hk).2 (by have := (h.lt k hk).1; omega) (ho k hk))

/-- The slice at x holds u; its block isn't the reader's. -/
def PSl (w : World) (g : Nat) (v : Value) (x : Option Addr) (u : List UInt8) : Prop :=
  u = [] ∨ ∃ b o, x = some ⟨b, o, none⟩ ∧ b ≠ g ∧ v.ownBlock ≠ some b ∧ b < w.heap.size ∧ ∀ (j : Nat) (h : j < u.length), w.cell? ⟨b, o + j, none⟩ = some (.int .u8 ((u[j]'h).toNat : Int))

theorem Rd.grown {w w' : World} {g : Nat} {v : Value} {s : RS} {o : Option Nat} (h : Rd w g v s) (G : w.grownBy w' o) (hg : ∀ k, o = some k → k ≠ g) (hv : ∀ k, o = some k → v.ownBlock ≠ some k) : Rd w' g v s :=
  h.same G.size (G.block g h.lt (fun e => hg g e.symm rfl)) (fun k hk => G.block k (h.buf.lt k hk).2 (fun e => hv k e.symm hk))
theorem Mv.grown {a w w' : World} {g : Nat} {v v1 : Value} {o : Option Nat} (h : Mv a w g v v1) (G : w.grownBy w' o) (ho : ∀ k, o = some k → a.heap.size ≤ k) : Mv a w' g v v1 :=
  ⟨G.os.trans h.os, G.tape.trans h.tape, G.output.trans h.output, Nat.le_trans h.size G.size, fun k hk hg hv => (G.block k (Nat.lt_of_lt_of_le hk h.size) (fun e => by have := ho k e.symm; omega)).trans (h.block k hk hg hv), h.new⟩
/-- A byte put to the text. -/
theorem Rd.regrow {w w2 : World} {g : Nat} {v v' : Value} {s : RS} {b : UInt8} {o : Obj} (h : Rd w g v s) (G : (w.alloc o).grownBy w2 v.ownBlock) (B : Buf w2 0 v' (s.tx ++ [b]).length (fun j => .int .u8 (bt (ba (s.tx ++ [b])) j))) (hn : v'.ownBlock ≠ some g) : Rd (w2.setCell ⟨g, 9, none⟩ v') g v' (s.tput b) := by
  have eg : w2.heap[g]? = w.heap[g]? := (G.block g (by rw [World.size_alloc]; have := h.lt; omega) (Ne.symm h.ne)).trans (Below.heap_alloc w o g h.lt)
  have hc : ∀ j, w2.cell? ⟨g, j, none⟩ = w.cell? ⟨g, j, none⟩ := fun j => World.cell?_of_block (w := w) (w' := w2) (a := ⟨g, j, none⟩) eg
  have hd : ∀ j, j ≠ 9 → (w2.setCell ⟨g, 9, none⟩ v').cell? ⟨g, j, none⟩ = w.cell? ⟨g, j, none⟩ := fun j hj => (cell_other w2 g j 9 _ hj).trans (hc j)
  have hz := G.size
  rw [World.size_alloc] at hz
  refine ⟨(hd 0 (by decide)).trans h.c0, (hd 1 (by decide)).trans h.c1, (hd 2 (by decide)).trans h.c2, (hd 3 (by decide)).trans h.c3, (hd 4 (by decide)).trans h.c4, (hd 5 (by decide)).trans h.c5, (hd 6 (by decide)).trans h.c6, (hd 7 (by decide)).trans h.c7, (hd 8 (by decide)).trans h.c8, World.cell?_setCell_same _ _ _ ((hc 9).trans h.c9), fun j hj => ?_, by have := h.lt; simp; omega, B.same (by simp) (fun k hk => Below.heap_setCell w2 _ _ k (fun e => hn (by rw [hk, e]))), hn⟩
  rw [World.frozen?_setCell, World.frozen?_of_block (w := w) (w' := w2) (a := ⟨g, j, none⟩) eg]
  exact h.fr j hj
theorem Mv.regrow {w w2 : World} {g : Nat} {v v' : Value} {o : Obj} (G : (w.alloc o).grownBy w2 v.ownBlock) (N : ∀ k, v'.ownBlock = some k → v.ownBlock = some k ∨ k = w.heap.size + 1) : Mv w w2 g v v' := by
  have hz := G.size
  rw [World.size_alloc] at hz
  refine ⟨G.os, G.tape, G.output, by omega, fun k hk hg hv => (G.block k (by rw [World.size_alloc]; omega) (Ne.symm hv)).trans (Below.heap_alloc w o k hk), fun k hk => (N k hk).imp id (fun e => ?_)⟩
  omega

theorem cell_alloc2 (w : World) (o : Obj) (C : Array Value) (T : TypeId) (j : Nat) : ((w.alloc o).alloc (.cells C T)).cell? ⟨w.heap.size + 1, j, none⟩ = C[j]? := by
  rw [← World.size_alloc w o]
  exact World.cell?_alloc_new _ _ _ _

theorem or_word (x b t : Nat) (hx : x < 2 ^ (8 * t)) (hb : b < 256) (ht : t ≤ 7) : bits .or .u64 (x : Int) (IntKind.u64.wrap ((b : Int) * 2 ^ (8 * t))) = ((x + b * 2 ^ (8 * t) : Nat) : Int) := by
  have h1 : b * 2 ^ (8 * t) < 18446744073709551616 := by
    have e : 2 ^ (8 * t) ≤ 2 ^ 56 := Nat.pow_le_pow_right (by decide) (by omega)
    calc b * 2 ^ (8 * t) ≤ 255 * 2 ^ 56 := Nat.mul_le_mul (by omega) e
      _ < 18446744073709551616 := by decide
  have h0 : x < 18446744073709551616 := by
    have e : 2 ^ (8 * t) ≤ 2 ^ 56 := Nat.pow_le_pow_right (by decide) (by omega)
    exact Nat.lt_of_lt_of_le hx (Nat.le_trans e (by decide))
  have h2 : ((b : Int) * 2 ^ (8 * t)) = ((b * 2 ^ (8 * t) : Nat) : Int) := by push_cast; rfl
  have h3 : IntKind.u64.wrap ((b * 2 ^ (8 * t) : Nat) : Int) = ((b * 2 ^ (8 * t) : Nat) : Int) := by
    generalize b * 2 ^ (8 * t) = z at h1
    show (z : Int) % 18446744073709551616 = z
    omega
  rw [h2, h3, u64_or _ _ (by omega) (by omega) (by omega) (by omega), Int.toNat_natCast, Int.toNat_natCast]
  congr 1
  rw [Nat.mul_comm, Nat.or_comm, ← Nat.two_pow_add_eq_or_of_lt hx, Nat.add_comm]

theorem take_snoc (u : List UInt8) (k : Nat) (h : k < u.length) (s : RS) : s.run (u.take (k + 1)) = (s.run (u.take k)).step u[k] := by
  rw [List.take_succ_eq_append_getElem h, RS.run_append]
  rfl

theorem info_it : (Try.prog.info? 41).map (fun i => (i.zero, i.size, i.bytes)) = some (some (.agg #[.bool false, .int .u64 0, .string ByteArray.empty]), 3, 32) := by kernel_rfl

set_option maxHeartbeats 8000000 in
set_option maxRecDepth 8000 in
theorem feed_any (g : Nat) (v : Value) (s : RS) (x : Option Addr) (c : Nat) (u : List UInt8) (w : World) (R : Rd w g v s) (hI : s.off = true ∨ s.Inv) (hX : PSl w g v x u) (hb : s.tk + u.length ≤ 1073741824) :
    Calls Try.prog 12 #[.pointer (some ⟨g, 0, none⟩), .slice x u.length c] w fun e w' => ∃ v' r L, e = .returned r ∧ Rd w' g v' (s.run u) ∧ ((s.run u).off = true ∨ (s.run u).Inv) ∧ Mv w w' g v v' ∧ OwnI w' w.heap.size r L ∧ (s.run u).out = s.out ++ L ∧ (∀ k, r.ownBlock = some k → v'.ownBlock ≠ some k) := by
  have HR : Hid (Rd w g v s) := R
  have HX : Hid (PSl w g v x u) := hX
  have HI : Hid (s.off = true ∨ s.Inv) := hI
  have c1 := R.c1
  have c5 := R.c5
  clear hX R
  by_cases ho : s.off = true
  · have HE : Hid (s.run u = s) := RS.run_off s ho u
    by_cases hc : s.cl = true
    · rw [hc] at c5
      clear ho hI
      go_enter Try.func12, Try.ntmps12
      go_wp2
      go_step3
      go_wp2
      try rw [Exit.noGoto_ret]
      go_ret
      exact ⟨v, _, [], rfl, HE.out.symm ▸ HR.out, HE.out.symm ▸ HI.out, Mv.refl _ _ _, OwnI.nil _ _, by rw [HE.out, List.append_nil], fun k hk => by cases hk⟩
    · have hc' : s.cl = false := by simpa using hc
      have hd : ((s.code : Int) == 0) = false := by
        unfold RS.off at ho
        rw [hc'] at ho
        simp at ho ⊢
        omega
      rw [hc'] at c5
      clear ho hI hc hc'
      go_enter Try.func12, Try.ntmps12
      go_wp2
      go_step3
      go_wp2
      try rw [Exit.noGoto_ret]
      go_ret
      exact ⟨v, _, [], rfl, HE.out.symm ▸ HR.out, HE.out.symm ▸ HI.out, Mv.refl _ _ _, OwnI.nil _ _, by rw [HE.out, List.append_nil], fun k hk => by cases hk⟩
  · have hI2 : s.Inv := hI.resolve_left ho
    have HI2 : Hid s.Inv := hI2
    rw [hI2.cl] at c5
    rw [hI2.cd] at c1
    clear hI hI2 ho
    go_enter Try.func12, Try.ntmps12
    go_wp2
    go_step3
    go_wp2
    go_step3
    go_wp2
    go_loopg [5, 25] u.length (fun gk it ix wr => ∃ (k : Nat) (vk : Value) (L : List It), Hid (gk + k = u.length) ∧ ix = .int .i64 k ∧ Hid (Rd wr g vk (s.run (u.take k))) ∧ Hid (s.run (u.take k)).Inv ∧ Hid (Mv w wr g v vk) ∧ Hid (OwnI wr w.heap.size it L) ∧ Hid ((s.run (u.take k)).out = s.out ++ L) ∧ Hid (∀ k, it.ownBlock = some k → vk.ownBlock ≠ some k))
    case atStart => exact ⟨0, v, [], rfl, rfl, HR, HI2, Mv.refl _ _ _, OwnI.nil _ _, (List.append_nil _).symm, fun k hk => by cases hk⟩
    case round =>
      obtain ⟨k, vk, L, hgk, rfl, hR, hI, hM, hO, hL, hS⟩ := hrel
      by_cases hlt : k < u.length
      · obtain ⟨b, o, rfl, nb1, nb2, nb3, hcell⟩ := HX.out.resolve_left (fun e => by rw [e] at hlt; simp at hlt)
        have cb : wr.cell? ⟨b, o + k, none⟩ = some (.int .u8 ((u[k]'hlt).toNat : Int)) := (hM.out.cell b _ nb3 nb1 nb2).trans (hcell k hlt)
        have hnx : Hid (s.run (u.take (k + 1)) = (s.run (u.take k)).take (u[k]'hlt)) := (take_snoc u k hlt s).trans (hI.out.step _)
        have htk : Hid ((s.run (u.take k)).tk ≤ 1073741824 ∧ s.run u = (s.run (u.take (k + 1))).run (u.drop (k + 1))) := ⟨by have := RS.run_tk s (u.take k); rw [List.length_take] at this; omega, by rw [← RS.run_append, List.take_append_drop]⟩
        clear hcell c1 c5
        generalize hs1 : s.run (u.take k) = s1 at hR hI hL hnx htk
        clear hs1
        have HN : Hid (b ≠ g ∧ v.ownBlock ≠ some b ∧ b < w.heap.size) := ⟨nb1, nb2, nb3⟩
        clear nb1 nb2 nb3
        have hbb := (u[k]'hlt).toNat_lt
        have hbz : Hid ((u[k]'hlt).toNat = 0 → u[k]'hlt = 0) := fun h => UInt8.toNat_inj.1 h
        generalize u[k]'hlt = b0 at cb hnx hbb hbz
        have e0 := hR.out.c0
        have e6 := hR.out.c6
        have e7 := hR.out.c7
        have e8 := hR.out.c8
        have e9 := hR.out.c9
        have f0 := hR.out.fr 0 (by decide)
        have f7 := hR.out.fr 7 (by decide)
        have f8 := hR.out.fr 8 (by decide)
        have f9 := hR.out.fr 9 (by decide)
        have h4 := hI.out.ph4
        have hgl : g < w.heap.size := HR.out.lt
        have htk0 := htk.out.1
        have hLb : Hid (L.length ≤ 1073741824) := by
          have h1 := hI.out.ol
          rw [hL.out, List.length_append] at h1
          unfold Hid
          omega
        have hIT := hI.out.take b0
        by_cases p4 : s1.ph = 4
        · have hT : Hid (s1.take b0 = s1.fl 5 s1.tk) := if_pos p4
          rw [p4] at e6
          go_wp2_with fail
          refine (fail_any g vk (s1) 5 (s1.tk) _ (hR.out)).mono ?_
          rintro e w2 ⟨rfl, R2, M2⟩
          have hR2 : Hid (Rd w2 g (.slice none 0 0) ((s1).fl 5 (s1.tk))) := R2
          have hM2 : Hid (Mv wr w2 g vk (.slice none 0 0)) := M2
          have hU : Hid (s.run u = (s1).fl 5 (s1.tk)) := by unfold Hid; rw [htk.out.2, hnx.out, hT.out]; exact RS.run_off _ (RS.fl_off _ _ _ (by decide)) _
          clear R2 M2
          go_wp2
          try rw [Exit.noGoto_ret]
          go_ret
          exact ⟨.slice none 0 0, _, L, rfl, hU.out.symm ▸ hR2.out, .inl (by rw [hU.out]; exact RS.fl_off _ _ _ (by decide)), hM.out.trans hM2.out, hO.out.mv hM2.out HR.out.lt hS.out, by rw [hU.out]; exact hL.out, fun k _ h => by cases h⟩
        by_cases p3 : s1.ph = 3
        · by_cases hz : b0 = 0
          · have hTA : Hid (s1.take b0 = s1.adv) := by
              unfold Hid RS.take
              rw [if_neg p4, if_pos p3, if_pos hz]
            have hIA : Hid s1.adv.Inv := by
              have h1 := hIT
              rw [hTA.out] at h1
              exact h1.resolve_left (fun h => by rw [RS.adv_off, hI.out.off] at h; cases h)
            clear hIT
            have cb0 : wr.cell? ⟨b, o + k, none⟩ = some (.int .u8 0) := by rw [hz] at cb; exact cb
            clear cb
            rw [p3] at e6
            obtain ⟨m, hm⟩ : ∃ m, Hid (s1.lack = m + 1) := ⟨s1.lack - 1, by have := (hI.out.wp p3).1; unfold Hid; omega⟩
            have hmb : m ≤ 7 := by have := (hI.out.wp p3).2; have := hm.out; omega
            rw [hm.out] at e7
            have R2 : Hid (Rd wr g vk s1) := hR
            have M2 := hM
            have O2 := hO
            have S2 := hS
            have hL2 := hL
            generalize vk = vk2 at R2 M2 S2 e9
            by_cases hm0 : 0 < m
            · have hT : Hid (s1.take b0 = (s1).tick) := hTA.out.trans (if_pos (show 0 < (s1).lack - 1 by rw [hm.out]; omega))
              have hI5 : Hid (s1).tick.Inv := (hTA.out.symm.trans hT.out) ▸ hIA.out
              go_wp2_with fail
              have R5 : Rd ((wr.setCell ⟨g, 0, none⟩ (.int .i64 ((s1.tk : Int) + 1))).setCell ⟨g, 7, none⟩ (.int .i64 (m : Int))) g vk2 (s1).tick := ((R2.out.set0 (s1.tk + 1) rfl).set7 m rfl).cast (by unfold RS.tick; rw [hm.out]; rfl)
              have M5 : Mv w ((wr.setCell ⟨g, 0, none⟩ (.int .i64 ((s1.tk : Int) + 1))).setCell ⟨g, 7, none⟩ (.int .i64 (m : Int))) g v vk2 := (M2.out.store _ _).store _ _
              have O5 : OwnI ((wr.setCell ⟨g, 0, none⟩ (.int .i64 ((s1.tk : Int) + 1))).setCell ⟨g, 7, none⟩ (.int .i64 (m : Int))) w.heap.size u5 L := O2.out.mv (((Mv.refl _ g vk2).store _ _).store _ _) HR.out.lt S2.out
              have L5 := hL2
              have S5 := S2
              go_roundg (gk - 1)
              case measure => have := hgk.out; omega
              case rel => exact ⟨k + 1, _, _, by have := hgk.out; unfold Hid; omega, by go_num, (hnx.out.trans hT.out).symm ▸ R5, (hnx.out.trans hT.out).symm ▸ hI5.out, M5, O5, (hnx.out.trans hT.out).symm ▸ L5, S5⟩
            have hT0 : Hid (s1.take b0 = (s1).tick.fin) := hTA.out.trans (if_neg (show ¬ 0 < (s1).lack - 1 by rw [hm.out]; omega))
            obtain rfl : m = 0 := by omega
            have hI5 : Hid (s1).tick.fin.Inv := (hTA.out.symm.trans hT0.out) ▸ hIA.out
            have R3 : Hid (Rd ((wr.setCell ⟨g, 0, none⟩ (.int .i64 ((s1.tk : Int) + 1))).setCell ⟨g, 7, none⟩ (.int .i64 0)) g vk2 (s1).tick) := ((R2.out.set0 (s1.tk + 1) rfl).set7 0 rfl).cast (by unfold RS.tick; rw [hm.out]; rfl)
            have M3 : Hid (Mv w ((wr.setCell ⟨g, 0, none⟩ (.int .i64 ((s1.tk : Int) + 1))).setCell ⟨g, 7, none⟩ (.int .i64 0)) g v vk2) := (M2.out.store _ _).store _ _
            have O3 : Hid (OwnI ((wr.setCell ⟨g, 0, none⟩ (.int .i64 ((s1.tk : Int) + 1))).setCell ⟨g, 7, none⟩ (.int .i64 0)) w.heap.size u5 L) := O2.out.mv (((Mv.refl _ g vk2).store _ _).store _ _) HR.out.lt S2.out
            have hT : Hid (s1.take b0 = ((s1).tick.push ⟨false, 0, s1.tx⟩).beg) := hT0.out.trans (RS.fin_t _ (by show s1.ph ≠ 0; omega) (fun h => absurd (show s1.ph = 1 from h) (by omega)) (fun h => absurd (show s1.ph = 2 from h) (by omega)))
            have hI6 : Hid (((s1).tick.push ⟨false, 0, s1.tx⟩).beg).Inv := (hT0.out.symm.trans hT.out) ▸ hI5.out
            go_wp2_with fail
            refine (finish_txt g vk2 (s1).tick _ R3.out (by show s1.ph ≤ 3; omega) (by show s1.ph ≠ 0; omega) (fun h => absurd (show s1.ph = 1 from h) (by omega)) (fun h => absurd (show s1.ph = 2 from h) (by omega)) (by show s1.tx.length ≤ _; have := hI.out.tl; have := htk.out.1; omega)).mono ?_
            rintro e w4 ⟨rfl, R4, M4⟩
            have hR4 : Hid (Rd w4 g (.slice none 0 0) (((s1).tick.push ⟨false, 0, s1.tx⟩).beg)) := (R4.outs _).cast (RS.beg_push _ _).symm
            have hM4 : Hid (Mv w w4 g v (.slice none 0 0)) := M3.out.trans M4
            have hO4 : Hid (OwnI w4 w.heap.size u5 L) := O3.out.mv M4 HR.out.lt S2.out
            clear R4 M4 R3 M3 O3 R2 M2 O2 e0 e6 e7 e8 e9 f0 f7 f8 f9
            unfold itV
            have hlen : L.length ≤ 1073741824 := hLb.out
            have hsz := hM4.out.size
            obtain ⟨i0, hi, hz0, hz1, hz2⟩ := info_parts info_it
            go_wp2_with (at_builtin; refine wpList_append_own _ rfl _ _ 22 rfl w.heap.size 41 i0 (.agg #[.bool false, .int .u64 0, .string ByteArray.empty]) 3 32 Try.underlying22 hi hz0 hz1 hz2 rfl (by decide) u5 L.length (L.flatMap itC) rfl ((hO4.out.alloc _).alloc _) _ 1 1 (itC (⟨false, 0, s1.tx⟩)) rfl rfl ?c1 ?c2 (by unfold maxLen; omega) (by omega) (by rw [World.size_alloc, World.size_alloc]; omega) ?_)
            case c1 =>
              intro j q hj
              match j, hj with
              | 0, hj => simp [itC] at hj; subst hj; exact (cell_alloc2 _ _ _ _ 0).trans rfl
              | 1, hj => simp [itC] at hj; subst hj; rw [Addr.add_lit]; exact (cell_alloc2 _ _ _ _ 1).trans rfl
              | 2, hj => simp [itC] at hj; subst hj; rw [Addr.add_lit]; exact (cell_alloc2 _ _ _ _ 2).trans rfl
            case c2 => intro q hq; simp [itC] at hq; rcases hq with rfl | rfl | rfl <;> rfl
            intro v6 w6 O6 G6 _
            have R5 := ((hR4.out.alloc _).alloc _).grown G6 (fun k hk => by have := (hO4.out.lt k hk).1; have := HR.out.lt; omega) (fun k _ h => by cases h)
            have M5 := ((hM4.out.alloc _).alloc _).grown G6 (fun k hk => (hO4.out.lt k hk).1)
            have O5 : OwnI w6 w.heap.size v6 (L ++ [⟨false, 0, s1.tx⟩]) := by
              unfold OwnI
              rw [List.length_append, List.flatMap_append]
              simpa using O6
            have L5 : (((s1).tick.push ⟨false, 0, s1.tx⟩).beg).out = s.out ++ (L ++ [⟨false, 0, s1.tx⟩]) := (RS.push_out _ _).trans ((congrArg (· ++ [_]) hL2.out).trans (List.append_assoc _ _ _))
            have S5 : ∀ k, v6.ownBlock = some k → (Value.slice none 0 0).ownBlock ≠ some k := fun k _ h => by cases h
            have hI5 := hI6
            have HR5 : Hid (Rd w6 g (.slice none 0 0) (((s1).tick.push ⟨false, 0, s1.tx⟩).beg)) := R5
            have HM5 : Hid (Mv w w6 g v (.slice none 0 0)) := M5
            have HO5 : Hid (OwnI w6 w.heap.size v6 (L ++ [⟨false, 0, s1.tx⟩])) := O5
            have HL5 : Hid ((((s1).tick.push ⟨false, 0, s1.tx⟩).beg).out = s.out ++ (L ++ [⟨false, 0, s1.tx⟩])) := L5
            have HS5 : Hid (∀ k, v6.ownBlock = some k → (Value.slice none 0 0).ownBlock ≠ some k) := S5
            clear R5 M5 O5 L5 S5 O6 G6 hR4 hM4 hO4
            go_wp2
            go_roundg (gk - 1)
            case measure => have := hgk.out; omega
            case rel => exact ⟨k + 1, _, _, by have := hgk.out; unfold Hid; omega, by go_num, (hnx.out.trans hT.out).symm ▸ HR5, (hnx.out.trans hT.out).symm ▸ hI5.out, HM5, HO5, (hnx.out.trans hT.out).symm ▸ HL5, HS5⟩
          · have hT : Hid (s1.take b0 = s1.fl 7 s1.tk) := by
              unfold Hid RS.take
              rw [if_neg p4, if_pos p3, if_neg hz]
            have hz2 : ((b0.toNat : Int) == 0) = false := by
              simp
              exact fun h => hz (hbz.out (by omega))
            rw [p3] at e6
            go_wp2_with fail
            refine (fail_any g vk (s1) 7 (s1.tk) _ (hR.out)).mono ?_
            rintro e w2 ⟨rfl, R2, M2⟩
            have hR2 : Hid (Rd w2 g (.slice none 0 0) ((s1).fl 7 (s1.tk))) := R2
            have hM2 : Hid (Mv wr w2 g vk (.slice none 0 0)) := M2
            have hU : Hid (s.run u = (s1).fl 7 (s1.tk)) := by unfold Hid; rw [htk.out.2, hnx.out, hT.out]; exact RS.run_off _ (RS.fl_off _ _ _ (by decide)) _
            clear R2 M2
            go_wp2
            try rw [Exit.noGoto_ret]
            go_ret
            exact ⟨.slice none 0 0, _, L, rfl, hU.out.symm ▸ hR2.out, .inl (by rw [hU.out]; exact RS.fl_off _ _ _ (by decide)), hM.out.trans hM2.out, hO.out.mv hM2.out HR.out.lt hS.out, by rw [hU.out]; exact hL.out, fun k _ h => by cases h⟩
        by_cases p2 : s1.ph = 2
        · have hTA : Hid (s1.take b0 = (s1.tput b0).adv) := by
            unfold Hid RS.take
            rw [if_neg p4, if_neg p3, if_pos p2]
          have hIA : Hid (s1.tput b0).adv.Inv := by
            have h1 := hIT
            rw [hTA.out] at h1
            refine h1.resolve_left (fun h => ?_)
            rw [RS.adv_off, show (s1.tput b0).off = s1.off from rfl, hI.out.off] at h
            cases h
          clear hIT
          rw [p2] at e6
          obtain ⟨m, hm⟩ : ∃ m, Hid ((s1.tput b0).lack = m + 1) := ⟨s1.lack - 1, by have := (hI.out.wt p2).1; show s1.lack = _; omega⟩
          have hmb : m ≤ 9223372036854775806 := by have h1 := (hI.out.wt p2).2; have h2 := hI.out.mo; have h3 : s1.lack = m + 1 := hm.out; omega
          rw [show s1.lack = m + 1 from hm.out] at e7
          have htl : s1.tx.length ≤ 1073741824 := by have := hI.out.tl; omega
          have hB : Hid (Buf wr 0 vk s1.tx.length (fun j => .int .u8 (bt (ba (s1.tx ++ [b0])) j))) := hR.out.buf.congr (fun j hj => by
            show Value.int .u8 (bt (ba s1.tx) j) = Value.int .u8 (bt (ba (s1.tx ++ [b0])) j)
            rw [bt_ba _ _ hj, bt_ba _ _ (by simp; omega), List.getElem_append_left hj])
          have hne : Hid (vk.ownBlock ≠ some g) := hR.out.ne
          obtain ⟨i0, hi, hz0, hz1, hz2⟩ := info_parts Try.info5
          go_wp2_with (at_builtin; refine wpList_append_bufN _ rfl _ _ 32 rfl 0 5 i0 (.int .u8 0) 1 Try.underlying32 hi hz0 hz1 hz2 (by decide) rfl vk s1.tx.length (fun j => .int .u8 (bt (ba (s1.tx ++ [b0])) j)) rfl (hB.out.alloc _) _ 1 rfl ?c1 rfl (by omega) (Nat.zero_le _) ?_)
          case c1 =>
            show _ = some (Value.int .u8 (bt (ba (s1.tx ++ [b0])) s1.tx.length))
            rw [bt_ba _ _ (by simp)]
            simp
          intro v2 w2 B2 _ G2 N2
          obtain ⟨x2, c2, rfl⟩ : ∃ x2 c2, v2 = .slice x2 (s1.tx.length + 1) c2 := by
            rcases B2 with ⟨_, h⟩ | ⟨b2, cap, h, _⟩
            · omega
            · exact ⟨_, _, h⟩
          have eg : w2.heap[g]? = wr.heap[g]? := (G2.block g (by rw [World.size_alloc]; have := hR.out.lt; omega) (Ne.symm hne.out)).trans (Below.heap_alloc wr _ g hR.out.lt)
          have d0 : w2.cell? ⟨g, 0, none⟩ = _ := (World.cell?_of_block (w := wr) (a := ⟨g, 0, none⟩) eg).trans e0
          have d7 : w2.cell? ⟨g, 7, none⟩ = _ := (World.cell?_of_block (w := wr) (a := ⟨g, 7, none⟩) eg).trans e7
          have d9 : w2.cell? ⟨g, 9, none⟩ = _ := (World.cell?_of_block (w := wr) (a := ⟨g, 9, none⟩) eg).trans e9
          have k0 : w2.frozen? ⟨g, 0, none⟩ = _ := (World.frozen?_of_block (w := wr) (a := ⟨g, 0, none⟩) eg).trans f0
          have k7 : w2.frozen? ⟨g, 7, none⟩ = _ := (World.frozen?_of_block (w := wr) (a := ⟨g, 7, none⟩) eg).trans f7
          have k9 : w2.frozen? ⟨g, 9, none⟩ = _ := (World.frozen?_of_block (w := wr) (a := ⟨g, 9, none⟩) eg).trans f9
          have hn2 : (Value.slice x2 (s1.tx.length + 1) c2).ownBlock ≠ some g := fun e => (N2 g e).elim (fun h => hne.out h) (fun h => by have := hR.out.lt; omega)
          have MM : Mv wr (w2.setCell ⟨g, 9, none⟩ (Value.slice x2 (s1.tx.length + 1) c2)) g vk (Value.slice x2 (s1.tx.length + 1) c2) := (Mv.regrow G2 N2).store _ _
          have R2 : Hid (Rd (w2.setCell ⟨g, 9, none⟩ (Value.slice x2 (s1.tx.length + 1) c2)) g (Value.slice x2 (s1.tx.length + 1) c2) (s1.tput b0)) := hR.out.regrow G2 (by rw [List.length_append]; exact B2) hn2
          have M2 : Hid (Mv w (w2.setCell ⟨g, 9, none⟩ (Value.slice x2 (s1.tx.length + 1) c2)) g v (Value.slice x2 (s1.tx.length + 1) c2)) := hM.out.trans MM
          have O2 : Hid (OwnI (w2.setCell ⟨g, 9, none⟩ (Value.slice x2 (s1.tx.length + 1) c2)) w.heap.size u5 L) := hO.out.mv MM HR.out.lt hS.out
          have S2 : Hid (∀ k, u5.ownBlock = some k → (Value.slice x2 (s1.tx.length + 1) c2).ownBlock ≠ some k) := fun k hk hv => (N2 k hv).elim (fun h => hS.out k hk h) (fun h => by have := (hO.out.lt k hk).2; omega)
          have hL2 : Hid ((s1.tput b0).out = s.out ++ L) := hL
          clear MM B2 G2 N2 eg hn2 hi hz0 hz1 hz2
          by_cases hm0 : 0 < m
          · have hT : Hid (s1.take b0 = (s1.tput b0).tick) := hTA.out.trans (if_pos (show 0 < (s1.tput b0).lack - 1 by rw [hm.out]; omega))
            have hI5 : Hid (s1.tput b0).tick.Inv := (hTA.out.symm.trans hT.out) ▸ hIA.out
            go_wp2_with fail
            have R5 : Rd (((w2.setCell ⟨g, 9, none⟩ (Value.slice x2 (s1.tx.length + 1) c2)).setCell ⟨g, 0, none⟩ (.int .i64 ((s1.tk : Int) + 1))).setCell ⟨g, 7, none⟩ (.int .i64 (m : Int))) g (Value.slice x2 (s1.tx.length + 1) c2) (s1.tput b0).tick := ((R2.out.set0 (s1.tk + 1) rfl).set7 m rfl).cast (by unfold RS.tick; rw [hm.out]; rfl)
            have M5 : Mv w (((w2.setCell ⟨g, 9, none⟩ (Value.slice x2 (s1.tx.length + 1) c2)).setCell ⟨g, 0, none⟩ (.int .i64 ((s1.tk : Int) + 1))).setCell ⟨g, 7, none⟩ (.int .i64 (m : Int))) g v (Value.slice x2 (s1.tx.length + 1) c2) := (M2.out.store _ _).store _ _
            have O5 : OwnI (((w2.setCell ⟨g, 9, none⟩ (Value.slice x2 (s1.tx.length + 1) c2)).setCell ⟨g, 0, none⟩ (.int .i64 ((s1.tk : Int) + 1))).setCell ⟨g, 7, none⟩ (.int .i64 (m : Int))) w.heap.size u5 L := O2.out.mv (((Mv.refl _ g (Value.slice x2 (s1.tx.length + 1) c2)).store _ _).store _ _) HR.out.lt S2.out
            have L5 := hL2
            have S5 := S2
            go_roundg (gk - 1)
            case measure => have := hgk.out; omega
            case rel => exact ⟨k + 1, _, _, by have := hgk.out; unfold Hid; omega, by go_num, (hnx.out.trans hT.out).symm ▸ R5, (hnx.out.trans hT.out).symm ▸ hI5.out, M5, O5, (hnx.out.trans hT.out).symm ▸ L5, S5⟩
          have hT0 : Hid (s1.take b0 = (s1.tput b0).tick.fin) := hTA.out.trans (if_neg (show ¬ 0 < (s1.tput b0).lack - 1 by rw [hm.out]; omega))
          obtain rfl : m = 0 := by omega
          have hI5 : Hid (s1.tput b0).tick.fin.Inv := (hTA.out.symm.trans hT0.out) ▸ hIA.out
          have R3 : Hid (Rd (((w2.setCell ⟨g, 9, none⟩ (Value.slice x2 (s1.tx.length + 1) c2)).setCell ⟨g, 0, none⟩ (.int .i64 ((s1.tk : Int) + 1))).setCell ⟨g, 7, none⟩ (.int .i64 0)) g (Value.slice x2 (s1.tx.length + 1) c2) (s1.tput b0).tick) := ((R2.out.set0 (s1.tk + 1) rfl).set7 0 rfl).cast (by unfold RS.tick; rw [hm.out]; rfl)
          have M3 : Hid (Mv w (((w2.setCell ⟨g, 9, none⟩ (Value.slice x2 (s1.tx.length + 1) c2)).setCell ⟨g, 0, none⟩ (.int .i64 ((s1.tk : Int) + 1))).setCell ⟨g, 7, none⟩ (.int .i64 0)) g v (Value.slice x2 (s1.tx.length + 1) c2)) := (M2.out.store _ _).store _ _
          have O3 : Hid (OwnI (((w2.setCell ⟨g, 9, none⟩ (Value.slice x2 (s1.tx.length + 1) c2)).setCell ⟨g, 0, none⟩ (.int .i64 ((s1.tk : Int) + 1))).setCell ⟨g, 7, none⟩ (.int .i64 0)) w.heap.size u5 L) := O2.out.mv (((Mv.refl _ g (Value.slice x2 (s1.tx.length + 1) c2)).store _ _).store _ _) HR.out.lt S2.out
          by_cases hpd : 0 < padN (s1.tx ++ [b0]).length
          · have hT : Hid (s1.take b0 = ((s1.tput b0).tick.s6 3).s7 (padN (s1.tx ++ [b0]).length)) := hT0.out.trans (RS.fin_p _ (show s1.ph = 2 from p2) hpd)
            have hI6 : Hid (((s1.tput b0).tick.s6 3).s7 (padN (s1.tx ++ [b0]).length)).Inv := (hT0.out.symm.trans hT.out) ▸ hI5.out
            go_wp2_with fail
            refine (finish_pad g (Value.slice x2 (s1.tx.length + 1) c2) (s1.tput b0).tick _ R3.out (show s1.ph = 2 from p2) hpd (by show (s1.tx ++ [b0]).length ≤ _; have := hI.out.tl; have := htk.out.1; simp; omega)).mono ?_
            rintro e w4 ⟨rfl, R4, M4⟩
            have hR4 : Hid (Rd w4 g (Value.slice x2 (s1.tx.length + 1) c2) (((s1.tput b0).tick.s6 3).s7 (padN (s1.tx ++ [b0]).length))) := R4
            have hM4 : Hid (Mv w w4 g v (Value.slice x2 (s1.tx.length + 1) c2)) := M3.out.trans M4
            have hO4 : Hid (OwnI w4 w.heap.size u5 L) := O3.out.mv M4 HR.out.lt S2.out
            clear R4 M4 R3 M3 O3 R2 M2 O2 e0 e6 e7 e8 e9 f0 f7 f8 f9 d0 d7 d9 k0 k7 k9
            unfold itV
            go_wp2
            have R5 := (hR4.out.alloc (.cells #[.bool false, .int .u64 0, .string ⟨#[]⟩] 41))
            have M5 := hM4.out.alloc (.cells #[.bool false, .int .u64 0, .string ⟨#[]⟩] 41)
            have O5 := hO4.out.alloc (.cells #[.bool false, .int .u64 0, .string ⟨#[]⟩] 41)
            have L5 := hL2
            have S5 := S2
            have hI5 := hI6
            go_roundg (gk - 1)
            case measure => have := hgk.out; omega
            case rel => exact ⟨k + 1, _, _, by have := hgk.out; unfold Hid; omega, by go_num, (hnx.out.trans hT.out).symm ▸ R5, (hnx.out.trans hT.out).symm ▸ hI5.out, M5, O5, (hnx.out.trans hT.out).symm ▸ L5, S5⟩
          have hT : Hid (s1.take b0 = ((s1.tput b0).tick.push ⟨false, 0, s1.tx ++ [b0]⟩).beg) := hT0.out.trans (RS.fin_t _ (by show s1.ph ≠ 0; omega) (fun h => absurd (show s1.ph = 1 from h) (by omega)) (fun _ => show padN (s1.tx ++ [b0]).length = 0 by omega))
          have hI6 : Hid (((s1.tput b0).tick.push ⟨false, 0, s1.tx ++ [b0]⟩).beg).Inv := (hT0.out.symm.trans hT.out) ▸ hI5.out
          go_wp2_with fail
          refine (finish_txt g (Value.slice x2 (s1.tx.length + 1) c2) (s1.tput b0).tick _ R3.out (by show s1.ph ≤ 3; omega) (by show s1.ph ≠ 0; omega) (fun h => absurd (show s1.ph = 1 from h) (by omega)) (fun _ => show padN (s1.tx ++ [b0]).length = 0 by omega) (by show (s1.tx ++ [b0]).length ≤ _; have := hI.out.tl; have := htk.out.1; simp; omega)).mono ?_
          rintro e w4 ⟨rfl, R4, M4⟩
          have hR4 : Hid (Rd w4 g (.slice none 0 0) (((s1.tput b0).tick.push ⟨false, 0, s1.tx ++ [b0]⟩).beg)) := (R4.outs _).cast (RS.beg_push _ _).symm
          have hM4 : Hid (Mv w w4 g v (.slice none 0 0)) := M3.out.trans M4
          have hO4 : Hid (OwnI w4 w.heap.size u5 L) := O3.out.mv M4 HR.out.lt S2.out
          clear R4 M4 R3 M3 O3 R2 M2 O2 e0 e6 e7 e8 e9 f0 f7 f8 f9 d0 d7 d9 k0 k7 k9
          unfold itV
          have hlen : L.length ≤ 1073741824 := hLb.out
          have hsz := hM4.out.size
          obtain ⟨i0, hi, hz0, hz1, hz2⟩ := info_parts info_it
          go_wp2_with (at_builtin; refine wpList_append_own _ rfl _ _ 22 rfl w.heap.size 41 i0 (.agg #[.bool false, .int .u64 0, .string ByteArray.empty]) 3 32 Try.underlying22 hi hz0 hz1 hz2 rfl (by decide) u5 L.length (L.flatMap itC) rfl ((hO4.out.alloc _).alloc _) _ 1 1 (itC (⟨false, 0, s1.tx ++ [b0]⟩)) rfl rfl ?c1 ?c2 (by unfold maxLen; omega) (by omega) (by rw [World.size_alloc, World.size_alloc]; omega) ?_)
          case c1 =>
            intro j q hj
            match j, hj with
            | 0, hj => simp [itC] at hj; subst hj; exact (cell_alloc2 _ _ _ _ 0).trans rfl
            | 1, hj => simp [itC] at hj; subst hj; rw [Addr.add_lit]; exact (cell_alloc2 _ _ _ _ 1).trans rfl
            | 2, hj => simp [itC] at hj; subst hj; rw [Addr.add_lit]; exact (cell_alloc2 _ _ _ _ 2).trans rfl
          case c2 => intro q hq; simp [itC] at hq; rcases hq with rfl | rfl | rfl <;> rfl
          intro v6 w6 O6 G6 _
          have R5 := ((hR4.out.alloc _).alloc _).grown G6 (fun k hk => by have := (hO4.out.lt k hk).1; have := HR.out.lt; omega) (fun k _ h => by cases h)
          have M5 := ((hM4.out.alloc _).alloc _).grown G6 (fun k hk => (hO4.out.lt k hk).1)
          have O5 : OwnI w6 w.heap.size v6 (L ++ [⟨false, 0, s1.tx ++ [b0]⟩]) := by
            unfold OwnI
            rw [List.length_append, List.flatMap_append]
            simpa using O6
          have L5 : (((s1.tput b0).tick.push ⟨false, 0, s1.tx ++ [b0]⟩).beg).out = s.out ++ (L ++ [⟨false, 0, s1.tx ++ [b0]⟩]) := (RS.push_out _ _).trans ((congrArg (· ++ [_]) hL2.out).trans (List.append_assoc _ _ _))
          have S5 : ∀ k, v6.ownBlock = some k → (Value.slice none 0 0).ownBlock ≠ some k := fun k _ h => by cases h
          have hI5 := hI6
          have HR5 : Hid (Rd w6 g (.slice none 0 0) (((s1.tput b0).tick.push ⟨false, 0, s1.tx ++ [b0]⟩).beg)) := R5
          have HM5 : Hid (Mv w w6 g v (.slice none 0 0)) := M5
          have HO5 : Hid (OwnI w6 w.heap.size v6 (L ++ [⟨false, 0, s1.tx ++ [b0]⟩])) := O5
          have HL5 : Hid ((((s1.tput b0).tick.push ⟨false, 0, s1.tx ++ [b0]⟩).beg).out = s.out ++ (L ++ [⟨false, 0, s1.tx ++ [b0]⟩])) := L5
          have HS5 : Hid (∀ k, v6.ownBlock = some k → (Value.slice none 0 0).ownBlock ≠ some k) := S5
          clear R5 M5 O5 L5 S5 O6 G6 hR4 hM4 hO4
          go_wp2
          go_roundg (gk - 1)
          case measure => have := hgk.out; omega
          case rel => exact ⟨k + 1, _, _, by have := hgk.out; unfold Hid; omega, by go_num, (hnx.out.trans hT.out).symm ▸ HR5, (hnx.out.trans hT.out).symm ▸ hI5.out, HM5, HO5, (hnx.out.trans hT.out).symm ▸ HL5, HS5⟩
        · have p1 : s1.ph ≤ 1 := by omega
          have g4 : ((s1.ph : Int) == 4) = false := by simp; omega
          have g3 : ((s1.ph : Int) == 3) = false := by simp; omega
          have g2 : ((s1.ph : Int) == 2) = false := by simp; omega
          obtain ⟨t, ht⟩ : ∃ t, Hid (s1.lack + t = 8 ∧ t ≤ 7) := ⟨8 - s1.lack, by have := hI.out.wd p1; unfold Hid; omega⟩
          have ht7 : t ≤ 7 := ht.out.2
          have e7o : Hid (wr.cell? ⟨g, 7, none⟩ = some (.int .i64 (s1.lack : Int))) := e7
          rw [show ((s1.lack : Nat) : Int) = 8 - (t : Int) by have := ht.out.1; omega] at e7
          have hsw : Hid (s1.word < 2 ^ (8 * t) ∧ 8 - s1.lack = t) := by
            have h1 := (hI.out.wd p1).2.2.1
            have h2 : 8 - s1.lack = t := by have := ht.out.1; omega
            rw [h2] at h1
            exact ⟨h1, h2⟩
          have hW : Hid (bits .or .u64 (s1.word : Int) (IntKind.u64.wrap ((b0.toNat : Int) * 2 ^ (8 * (8 - (8 - t))))) = (((s1.wput b0).word : Nat) : Int)) := by
            unfold Hid
            rw [show (s1.wput b0).word = s1.word + b0.toNat * 2 ^ (8 * t) by unfold RS.wput; rw [hsw.out.2], show 8 - (8 - t) = t by omega]
            exact or_word s1.word b0.toNat t hsw.out.1 hbb ht7
          go_wp2_with fail
          go_region
          rw [hW.out]
          have RW : Hid (Rd (wr.setCell ⟨g, 8, none⟩ (.int .u64 ((s1.wput b0).word : Int))).drew g vk (s1.wput b0)) := ((hR.out.set8 (s1.wput b0).word rfl).drew).cast rfl
          have MW : Hid (Mv wr (wr.setCell ⟨g, 8, none⟩ (.int .u64 ((s1.wput b0).word : Int))).drew g vk vk) := ((Mv.refl _ _ _).store _ _).drew
          generalize (wr.setCell ⟨g, 8, none⟩ (.int .u64 ((s1.wput b0).word : Int))).drew = w2' at RW MW ⊢
          have d0' : w2'.cell? ⟨g, 0, none⟩ = some (.int .i64 (s1.tk : Int)) := RW.out.c0
          have TL := tooLong_any g vk (s1.wput b0) w2' RW.out
          by_cases hTL : (s1.wput b0).tooLong = true
          · obtain ⟨t7, ht7'⟩ : ∃ t7, Hid (s1.tk = t7 + 7) := by
              have h1 := (hI.out.wd p1).2.2.2.2
              have h2 : s1.lack = 1 := by
                by_cases h : s1.lack = 1
                · exact h
                · rw [RS.tooLong_b (s1.wput b0) h] at hTL; cases hTL
              exact ⟨s1.tk - 7, by unfold Hid; omega⟩
            have hT : Hid (s1.take b0 = (s1.wput b0).fl 6 t7) := by
              unfold Hid RS.take
              rw [if_neg p4, if_neg p3, if_neg p2, if_pos hTL, ht7'.out, Nat.add_sub_cancel]
            have ht7b : t7 ≤ 1073741824 := by have := ht7'.out; omega
            rw [hTL] at TL
            rw [ht7'.out] at d0'
            go_wp2_with fail
            refine TL.mono ?_
            rintro e w3 ⟨rfl, q, rfl⟩
            have hRw : Hid (Rd (w2'.drewN q) g vk (s1.wput b0)) := RW.out.drewN q
            have MW2 : Hid (Mv wr (w2'.drewN q) g vk vk) := MW.out.drewN q
            have d0 : (w2'.drewN q).cell? ⟨g, 0, none⟩ = some (.int .i64 ((t7 + 7 : Nat) : Int)) := d0'
            generalize w2'.drewN q = w5 at hRw MW2 d0 ⊢
            clear TL d0' MW RW
            have MW := MW2
            go_wp2_with fail
            refine (fail_any g vk (s1.wput b0) 6 (t7) _ (hRw.out)).mono ?_
            rintro e w2 ⟨rfl, R2, M2⟩
            have hR2 : Hid (Rd w2 g (.slice none 0 0) ((s1.wput b0).fl 6 (t7))) := R2
            have hM2 : Hid (Mv wr w2 g vk (.slice none 0 0)) := MW.out.trans M2
            have hU : Hid (s.run u = (s1.wput b0).fl 6 (t7)) := by unfold Hid; rw [htk.out.2, hnx.out, hT.out]; exact RS.run_off _ (RS.fl_off _ _ _ (by decide)) _
            clear R2 M2
            go_wp2
            try rw [Exit.noGoto_ret]
            go_ret
            exact ⟨.slice none 0 0, _, L, rfl, hU.out.symm ▸ hR2.out, .inl (by rw [hU.out]; exact RS.fl_off _ _ _ (by decide)), hM.out.trans hM2.out, hO.out.mv hM2.out HR.out.lt hS.out, by rw [hU.out]; exact hL.out, fun k _ h => by cases h⟩
          · have hTLf : (s1.wput b0).tooLong = false := by simpa using hTL
            have hTA : Hid (s1.take b0 = (s1.wput b0).adv) := by
              unfold Hid RS.take
              rw [if_neg p4, if_neg p3, if_neg p2, if_neg hTL]
            have hwm : Hid (s1.ph = 1 → s1.lack = 1 → (s1.wput b0).word ≤ 9223372036854775807) := fun h1 h2 => by
              have h3 := hTLf
              rw [RS.tooLong_c (s1.wput b0) h1 h2] at h3
              have h4 : ¬ s1.most < (s1.wput b0).word := of_decide_eq_false h3
              have := hI.out.mo
              omega
            have hIA : Hid (s1.wput b0).adv.Inv := by
              have h1 := hIT
              rw [hTA.out] at h1
              refine h1.resolve_left (fun h => ?_)
              rw [RS.adv_off, show (s1.wput b0).off = s1.off from rfl, hI.out.off] at h
              cases h
            obtain ⟨m, hm⟩ : ∃ m, Hid ((s1.wput b0).lack = m + 1) := ⟨s1.lack - 1, by have := (hI.out.wd p1).1; show s1.lack = _; omega⟩
            have hmb : m ≤ 7 := by have h1 := (hI.out.wd p1).2.1; have h3 : s1.lack = m + 1 := hm.out; omega
            rw [hTLf] at TL
            clear hIT hTL
            have hTL2 : Hid ((s1.wput b0).tooLong = false) := hTLf
            clear hTLf
            go_wp2_with fail
            refine TL.mono ?_
            rintro e w3 ⟨rfl, q, rfl⟩
            have R2 : Hid (Rd (w2'.drewN q) g vk (s1.wput b0)) := RW.out.drewN q
            have MW2 : Hid (Mv wr (w2'.drewN q) g vk vk) := MW.out.drewN q
            generalize w2'.drewN q = w5 at R2 MW2 ⊢
            clear TL d0' MW RW
            have d0 := R2.out.c0
            have d7 := R2.out.c7
            rw [hm.out] at d7
            rw [show (s1.wput b0).tk = s1.tk from rfl] at d0
            have l0 := R2.out.fr 0 (by decide)
            have l7 := R2.out.fr 7 (by decide)
            have M2 : Hid (Mv w w5 g v vk) := hM.out.trans MW2.out
            have O2 : Hid (OwnI w5 w.heap.size u5 L) := hO.out.mv MW2.out HR.out.lt hS.out
            have S2 := hS
            have hL2 : Hid ((s1.wput b0).out = s.out ++ L) := hL
            clear MW2
            by_cases hm0 : 0 < m
            · have hT : Hid (s1.take b0 = (s1.wput b0).tick) := hTA.out.trans (if_pos (show 0 < (s1.wput b0).lack - 1 by rw [hm.out]; omega))
              have hI5 : Hid (s1.wput b0).tick.Inv := (hTA.out.symm.trans hT.out) ▸ hIA.out
              go_wp2_with fail
              have R5 : Rd ((w5.setCell ⟨g, 0, none⟩ (.int .i64 ((s1.tk : Int) + 1))).setCell ⟨g, 7, none⟩ (.int .i64 (m : Int))) g vk (s1.wput b0).tick := ((R2.out.set0 (s1.tk + 1) rfl).set7 m rfl).cast (by unfold RS.tick; rw [hm.out]; rfl)
              have M5 : Mv w ((w5.setCell ⟨g, 0, none⟩ (.int .i64 ((s1.tk : Int) + 1))).setCell ⟨g, 7, none⟩ (.int .i64 (m : Int))) g v vk := (M2.out.store _ _).store _ _
              have O5 : OwnI ((w5.setCell ⟨g, 0, none⟩ (.int .i64 ((s1.tk : Int) + 1))).setCell ⟨g, 7, none⟩ (.int .i64 (m : Int))) w.heap.size u5 L := O2.out.mv (((Mv.refl _ g vk).store _ _).store _ _) HR.out.lt S2.out
              have L5 := hL2
              have S5 := S2
              go_roundg (gk - 1)
              case measure => have := hgk.out; omega
              case rel => exact ⟨k + 1, _, _, by have := hgk.out; unfold Hid; omega, by go_num, (hnx.out.trans hT.out).symm ▸ R5, (hnx.out.trans hT.out).symm ▸ hI5.out, M5, O5, (hnx.out.trans hT.out).symm ▸ L5, S5⟩
            have hT0 : Hid (s1.take b0 = (s1.wput b0).tick.fin) := hTA.out.trans (if_neg (show ¬ 0 < (s1.wput b0).lack - 1 by rw [hm.out]; omega))
            obtain rfl : m = 0 := by omega
            have hI5 : Hid (s1.wput b0).tick.fin.Inv := (hTA.out.symm.trans hT0.out) ▸ hIA.out
            have R3 : Hid (Rd ((w5.setCell ⟨g, 0, none⟩ (.int .i64 ((s1.tk : Int) + 1))).setCell ⟨g, 7, none⟩ (.int .i64 0)) g vk (s1.wput b0).tick) := ((R2.out.set0 (s1.tk + 1) rfl).set7 0 rfl).cast (by unfold RS.tick; rw [hm.out]; rfl)
            have M3 : Hid (Mv w ((w5.setCell ⟨g, 0, none⟩ (.int .i64 ((s1.tk : Int) + 1))).setCell ⟨g, 7, none⟩ (.int .i64 0)) g v vk) := (M2.out.store _ _).store _ _
            have O3 : Hid (OwnI ((w5.setCell ⟨g, 0, none⟩ (.int .i64 ((s1.tk : Int) + 1))).setCell ⟨g, 7, none⟩ (.int .i64 0)) w.heap.size u5 L) := O2.out.mv (((Mv.refl _ g vk).store _ _).store _ _) HR.out.lt S2.out
            by_cases hp0 : s1.ph = 0
            · have hT : Hid (s1.take b0 = ((s1.wput b0).tick.push ⟨true, (s1.wput b0).word, []⟩).beg) := hT0.out.trans (RS.fin_n _ (show s1.ph = 0 from hp0))
              have hI6 : Hid (((s1.wput b0).tick.push ⟨true, (s1.wput b0).word, []⟩).beg).Inv := (hT0.out.symm.trans hT.out) ▸ hI5.out
              go_wp2_with fail
              refine (finish_num g vk (s1.wput b0).tick _ R3.out (show s1.ph = 0 from hp0)).mono ?_
              rintro e w4 ⟨rfl, R4, M4⟩
              have hR4 : Hid (Rd w4 g (.slice none 0 0) (((s1.wput b0).tick.push ⟨true, (s1.wput b0).word, []⟩).beg)) := (R4.outs _).cast (RS.beg_push _ _).symm
              have hM4 : Hid (Mv w w4 g v (.slice none 0 0)) := M3.out.trans M4
              have hO4 : Hid (OwnI w4 w.heap.size u5 L) := O3.out.mv M4 HR.out.lt S2.out
              clear R4 M4 R3 M3 O3 R2 M2 O2 e0 e6 e7 e8 e9 f0 f7 f8 f9 d0 d7 l0 l7
              unfold itV
              have hlen : L.length ≤ 1073741824 := hLb.out
              have hsz := hM4.out.size
              obtain ⟨i0, hi, hz0, hz1, hz2⟩ := info_parts info_it
              go_wp2_with (at_builtin; refine wpList_append_own _ rfl _ _ 22 rfl w.heap.size 41 i0 (.agg #[.bool false, .int .u64 0, .string ByteArray.empty]) 3 32 Try.underlying22 hi hz0 hz1 hz2 rfl (by decide) u5 L.length (L.flatMap itC) rfl ((hO4.out.alloc _).alloc _) _ 1 1 (itC (⟨true, (s1.wput b0).word, []⟩)) rfl rfl ?c1 ?c2 (by unfold maxLen; omega) (by omega) (by rw [World.size_alloc, World.size_alloc]; omega) ?_)
              case c1 =>
                intro j q hj
                match j, hj with
                | 0, hj => simp [itC] at hj; subst hj; exact (cell_alloc2 _ _ _ _ 0).trans rfl
                | 1, hj => simp [itC] at hj; subst hj; rw [Addr.add_lit]; exact (cell_alloc2 _ _ _ _ 1).trans rfl
                | 2, hj => simp [itC] at hj; subst hj; rw [Addr.add_lit]; exact (cell_alloc2 _ _ _ _ 2).trans rfl
              case c2 => intro q hq; simp [itC] at hq; rcases hq with rfl | rfl | rfl <;> rfl
              intro v6 w6 O6 G6 _
              have R5 := ((hR4.out.alloc _).alloc _).grown G6 (fun k hk => by have := (hO4.out.lt k hk).1; have := HR.out.lt; omega) (fun k _ h => by cases h)
              have M5 := ((hM4.out.alloc _).alloc _).grown G6 (fun k hk => (hO4.out.lt k hk).1)
              have O5 : OwnI w6 w.heap.size v6 (L ++ [⟨true, (s1.wput b0).word, []⟩]) := by
                unfold OwnI
                rw [List.length_append, List.flatMap_append]
                simpa using O6
              have L5 : (((s1.wput b0).tick.push ⟨true, (s1.wput b0).word, []⟩).beg).out = s.out ++ (L ++ [⟨true, (s1.wput b0).word, []⟩]) := (RS.push_out _ _).trans ((congrArg (· ++ [_]) hL2.out).trans (List.append_assoc _ _ _))
              have S5 : ∀ k, v6.ownBlock = some k → (Value.slice none 0 0).ownBlock ≠ some k := fun k _ h => by cases h
              have hI5 := hI6
              have HR5 : Hid (Rd w6 g (.slice none 0 0) (((s1.wput b0).tick.push ⟨true, (s1.wput b0).word, []⟩).beg)) := R5
              have HM5 : Hid (Mv w w6 g v (.slice none 0 0)) := M5
              have HO5 : Hid (OwnI w6 w.heap.size v6 (L ++ [⟨true, (s1.wput b0).word, []⟩])) := O5
              have HL5 : Hid ((((s1.wput b0).tick.push ⟨true, (s1.wput b0).word, []⟩).beg).out = s.out ++ (L ++ [⟨true, (s1.wput b0).word, []⟩])) := L5
              have HS5 : Hid (∀ k, v6.ownBlock = some k → (Value.slice none 0 0).ownBlock ≠ some k) := S5
              clear R5 M5 O5 L5 S5 O6 G6 hR4 hM4 hO4
              go_wp2
              go_roundg (gk - 1)
              case measure => have := hgk.out; omega
              case rel => exact ⟨k + 1, _, _, by have := hgk.out; unfold Hid; omega, by go_num, (hnx.out.trans hT.out).symm ▸ HR5, (hnx.out.trans hT.out).symm ▸ hI5.out, HM5, HO5, (hnx.out.trans hT.out).symm ▸ HL5, HS5⟩
            by_cases hwp : 0 < (s1.wput b0).word
            · have hT : Hid (s1.take b0 = ((s1.wput b0).tick.s6 2).s7 (s1.wput b0).word) := hT0.out.trans (RS.fin_l _ (show s1.ph = 1 by omega) hwp)
              have hI6 : Hid (((s1.wput b0).tick.s6 2).s7 (s1.wput b0).word).Inv := (hT0.out.symm.trans hT.out) ▸ hI5.out
              go_wp2_with fail
              refine (finish_len g vk (s1.wput b0).tick _ R3.out (show s1.ph = 1 by omega) hwp (hwm.out (by omega) (by have h2 : s1.lack = 0 + 1 := hm.out; omega))).mono ?_
              rintro e w4 ⟨rfl, R4, M4⟩
              have hR4 : Hid (Rd w4 g vk (((s1.wput b0).tick.s6 2).s7 (s1.wput b0).word)) := R4
              have hM4 : Hid (Mv w w4 g v vk) := M3.out.trans M4
              have hO4 : Hid (OwnI w4 w.heap.size u5 L) := O3.out.mv M4 HR.out.lt S2.out
              clear R4 M4 R3 M3 O3 R2 M2 O2 e0 e6 e7 e8 e9 f0 f7 f8 f9 d0 d7 l0 l7
              unfold itV
              go_wp2
              have R5 := (hR4.out.alloc (.cells #[.bool false, .int .u64 0, .string ⟨#[]⟩] 41))
              have M5 := hM4.out.alloc (.cells #[.bool false, .int .u64 0, .string ⟨#[]⟩] 41)
              have O5 := hO4.out.alloc (.cells #[.bool false, .int .u64 0, .string ⟨#[]⟩] 41)
              have L5 := hL2
              have S5 := S2
              have hI5 := hI6
              go_roundg (gk - 1)
              case measure => have := hgk.out; omega
              case rel => exact ⟨k + 1, _, _, by have := hgk.out; unfold Hid; omega, by go_num, (hnx.out.trans hT.out).symm ▸ R5, (hnx.out.trans hT.out).symm ▸ hI5.out, M5, O5, (hnx.out.trans hT.out).symm ▸ L5, S5⟩
            have hT : Hid (s1.take b0 = ((s1.wput b0).tick.push ⟨false, 0, s1.tx⟩).beg) := hT0.out.trans (RS.fin_t _ (by show s1.ph ≠ 0; omega) (fun _ => show (s1.wput b0).word = 0 by omega) (fun h => absurd (show s1.ph = 2 from h) (by omega)))
            have hI6 : Hid (((s1.wput b0).tick.push ⟨false, 0, s1.tx⟩).beg).Inv := (hT0.out.symm.trans hT.out) ▸ hI5.out
            go_wp2_with fail
            refine (finish_txt g vk (s1.wput b0).tick _ R3.out (by show s1.ph ≤ 3; omega) (by show s1.ph ≠ 0; omega) (fun _ => show (s1.wput b0).word = 0 by omega) (fun h => absurd (show s1.ph = 2 from h) (by omega)) (by show s1.tx.length ≤ _; have := hI.out.tl; have := htk.out.1; omega)).mono ?_
            rintro e w4 ⟨rfl, R4, M4⟩
            have hR4 : Hid (Rd w4 g (.slice none 0 0) (((s1.wput b0).tick.push ⟨false, 0, s1.tx⟩).beg)) := (R4.outs _).cast (RS.beg_push _ _).symm
            have hM4 : Hid (Mv w w4 g v (.slice none 0 0)) := M3.out.trans M4
            have hO4 : Hid (OwnI w4 w.heap.size u5 L) := O3.out.mv M4 HR.out.lt S2.out
            clear R4 M4 R3 M3 O3 R2 M2 O2 e0 e6 e7 e8 e9 f0 f7 f8 f9 d0 d7 l0 l7
            unfold itV
            have hlen : L.length ≤ 1073741824 := hLb.out
            have hsz := hM4.out.size
            obtain ⟨i0, hi, hz0, hz1, hz2⟩ := info_parts info_it
            go_wp2_with (at_builtin; refine wpList_append_own _ rfl _ _ 22 rfl w.heap.size 41 i0 (.agg #[.bool false, .int .u64 0, .string ByteArray.empty]) 3 32 Try.underlying22 hi hz0 hz1 hz2 rfl (by decide) u5 L.length (L.flatMap itC) rfl ((hO4.out.alloc _).alloc _) _ 1 1 (itC (⟨false, 0, s1.tx⟩)) rfl rfl ?c1 ?c2 (by unfold maxLen; omega) (by omega) (by rw [World.size_alloc, World.size_alloc]; omega) ?_)
            case c1 =>
              intro j q hj
              match j, hj with
              | 0, hj => simp [itC] at hj; subst hj; exact (cell_alloc2 _ _ _ _ 0).trans rfl
              | 1, hj => simp [itC] at hj; subst hj; rw [Addr.add_lit]; exact (cell_alloc2 _ _ _ _ 1).trans rfl
              | 2, hj => simp [itC] at hj; subst hj; rw [Addr.add_lit]; exact (cell_alloc2 _ _ _ _ 2).trans rfl
            case c2 => intro q hq; simp [itC] at hq; rcases hq with rfl | rfl | rfl <;> rfl
            intro v6 w6 O6 G6 _
            have R5 := ((hR4.out.alloc _).alloc _).grown G6 (fun k hk => by have := (hO4.out.lt k hk).1; have := HR.out.lt; omega) (fun k _ h => by cases h)
            have M5 := ((hM4.out.alloc _).alloc _).grown G6 (fun k hk => (hO4.out.lt k hk).1)
            have O5 : OwnI w6 w.heap.size v6 (L ++ [⟨false, 0, s1.tx⟩]) := by
              unfold OwnI
              rw [List.length_append, List.flatMap_append]
              simpa using O6
            have L5 : (((s1.wput b0).tick.push ⟨false, 0, s1.tx⟩).beg).out = s.out ++ (L ++ [⟨false, 0, s1.tx⟩]) := (RS.push_out _ _).trans ((congrArg (· ++ [_]) hL2.out).trans (List.append_assoc _ _ _))
            have S5 : ∀ k, v6.ownBlock = some k → (Value.slice none 0 0).ownBlock ≠ some k := fun k _ h => by cases h
            have hI5 := hI6
            have HR5 : Hid (Rd w6 g (.slice none 0 0) (((s1.wput b0).tick.push ⟨false, 0, s1.tx⟩).beg)) := R5
            have HM5 : Hid (Mv w w6 g v (.slice none 0 0)) := M5
            have HO5 : Hid (OwnI w6 w.heap.size v6 (L ++ [⟨false, 0, s1.tx⟩])) := O5
            have HL5 : Hid ((((s1.wput b0).tick.push ⟨false, 0, s1.tx⟩).beg).out = s.out ++ (L ++ [⟨false, 0, s1.tx⟩])) := L5
            have HS5 : Hid (∀ k, v6.ownBlock = some k → (Value.slice none 0 0).ownBlock ≠ some k) := S5
            clear R5 M5 O5 L5 S5 O6 G6 hR4 hM4 hO4
            go_wp2
            go_roundg (gk - 1)
            case measure => have := hgk.out; omega
            case rel => exact ⟨k + 1, _, _, by have := hgk.out; unfold Hid; omega, by go_num, (hnx.out.trans hT.out).symm ▸ HR5, (hnx.out.trans hT.out).symm ▸ hI5.out, HM5, HO5, (hnx.out.trans hT.out).symm ▸ HL5, HS5⟩
      · have hk2 : k = u.length := by have := hgk.out; omega
        have hU : Hid (s.run (u.take k) = s.run u) := by rw [hk2, List.take_length]; exact rfl
        clear hk2
        go_wp2
        try rw [Exit.noGoto_ret]
        go_ret
        exact ⟨vk, _, L, rfl, hU.out ▸ hR.out, .inr (hU.out ▸ hI.out), hM.out, hO.out, hU.out ▸ hL.out, hS.out⟩

end Go.Proofs.Ytjlbbnjcdickgab
