/- The parser in memory; skip, next, giveUp, expect, walked. -/
import Derived.Test.YtbfhfejdmhjccaaReB
namespace Go.Proofs.Ytbfhfejdmhjccaa
open Go.RowKit

/-- Block g is a parser over s that has l still to read. -/
structure Ps (w : World) (g : Nat) (s l : List UInt8) : Prop where
  blk : w.heap[g]? = some (.cells #[.string (ba s), .int .i64 ((s.length - l.length : Nat) : Int)] 52 (0, 0))
  sf : ∃ a, s = a ++ l
/-- Nothing but block g was changed; new blocks may have come. -/
structure Pm (g : Nat) (w w' : World) : Prop where
  os : w'.os = w.os
  tape : w'.tape = w.tape
  output : w'.output = w.output
  size : w.heap.size ≤ w'.heap.size
  block : ∀ k, k < w.heap.size → k ≠ g → w'.heap[k]? = w.heap[k]?
theorem Pm.refl (g : Nat) (w : World) : Pm g w w := ⟨rfl, rfl, rfl, Nat.le_refl _, fun _ _ _ => rfl⟩
theorem Pm.trans {g : Nat} {w w1 w2 : World} (h : Pm g w w1) (k : Pm g w1 w2) : Pm g w w2 :=
  ⟨k.os.trans h.os, k.tape.trans h.tape, k.output.trans h.output, Nat.le_trans h.size k.size, fun j hj hne => (k.block j (Nat.lt_of_lt_of_le hj h.size) hne).trans (h.block j hj hne)⟩
theorem Pm.below {g : Nat} {w w1 : World} (h : Below w.heap.size w w1) : Pm g w w1 := ⟨h.os, h.tape, h.output, h.size, fun j hj _ => h.block j hj⟩
theorem Pm.drewN (g : Nat) (w : World) (q : Nat) : Pm g w (w.drewN q) := ⟨rfl, rfl, rfl, Nat.le_refl _, fun _ _ _ => rfl⟩
theorem Pm.alloc (g : Nat) (w : World) (o : Obj) : Pm g w (w.alloc o) := Pm.below ((Below.refl _ _).alloc (Nat.le_refl _) _)
theorem Pm.setCell (g : Nat) (w : World) (j : Nat) (v : Value) : Pm g w (w.setCell ⟨g, j, none⟩ v) := ⟨rfl, rfl, rfl, by rw [World.size_setCell]; exact Nat.le_refl _, fun k _ hne => Below.heap_setCell w ⟨g, j, none⟩ v k hne⟩
theorem Pm.bel {g B : Nat} {w0 w w1 : World} (h : Pm g w w1) (b : Below B w0 w) (hB : B ≤ w.heap.size) (hg : B ≤ g) : Below B w0 w1 :=
  b.trans ⟨h.os, h.tape, h.output, h.size, fun k hk => h.block k (Nat.lt_of_lt_of_le hk hB) (by omega)⟩

theorem Ps.lt {w : World} {g : Nat} {s l : List UInt8} (h : Ps w g s l) : g < w.heap.size := (Array.getElem?_eq_some_iff.1 h.blk).1
theorem Ps.le {w : World} {g : Nat} {s l : List UInt8} (h : Ps w g s l) : l.length ≤ s.length := by
  obtain ⟨a, e⟩ := h.sf
  rw [e, List.length_append]
  omega
theorem Ps.c0 {w : World} {g : Nat} {s l : List UInt8} (h : Ps w g s l) : w.cell? ⟨g, 0, none⟩ = some (.string (ba s)) := by rw [Lib.cell_of_heap h.blk]; rfl
theorem Ps.c1 {w : World} {g : Nat} {s l : List UInt8} (h : Ps w g s l) : w.cell? ⟨g, 1, none⟩ = some (.int .i64 ((s.length - l.length : Nat) : Int)) := by rw [Lib.cell_of_heap h.blk]; rfl
theorem Ps.f1 {w : World} {g : Nat} {s l : List UInt8} (h : Ps w g s l) : w.frozen? ⟨g, 1, none⟩ = false := Lib.frozen_of_heap h.blk 1
theorem Ps.same {w w' : World} {g : Nat} {s l : List UInt8} (h : Ps w g s l) (e : w'.heap[g]? = w.heap[g]?) : Ps w' g s l := ⟨e.trans h.blk, h.sf⟩
theorem Ps.drewN {w : World} {g : Nat} {s l : List UInt8} (h : Ps w g s l) (q : Nat) : Ps (w.drewN q) g s l := ⟨h.blk, h.sf⟩
theorem Ps.below {w w' : World} {g : Nat} {s l : List UInt8} (h : Ps w g s l) (b : Below w.heap.size w w') : Ps w' g s l := h.same (b.block g h.lt)
theorem Ps.cons {w : World} {g : Nat} {s l : List UInt8} {x : UInt8} (h : Ps w g s (x :: l)) : s.length - (x :: l).length < s.length ∧ bt (ba s) (s.length - (x :: l).length) = (x.toNat : Int) ∧ s.length - l.length = s.length - (x :: l).length + 1 := by
  obtain ⟨a, e⟩ := h.sf
  have hl : s.length = a.length + (l.length + 1) := by rw [e, List.length_append]; rfl
  have hi : s.length - (x :: l).length = a.length := by simp only [List.length_cons]; omega
  refine ⟨by rw [hi]; omega, ?_, by rw [hi]; omega⟩
  rw [hi, bt_get _ _ (by omega), List.getD_eq_getElem?_getD, e, List.getElem?_append_right (Nat.le_refl _), Nat.sub_self]
  rfl
/-- One byte read. -/
theorem Ps.step {w : World} {g : Nat} {s l : List UInt8} {x : UInt8} (h : Ps w g s (x :: l)) (i : Nat) (hi : i = s.length - (x :: l).length) : Ps (w.setCell ⟨g, 1, none⟩ (.int .i64 ((i : Int) + 1))) g s l := by
  have hc := h.cons
  obtain ⟨a, e⟩ := h.sf
  refine ⟨?_, a ++ [x], by rw [e]; simp⟩
  have e2 : ((s.length - l.length : Nat) : Int) = (i : Int) + 1 := by omega
  rw [e2]
  simp [World.setCell, Array.getElem?_modify, h.blk]

/-- What reading gives up with. -/
def brk (i : Nat) : Value := .iface 50 (.agg #[.int .i64 (i : Int)])

set_option maxHeartbeats 1000000 in
theorem skip_yes (g : Nat) (s l : List UInt8) (x : UInt8) (w : World) (hs : s.length ≤ 1073741824) (h : Ps w g s (x :: l)) :
    Calls Try.prog 40 #[.pointer (some ⟨g, 0, none⟩), .int .u8 (x.toNat : Int)] w fun e w' => e = .returned (.bool true) ∧ Ps w' g s l ∧ Pm g w w' := by
  have hsz := ba_size s
  have hgt : ∀ (n : Nat) (h : n < (ba s).size), (((ba s)[n]'h).toNat : Int) = bt (ba s) n := get_bt (ba s)
  obtain ⟨hi, hx, hn⟩ := h.cons
  have c0 := h.c0
  have c1 := h.c1
  have f1 := h.f1
  have HP : Hid (Ps w g s (x :: l)) := h
  have hst : Hid (∀ q, Ps ((w.drewN q).setCell ⟨g, 1, none⟩ (.int .i64 (((s.length - (x :: l).length : Nat) : Int) + 1))) g s l) := fun q => (h.drewN q).step _ rfl
  generalize s.length - (x :: l).length = i at *
  clear h hn
  have hne : ((i : Int) == (s.length : Int)) = false := by rw [beq_eq_false_iff_ne]; omega
  have hxx : ((x.toNat : Int) != (x.toNat : Int)) = false := by simp
  go_enter Try.func40, Try.ntmps40
  go_wp2_with fail
  go_quiet (fail)
  have d1 : (w.drewN nq).cell? ⟨g, 1, none⟩ = some (.int .i64 (i : Int)) := c1
  have e1 : (w.drewN nq).frozen? ⟨g, 1, none⟩ = false := f1
  have hP2 := hst.out nq
  have hM : Hid (Pm g w ((w.drewN nq).setCell ⟨g, 1, none⟩ (.int .i64 ((i : Int) + 1)))) := (Pm.drewN g w nq).trans (Pm.setCell g _ 1 _)
  have HP2 : Hid (Ps ((w.drewN nq).setCell ⟨g, 1, none⟩ (.int .i64 ((i : Int) + 1))) g s l) := hP2
  generalize w.drewN nq = w9 at d1 e1 hM HP2 ⊢
  clear hP2
  go_wp2
  go_ret
  exact ⟨rfl, HP2.out, hM.out⟩

set_option maxHeartbeats 1000000 in
theorem skip_no (g : Nat) (s l : List UInt8) (c : UInt8) (w : World) (h : Ps w g s l) (hh : l.head? ≠ some c) :
    Calls Try.prog 40 #[.pointer (some ⟨g, 0, none⟩), .int .u8 (c.toNat : Int)] w fun e w' => e = .returned (.bool false) ∧ Ps w' g s l ∧ Pm g w w' := by
  have hsz := ba_size s
  have hgt : ∀ (n : Nat) (h : n < (ba s).size), (((ba s)[n]'h).toNat : Int) = bt (ba s) n := get_bt (ba s)
  have c0 := h.c0
  have c1 := h.c1
  have HP : Hid (∀ q, Ps (w.drewN q) g s l ∧ Pm g w (w.drewN q)) := fun q => ⟨h.drewN q, Pm.drewN g w q⟩
  cases l with
  | nil =>
    have hn : s.length - ([] : List UInt8).length = s.length := rfl
    rw [hn] at c1
    have hne : ((s.length : Int) == (s.length : Int)) = true := by simp
    clear h
    go_enter Try.func40, Try.ntmps40
    go_wp2_with fail
    go_quiet (fail)
    go_wp2
    try rw [Exit.noGoto_ret]
    go_ret
    exact ⟨rfl, (HP.out nq).1, (HP.out nq).2⟩
  | cons x l =>
    obtain ⟨hi, hx, hn⟩ := h.cons
    have hxc : x ≠ c := fun e => hh (by rw [e]; rfl)
    generalize s.length - (x :: l).length = i at c1 hi hx
    clear h hn
    have hne : ((i : Int) == (s.length : Int)) = false := by rw [beq_eq_false_iff_ne]; omega
    have hxx : ((x.toNat : Int) != (c.toNat : Int)) = true := by
      rw [bne_iff_ne]
      intro e
      exact hxc (UInt8.toNat_inj.1 (Int.ofNat_inj.1 e))
    go_enter Try.func40, Try.ntmps40
    go_wp2_with fail
    go_quiet (fail)
    go_wp2
    try rw [Exit.noGoto_ret]
    go_ret
    exact ⟨rfl, (HP.out nq).1, (HP.out nq).2⟩

set_option maxHeartbeats 1000000 in
theorem give_any (g : Nat) (s l : List UInt8) (w : World) (h : Ps w g s l) :
    Calls Try.prog 18 #[.pointer (some ⟨g, 0, none⟩)] w fun e w' => e = .panicked [{ v := brk (s.length - l.length), recovered := false }] ∧ w' = w := by
  have c1 := h.c1
  generalize s.length - l.length = i at *
  go_enter Try.func18, Try.ntmps18
  go_wp2
  exact ⟨rfl, rfl, rfl⟩

set_option maxHeartbeats 1000000 in
theorem next_some (g : Nat) (s l : List UInt8) (x : UInt8) (w : World) (h : Ps w g s (x :: l)) :
    Calls Try.prog 44 #[.pointer (some ⟨g, 0, none⟩)] w fun e w' => e = .returned (.int .u8 (x.toNat : Int)) ∧ Ps w' g s (x :: l) ∧ Pm g w w' := by
  have hsz := ba_size s
  have hgt : ∀ (n : Nat) (h : n < (ba s).size), (((ba s)[n]'h).toNat : Int) = bt (ba s) n := get_bt (ba s)
  obtain ⟨hi, hx, hn⟩ := h.cons
  have c0 := h.c0
  have c1 := h.c1
  have HP : Hid (∀ q, Ps (w.drewN q) g s (x :: l) ∧ Pm g w (w.drewN q)) := fun q => ⟨h.drewN q, Pm.drewN g w q⟩
  generalize s.length - (x :: l).length = i at c1 hi hx
  clear h hn
  have hne : ((i : Int) == (s.length : Int)) = false := by rw [beq_eq_false_iff_ne]; omega
  go_enter Try.func44, Try.ntmps44
  go_wp2_with fail
  go_quiet (fail)
  have d0 : (w.drewN nq).cell? ⟨g, 0, none⟩ = some (.string (ba s)) := c0
  have d1 : (w.drewN nq).cell? ⟨g, 1, none⟩ = some (.int .i64 (i : Int)) := c1
  generalize hw9 : w.drewN nq = w9 at d0 d1 ⊢
  have HW : Hid (∃ q, w9 = w.drewN q) := ⟨nq, hw9.symm⟩
  clear hw9
  go_wp2_with fail
  go_quiet (fail)
  generalize hw8 : w9.drewN nq = w8
  have HW8 : Hid (∃ q, w8 = w.drewN q) := by
    obtain ⟨q, hq⟩ := HW.out
    exact ⟨_, by rw [← hw8, hq, World.drewN_drewN]⟩
  clear hw8
  go_wp2
  go_ret
  obtain ⟨q, hq⟩ := HW8.out
  rw [hq]
  exact ⟨rfl, (HP.out _).1, (HP.out _).2⟩

set_option maxHeartbeats 1000000 in
theorem next_none (g : Nat) (s : List UInt8) (w : World) (h : Ps w g s []) :
    Calls Try.prog 44 #[.pointer (some ⟨g, 0, none⟩)] w fun e w' => e = .panicked [{ v := brk s.length, recovered := false }] ∧ Pm g w w' := by
  have hsz := ba_size s
  have c0 := h.c0
  have c1 := h.c1
  have GC := fun q => give_any g s [] (w.drewN q) (h.drewN q)
  have hn : s.length - ([] : List UInt8).length = s.length := rfl
  rw [hn] at c1 GC
  have hne : ((s.length : Int) == (s.length : Int)) = true := by simp
  clear h
  go_enter Try.func44, Try.ntmps44
  go_wp2_with fail
  go_quiet (fail)
  go_wp2_with fail
  refine (GC nq).mono ?_
  rintro e w1 ⟨rfl, rfl⟩
  go_wp2
  exact ⟨rfl, rfl, Pm.drewN g w nq⟩

/-- What a reading leaves. -/
def Out {α : Type} (s : List UInt8) (g : Nat) (w : World) (R : Rs α) (K : α → Value → World → Prop) (e : Ending) (w' : World) : Prop :=
  match R with
  | .ok v l => (∃ x, e = .returned x ∧ K v x w') ∧ Ps w' g s l ∧ Pm g w w'
  | .bad l => e = .panicked [{ v := brk (s.length - l.length), recovered := false }] ∧ Pm g w w'

theorem Out.move {α : Type} {s : List UInt8} {g : Nat} {w w0 : World} {R : Rs α} {K : α → Value → World → Prop} {e : Ending} {w' : World} (h : Out s g w R K e w') (m : Pm g w0 w) : Out s g w0 R K e w' := by
  cases R with
  | ok v l => exact ⟨h.1, h.2.1, m.trans h.2.2⟩
  | bad l => exact ⟨h.1, m.trans h.2⟩

/-- What is left of the bytes that must come. -/
theorem ex_cons {c x : UInt8} {f l : List UInt8} : ex (c :: f) (x :: l) = if x = c then ex f l else .bad (x :: l) := rfl

set_option maxHeartbeats 2000000 in
theorem expect_any (g : Nat) (s l f : List UInt8) (w : World) (hs : s.length ≤ 1073741824) (hf : f.length ≤ 1073741824) (h : Ps w g s l) :
    Calls Try.prog 32 #[.pointer (some ⟨g, 0, none⟩), .string (ba f)] w fun e w' => Out s g w (ex f l) (fun _ x _ => x = .tuple #[]) e w' := by
  have hsz := ba_size f
  have hgt : ∀ (n : Nat) (h : n < (ba f).size), (((ba f)[n]'h).toNat : Int) = bt (ba f) n := get_bt (ba f)
  have hBT : Hid (∀ i, i < f.length → bt (ba f) i = ((f.getD i 0).toNat : Int)) := bt_get f
  generalize hR : ex f l = R
  have HR : Hid (ex f l = R) := hR
  have HP : Hid (Ps w g s l) := h
  clear hR h
  go_enter Try.func32, Try.ntmps32
  go_wp2
  go_loopg [4, 7] f.length (fun gk u iv wr => ∃ (i : Nat) (m : List UInt8), gk + i = f.length ∧ iv = .int .i64 (i : Int) ∧ Hid (ex (f.drop i) m = R) ∧ Hid (Ps wr g s m) ∧ Hid (Pm g w wr))
  case atStart => exact ⟨0, l, rfl, rfl, HR, HP, Pm.refl g w⟩
  case round =>
    obtain ⟨i, m, hgk, rfl, hE, hP, hM⟩ := hrel
    clear HR HP
    by_cases hi : i < f.length
    · have x1 := hBT.out i hi
      have hd : f.drop i = f.getD i 0 :: f.drop (i + 1) := by
        rw [List.drop_eq_getElem_cons hi, List.getD_eq_getElem?_getD, List.getElem?_eq_getElem hi]
        rfl
      rw [hd] at hE
      have hi' : (i : Int) < (f.length : Int) := by omega
      generalize f.getD i 0 = c at x1 hE
      clear hd
      by_cases hc : m.head? = some c
      · obtain ⟨m', rfl⟩ : ∃ m', m = c :: m' := by
          cases m with
          | nil => cases hc
          | cons y m' => injection hc with hc; exact ⟨m', by rw [hc]⟩
        have HE2 : Hid (ex (f.drop (i + 1)) m' = R) := by
          have := hE.out
          rw [ex_cons, if_pos rfl] at this
          exact this
        go_wp2_with fail
        refine (skip_yes g s m' c wr hs hP.out).mono ?_
        rintro e w1 ⟨rfl, P1, M1⟩
        have HP1 : Hid (Ps w1 g s m') := P1
        have HM1 : Hid (Pm g w w1) := hM.out.trans M1
        clear P1 M1 hE hP hM hc
        go_wp2
        go_roundg (gk - 1)
        case measure => omega
        case rel => exact ⟨i + 1, m', by omega, by go_num, HE2, HP1, HM1⟩
      · have HB : Hid (R = .bad m) := by
          have := hE.out
          cases m with
          | nil => exact this.symm
          | cons y m' =>
            rw [ex_cons, if_neg (fun e => hc (by rw [e]; rfl))] at this
            exact this.symm
        go_wp2_with fail
        refine (skip_no g s m c wr hP.out hc).mono ?_
        rintro e w1 ⟨rfl, P1, M1⟩
        have HP1 : Hid (Ps w1 g s m) := P1
        have HM1 : Hid (Pm g w w1) := hM.out.trans M1
        clear P1 M1 hE hP hM hc
        go_wp2_with fail
        refine (give_any g s m w1 HP1.out).mono ?_
        rintro e w2 ⟨rfl, rfl⟩
        go_wp2
        refine ⟨rfl, ?_⟩
        rw [HB.out]
        exact ⟨rfl, HM1.out⟩
    · have HB : Hid (R = .ok () m) := by
        have := hE.out
        rw [List.drop_of_length_le (by omega)] at this
        exact this.symm
      have hi' : ¬ (i : Int) < (f.length : Int) := by omega
      go_wp2
      go_end0
      rw [HB.out]
      exact ⟨⟨_, rfl, rfl⟩, hP.out, hM.out⟩

end Go.Proofs.Ytbfhfejdmhjccaa
