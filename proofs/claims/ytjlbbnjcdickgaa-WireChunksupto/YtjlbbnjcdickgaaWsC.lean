/- The document's Read. -/
import Derived.Test.YtjlbbnjcdickgaaWsB
import Derived.Test.YtjlbbnjcdickgaaWrW
import Derived.Deep.RegionLaw
namespace Go.Proofs.Ytjlbbnjcdickgaa
open Go.RowKit

/-- v is a slice of these items of the document, in memory from B on. -/
def OwnJ (w : World) (B : Nat) (v : Value) (L : List It) : Prop := w.ownsRow B 74 3 v L.length (L.flatMap itC)
theorem OwnJ.nil (w : World) (B : Nat) : OwnJ w B (.slice none 0 0) [] := World.ownsRow_nil _ _ _ _
theorem OwnJ.alloc {w : World} {B : Nat} {v : Value} {L : List It} (h : OwnJ w B v L) (o : Obj) : OwnJ (w.alloc o) B v L := World.ownsRow.alloc h o
theorem OwnJ.lt {w : World} {B : Nat} {v : Value} {L : List It} (h : OwnJ w B v L) : ∀ k, v.ownBlock = some k → B ≤ k ∧ k < w.heap.size := World.ownsRow.lt h
theorem OwnJ.same {w w' : World} {B : Nat} {v : Value} {L : List It} (h : OwnJ w B v L) (e : ∀ k, v.ownBlock = some k → w'.heap[k]? = w.heap[k]?) : OwnJ w' B v L := by
  obtain ⟨hl, h | ⟨g, cap, cur, hv, hb, hg, hr⟩⟩ := h
  · exact ⟨hl, .inl h⟩
  · exact ⟨hl, .inr ⟨g, cap, cur, hv, hb, (e g (by rw [hv]; rfl)).trans hg, hr⟩⟩
theorem OwnJ.mono {w : World} {B B' : Nat} {v : Value} {L : List It} (h : OwnJ w B v L) (hB : B' ≤ B) : OwnJ w B' v L := by
  obtain ⟨hl, h | ⟨g, cap, cur, hv, hb, hr⟩⟩ := h
  · exact ⟨hl, .inl h⟩
  · exact ⟨hl, .inr ⟨g, cap, cur, hv, by omega, hr⟩⟩
theorem OwnJ.open {w : World} {B : Nat} {v : Value} {L : List It} (h : OwnJ w B v L) : (v = .slice none 0 0 ∧ L = []) ∨ ∃ g cap, v = .slice (some ⟨g, 0, none⟩) L.length cap ∧ B ≤ g ∧ g < w.heap.size ∧ L.length ≤ cap ∧ ∀ (j : Nat) (hj : j < L.length), w.cell? ⟨g, 3 * j, none⟩ = some (.bool (L[j]).isInt) ∧ w.cell? ⟨g, 3 * j + 1, none⟩ = some (.int .u64 ((L[j]).num : Int)) ∧ w.cell? ⟨g, 3 * j + 2, none⟩ = some (.string (ba (L[j]).text)) := by
  obtain ⟨hl, h | ⟨g, cap, cur, hv, hb, hg, hnc, _, hcs, htake⟩⟩ := h
  · left
    exact ⟨h.1, List.eq_nil_of_length_eq_zero h.2⟩
  · right
    refine ⟨g, cap, hv, hb, (Array.getElem?_eq_some_iff.1 hg).1, hnc, fun j hj => ?_⟩
    have key : ∀ (L : List It) (j i : Nat) (hj : j < L.length), i < 3 → (L.flatMap itC)[3 * j + i]? = (itC (L[j]))[i]? := by
      intro L
      induction L with
      | nil => intro j i hj; simp at hj
      | cons a L ih =>
        intro j i hj hi
        rw [List.flatMap_cons]
        cases j with
        | zero =>
          rw [List.getElem?_append_left (by show _ < 3; omega)]
          simp
        | succ j =>
          rw [List.getElem?_append_right (by show 3 ≤ _; omega), show 3 * (j + 1) + i - (itC a).length = 3 * j + i by show 3 * (j + 1) + i - 3 = _; omega]
          exact ih j i (by simpa using hj) hi
    have cell : ∀ i, i < 3 → w.cell? ⟨g, 3 * j + i, none⟩ = (itC (L[j]))[i]? := fun i hi => by
      rw [cell_of_row w g (3 * j + i) cur 74 (0, 0) hg, ← key L j i hj hi, ← htake, List.getElem?_take, if_pos (by omega)]
      simp
    exact ⟨cell 0 (by omega), cell 1 (by omega), cell 2 (by omega)⟩


theorem info_jt : (Try.prog.info? 74).map (fun i => (i.zero, i.size, i.bytes)) = some (some (.agg #[.bool false, .int .u64 0, .string ByteArray.empty]), 3, 32) := by kernel_rfl
/-- Block G is a Got with these items, noughts behind. -/
structure Gt (w : World) (G : Nat) (v : Value) : Prop where
  c0 : w.cell? ⟨G, 0, none⟩ = some v
  c1 : w.cell? ⟨G, 1, none⟩ = some (.int .i64 0)
  c2 : w.cell? ⟨G, 2, none⟩ = some (.int .i64 0)
  c3 : w.cell? ⟨G, 3, none⟩ = some (.int .i64 0)
  fr : ∀ j, w.frozen? ⟨G, j, none⟩ = false
  lt : G < w.heap.size
theorem Gt.same {w w' : World} {G : Nat} {v : Value} (h : Gt w G v) (hs : w.heap.size ≤ w'.heap.size) (e : w'.heap[G]? = w.heap[G]?) : Gt w' G v := by
  have hc : ∀ j, w'.cell? ⟨G, j, none⟩ = w.cell? ⟨G, j, none⟩ := fun j => World.cell?_of_block (w := w) (w' := w') (a := ⟨G, j, none⟩) e
  exact ⟨(hc 0).trans h.c0, (hc 1).trans h.c1, (hc 2).trans h.c2, (hc 3).trans h.c3, fun j => (World.frozen?_of_block (w := w) (w' := w') (a := ⟨G, j, none⟩) e).trans (h.fr j), Nat.lt_of_lt_of_le h.lt hs⟩
theorem Gt.fresh (w : World) : Gt (w.alloc (.cells #[.slice none 0 0, .int .i64 0, .int .i64 0, .int .i64 0] 36)) w.heap.size (.slice none 0 0) := by
  have hc : ∀ j, (w.alloc (.cells #[.slice none 0 0, .int .i64 0, .int .i64 0, .int .i64 0] 36)).cell? ⟨w.heap.size, j, none⟩ = _ := fun j => World.cell?_alloc_new w _ _ j
  exact ⟨(hc 0).trans rfl, (hc 1).trans rfl, (hc 2).trans rfl, (hc 3).trans rfl, fun j => World.frozen?_alloc_new w _ _ _, by rw [World.size_alloc]; omega⟩
/-- What Read answers. -/
def readR (tl pl : List UInt8) (m : Nat) : Got := if badAt pl < pl.length then ⟨[], 30, badAt pl, 0⟩ else rdG m pl tl 0 []
def gotV (v : Value) (g : Got) : Value := .agg #[v, .int .i64 (g.code : Int), .int .i64 (g.fat : Int), .int .i64 (g.tk : Int)]

theorem Gt.other {w : World} {G : Nat} {v : Value} (h : Gt w G v) {k j : Nat} {x : Value} (hk : G ≠ k) : Gt (w.setCell ⟨k, j, none⟩ x) G v := h.same (by simp) (Below.heap_setCell w _ _ G hk)
theorem OwnJ.other {w : World} {B : Nat} {v : Value} {L : List It} (h : OwnJ w B v L) {k j : Nat} {x : Value} (hk : k < B) : OwnJ (w.setCell ⟨k, j, none⟩ x) B v L :=
  h.same (fun i hi => Below.heap_setCell w _ _ i (by have := (h.lt i hi).1; show i ≠ k; omega))
theorem put4_cells {w : World} {G : Nat} {x a b c d : Value} (g : Gt w G x) (j : Nat) (hj : j < 4) : ((((w.setCell ⟨G, 0, none⟩ a).setCell ⟨G, 1, none⟩ b).setCell ⟨G, 2, none⟩ c).setCell ⟨G, 3, none⟩ d).cell? ⟨G, j, none⟩ = #[a, b, c, d][j]? := by
  have h0 : (w.setCell ⟨G, 0, none⟩ a).cell? ⟨G, 0, none⟩ = some a := World.cell?_setCell_same _ _ _ g.c0
  have h1 : ((w.setCell ⟨G, 0, none⟩ a).setCell ⟨G, 1, none⟩ b).cell? ⟨G, 1, none⟩ = some b := World.cell?_setCell_same _ _ _ ((cell_other _ G 1 0 _ (by decide)).trans g.c1)
  have h2 : (((w.setCell ⟨G, 0, none⟩ a).setCell ⟨G, 1, none⟩ b).setCell ⟨G, 2, none⟩ c).cell? ⟨G, 2, none⟩ = some c := World.cell?_setCell_same _ _ _ ((cell_other _ G 2 1 _ (by decide)).trans ((cell_other _ G 2 0 _ (by decide)).trans g.c2))
  have h3 : ((((w.setCell ⟨G, 0, none⟩ a).setCell ⟨G, 1, none⟩ b).setCell ⟨G, 2, none⟩ c).setCell ⟨G, 3, none⟩ d).cell? ⟨G, 3, none⟩ = some d := World.cell?_setCell_same _ _ _ ((cell_other _ G 3 2 _ (by decide)).trans ((cell_other _ G 3 1 _ (by decide)).trans ((cell_other _ G 3 0 _ (by decide)).trans g.c3)))
  match j, hj with
  | 0, _ => rw [cell_other _ G 0 3 _ (by decide), cell_other _ G 0 2 _ (by decide), cell_other _ G 0 1 _ (by decide)]; exact h0
  | 1, _ => rw [cell_other _ G 1 3 _ (by decide), cell_other _ G 1 2 _ (by decide)]; exact h1
  | 2, _ => rw [cell_other _ G 2 3 _ (by decide)]; exact h2
  | 3, _ => exact h3
theorem exit_got {W : World} {G : Nat} {x a b c d : Value} {tmps : Array Value} {R : Ending → World → Prop} (g : Gt W G x) (ht : tmps[6]?.getD undef = .pointer (some ⟨G, 0, none⟩))
    (hR : R (.returned (.agg #[a, b, c, d])) ((((W.setCell ⟨G, 0, none⟩ a).setCell ⟨G, 1, none⟩ b).setCell ⟨G, 2, none⟩ c).setCell ⟨G, 3, none⟩ d)) :
    bodyPost Try.prog Try.f17 R .ret { tmps := tmps, defers := [] } ((((W.setCell ⟨G, 0, none⟩ a).setCell ⟨G, 1, none⟩ b).setCell ⟨G, 2, none⟩ c).setCell ⟨G, 3, none⟩ d) := by
  have q0 := put4_cells (a := a) (b := b) (c := c) (d := d) g 0 (by decide)
  have q1 := put4_cells (a := a) (b := b) (c := c) (d := d) g 1 (by decide)
  have q2 := put4_cells (a := a) (b := b) (c := c) (d := d) g 2 (by decide)
  have q3 := put4_cells (a := a) (b := b) (c := c) (d := d) g 3 (by decide)
  simp only [List.getElem?_toArray, List.getElem?_cons_zero, List.getElem?_cons_succ] at q0 q1 q2 q3
  generalize (((W.setCell ⟨G, 0, none⟩ a).setCell ⟨G, 1, none⟩ b).setCell ⟨G, 2, none⟩ c).setCell ⟨G, 3, none⟩ d = W4 at q0 q1 q2 q3 hR ⊢
  exact bodyPost_ret (v := .agg #[a, b, c, d]) (by simp [results, Try.results17, go_sem, ht, q0, q1, q2, q3]) rfl hR
theorem step_append_run {ops : Array Oper} {o : Oper} {a : Act} {w : World} {K : Act → World → Prop} {Q : Exit → Act → World → Prop} {E : Prop}
    (hg : o.guard = none) (s x : Operand) (t : TypeId) (hop : o.op = Op.call { callee := Callee.builtin Builtin.append, args := #[s, x], argTypes := #[t, t] }) (vs vx : Value) (hs : a.eval s = vs) (hx : a.eval x = vx) (v' : Value) (w' : World)
    (hrun : (Builtin.append_ #[t, t] o.type #[vs, vx]).run Try.prog w = .ok v' w') (hK : K (a.put o.dst v') w') :
    if Region.wanted o (yielded ops a.tmps) = true then Oper.wp Try.prog o a w K Q else E := by
  have hw : Region.wanted o (yielded ops a.tmps) = true := by simp [Region.wanted, hg]
  rw [if_pos hw]
  unfold Oper.wp
  simp [execOp, hop, resolve, invoke, builtin, hs, hx, hrun, Result.andThen]
  exact hK
theorem rdG_t (m : Nat) (p rem : List UInt8) (at_ : Nat) (out : List It) : rdG m (116 :: p) rem at_ out = if rem.length < 8 then ⟨out, 0, 0, at_ + rem.length⟩ else if m < le (rem.take 8) then ⟨out, 6, at_, at_ + 7⟩
      else if zeros (((rem.drop 8).drop (le (rem.take 8))).take (padN (le (rem.take 8)))) < (((rem.drop 8).drop (le (rem.take 8))).take (padN (le (rem.take 8)))).length then
        ⟨out, 7, at_ + 8 + le (rem.take 8) + zeros (((rem.drop 8).drop (le (rem.take 8))).take (padN (le (rem.take 8)))), at_ + 8 + le (rem.take 8) + zeros (((rem.drop 8).drop (le (rem.take 8))).take (padN (le (rem.take 8))))⟩
      else if (rem.drop 8).length < le (rem.take 8) + padN (le (rem.take 8)) then ⟨out, 0, 0, at_ + rem.length⟩
      else rdG m p ((rem.drop 8).drop (le (rem.take 8) + padN (le (rem.take 8)))) (at_ + 8 + le (rem.take 8) + padN (le (rem.take 8))) (out ++ [⟨false, 0, (rem.drop 8).take (le (rem.take 8))⟩]) := by
  conv => lhs; unfold rdG
  rw [if_pos rfl]
theorem one_cases (tl : List UInt8) (at_ m : Nat) (p : List UInt8) (out : List It) (h : at_ ≤ tl.length) :
    (∃ C A T : Nat, oneR tl at_ m = oneV [] (-1) (C : Int) (A : Int) (T : Int) ∧ rdG m (116 :: p) (tl.drop at_) at_ out = ⟨out, C, A, T⟩) ∨
    (∃ (l : List UInt8) (b : Nat), oneR tl at_ m = oneV l (b : Int) 0 0 0 ∧ b ≤ tl.length ∧ rdG m (116 :: p) (tl.drop at_) at_ out = rdG m p (tl.drop b) b (out ++ [⟨false, 0, l⟩])) := by
  have hd : at_ + (tl.drop at_).length = tl.length := by rw [List.length_drop]; omega
  rw [rdG_t]
  unfold oneR
  by_cases h8 : (tl.drop at_).length < 8
  · rw [if_pos h8, if_pos h8, hd]
    exact .inl ⟨0, 0, tl.length, rfl, rfl⟩
  rw [if_neg h8, if_neg h8]
  by_cases hm : m < le ((tl.drop at_).take 8)
  · rw [if_pos hm, if_pos hm]
    exact .inl ⟨6, at_, at_ + 7, rfl, rfl⟩
  rw [if_neg hm, if_neg hm]
  unfold oneS
  generalize hn : le ((tl.drop at_).take 8) = n
  generalize hz : (((tl.drop at_).drop 8).drop n).take (padN n) = z
  by_cases hzz : zeros z < z.length
  · rw [if_pos hzz, if_pos hzz]
    exact .inl ⟨7, _, _, rfl, rfl⟩
  rw [if_neg hzz, if_neg hzz]
  by_cases hs : ((tl.drop at_).drop 8).length < n + padN n
  · rw [if_pos hs, if_pos hs, hd]
    exact .inl ⟨0, 0, tl.length, rfl, rfl⟩
  rw [if_neg hs, if_neg hs]
  refine .inr ⟨_, _, rfl, ?_, ?_⟩
  · rw [List.length_drop, List.length_drop] at hs
    rw [List.length_drop] at h8
    omega
  · rw [List.drop_drop, List.drop_drop]
    congr 2
    omega
theorem Gt.put {w : World} {G : Nat} {v v' : Value} (h : Gt w G v) : Gt (w.setCell ⟨G, 0, none⟩ v') G v' :=
  ⟨World.cell?_setCell_same _ _ _ h.c0, (cell_other w G 1 0 _ (by decide)).trans h.c1, (cell_other w G 2 0 _ (by decide)).trans h.c2, (cell_other w G 3 0 _ (by decide)).trans h.c3, fun j => by rw [World.frozen?_setCell]; exact h.fr j, by simpa using h.lt⟩
theorem Gt.drew {w : World} {G : Nat} {v : Value} (h : Gt w G v) : Gt w.drew G v := h.same (Nat.le_refl _) rfl
theorem rdG_nil (m : Nat) (rem : List UInt8) (at_ : Nat) (out : List It) : rdG m [] rem at_ out = if rem.length = 0 then ⟨out, 0, 0, at_⟩ else ⟨out, 5, at_, at_⟩ := rfl
theorem rdG_i (m : Nat) (p rem : List UInt8) (at_ : Nat) (out : List It) : rdG m (105 :: p) rem at_ out = if rem.length < 8 then ⟨out, 0, 0, at_ + rem.length⟩ else rdG m p (rem.drop 8) (at_ + 8) (out ++ [⟨true, le (rem.take 8), []⟩]) := by
  conv => lhs; unfold rdG
  rw [if_neg (show ¬ (105 : UInt8) = 116 by decide)]

set_option maxHeartbeats 8000000 in
theorem read_pos (tl pl : List UInt8) (m : Nat) (w : World) (ht : tl.length ≤ 1073741824) (hl : pl.length ≤ 1073741824) (hm : m ≤ 9223372036854775807) :
    Calls Try.prog 17 #[.string (ba tl), .string (ba pl), .int .i64 (m : Int)] w fun e w' => ∃ v, e = .returned (gotV v (readR tl pl m)) ∧ OwnJ w' w.heap.size v (readR tl pl m).out ∧ Below w.heap.size w w' := by
  have hsz := ba_size tl
  have hsp := ba_size pl
  have hg : ∀ (n : Nat) (h : n < (ba pl).size), (((ba pl)[n]'h).toNat : Int) = bt (ba pl) n := get_bt (ba pl)
  have HB : Hid (∀ (k : Nat) (h : k < pl.length), bt (ba pl) k = ((pl[k]'h).toNat : Int)) := fun k h => bt_ba pl k h
  have g6 := Gt.fresh w
  by_cases hbad : badAt pl < pl.length
  · have hpl : plnd pl = (badAt pl : Int) := if_pos hbad
    have HE : Hid (readR tl pl m = ⟨[], 30, badAt pl, 0⟩) := if_pos hbad
    go_enter Try.func17, Try.ntmps17
    go_wp2_with fail
    refine (planned_any pl _ hl).mono ?_
    rintro e w1 ⟨rfl, rfl⟩
    rw [hpl]
    go_wp2
    have q0 : (w.alloc (.cells #[.slice none 0 0, .int .i64 30, .int .i64 (badAt pl : Int), .int .i64 0] 36)).cell? ⟨w.heap.size, 0, none⟩ = some (.slice none 0 0) := (World.cell?_alloc_new w _ _ 0).trans rfl
    have q1 : (w.alloc (.cells #[.slice none 0 0, .int .i64 30, .int .i64 (badAt pl : Int), .int .i64 0] 36)).cell? ⟨w.heap.size, 1, none⟩ = some (.int .i64 30) := (World.cell?_alloc_new w _ _ 1).trans rfl
    have q2 : (w.alloc (.cells #[.slice none 0 0, .int .i64 30, .int .i64 (badAt pl : Int), .int .i64 0] 36)).cell? ⟨w.heap.size, 2, none⟩ = some (.int .i64 (badAt pl : Int)) := (World.cell?_alloc_new w _ _ 2).trans rfl
    have q3 : (w.alloc (.cells #[.slice none 0 0, .int .i64 30, .int .i64 (badAt pl : Int), .int .i64 0] 36)).cell? ⟨w.heap.size, 3, none⟩ = some (.int .i64 0) := (World.cell?_alloc_new w _ _ 3).trans rfl
    have B : Hid (Below w.heap.size w (w.alloc (.cells #[.slice none 0 0, .int .i64 30, .int .i64 (badAt pl : Int), .int .i64 0] 36))) := (Below.refl _ _).alloc (Nat.le_refl _) _
    generalize w.alloc (.cells #[.slice none 0 0, .int .i64 30, .int .i64 (badAt pl : Int), .int .i64 0] 36) = W4 at q0 q1 q2 q3 B ⊢
    exact bodyPost_ret (v := .agg #[.slice none 0 0, .int .i64 30, .int .i64 (badAt pl : Int), .int .i64 0]) (by simp [results, Try.results17, go_sem, q0, q1, q2, q3]) rfl ⟨.slice none 0 0, by rw [HE.out]; rfl, by rw [HE.out]; exact OwnJ.nil _ _, B.out⟩
  · have hpl : plnd pl = -1 := if_neg hbad
    have HE : Hid (readR tl pl m = rdG m pl tl 0 []) := if_neg hbad
    have hok := (badAt_ok pl hbad).2
    have HOK : Hid (∀ c ∈ pl, okL c = true) := hok
    clear hok hbad
    go_enter Try.func17, Try.ntmps17
    go_wp2_with fail
    refine (planned_any pl _ hl).mono ?_
    rintro e w1 ⟨rfl, rfl⟩
    rw [hpl]
    go_wp2
    have hs1 : (w.alloc (.cells #[.slice none 0 0, .int .i64 0, .int .i64 0, .int .i64 0] 36)).heap.size = w.heap.size + 1 := World.size_alloc _ _
    have g8 := Gt.fresh (w.alloc (.cells #[.slice none 0 0, .int .i64 0, .int .i64 0, .int .i64 0] 36))
    have g6' := g6.same (by rw [World.size_alloc, World.size_alloc]; omega) (Below.heap_alloc _ (.cells #[.slice none 0 0, .int .i64 0, .int .i64 0, .int .i64 0] 36) _ (by rw [hs1]; omega))
    have B0 : Below w.heap.size w ((w.alloc (.cells #[.slice none 0 0, .int .i64 0, .int .i64 0, .int .i64 0] 36)).alloc (.cells #[.slice none 0 0, .int .i64 0, .int .i64 0, .int .i64 0] 36)) := ((Below.refl _ _).alloc (Nat.le_refl _) _).alloc (by rw [hs1]; omega) _
    rw [hs1] at g8
    have hG68 : w.heap.size ≠ w.heap.size + 1 := by omega
    have hG86 : w.heap.size + 1 ≠ w.heap.size := by omega
    generalize (w.alloc (.cells #[.slice none 0 0, .int .i64 0, .int .i64 0, .int .i64 0] 36)).alloc (.cells #[.slice none 0 0, .int .i64 0, .int .i64 0, .int .i64 0] 36) = W0 at g8 g6' B0 ⊢
    clear hs1 g6
    have H8 : Hid (Gt W0 (w.heap.size + 1) (.slice none 0 0)) := g8
    have H6 : Hid (Gt W0 w.heap.size (.slice none 0 0)) := g6'
    have HB0 : Hid (Below w.heap.size w W0) := B0
    clear g8 g6' B0
    go_loopw [9, 10] (fun a i wr => ∃ (k at_ : Nat) (v : Value) (out : List It), k ≤ pl.length ∧ at_ ≤ tl.length ∧ a = .int .i64 at_ ∧ i = .int .i64 k ∧ Hid (Gt wr w.heap.size (.slice none 0 0)) ∧ Hid (Gt wr (w.heap.size + 1) v) ∧ Hid (OwnJ wr (w.heap.size + 2) v out) ∧ Hid (out.length ≤ k) ∧ Hid (rdG m pl tl 0 [] = rdG m (pl.drop k) (tl.drop at_) at_ out) ∧ Hid (Below w.heap.size w wr)) (fun _ i _ => pl.length - (intOf i).toNat)
    case atStart => exact ⟨0, 0, _, [], Nat.zero_le _, Nat.zero_le _, rfl, rfl, H6, H8, OwnJ.nil _ _, Nat.le_refl 0, rfl, HB0⟩
    case round =>
      obtain ⟨k, at_, v, out, hk, ha, rfl, rfl, hg6, hg8, hO, hol, hR, hB⟩ := hrel
      obtain ⟨x, c, rfl⟩ : ∃ x c, v = .slice x out.length c := by
        rcases hO.out.open with ⟨h, h2⟩ | ⟨g, cap, h, _⟩
        · exact ⟨none, 0, by rw [h, h2]; rfl⟩
        · exact ⟨_, _, h⟩
      have d0 := hg8.out.c0
      have d1 := hg8.out.c1
      have d2 := hg8.out.c2
      have d3 := hg8.out.c3
      have k0 := hg8.out.fr 0
      have k1 := hg8.out.fr 1
      have k2 := hg8.out.fr 2
      have k3 := hg8.out.fr 3
      have e0 := hg6.out.c0
      have e1 := hg6.out.c1
      have e2 := hg6.out.c2
      have e3 := hg6.out.c3
      have m0 := hg6.out.fr 0
      have m1 := hg6.out.fr 1
      have m2 := hg6.out.fr 2
      have m3 := hg6.out.fr 3
      by_cases hlt : k < pl.length
      · have hc := HOK.out _ (List.getElem_mem hlt)
        have hb := HB.out k hlt
        have hdr : Hid (pl.drop k = pl[k] :: pl.drop (k + 1)) := List.drop_eq_getElem_cons hlt
        rcases (okL_int _).1 hc with h5 | h6
        · have hc5 : pl[k] = 105 := UInt8.toNat_inj.1 (by have : (pl[k]).toNat = 105 := by omega
                                                          rw [this]; rfl)
          have hR5 : Hid (rdG m pl tl 0 [] = if (tl.drop at_).length < 8 then Got.mk out 0 0 (at_ + (tl.drop at_).length) else rdG m (pl.drop (k + 1)) ((tl.drop at_).drop 8) (at_ + 8) (out ++ [⟨true, le ((tl.drop at_).take 8), []⟩])) := by
            unfold Hid; rw [hR.out, hdr.out, hc5, rdG_i]
          rw [h5] at hb
          clear h5 hc hc5
          by_cases hsh : tl.length < at_ + 8
          · have hR6 : Hid (rdG m pl tl 0 [] = Got.mk out 0 0 tl.length) := by
              unfold Hid; rw [hR5.out, if_pos (by rw [List.length_drop]; omega), List.length_drop, show at_ + (tl.length - at_) = tl.length by omega]
            have gs : (tl.length : Int) - 8 < (at_ : Int) := by omega
            go_wp2
            refine exit_got (x := .slice none 0 0) ?_ ?_ ?_
            · exact (hg6.out).other hG68
            · rfl
            · exact ⟨_, by rw [HE.out, hR6.out]; rfl, by rw [HE.out, hR6.out]; exact ((((((hO.out).other (k := w.heap.size + 1) (by omega)).other (k := w.heap.size) (by omega)).other (k := w.heap.size) (by omega)).other (k := w.heap.size) (by omega)).other (k := w.heap.size) (by omega)).mono (by omega), (((((hB.out).setCell (Nat.le_succ _) _).setCell (Nat.le_refl _) _).setCell (Nat.le_refl _) _).setCell (Nat.le_refl _) _).setCell (Nat.le_refl _) _⟩
          · have hR6 : Hid (rdG m pl tl 0 [] = rdG m (pl.drop (k + 1)) (tl.drop (at_ + 8)) (at_ + 8) (out ++ [⟨true, le ((tl.drop at_).take 8), []⟩])) := by
              unfold Hid; rw [hR5.out, if_neg (by rw [List.length_drop]; omega), List.drop_drop]
            have gs : ¬ ((tl.length : Int) - 8 < (at_ : Int)) := by omega
            have hn64 := le8_lt ((tl.drop at_).take 8) (by rw [List.length_take, List.length_drop]; omega)
            have NC := fun w => num_any tl at_ w ht (by omega)
            generalize le ((tl.drop at_).take 8) = n at hn64 NC hR6
            have HNC : Hid (∀ w : World, Calls Try.prog 32 #[.string (ba tl), .int .i64 (at_ : Int)] w fun e w' => e = .returned (.int .u64 (n : Int)) ∧ w' = w) := NC
            clear NC hR5
            obtain ⟨i0, hi, hz0, hz1, hz2⟩ := info_parts info_jt
            have hwz : w.heap.size + 2 ≤ wr.heap.size := by have := hg8.out.lt; omega
            obtain ⟨v', w', hap, O', G', -⟩ := run_append_own (P := Try.prog) (wr.alloc (.cells #[.bool true, .int .u64 (n : Int), .string ⟨#[]⟩] 74)).drew (w.heap.size + 2) 34 34 74 i0 (.agg #[.bool false, .int .u64 0, .string ByteArray.empty]) 3 32 Try.underlying34 hi hz0 hz1 hz2 rfl (by decide) (.slice x out.length c) out.length (out.flatMap itC) (World.ownsRow.alloc hO.out _) ⟨wr.heap.size, 0, none⟩ 1 1 (itC ⟨true, n, []⟩) rfl (fun j q hj => by
              have hw : ∀ i, (wr.alloc (.cells #[.bool true, .int .u64 (n : Int), .string ⟨#[]⟩] 74)).drew.cell? ⟨wr.heap.size, i, none⟩ = #[Value.bool true, Value.int .u64 (n : Int), Value.string ⟨#[]⟩][i]? := fun i => World.cell?_alloc_new wr _ _ i
              match j, hj with
              | 0, hj => simp [itC] at hj; subst hj; exact (hw 0).trans rfl
              | 1, hj => simp [itC] at hj; subst hj; rw [Addr.add_lit]; exact (hw 1).trans rfl
              | 2, hj => simp [itC] at hj; subst hj; rw [Addr.add_lit]; exact (hw 2).trans rfl) (by intro q hq; simp [itC] at hq; rcases hq with rfl | rfl | rfl <;> rfl) (by have := hol.out; unfold maxLen; omega) (by have := hol.out; omega) (by show _ ≤ (wr.alloc _).heap.size; rw [World.size_alloc]; omega)
            obtain ⟨x', c', rfl⟩ : ∃ x' c', v' = .slice x' (out.length + 1) c' := by
              rcases O'.2 with ⟨_, h⟩ | ⟨g, cap, cur, h, _⟩
              · omega
              · exact ⟨_, _, h⟩
            have hne8 : some (w.heap.size + 1) ≠ (Value.slice x out.length c).ownBlock := fun e => by have := (hO.out.lt _ e.symm).1; omega
            have hne6 : some w.heap.size ≠ (Value.slice x out.length c).ownBlock := fun e => by have := (hO.out.lt _ e.symm).1; omega
            have hl8 := hg8.out.lt
            have hl6 := hg6.out.lt
            have n8 : Hid (Gt w' (w.heap.size + 1) (.slice x out.length c)) := hg8.out.same (by have := G'.size; simp at this; omega) ((G'.block _ (by show _ < (wr.alloc _).heap.size; rw [World.size_alloc]; omega) hne8).trans (Below.heap_alloc wr _ _ hl8))
            have n6 : Hid (Gt w' w.heap.size (.slice none 0 0)) := hg6.out.same (by have := G'.size; simp at this; omega) ((G'.block _ (by show _ < (wr.alloc _).heap.size; rw [World.size_alloc]; omega) hne6).trans (Below.heap_alloc wr _ _ hl6))
            have nO : Hid (OwnJ w' (w.heap.size + 2) (.slice x' (out.length + 1) c') (out ++ [⟨true, n, []⟩])) := by
              unfold Hid OwnJ
              rw [List.length_append, List.flatMap_append]
              simpa using O'
            have nB : Hid (Below w.heap.size w w') := ((hB.out.alloc hB.out.size _).drew).grown G' (by show _ ≤ (wr.alloc _).heap.size; rw [World.size_alloc]; omega) (fun q hq => by have := (hO.out.lt q hq).1; omega)
            have y0 := n8.out.c0
            have y1 := n8.out.fr 0
            clear O' G' hi hz0 hz1 hz2 hne8 hne6
            go_wp2_with fail
            go_region_law (first | refine step_append_run rfl (.tmp 44) (.tmp 49) 34 rfl (.slice x out.length c) (.slice (some ⟨wr.heap.size, 0, none⟩) 1 1) rfl rfl (.slice x' (out.length + 1) c') w' hap ?_ | (rw [if_pos (by rfl)]; go_simp; refine (HNC.out _).mono ?_; rintro e5 w5 ⟨rfl, rfl⟩))
            all_goals (
              have f8 : Hid (Gt (w'.setCell ⟨w.heap.size + 1, 0, none⟩ (.slice x' (out.length + 1) c')) (w.heap.size + 1) (.slice x' (out.length + 1) c')) := n8.out.put
              have f6 : Hid (Gt (w'.setCell ⟨w.heap.size + 1, 0, none⟩ (.slice x' (out.length + 1) c')) w.heap.size (.slice none 0 0)) := n6.out.other hG68
              have fO : Hid (OwnJ (w'.setCell ⟨w.heap.size + 1, 0, none⟩ (.slice x' (out.length + 1) c')) (w.heap.size + 2) (.slice x' (out.length + 1) c') (out ++ [⟨true, n, []⟩])) := nO.out.other (by omega)
              have fB : Hid (Below w.heap.size w (w'.setCell ⟨w.heap.size + 1, 0, none⟩ (.slice x' (out.length + 1) c'))) := nB.out.setCell (Nat.le_succ _) _
              have hol' : Hid ((out ++ [(⟨true, n, []⟩ : It)]).length ≤ k + 1) := by unfold Hid; rw [List.length_append]; have := hol.out; simp; omega
              generalize w'.setCell ⟨w.heap.size + 1, 0, none⟩ (.slice x' (out.length + 1) c') = wN at f8 f6 fO fB ⊢
              go_wp2
              go_roundw
              case rel => exact ⟨k + 1, at_ + 8, _, _, by omega, by omega, by go_num, by go_num, f6, f8, fO, hol', hR6, fB⟩
              case measure => simp [intOf]; omega)
        · have hc6 : pl[k] = 116 := UInt8.toNat_inj.1 (by have : (pl[k]).toNat = 116 := by omega
                                                          rw [this]; rfl)
          rw [h6] at hb
          have OC := fun w => oneT_any tl at_ m w ht ha hm
          rcases one_cases tl at_ m (pl.drop (k + 1)) out ha with ⟨C, A, T, ho, hr⟩ | ⟨l, b, ho, hbl, hr⟩
          · have hR6 : Hid (rdG m pl tl 0 [] = Got.mk out C A T) := by unfold Hid; rw [hR.out, hdr.out, hc6, hr]
            rw [ho] at OC
            have HOC : Hid (∀ w : World, Calls Try.prog 33 #[.string (ba tl), .int .i64 (at_ : Int), .int .i64 (m : Int)] w fun e w' => e = .returned (oneV [] (-1) (C : Int) (A : Int) (T : Int)) ∧ w' = w) := OC
            clear OC ho hr h6 hc hc6
            go_wp2_with fail
            refine (HOC.out _).mono ?_
            rintro e w1 ⟨rfl, rfl⟩
            unfold oneV
            go_wp2
            refine exit_got (x := .slice none 0 0) ?_ ?_ ?_
            · exact (((hg6.out).other hG68).other hG68).other hG68
            · rfl
            · exact ⟨_, by rw [HE.out, hR6.out]; rfl, by rw [HE.out, hR6.out]; exact ((((((((hO.out).other (k := w.heap.size + 1) (by omega)).other (k := w.heap.size + 1) (by omega)).other (k := w.heap.size + 1) (by omega)).other (k := w.heap.size) (by omega)).other (k := w.heap.size) (by omega)).other (k := w.heap.size) (by omega)).other (k := w.heap.size) (by omega)).mono (by omega), (((((((hB.out).setCell (Nat.le_succ _) _).setCell (Nat.le_succ _) _).setCell (Nat.le_succ _) _).setCell (Nat.le_refl _) _).setCell (Nat.le_refl _) _).setCell (Nat.le_refl _) _).setCell (Nat.le_refl _) _⟩
          · have hR6 : Hid (rdG m pl tl 0 [] = rdG m (pl.drop (k + 1)) (tl.drop b) b (out ++ [⟨false, 0, l⟩])) := by unfold Hid; rw [hR.out, hdr.out, hc6, hr]
            rw [ho] at OC
            have HOC : Hid (∀ w : World, Calls Try.prog 33 #[.string (ba tl), .int .i64 (at_ : Int), .int .i64 (m : Int)] w fun e w' => e = .returned (oneV l (b : Int) 0 0 0) ∧ w' = w) := OC
            clear OC ho hr h6 hc hc6
            obtain ⟨i0, hi, hz0, hz1, hz2⟩ := info_parts info_jt
            have hwz : w.heap.size + 2 ≤ wr.heap.size := by have := hg8.out.lt; omega
            go_wp2_with fail
            refine (HOC.out _).mono ?_
            rintro e w1 ⟨rfl, rfl⟩
            unfold oneV
            go_wp2_with (at_builtin; refine wpList_append_own _ rfl _ _ 34 rfl (w.heap.size + 2) 74 i0 (.agg #[.bool false, .int .u64 0, .string ByteArray.empty]) 3 32 Try.underlying34 hi hz0 hz1 hz2 rfl (by decide) (.slice x out.length c) out.length (out.flatMap itC) rfl (World.ownsRow.alloc hO.out _) ⟨w1.heap.size, 0, none⟩ 1 1 (itC ⟨false, 0, l⟩) rfl rfl ?c1 ?c2 (by have := hol.out; unfold maxLen; omega) (by have := hol.out; omega) (by rw [World.size_alloc]; omega) ?_)
            case c1 =>
              intro j q hj
              have hw : ∀ i, (w1.alloc (.cells #[.bool false, .int .u64 0, .string (ba l)] 74)).cell? ⟨w1.heap.size, i, none⟩ = #[Value.bool false, Value.int .u64 0, Value.string (ba l)][i]? := fun i => World.cell?_alloc_new w1 _ _ i
              match j, hj with
              | 0, hj => simp [itC] at hj; subst hj; exact (hw 0).trans rfl
              | 1, hj => simp [itC] at hj; subst hj; rw [Addr.add_lit]; exact (hw 1).trans rfl
              | 2, hj => simp [itC] at hj; subst hj; rw [Addr.add_lit]; exact (hw 2).trans rfl
            case c2 => intro q hq; simp [itC] at hq; rcases hq with rfl | rfl | rfl <;> rfl
            intro v' w' O' G' _
            obtain ⟨x', c', rfl⟩ : ∃ x' c', v' = .slice x' (out.length + 1) c' := by
              rcases O'.2 with ⟨_, h⟩ | ⟨g, cap, cur, h, _⟩
              · omega
              · exact ⟨_, _, h⟩
            have hne8 : some (w.heap.size + 1) ≠ (Value.slice x out.length c).ownBlock := fun e => by have := (hO.out.lt _ e.symm).1; omega
            have hne6 : some w.heap.size ≠ (Value.slice x out.length c).ownBlock := fun e => by have := (hO.out.lt _ e.symm).1; omega
            have hl8 := hg8.out.lt
            have hl6 := hg6.out.lt
            have n8 : Hid (Gt w' (w.heap.size + 1) (.slice x out.length c)) := hg8.out.same (by have := G'.size; simp at this; omega) ((G'.block _ (by show _ < (w1.alloc _).heap.size; rw [World.size_alloc]; omega) hne8).trans (Below.heap_alloc w1 _ _ hl8))
            have n6 : Hid (Gt w' w.heap.size (.slice none 0 0)) := hg6.out.same (by have := G'.size; simp at this; omega) ((G'.block _ (by show _ < (w1.alloc _).heap.size; rw [World.size_alloc]; omega) hne6).trans (Below.heap_alloc w1 _ _ hl6))
            have nO : Hid (OwnJ w' (w.heap.size + 2) (.slice x' (out.length + 1) c') (out ++ [⟨false, 0, l⟩])) := by
              unfold Hid OwnJ
              rw [List.length_append, List.flatMap_append]
              simpa using O'
            have nB : Hid (Below w.heap.size w w') := (hB.out.alloc hB.out.size _).grown G' (by rw [World.size_alloc]; omega) (fun q hq => by have := (hO.out.lt q hq).1; omega)
            have y0 := n8.out.c0
            have y1 := n8.out.fr 0
            clear O' G' hi hz0 hz1 hz2 hne8 hne6
            go_wp2
            have f8 : Hid (Gt (w'.setCell ⟨w.heap.size + 1, 0, none⟩ (.slice x' (out.length + 1) c')) (w.heap.size + 1) (.slice x' (out.length + 1) c')) := n8.out.put
            have f6 : Hid (Gt (w'.setCell ⟨w.heap.size + 1, 0, none⟩ (.slice x' (out.length + 1) c')) w.heap.size (.slice none 0 0)) := n6.out.other hG68
            have fO : Hid (OwnJ (w'.setCell ⟨w.heap.size + 1, 0, none⟩ (.slice x' (out.length + 1) c')) (w.heap.size + 2) (.slice x' (out.length + 1) c') (out ++ [⟨false, 0, l⟩])) := nO.out.other (by omega)
            have fB : Hid (Below w.heap.size w (w'.setCell ⟨w.heap.size + 1, 0, none⟩ (.slice x' (out.length + 1) c'))) := nB.out.setCell (Nat.le_succ _) _
            have hol' : Hid ((out ++ [(⟨false, 0, l⟩ : It)]).length ≤ k + 1) := by unfold Hid; rw [List.length_append]; have := hol.out; simp; omega
            generalize w'.setCell ⟨w.heap.size + 1, 0, none⟩ (.slice x' (out.length + 1) c') = wN at f8 f6 fO fB ⊢
            go_roundw
            case rel => exact ⟨k + 1, b, _, _, by omega, by omega, by go_num, by go_num, f6, f8, fO, hol', hR6, fB⟩
            case measure => simp [intOf]; omega
      · obtain rfl : k = pl.length := by omega
        have hR5 : Hid (rdG m pl tl 0 [] = if (tl.drop at_).length = 0 then Got.mk out 0 0 at_ else Got.mk out 5 at_ at_) := by
          unfold Hid; rw [hR.out, List.drop_length, rdG_nil]
        by_cases hat : at_ < tl.length
        · have hR6 : Hid (rdG m pl tl 0 [] = Got.mk out 5 at_ at_) := by
            unfold Hid; rw [hR5.out, if_neg (by rw [List.length_drop]; omega)]
          go_wp2
          refine exit_got (x := .slice none 0 0) ?_ ?_ ?_
          · exact (((hg6.out).other hG68).other hG68).other hG68
          · rfl
          · exact ⟨_, by rw [HE.out, hR6.out]; rfl, by rw [HE.out, hR6.out]; exact ((((((((hO.out).other (k := w.heap.size + 1) (by omega)).other (k := w.heap.size + 1) (by omega)).other (k := w.heap.size + 1) (by omega)).other (k := w.heap.size) (by omega)).other (k := w.heap.size) (by omega)).other (k := w.heap.size) (by omega)).other (k := w.heap.size) (by omega)).mono (by omega), (((((((hB.out).setCell (Nat.le_succ _) _).setCell (Nat.le_succ _) _).setCell (Nat.le_succ _) _).setCell (Nat.le_refl _) _).setCell (Nat.le_refl _) _).setCell (Nat.le_refl _) _).setCell (Nat.le_refl _) _⟩
        · have hR6 : Hid (rdG m pl tl 0 [] = Got.mk out 0 0 at_) := by
            unfold Hid; rw [hR5.out, if_pos (by rw [List.length_drop]; omega)]
          go_wp2
          refine exit_got (x := .slice none 0 0) ?_ ?_ ?_
          · exact (hg6.out).other hG68
          · rfl
          · exact ⟨_, by rw [HE.out, hR6.out]; rfl, by rw [HE.out, hR6.out]; exact ((((((hO.out).other (k := w.heap.size + 1) (by omega)).other (k := w.heap.size) (by omega)).other (k := w.heap.size) (by omega)).other (k := w.heap.size) (by omega)).other (k := w.heap.size) (by omega)).mono (by omega), (((((hB.out).setCell (Nat.le_succ _) _).setCell (Nat.le_refl _) _).setCell (Nat.le_refl _) _).setCell (Nat.le_refl _) _).setCell (Nat.le_refl _) _⟩


end Go.Proofs.Ytjlbbnjcdickgaa
