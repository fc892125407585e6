/- IkA IkB IkC, gathered (own text of the verifier). -/
import Derived.Test.YtjhbfkckkinfjaaDoorXA
import Derived.Test.YtjhbfkckkinfjaaDoorInZ
import Derived.Test.YtjhbfkckkinfjaaDoorIoA
import Derived.Deep.AppendLies
import Derived.Deep.Upon
import Derived.Lib.AppendZeros
import Derived.Deep.AppendSrc
namespace Go.Proofs.YtjhbfkckkinfjaaDoor
open Go.RowKit Go.Shelf

/-- The first n texts of f. -/
def txL (f : Nat → ByteArray) (n : Nat) : List ByteArray := (List.range n).map f
theorem txL_len (f : Nat → ByteArray) (n : Nat) : (txL f n).length = n := by unfold txL; simp
theorem txL_nth (f : Nat → ByteArray) (n i : Nat) (hi : i < n) : (txL f n)[i]? = some (f i) := by unfold txL; simp [hi]

theorem OwnS.more {w : World} {B : Nat} {v : Value} {L : List ByteArray} (h : OwnS w B v L) (g c : Nat) (y : ByteArray) (hc : w.cell? ⟨g, 0, none⟩ = some (.string y)) (hn : L.length ≤ 1073741824) (hB : B ≤ w.heap.size) :
    ∃ g' cap w', (Builtin.append_ #[24, 24] 24 #[v, .slice (some ⟨g, 0, none⟩) 1 c]).run Tryd.prog w = .ok (.slice (some ⟨g', 0, none⟩) (L.length + 1) cap) w' ∧ OwnS w' B (.slice (some ⟨g', 0, none⟩) (L.length + 1) cap) (L ++ [y]) ∧ w.grownBy w' v.ownBlock ∧ (v.ownBlock = some g' ∨ g' = w.heap.size) := by
  obtain ⟨i0, hi, hz0, hz1, hz2⟩ := info_parts Sq.info_str
  obtain ⟨g', cap, w', h1, h2, h3, h4, _⟩ := run_append_lies (P := Tryd.prog) w 24 24 B 9 i0 (.string ByteArray.empty) 1 16 Tryd.underlying24 hi hz0 hz1 hz2 rfl (by decide) v L.length (L.map Value.string) h ⟨g, 0, none⟩ 1 c [.string y] rfl (fun j u hj => by
    match j, hj with
    | 0, hj => simp at hj; subst hj; simpa [Addr.add] using hc) (by intro u hu; simp at hu; subst hu; rfl) (by decide) (by unfold maxLen; omega) (by omega) hB _ rfl
  refine ⟨g', cap, w', h1, ?_, h3, h4⟩
  unfold OwnS
  rw [List.length_append, List.map_append]
  exact h2
theorem OwnS.all {w : World} {B g0 : Nat} (h : OwnS w B (.slice (some ⟨g0, 0, none⟩) 0 0) []) (x : Option Addr) (n c : Nat) (f : Nat → ByteArray) (hs : SIs w x n f) (hn : n ≤ 1073741824) (hB : B ≤ w.heap.size) :
    ∃ v' w', (Builtin.append_ #[24, 24] 24 #[.slice (some ⟨g0, 0, none⟩) 0 0, .slice x n c]).run Tryd.prog w = .ok v' w' ∧ OwnS w' B v' (txL f n) ∧ w.grownBy w' (some g0) ∧ (v'.ownBlock = some g0 ∨ v'.ownBlock = some w.heap.size) := by
  obtain ⟨i0, hi, hz0, hz1, hz2⟩ := info_parts Sq.info_str
  by_cases h0 : n = 0
  · subst h0
    refine ⟨_, w, run_append_nothing (P := Tryd.prog) w 24 24 24 9 i0 Tryd.underlying24 hi _ 0 0 (Nat.le_refl _) _ ?_, h, grown_below _ (Below.refl _ _), .inl rfl⟩
    exact ⟨.inl ⟨_, Tryd.underlying24⟩, fun _ => rfl, by cases x with
      | none => exact run_firstCells_none w _ 0 0 c
      | some a => exact run_firstCells_some w _ 0 a 0 c [] (by simp) (fun j v h => by simp at h), by cases x with
      | none => exact run_firstCells_none w.drew _ 0 0 c
      | some a => exact run_firstCells_some w.drew _ 0 a 0 c [] (by simp) (fun j v h => by simp at h), by simp, fun _ h => by cases h⟩
  · obtain ⟨a, rfl, _⟩ := hs 0 (by omega)
    obtain ⟨g', cap, w', h1, h2, h3, h4, _⟩ := run_append_lies (P := Tryd.prog) w 24 24 B 9 i0 (.string ByteArray.empty) 1 16 Tryd.underlying24 hi hz0 hz1 hz2 rfl (by decide) (.slice (some ⟨g0, 0, none⟩) 0 0) 0 [] h a n c ((txL f n).map Value.string) (by rw [List.length_map, txL_len]; omega) (fun j u hj => by
      have hj' : j < n := by have := (List.getElem?_eq_some_iff.1 hj).1; rw [List.length_map, txL_len] at this; exact this
      obtain ⟨a', e1, e2⟩ := hs j hj'
      cases e1
      rw [List.getElem?_map, txL_nth f n j hj'] at hj
      simp at hj
      rw [← hj]; exact e2) (by intro u hu; obtain ⟨_, _, rfl⟩ := List.mem_map.1 hu; rfl) (by omega) (by unfold maxLen; omega) (by omega) hB _ rfl
    refine ⟨_, w', h1, ?_, h3, ?_⟩
    · unfold OwnS
      rw [txL_len]
      rw [Nat.zero_add, List.nil_append] at h2
      rw [Nat.zero_add]
      exact h2
    · rcases h4 with h4 | h4
      · have h5 : some g0 = some g' := h4
        injection h5 with h5
        subst h5
        exact .inl rfl
      · subst h4
        exact .inr rfl
theorem pr_small {P : ByteArray} {D : Nat → Int} {z : Int} {fr : Nat → ByteArray} {nr : Nat} {F : ByteArray} {fs : Nat → ByteArray} {ns : Nat} (h : ckC P z fr nr F fs ns = 0) (hn : ns ≤ 1048576) : (prT P D z fr nr F fs ns).size ≤ 1000000000 := by
  obtain ⟨h1, ⟨h2, h2'⟩, h3, h4, h5⟩ := ckC_parts h
  obtain ⟨h6, h7⟩ := crf_ok h3
  have mP := prC_max h1
  have mI := itoa_le z h2 h2'
  have mB := bsS_size fr nr (fun i hi => prC_max (h7 i hi).1)
  have m4 := pt4_size P D z fr nr
  have mS := ptS_size (ptF (pt4 P D z fr nr) F) fs ns (fun i hi => signs_small h i hi)
  unfold prT
  by_cases hF : F.size = 0
  · rw [ptF_z hF] at mS ⊢
    omega
  · have hF2 := h4
    rw [frC_n hF] at hF2
    have mF := prC_max hF2
    have e : (ptF (pt4 P D z fr nr) F).size = (pt4 P D z fr nr).size + 6 + F.size + 1 := by rw [ptF_n hF, app_size, app_size, app_size]; rfl
    omega
theorem sm_refl (P : ByteArray) (D : Nat → Int) (z : Int) (fr : Nat → ByteArray) (nr : Nat) (F : ByteArray) (fs : Nat → ByteArray) (ns : Nat) : smB P D z fr nr F fs ns P D z fr nr F fs ns = true := by
  unfold smB
  rw [eqT_all (fun _ _ => rfl), eqT_all (fun _ _ => rfl)]
  simp
theorem sm_back {P : ByteArray} {D : Nat → Int} {z : Int} {fr : Nat → ByteArray} {nr : Nat} {F : ByteArray} {fs : Nat → ByteArray} {ns : Nat} (hD : ∀ j, 0 ≤ D j ∧ D j < 256) :
    smB P (backS P D z fr nr F fs ns).D z (Sq.nth ((List.range nr).map fr)) ((List.range nr).map fr).length F (Sq.nth ((List.range ns).map fs)) ((List.range ns).map fs).length P D z fr nr F fs ns = true := by
  have h := (rh_back D (fun j _ => hD j)).2
  unfold smB
  rw [List.length_map, List.length_range, List.length_map, List.length_range, eqT_all (fun i hi => nth_range fr nr i hi), eqT_all (fun i hi => nth_range fs ns i hi)]
  have hd : ((List.range 32).all fun i => (backS P D z fr nr F fs ns).D i == D i) = true := by
    rw [List.all_eq_true]
    intro i hi
    rw [beq_iff_eq]
    exact h i (List.mem_range.1 hi)
  rw [hd]
  simp
theorem Inf.setAll {w : World} {g : Nat} {P P' : ByteArray} {D D' : Nat → Int} {z z' : Int} {vr vr' : Value} {F F' : ByteArray} {vs vs' : Value} (h : Inf w g P D z vr F vs) : Inf (w.setCells g 0 (infL P' D' z' vr' F' vs')) g P' D' z' vr' F' vs' := by
  have R := World.rangeAt_setCells_same w g 0 (infL P' D' z' vr' F' vs') (by rw [infL_len]; exact h.there37)
  have R' : ∀ j v, (infL P' D' z' vr' F' vs')[j]? = some v → (w.setCells g 0 (infL P' D' z' vr' F' vs')).cell? ⟨g, j, none⟩ = some v := fun j v hv => by have := R j v hv; rw [Nat.zero_add] at this; exact this
  exact ⟨R' 0 _ rfl, fun j hj => R' (1 + j) _ (infL_dig _ _ _ _ _ _ j hj), R' 33 _ (infL_tail _ _ _ _ _ _ 0), R' 34 _ (infL_tail _ _ _ _ _ _ 1), R' 35 _ (infL_tail _ _ _ _ _ _ 2), R' 36 _ (infL_tail _ _ _ _ _ _ 3), fun j hj => by rw [World.frozen?_setCells]; exact h.free j hj⟩
theorem wpList_store_infI {ops : Array Oper} {rest : List Oper} {o : Oper} {a : Act} {w : World} {Q : Exit → Act → World → Prop} {g : Nat} {P P' : ByteArray} {D D' : Nat → Int} {z z' : Int} {vr vr' : Value} {F F' : ByteArray} {vs vs' : Value} (hgd : o.guard = none) (x y : Operand) (ho : o.op = .store 26 x y)
    (hx : a.eval x = .pointer (some ⟨g, 0, none⟩)) (hy : a.eval y = .agg (infC P' D' z' vr' F' vs')) (h : Inf w g P D z vr F vs) (h1 : vr'.oneCell' = true) (h2 : vs'.oneCell' = true) (hdst : o.dst = none)
    (hK : ∀ W, Inf W g P' D' z' vr' F' vs' → Upd w W g → wpList Tryd.prog ops Q rest a W) : wpList Tryd.prog ops Q (o :: rest) a w := by
  refine wpList_store_mid hgd 26 x y ho g 0 (infC P' D' z' vr' F' vs') hx hy (by rw [infC_size]; exact h.there37) (by rw [infC_size]; exact szINF) (inf_one _ _ _ _ _ _ h1 h2) ?_
  rw [hdst]
  obtain ⟨s1, s2, s3, s4, s5⟩ := setCells_only g (infL P' D' z' vr' F' vs') 0 w
  exact hK _ h.setAll ⟨s3, s4, s5, s1, fun i _ hne => s2 i hne⟩

/-- An append whose run is known, as a step of a region that draws its order. -/
theorem step_append_runI {P : Program} {ops : Array Oper} {o : Oper} {a : Act} {w : World} {K : Act → World → Prop} {Q : Exit → Act → World → Prop} {E : Prop} (hg : o.guard = none) (s x : Operand) (t tn : TypeId) (hop : o.op = Op.call { callee := Callee.builtin Builtin.append, args := #[s, x], argTypes := #[t, tn] })
    (vs vx : Value) (hs : a.eval s = vs) (hx : a.eval x = vx) {v' : Value} {w' : World} (hr : (Builtin.append_ #[t, tn] o.type #[vs, vx]).run P w = .ok v' w') (hK : K (a.put o.dst v') w') :
    if Region.wanted o (yielded ops a.tmps) = true then Oper.wp P o a w K Q else E := by
  have hw : Region.wanted o (yielded ops a.tmps) = true := by simp [Region.wanted, hg]
  rw [if_pos hw]
  exact Lib.wp_append_run w s x t tn hop vs vx hs hx v' w' hr hK

theorem heap_lt {w : World} {b : Nat} {o : Obj} (h : w.heap[b]? = some o) : b < w.heap.size := (Array.getElem?_eq_some_iff.1 h).1
theorem grown_belowZ {a w w' : World} {r : Option Nat} (h : Below a.heap.size a w) (g : w.grownBy w' r) (hr : ∀ k, r = some k → a.heap.size ≤ k) : Below a.heap.size a w' :=
  ⟨g.os.trans h.os, g.tape.trans h.tape, g.output.trans h.output, Nat.le_trans h.size g.size, fun k hk => (g.block k (Nat.lt_of_lt_of_le hk h.size) (fun e => by have := hr k e.symm; omega)).trans (h.block k hk)⟩
def gapB : ByteArray := ⟨#[103, 97, 112]⟩
theorem gap_row {w : World} {B g n c : Nat} {f : Nat → ByteArray} (h : OwnS w B (.slice (some ⟨g, 0, none⟩) (n + 1) c) (txL f n ++ [gapB])) : SIs w (some ⟨g, 0, none⟩) n f ∧ w.cell? ⟨g, n, none⟩ = some (.string gapB) ∧ g < w.heap.size ∧ B ≤ g := by
  have hl : (txL f n ++ [gapB]).length = n + 1 := by rw [List.length_append, txL_len]; rfl
  have hge := h.ge (g := g) rfl
  obtain ⟨x, c', hv, _, hs⟩ := h.shape
  rw [hl] at hv hs
  injection hv with e1 e2 e3
  subst e1
  refine ⟨fun i hi => ?_, ?_, hge.2, hge.1⟩
  · obtain ⟨a, e1, e2⟩ := hs i (by omega)
    refine ⟨a, e1, ?_⟩
    rw [e2]
    congr 2
    unfold Sq.nth
    rw [List.getD_eq_getElem?_getD, List.getElem?_append_left (by rw [txL_len]; exact hi), txL_nth f n i hi]
    rfl
  · obtain ⟨a, e1, e2⟩ := hs n (by omega)
    injection e1 with e1
    subst e1
    rw [Addr.add_lit, Nat.zero_add] at e2
    rw [e2]
    congr 2
    unfold Sq.nth
    rw [List.getD_eq_getElem?_getD, List.getElem?_append_right (by rw [txL_len]; exact Nat.le_refl _), txL_len, Nat.sub_self]
    rfl
end Go.Proofs.YtjhbfkckkinfjaaDoor
namespace Go.Proofs.YtjhbfkckkinfjaaDoor
open Go.RowKit Go.Shelf

def RowZ (w : World) (B : Nat) (v : Value) (n : Nat) : Prop := (v = .slice none 0 0 ∧ n = 0) ∨ ∃ b c, v = .slice (some ⟨b, 0, none⟩) n c ∧ n ≤ c ∧ B ≤ b ∧ Blk w b 9 c
theorem OwnR.rowZ {w : World} {B : Nat} {v : Value} {R : List ByteArray} (h : OwnR w B v R) : RowZ w B v R.length := by
  rcases h with ⟨rfl, rfl⟩ | ⟨b, c, hv, h1, h2, _, _, h5⟩
  · exact .inl ⟨rfl, rfl⟩
  · exact .inr ⟨b, c, hv, h1, h2, h5⟩
theorem OwnS.rowZ {w : World} {B : Nat} {v : Value} {L : List ByteArray} (h : OwnS w B v L) : RowZ w B v L.length := by
  rcases h.2 with ⟨rfl, h0⟩ | ⟨g, cap, cur, hv, hb, hg, hn, _, hs, _⟩
  · exact .inl ⟨rfl, h0⟩
  · exact .inr ⟨g, cap, hv, hn, hb, cur, hg, by rw [hs]; omega⟩
theorem RowZ.shape {w : World} {B : Nat} {v : Value} {n : Nat} (h : RowZ w B v n) : ∃ x c, v = .slice x n c := by
  rcases h with ⟨rfl, rfl⟩ | ⟨b, c, hv, _⟩
  · exact ⟨none, 0, rfl⟩
  · exact ⟨_, c, hv⟩
theorem RowZ.same {w w' : World} {B : Nat} {v : Value} {n : Nat} (h : RowZ w B v n) (e : ∀ g, v.ownBlock = some g → w'.heap[g]? = w.heap[g]?) : RowZ w' B v n := by
  rcases h with h | ⟨b, c, hv, h1, h2, h3⟩
  · exact .inl h
  · exact .inr ⟨b, c, hv, h1, h2, h3.same (e b (by rw [hv]; rfl))⟩
theorem RowZ.ge {w : World} {B : Nat} {v : Value} {n : Nat} (h : RowZ w B v n) {g : Nat} (e : v.ownBlock = some g) : B ≤ g ∧ g < w.heap.size := by
  rcases h with ⟨rfl, _⟩ | ⟨b, c, hv, h1, h2, h3⟩
  · cases e
  · rw [hv] at e
    injection e with e
    subst e
    exact ⟨h2, h3.lt⟩
theorem RowZ.at {w : World} {B : Nat} {v : Value} {n k : Nat} (h : RowZ w B v n) (hk : k < n) : ∃ b c u, v = .slice (some ⟨b, 0, none⟩) n c ∧ n ≤ c ∧ w.cell? ⟨b, k, none⟩ = some u ∧ w.frozen? ⟨b, k, none⟩ = false ∧ v.ownBlock = some b := by
  rcases h with ⟨_, h0⟩ | ⟨b, c, hv, h1, h2, cur, h3, h4⟩
  · omega
  · refine ⟨b, c, cur[k]'(by omega), hv, h1, ?_, ?_, by rw [hv]; rfl⟩
    · rw [Lib.cell_of_heap h3, Array.getElem?_eq_getElem (by omega)]
    · unfold World.frozen?; rw [h3]; simp
theorem RowZ.set {w : World} {B : Nat} {v : Value} {n : Nat} (h : RowZ w B v n) (b k : Nat) (u : Value) : RowZ (w.setCell ⟨b, k, none⟩ u) B v n := by
  rcases h with h | ⟨b', c, hv, h1, h2, h3⟩
  · exact .inl h
  · refine .inr ⟨b', c, hv, h1, h2, ?_⟩
    by_cases hb : b' = b
    · subst hb; exact h3.set k u
    · exact h3.same (Below.heap_setCell _ ⟨b, k, none⟩ _ b' hb)
theorem RowZ.more {w : World} {B : Nat} {v : Value} {n : Nat} (h : RowZ w B v n) (g : Nat) (y : ByteArray) (hc : w.cell? ⟨g, 0, none⟩ = some (.string y)) (hn : n ≤ 1073741824) (hB : B ≤ w.heap.size) :
    ∃ v' w', (Builtin.append_ #[24, 24] 24 #[v, .slice (some ⟨g, 0, none⟩) 1 1]).run Tryd.prog w = .ok v' w' ∧ RowZ w' B v' (n + 1) ∧ w.grownBy w' v.ownBlock ∧ (v'.ownBlock = v.ownBlock ∨ v'.ownBlock = some w.heap.size) := by
  obtain ⟨i0, hi, hz0, hz1, hz2⟩ := info_parts Sq.info_str
  have hsrc : Src Tryd.prog i0.size 24 (.slice (some ⟨g, 0, none⟩) 1 1) 1 [.string y] w := Src.ofSlice (P := Tryd.prog) w (size := i0.size) Tryd.underlying24 ⟨g, 0, none⟩ 1 1 [.string y] (by rw [hz1]; rfl) (fun j u hj => by
    match j, hj with
    | 0, hj => simp at hj; subst hj; simpa [Addr.add] using hc) (by intro u hu; simp at hu; subst hu; rfl)
  have grow : ∀ (base : Option Addr) (olds : List Value), olds.length = n → (Builtin.firstCells i0.size n (.slice base n n)).run Tryd.prog w.drew = .ok olds.toArray w.drew → v = .slice base n n → ∃ v' w', (Builtin.append_ #[24, 24] 24 #[v, .slice (some ⟨g, 0, none⟩) 1 1]).run Tryd.prog w = .ok v' w' ∧ RowZ w' B v' (n + 1) ∧ w.grownBy w' v.ownBlock ∧ (v'.ownBlock = v.ownBlock ∨ v'.ownBlock = some w.heap.size) := fun base olds hol hold hv => by
    have hr := run_append_grow_src (P := Tryd.prog) w 24 24 24 9 i0 _ Tryd.underlying24 hi hz0 base n n olds hold _ 1 [.string y] hsrc (by omega) (by omega) (by rw [hz2]; exact growslice_fits (by omega) (by omega))
    rw [← hv] at hr
    refine ⟨_, _, hr, .inr ⟨w.heap.size, _, rfl, grownCap_ge w _ _ _, hB, _, heap_alloc_new w.drew _, ?_⟩, ?_, .inr rfl⟩
    · have := grownCap_ge w (n + 1) n 9
      rw [Array.size_append, List.size_toArray, size_zeroCells, List.length_append, hol]
      show n + 1 + (grownCap w (n + 1) n 9 - (n + 1)) * 1 = _
      omega
    · exact grown_below _ ((⟨rfl, rfl, rfl, Nat.le_refl _, fun _ _ => rfl⟩ : Below w.heap.size w w.drew).trans (Below.alloc (Below.refl w.heap.size w.drew) (Nat.le_refl _) _))
  rcases h with ⟨rfl, rfl⟩ | ⟨b, c, hv, h1, h2, cur, h3, h4⟩
  · exact grow none [] rfl (run_firstCells_none w.drew _ 0 0 0) rfl
  · by_cases hroom : n + 1 ≤ c
    · have hr := run_append_room_src (P := Tryd.prog) w 24 24 24 9 i0 Tryd.underlying24 hi b 0 n c _ 1 [.string y] hsrc hroom (fun j hj => by
        have hj : j < 1 := hj
        have : j = 0 := by omega
        subst this
        rw [hz1, Lib.cell_of_heap h3, Array.getElem?_eq_getElem (by omega)]; rfl) (fun j _ => by unfold World.frozen?; rw [h3]; simp)
      rw [← hv] at hr
      refine ⟨_, _, hr, .inr ⟨b, c, rfl, hroom, h2, ?_⟩, ?_, .inl (by rw [hv]; rfl)⟩
      · have hblk : Blk w b 9 c := ⟨cur, h3, h4⟩
        exact Blk.set hblk _ _
      · have hb : (v.ownBlock : Option Nat) = some b := by rw [hv]; rfl
        rw [hb]
        refine ⟨rfl, rfl, rfl, by show w.heap.size ≤ (w.setCell _ _).heap.size; rw [World.size_setCell]; exact Nat.le_refl _, fun k _ hne => Below.heap_setCell _ ⟨b, 0 + n * i0.size, none⟩ _ k (fun e => hne (by rw [show k = b from e]))⟩
    · obtain rfl : c = n := by omega
      refine grow (some ⟨b, 0, none⟩) cur.toList (by rw [Array.length_toList]; exact h4) ?_ hv
      rw [hz1]
      refine run_firstCells_some w.drew 1 c ⟨b, 0, none⟩ c c cur.toList (by rw [Array.length_toList]; omega) (fun j u hj => ?_)
      have h3' : w.drew.heap[b]? = some (.cells cur 9 (0, 0)) := h3
      rw [Addr.add_lit, Nat.zero_add, Lib.cell_of_heap h3', ← Array.getElem?_toList]
      exact hj
theorem OwnR.low {w : World} {B B' : Nat} {v : Value} {R : List ByteArray} (hB : B' ≤ B) (h : OwnR w B v R) : OwnR w B' v R := by
  rcases h with h | ⟨b, c, hv, h1, h2, h3⟩
  · exact .inl h
  · exact .inr ⟨b, c, hv, h1, Nat.le_trans hB h2, h3⟩
theorem OwnS.low {w : World} {B B' : Nat} {v : Value} {L : List ByteArray} (hB : B' ≤ B) (h : OwnS w B v L) : OwnS w B' v L := by
  refine ⟨h.1, ?_⟩
  rcases h.2 with h | ⟨g, cap, cur, hv, hb, r⟩
  · exact .inl h
  · exact .inr ⟨g, cap, cur, hv, Nat.le_trans hB hb, r⟩
end Go.Proofs.YtjhbfkckkinfjaaDoor
namespace Go.Proofs.YtjhbfkckkinfjaaDoor
open Go.RowKit Go.Shelf

/-- What the law's first drawn regions keep. -/
structure KeW (w : World) (P : ByteArray) (D : Nat → Int) (z : Int) (F : ByteArray) (vr vs : Value) (g : Nat) (W : World) : Prop where
  inf : Inf W g P D z vr F vs
  bel : Below w.heap.size w W
/-- The law's blocks: i's box, a's and b's, and their rows. -/
structure KL (w : World) (P : ByteArray) (D : Nat → Int) (z : Int) (F : ByteArray) (ur us : Value) (Db : Nat → Int) (gA gB Ba : Nat) (vb vt : Value) (Lr Ls : List ByteArray) (va vs : Value) (n m : Nat) (W : World) : Prop where
  ke : KeW w P D z F ur us w.heap.size W
  ia : Inf W gA P Db z va F vs
  ib : Inf W gB P Db z vb F vt
  fr : OwnR W (gA + 2) vb Lr
  fs : OwnS W (gA + 2) vt Ls
  ra : RowZ W Ba va n
  rs : RowZ W Ba vs m
  da : ∀ k, va.ownBlock = some k → vs.ownBlock ≠ some k
  ka : ∀ k, va.ownBlock = some k → k < gA ∨ gB < k
  ks : ∀ k, vs.ownBlock = some k → k < gA ∨ gB < k
  kb : ∀ k, vb.ownBlock = some k → k < gB
  kt : ∀ k, vt.ownBlock = some k → k < gB
  sz : gA + 2 ≤ gB ∧ Ba ≤ gA ∧ w.heap.size < Ba

theorem KL.keep {w : World} {P : ByteArray} {D : Nat → Int} {z : Int} {F : ByteArray} {ur us : Value} {Db : Nat → Int} {gA gB Ba : Nat} {vb vt : Value} {Lr Ls : List ByteArray} {va vs : Value} {n m : Nat} {W W' : World} (h : KL w P D z F ur us Db gA gB Ba vb vt Lr Ls va vs n m W) (va' vs' : Value) (n' m' : Nat)
    (hb : Below w.heap.size w W') (hk : ∀ b, (b = w.heap.size ∨ b = gB ∨ (gA + 2 ≤ b ∧ b < gB)) → b < W.heap.size → W'.heap[b]? = W.heap[b]?) (ia : Inf W' gA P Db z va' F vs') (ra : RowZ W' Ba va' n') (rs : RowZ W' Ba vs' m') (da : ∀ k, va'.ownBlock = some k → vs'.ownBlock ≠ some k) (ka : ∀ k, va'.ownBlock = some k → k < gA ∨ gB < k) (ks : ∀ k, vs'.ownBlock = some k → k < gA ∨ gB < k) : KL w P D z F ur us Db gA gB Ba vb vt Lr Ls va' vs' n' m' W' :=
  ⟨⟨h.ke.inf.same (hk _ (.inl rfl) h.ke.inf.lt), hb⟩, ia, h.ib.same (hk _ (.inr (.inl rfl)) h.ib.lt), h.fr.same (fun g e => hk g (.inr (.inr ⟨(h.fr.ge e).1, h.kb g e⟩)) (h.fr.ge e).2), h.fs.same (fun g e => hk g (.inr (.inr ⟨(h.fs.ge e).1, h.kt g e⟩)) (h.fs.ge e).2), ra, rs, da, ka, ks, h.kb, h.kt, h.sz⟩
/-- A cell of a's rows stored. -/
theorem KL.set {w : World} {P : ByteArray} {D : Nat → Int} {z : Int} {F : ByteArray} {ur us : Value} {Db : Nat → Int} {gA gB Ba : Nat} {vb vt : Value} {Lr Ls : List ByteArray} {va vs : Value} {n m : Nat} {W : World} (h : KL w P D z F ur us Db gA gB Ba vb vt Lr Ls va vs n m W) (b k : Nat) (u : Value) (hb : va.ownBlock = some b ∨ vs.ownBlock = some b) : KL w P D z F ur us Db gA gB Ba vb vt Lr Ls va vs n m (W.setCell ⟨b, k, none⟩ u) := by
  have h1 : Ba ≤ b ∧ (b < gA ∨ gB < b) := by
    rcases hb with hb | hb
    · exact ⟨(h.ra.ge hb).1, h.ka b hb⟩
    · exact ⟨(h.rs.ge hb).1, h.ks b hb⟩
  obtain ⟨s1, s2, s3⟩ := h.sz
  refine h.keep va vs n m (h.ke.bel.setCell (by show w.heap.size ≤ b; omega) _) (fun x hx _ => Below.heap_setCell _ ⟨b, k, none⟩ _ x (by show x ≠ b; omega)) (h.ia.same (Below.heap_setCell _ ⟨b, k, none⟩ _ gA (by show gA ≠ b; omega))) (h.ra.set b k u) (h.rs.set b k u) h.da h.ka h.ks
/-- One text more for a's first list. -/
theorem KL.refs {w : World} {P : ByteArray} {D : Nat → Int} {z : Int} {F : ByteArray} {ur us : Value} {Db : Nat → Int} {gA gB Ba : Nat} {vb vt : Value} {Lr Ls : List ByteArray} {va vs : Value} {n m : Nat} {W : World} (h : KL w P D z F ur us Db gA gB Ba vb vt Lr Ls va vs n m W) (hn : n ≤ 1073741824) (y : ByteArray) :
    ∃ v' W', (Builtin.append_ #[24, 24] 24 #[va, .slice (some ⟨W.heap.size, 0, none⟩) 1 1]).run Tryd.prog (W.alloc (.cells #[.string y] 9)) = .ok v' W' ∧ Inf W' gA P Db z va F vs ∧ KL w P D z F ur us Db gA gB Ba vb vt Lr Ls v' vs (n + 1) m (W'.setCell ⟨gA, 34, none⟩ v') := by
  obtain ⟨s1, s2, s3⟩ := h.sz
  have bx : Below W.heap.size W (W.alloc (.cells #[.string y] 9)) := (Below.refl _ _).alloc (Nat.le_refl _) _
  have hgB := h.ib.lt
  obtain ⟨v', W', hr, hz, hg, hat⟩ := RowZ.more (h.ra.same (fun g e => bx.block g (h.ra.ge e).2)) W.heap.size y (by rw [World.cell?_alloc_new]; rfl) hn (by have := bx.size; omega)
  have hown : ∀ k, va.ownBlock = some k → Ba ≤ k ∧ (k < gA ∨ gB < k) := fun k e => ⟨(h.ra.ge e).1, h.ka k e⟩
  have hkeep : ∀ x, x < W.heap.size → va.ownBlock ≠ some x → W'.heap[x]? = W.heap[x]? := fun x hx hne => (hg.block x (Nat.lt_of_lt_of_le hx bx.size) (fun e => hne e.symm)).trans (bx.block x hx)
  have hne : ∀ x, (x = w.heap.size ∨ x = gB ∨ (gA + 2 ≤ x ∧ x < gB)) → va.ownBlock ≠ some x := fun x hx e => by have := hown x e; omega
  have hsz : (W.alloc (.cells #[.string y] 9)).heap.size = W.heap.size + 1 := World.size_alloc _ _
  have ia : Inf W' gA P Db z va F vs := h.ia.same (hkeep gA h.ia.lt (fun e => by have := hown gA e; omega))
  have hbel : Below w.heap.size w W' := ⟨hg.os.trans (bx.os.trans h.ke.bel.os), hg.tape.trans (bx.tape.trans h.ke.bel.tape), hg.output.trans (bx.output.trans h.ke.bel.output), Nat.le_trans h.ke.bel.size (Nat.le_trans bx.size hg.size), fun x hx => (hkeep x (Nat.lt_of_lt_of_le hx h.ke.bel.size) (fun e => by have := hown x e; omega)).trans (h.ke.bel.block x hx)⟩
  have hv' : ∀ k, v'.ownBlock = some k → va.ownBlock = some k ∨ k = W.heap.size + 1 := fun k e => by
    rcases hat with hat | hat
    · rw [hat] at e; exact .inl e
    · rw [hat] at e; injection e with e; exact .inr (by omega)
  refine ⟨v', W', hr, ia, h.keep v' vs (n + 1) m (hbel.setCell (by show w.heap.size ≤ gA; omega) _) (fun x hx hlt => (Below.heap_setCell _ ⟨gA, 34, none⟩ _ x (by show x ≠ gA; omega)).trans (hkeep x hlt (hne x hx))) (ia.setRefs v') (hz.set gA 34 _) ((h.rs.same (fun g e => hkeep g (h.rs.ge e).2 (fun e' => h.da g e' e))).set gA 34 _) (fun k e e' => ?_) (fun k e => ?_) h.ks⟩
  · rcases hv' k e with e1 | e1
    · exact h.da k e1 e'
    · have := (h.rs.ge e').2; omega
  · rcases hv' k e with e1 | e1
    · exact h.ka k e1
    · exact .inr (by omega)
/-- One text more for a's second list. -/
theorem KL.signs {w : World} {P : ByteArray} {D : Nat → Int} {z : Int} {F : ByteArray} {ur us : Value} {Db : Nat → Int} {gA gB Ba : Nat} {vb vt : Value} {Lr Ls : List ByteArray} {va vs : Value} {n m : Nat} {W : World} (h : KL w P D z F ur us Db gA gB Ba vb vt Lr Ls va vs n m W) (hm : m ≤ 1073741824) (y : ByteArray) :
    ∃ v' W', (Builtin.append_ #[24, 24] 24 #[vs, .slice (some ⟨W.heap.size, 0, none⟩) 1 1]).run Tryd.prog (W.alloc (.cells #[.string y] 9)) = .ok v' W' ∧ Inf W' gA P Db z va F vs ∧ KL w P D z F ur us Db gA gB Ba vb vt Lr Ls va v' n (m + 1) (W'.setCell ⟨gA, 36, none⟩ v') := by
  obtain ⟨s1, s2, s3⟩ := h.sz
  have bx : Below W.heap.size W (W.alloc (.cells #[.string y] 9)) := (Below.refl _ _).alloc (Nat.le_refl _) _
  have hgB := h.ib.lt
  obtain ⟨v', W', hr, hz, hg, hat⟩ := RowZ.more (h.rs.same (fun g e => bx.block g (h.rs.ge e).2)) W.heap.size y (by rw [World.cell?_alloc_new]; rfl) hm (by have := bx.size; omega)
  have hown : ∀ k, vs.ownBlock = some k → Ba ≤ k ∧ (k < gA ∨ gB < k) := fun k e => ⟨(h.rs.ge e).1, h.ks k e⟩
  have hkeep : ∀ x, x < W.heap.size → vs.ownBlock ≠ some x → W'.heap[x]? = W.heap[x]? := fun x hx hne => (hg.block x (Nat.lt_of_lt_of_le hx bx.size) (fun e => hne e.symm)).trans (bx.block x hx)
  have hne : ∀ x, (x = w.heap.size ∨ x = gB ∨ (gA + 2 ≤ x ∧ x < gB)) → vs.ownBlock ≠ some x := fun x hx e => by have := hown x e; omega
  have hsz : (W.alloc (.cells #[.string y] 9)).heap.size = W.heap.size + 1 := World.size_alloc _ _
  have ia : Inf W' gA P Db z va F vs := h.ia.same (hkeep gA h.ia.lt (fun e => by have := hown gA e; omega))
  have hbel : Below w.heap.size w W' := ⟨hg.os.trans (bx.os.trans h.ke.bel.os), hg.tape.trans (bx.tape.trans h.ke.bel.tape), hg.output.trans (bx.output.trans h.ke.bel.output), Nat.le_trans h.ke.bel.size (Nat.le_trans bx.size hg.size), fun x hx => (hkeep x (Nat.lt_of_lt_of_le hx h.ke.bel.size) (fun e => by have := hown x e; omega)).trans (h.ke.bel.block x hx)⟩
  have hv' : ∀ k, v'.ownBlock = some k → vs.ownBlock = some k ∨ k = W.heap.size + 1 := fun k e => by
    rcases hat with hat | hat
    · rw [hat] at e; exact .inl e
    · rw [hat] at e; injection e with e; exact .inr (by omega)
  refine ⟨v', W', hr, ia, h.keep va v' n (m + 1) (hbel.setCell (by show w.heap.size ≤ gA; omega) _) (fun x hx hlt => (Below.heap_setCell _ ⟨gA, 36, none⟩ _ x (by show x ≠ gA; omega)).trans (hkeep x hlt (hne x hx))) (ia.setSigns v') ((h.ra.same (fun g e => hkeep g (h.ra.ge e).2 (fun e' => h.da g e e'))).set gA 36 _) (hz.set gA 36 _) (fun k e e' => ?_) h.ka (fun k e => ?_)⟩
  · rcases hv' k e' with e1 | e1
    · exact h.da k e e1
    · have := (h.ra.ge e).2; omega
  · rcases hv' k e with e1 | e1
    · exact h.ks k e1
    · exact .inr (by omega)
end Go.Proofs.YtjhbfkckkinfjaaDoor
