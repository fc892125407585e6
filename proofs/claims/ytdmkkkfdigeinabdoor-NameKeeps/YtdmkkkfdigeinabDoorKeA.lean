/- copy and append of texts. -/
import Derived.Test.YtdmkkkfdigeinabDoorBeW
import Derived.Test.YtdmkkkfdigeinabDoorJnW
import Derived.ArgAppend
import Derived.Deep.Upon
import Derived.Laws.IdiomCopy
namespace Go.Proofs.YtdmkkkfdigeinabDoor
open Go.RowKit

theorem below_setCells (b : Nat) (vs : List Value) (o : Nat) {B : Nat} (hB : B ≤ b) {w0 w : World} (h : Below B w0 w) : Below B w0 (w.setCells b o vs) := by
  induction vs generalizing o w with
  | nil => exact h
  | cons v vs ih => exact ih (o + 1) (h.setCell hB _)
theorem heap_setCells (b : Nat) (vs : List Value) (o k : Nat) (hk : k ≠ b) (w : World) : (w.setCells b o vs).heap[k]? = w.heap[k]? := by
  induction vs generalizing o w with
  | nil => rfl
  | cons v vs ih =>
    refine (ih (o + 1) _).trans ?_
    exact Below.heap_setCell w ⟨b, o, none⟩ v k hk
theorem size_setCells (b : Nat) (vs : List Value) (o : Nat) (w : World) : (w.setCells b o vs).heap.size = w.heap.size := by
  induction vs generalizing o w with
  | nil => rfl
  | cons v vs ih =>
    refine (ih (o + 1) _).trans ?_
    exact World.size_setCell _ _ _

theorem info_one : (Tryd.prog.info? 9).map (·.size) = some 1 := by
  have := info_str
  cases h : Tryd.prog.info? 9 with
  | none => rw [h] at this; cases this
  | some i => rw [h] at this; simp at this; simp [this.2.1]

/-- copy(mine, names). -/
theorem copy_texts (w : World) (x : Option Addr) (n c m g : Nat) (L : List ByteArray) (f : Nat → Value) (ty : TypeId) (hx : SLx w x n c L) (V : VRow w g m f) (hm : n ≤ m) :
    ∃ w', (Builtin.copy_ #[23, 23] ty #[.slice (some ⟨g, 0, none⟩) m m, .slice x n c]).run Tryd.prog w = .ok (goInt n) w' ∧ VRow w' g m (fun j => if j < n then .string (nth L j) else f j) ∧ ∀ B, B ≤ g → Below B w w' := by
  rcases hx.2.2 with e | ⟨g2, o, e, _, hc⟩
  · subst e
    refine ⟨w, run_copy_none (P := Tryd.prog) w 23 23 ty 9 _ _ m m 0 c Tryd.underlying23 info_one (by simp), V.congr (fun j _ => by simp), fun B _ => Below.refl _ _⟩
  · subst e
    have hl : (L.map Value.string).length = n := by rw [List.length_map]; exact hx.1
    have hsrc : ∀ j v, (L.map Value.string)[j]? = some v → w.cell? ((⟨g2, o, none⟩ : Addr).add j) = some v := fun j v hj => by
      have hjn : j < n := by rw [← hl]; exact (List.getElem?_eq_some_iff.1 hj).1
      rw [Addr.add_lit, hc j hjn, ← hj]
      have hjl : j < L.length := by rw [hx.1]; exact hjn
      simp [nth, hjl]
    have hrun := run_copy_cells (P := Tryd.prog) w 23 23 ty 9 g 0 m m ⟨g2, o, none⟩ n c (L.map Value.string) Tryd.underlying23 info_one (by rw [hl]; exact (Nat.min_eq_left hm).symm) hsrc
      (fun j hj => by rw [Nat.zero_add, V.cell j (by omega)]; rfl) (fun j hj => by rw [Nat.zero_add]; exact V.free j (by omega)) (fun v hv => by obtain ⟨y, _, rfl⟩ := List.mem_map.1 hv; rfl)
    rw [hl] at hrun
    refine ⟨_, hrun, ⟨fun j hj => ?_, fun j hj => ?_⟩, fun B hB => below_setCells g _ 0 hB (Below.refl _ _)⟩
    · by_cases e : j < n
      · rw [if_pos e]
        have := World.cell?_setCells_in g (L.map Value.string) 0 w (fun i hi => by rw [Nat.zero_add, V.cell i (by omega)]; rfl) j (by omega)
        rw [Nat.zero_add] at this
        rw [this]
        have hjl : j < L.length := by rw [hx.1]; exact e
        simp [nth, hjl]
      · rw [if_neg e, World.cell?_setCells_out g _ 0 w _ (fun _ _ => by right; rw [hl]; show 0 + n ≤ j; omega)]
        exact V.cell j hj
    · rw [World.frozen?_setCells]; exact V.free j hj

/-- append([]string{}, a...), a with something in it. -/
theorem append_copy (w : World) (ga ca gz : Nat) (N : List ByteArray) (ty : TypeId) (hN : 0 < N.length) (hn : N.length ≤ 1000) (V : VRow w ga N.length (fun j => .string (nth N j))) :
    ∃ g' c' w', (Builtin.append_ #[23, 23] ty #[.slice (some ⟨gz, 0, none⟩) 0 0, .slice (some ⟨ga, 0, none⟩) N.length ca]).run Tryd.prog w = .ok (.slice (some ⟨g', 0, none⟩) N.length c') w' ∧ w.heap.size ≤ g' ∧ N.length ≤ c' ∧ VRow w' g' N.length (fun j => .string (nth N j)) ∧ Below w.heap.size w w' := by
  obtain ⟨i0, hi, hz0, hz1, hz2⟩ := info_parts info_str
  have hl : (N.map Value.string).length = N.length * 1 := by simp
  obtain ⟨v', w', hrun, hown, hgr⟩ := run_append_arg_grows (P := Tryd.prog) w 23 ty 9 i0 (.string ByteArray.empty) 1 16 Tryd.underlying23 hi hz0 hz1 hz2 rfl (by decide) ⟨gz, 0, none⟩ 0 0 [] (by simp) (fun j u hj => by simp at hj)
    ⟨ga, 0, none⟩ N.length ca (N.map Value.string) hl (fun j u hj => by
      have hjn : j < N.length := by have := (List.getElem?_eq_some_iff.1 hj).1; simpa using this
      rw [Addr.add_lit, Nat.zero_add, V.cell j hjn, ← hj]
      simp [nth, hjn]) (by omega) (by unfold maxLen; omega) (by omega)
  have hB : Below w.heap.size w w' := (Below.refl _ w).grown hgr (Nat.le_refl _) (fun k hk => by cases hk)
  obtain ⟨_, h | ⟨g', cap, cur, hv, hb, hg, hnc, _, _, htake⟩⟩ := hown
  · omega
  · rw [Nat.zero_add] at hv htake hnc
    subst hv
    refine ⟨g', cap, w', hrun, hb, hnc, ⟨fun j hj => ?_, fun j hj => ?_⟩, hB⟩
    · rw [cell_of_row w' g' j cur 9 (0, 0) hg]
      have h2 : (cur.toList.take (N.length * 1))[j]? = some (Value.string (nth N j)) := by
        rw [htake]; simp [hj, nth]
      rw [List.getElem?_take] at h2
      split at h2
      · simpa using h2
      · cases h2
    · simp [World.frozen?, hg]

/-- append([]string{}, nil...). -/
theorem append_nil (w : World) (gz : Nat) (ty : TypeId) : (Builtin.append_ #[23, 23] ty #[.slice (some ⟨gz, 0, none⟩) 0 0, .slice none 0 0]).run Tryd.prog w = .ok (.slice (some ⟨gz, 0, none⟩) 0 0) w := by
  obtain ⟨i0, hi, hz0, hz1, hz2⟩ := info_parts info_str
  exact run_append_nothing (P := Tryd.prog) w 23 23 ty 9 i0 Tryd.underlying23 hi _ 0 0 (Nat.le_refl _) _ (Src.ofNil w Tryd.underlying23 0)

/-- append(a, three). -/
theorem append_three (w : World) (ga ca n gx : Nat) (ty : TypeId) (f : Nat → ByteArray) (t0 t1 t2 : Value) (hn : n ≤ 1000) (hnc : n ≤ ca) (V : VRow w ga ca (fun j => .string (f j))) (T : ∀ j u, [t0, t1, t2][j]? = some u → w.cell? ⟨gx, j, none⟩ = some u) (ho : ∀ u ∈ [t0, t1, t2], u.oneCell' = true) :
    ∃ x' c' w', (Builtin.append_ #[23, 23] ty #[.slice (some ⟨ga, 0, none⟩) n ca, .slice (some ⟨gx, 0, none⟩) 3 3]).run Tryd.prog w = .ok (.slice x' (n + 3) c') w' ∧ w.heap.size ≤ w'.heap.size ∧ (∀ k, k < w.heap.size → k ≠ ga → w'.heap[k]? = w.heap[k]?) ∧ (ga < w.heap.size → Below ga w w') := by
  obtain ⟨i0, hi, hz0, hz1, hz2⟩ := info_parts info_str
  by_cases hr : n + 3 ≤ ca
  · have hrun := run_append_room_cells (P := Tryd.prog) w 23 ty 9 i0 Tryd.underlying23 hi ga 0 n ca ⟨gx, 0, none⟩ 3 3 [t0, t1, t2] (by rw [hz1]; rfl) (fun j u hj => by rw [Addr.add_lit, Nat.zero_add]; exact T j u hj) ho hr
      (fun j hj => by rw [hz1, Nat.zero_add, Nat.mul_one, V.cell (n + j) (by simp at hj; omega)]; rfl) (fun j hj => by rw [hz1, Nat.zero_add, Nat.mul_one]; exact V.free (n + j) (by simp at hj; omega))
    exact ⟨_, _, _, hrun, by rw [size_setCells]; exact Nat.le_refl _, fun k _ hk => heap_setCells ga _ _ k hk w, fun _ => below_setCells ga _ _ (Nat.le_refl _) (Below.refl _ _)⟩
  · obtain ⟨v', w', hrun, hown, hgr⟩ := run_append_arg_grows (P := Tryd.prog) w 23 ty 9 i0 (.string ByteArray.empty) 1 16 Tryd.underlying23 hi hz0 hz1 hz2 rfl (by decide) ⟨ga, 0, none⟩ n ca ((List.range n).map (fun j => .string (f j))) (by simp) (fun j u hj => by
        have hjn : j < n := by have := (List.getElem?_eq_some_iff.1 hj).1; simpa using this
        rw [Addr.add_lit, Nat.zero_add, V.cell j (by omega), ← hj]; simp [hjn])
      ⟨gx, 0, none⟩ 3 3 [t0, t1, t2] rfl (fun j u hj => by rw [Addr.add_lit, Nat.zero_add]; exact T j u hj) (by omega) (by unfold maxLen; omega) (by omega)
    obtain ⟨_, h | ⟨g', cap, cur, hv, _, _, _, _, _, _⟩⟩ := hown
    · omega
    · subst hv
      exact ⟨_, _, w', hrun, hgr.size, fun k hk _ => hgr.block k hk (by simp), fun hl => (Below.refl _ w).grown hgr (by omega) (fun k hk => by cases hk)⟩

/-- append(nil, three). -/
theorem append_three_nil (w : World) (gx : Nat) (ty : TypeId) (t0 t1 t2 : Value) (T : ∀ j u, [t0, t1, t2][j]? = some u → w.cell? ⟨gx, j, none⟩ = some u) (ho : ∀ u ∈ [t0, t1, t2], u.oneCell' = true) :
    ∃ x' c' w', (Builtin.append_ #[23, 23] ty #[.slice none 0 0, .slice (some ⟨gx, 0, none⟩) 3 3]).run Tryd.prog w = .ok (.slice x' 3 c') w' ∧ Below w.heap.size w w' := by
  obtain ⟨i0, hi, hz0, hz1, hz2⟩ := info_parts info_str
  obtain ⟨v', w', hrun, hown, hgr, _⟩ := run_append_own (P := Tryd.prog) w w.heap.size 23 ty 9 i0 (.string ByteArray.empty) 1 16 Tryd.underlying23 hi hz0 hz1 hz2 rfl (by decide) (.slice none 0 0) 0 [] (World.ownsRow_nil w _ 9 1) ⟨gx, 0, none⟩ 3 3 [t0, t1, t2] rfl (fun j u hj => by rw [Addr.add_lit, Nat.zero_add]; exact T j u hj) ho (by decide) (by omega) (Nat.le_refl _)
  obtain ⟨_, h | ⟨g', cap, cur, hv, _, _, _, _, _, _⟩⟩ := hown
  · omega
  · subst hv
    exact ⟨_, _, w', hrun, (Below.refl _ w).grown hgr (Nat.le_refl _) (fun k hk => by cases hk)⟩

/-- An append whose run is known, in the walk. -/
theorem wpList_append_is {w : World} {ops : Array Oper} {rest : List Oper} {o : Oper} {a : Act} {Q : Exit → Act → World → Prop} (hgd : o.guard = none) (s x : Operand)
    (ho : o.op = .call { callee := .builtin .append, args := #[s, x], argTypes := #[23, 23] }) (v u v' : Value) (w' : World) (hs : a.eval s = v) (hx : a.eval x = u)
    (hr : (Builtin.append_ #[23, 23] o.type #[v, u]).run Tryd.prog w = .ok v' w') (h : wpList Tryd.prog ops Q rest (a.put o.dst v') w') : wpList Tryd.prog ops Q (o :: rest) a w := by
  refine wpList_plain hgd fun K hK' => ?_
  unfold Oper.wp
  simp [execOp, ho, resolve, invoke, builtin, hs, hx, hr, Result.andThen]
  exact hK' _ _ h

end Go.Proofs.YtdmkkkfdigeinabDoor
