/- What the law TableInts keeps track of, pure; slices of numbers that came in. -/
import Derived.Test.YtokdcnpfbdddpaaTbM
import Derived.Test.YtokdcnpfbdddpaaToI
import Derived.Test.YtokdcnpfbdddpaaTpI
namespace Go.Proofs.Ytokdcnpfbdddpaa
namespace TI
open Go.RowKit

theorem ordI : BT.Ord ltK := ⟨fun a => by simp [ltK], fun a b c h g => by simp [ltK] at *; omega, fun a b h g => by simp [ltK] at *; omega⟩

/-- The cells of a row of numbers. -/
def ISl (w : World) (x : Option Addr) (n : Nat) (f : Nat → Int) : Prop := ∀ i, i < n → ∃ a, x = some a ∧ w.cell? (a.add i) = some (.int .i64 (f i))
theorem ISl.below {w w' : World} {x : Option Addr} {n B : Nat} {f : Nat → Int} (h : ISl w x n f) (b : Below B w w') (hB : w.heap.size ≤ B) : ISl w' x n f := fun i hi => by
  obtain ⟨a, ha, hc⟩ := h i hi
  refine ⟨a, ha, ?_⟩
  have hl := World.block_lt_of_cell? _ _ hc
  rw [b.cell (p := a.add i) (by omega)]
  exact hc
/-- The last place below j that holds k. -/
def lastIx (f : Nat → Int) : Nat → Int → Option Int
  | 0, _ => none
  | j + 1, k => if f j = k then some (j : Int) else lastIx f j k
/-- Is k among the first j? -/
def inU (g : Nat → Int) : Nat → Int → Bool
  | 0, _ => false
  | j + 1, k => inU g j k || (g j == k)

/-- What is known of the tree behind j puts. -/
structure S1 (f : Nat → Int) (j : Nat) (u : BT Int) : Prop where
  srt : BT.Srt ltK u.toL
  cnt : u.cnt ≤ j
  lk : ∀ k, BT.look k u.toL = lastIx f j k
theorem S1.zero (f : Nat → Int) : S1 f 0 .E := ⟨List.Pairwise.nil, Nat.le_refl _, fun _ => rfl⟩
theorem S1.put {f : Nat → Int} {j : Nat} {u : BT Int} (h : S1 f j u) (ho : u.Ok) : S1 f (j + 1) (BT.wth ltK (f j) (j : Int) u) := by
  have e := BT.wth_toL ltK ordI (f j) (j : Int) u h.srt
  refine ⟨by rw [e]; exact BT.ins_srt ordI _ _ _ h.srt, ?_, fun k => ?_⟩
  · have := (BT.wth_ok ltK (f j) (j : Int) u ho).2.2; have := h.cnt; omega
  · rw [e, BT.look_ins ordI, lastIx, h.lk]
/-- What is known of it behind j cuts. -/
structure S2 (f : Nat → Int) (n : Nat) (g : Nat → Int) (j : Nat) (u : BT Int) : Prop where
  srt : BT.Srt ltK u.toL
  cnt : u.cnt ≤ n
  lk : ∀ k, BT.look k u.toL = if inU g j k = true then none else lastIx f n k
theorem S2.zero {f : Nat → Int} {n : Nat} {u : BT Int} (g : Nat → Int) (h : S1 f n u) : S2 f n g 0 u := ⟨h.srt, h.cnt, fun k => by rw [h.lk]; rfl⟩
theorem S2.cut {f g : Nat → Int} {n j : Nat} {u : BT Int} (h : S2 f n g j u) (ho : u.Ok) : S2 f n g (j + 1) (BT.wtout ltK u (g j)) := by
  have e := BT.wtout_toL ltK ordI u ho h.srt (g j)
  refine ⟨by rw [e]; exact BT.del_srt _ _ h.srt, ?_, fun k => ?_⟩
  · have := (BT.wtout_ok ltK u ho (g j)).2; have := h.cnt; omega
  · rw [e, BT.look_del ordI _ _ _ h.srt, h.lk, inU]
    by_cases q : g j = k
    · rw [if_pos q, if_pos (by simp [q])]
    · rw [if_neg q]
      have : (g j == k) = false := by simp [q]
      rw [this, Bool.or_false]
theorem inU_last (g : Nat → Int) (j : Nat) : inU g (j + 1) (g j) = true := by simp [inU]
/-- Get's answers by look. -/
theorem get_none {u : BT Int} {k : Int} (h : BT.Srt ltK u.toL) (e : BT.look k u.toL = none) : gb (BT.fnd ltK k u) = false := by
  have := BT.fnd_look ordI k u h
  rw [e] at this
  cases q : BT.fnd ltK k u with
  | E => rfl
  | N a b c d e => rw [q] at this; cases this
theorem get_some {u : BT Int} {k v : Int} (h : BT.Srt ltK u.toL) (e : BT.look k u.toL = some v) : gb (BT.fnd ltK k u) = true ∧ gv (BT.fnd ltK k u) = v := by
  have := BT.fnd_look ordI k u h
  rw [e] at this
  cases q : BT.fnd ltK k u with
  | E => rw [q] at this; cases this
  | N a b c d e => rw [q] at this; exact ⟨rfl, (show b = v from by simpa [BT.pr] using this)⟩
theorem lastIx_some {f : Nat → Int} {n i : Nat} (h : i < n) : ∃ v, lastIx f n (f i) = some v := by
  induction n with
  | zero => omega
  | succ n ih =>
    rw [lastIx]
    by_cases e : f n = f i
    · exact ⟨_, if_pos e⟩
    · rw [if_neg e]
      exact ih (by by_cases q : i = n; rw [q] at e; exact absurd rfl e; omega)
/-- Does no place from i + 1 up to i + 1 + d hold k? -/
def noneIn (f : Nat → Int) (i : Nat) (k : Int) : Nat → Bool
  | 0 => true
  | d + 1 => noneIn f i k d && (f (i + 1 + d) != k)
theorem lastIx_is {f : Nat → Int} {i : Nat} : ∀ d, noneIn f i (f i) d = true → lastIx f (i + 1 + d) (f i) = some (i : Int) := by
  intro d
  induction d with
  | zero => intro _; rw [Nat.add_zero, lastIx, if_pos rfl]
  | succ d ih =>
    intro h
    rw [noneIn, Bool.and_eq_true] at h
    rw [← Nat.add_assoc, lastIx, if_neg (by simpa using h.2)]
    exact ih h.1
/-- The keys of a table, as a row. -/
def kf (u : BT Int) (i : Nat) : Int := ((u.toL[i]?).getD (0, 0)).1
theorem own_keys {w : World} {B : Nat} {v : Value} {u : BT Int} (h : w.ownsRow B 3 1 v u.toL.length (u.toL.map (fun x => Value.int .i64 x.1))) :
    ∃ y c, v = .slice y u.toL.length c ∧ ISl w y u.toL.length (kf u) := by
  obtain ⟨_, ⟨hv, hz⟩ | ⟨g, cap, cur, hv, hb, hg, hnc, _, _, htake⟩⟩ := h
  · exact ⟨none, 0, by rw [hv, hz], fun i hi => by rw [hz] at hi; omega⟩
  · refine ⟨_, cap, hv, fun i hi => ⟨_, rfl, ?_⟩⟩
    rw [Addr.add_lit, Nat.zero_add, cell_of_row w g i cur 3 (0, 0) hg]
    have h2 : (cur.toList.take (u.toL.length * 1))[i]? = some (Value.int .i64 (kf u i)) := by
      rw [htake, List.getElem?_map, List.getElem?_eq_getElem hi]
      unfold kf
      rw [List.getElem?_eq_getElem hi]; rfl
    rw [List.getElem?_take] at h2
    split at h2
    · simpa using h2
    · cases h2
theorem addr_succ (a : Addr) (k : Nat) : a.add (k + 1) = ⟨a.block, a.off + (k + 1), none⟩ := by unfold Addr.add; rw [if_neg (by omega)]
theorem addr_zero (a : Addr) : a.add 0 = a := by unfold Addr.add; rw [if_pos rfl]
def dropA (y : Option Addr) (d q : Nat) : Option Addr := if d = q then y else y.map (·.add q)
theorem info3 : (Try.prog.info? 3).map (fun i => (i.zero, i.size, i.bytes)) = some (some (.int .i64 0), 1, 8) := by kernel_rfl
theorem run_dropI (y : Option Addr) (k d q : Nat) (hq : q ≤ k) (w : World) : (Instr.slice 42 (.slice y k d) (some (.int .i64 (q : Int))) none none).run Try.prog w = .ok (.slice (dropA y d q) (k - q) (d - q)) w := by
  obtain ⟨i0, hi, hz0, hz1, hz2⟩ := info_parts info3
  have he : Try.prog.elem 42 = 3 := by kernel_rfl
  rw [run_slice_l (P := Try.prog) w 42 y k d (by rw [he]; exact Try.underlying42) .i64 (q : Int) (by omega) (by omega), he]
  simp [sizeOf, typeInfo, hi, hz1, sliced, dropA, Result.andThen]
theorem add_add (a : Addr) (q i : Nat) : (a.add q).add i = a.add (q + i) := by
  cases q with
  | zero => rw [addr_zero, Nat.zero_add]
  | succ q =>
    cases i with
    | zero => rw [addr_zero, Nat.add_zero]
    | succ i =>
      rw [addr_succ, addr_succ, show q + 1 + (i + 1) = (q + 1 + i) + 1 from rfl, addr_succ]
      show Addr.mk a.block (a.off + (q + 1) + (i + 1)) none = _
      congr 1; omega
theorem ISl.drop {w : World} {x : Option Addr} {n c : Nat} {f : Nat → Int} (h : ISl w x n f) (hc : n ≤ c) (q : Nat) : ISl w (dropA x c q) (n - q) (fun i => f (q + i)) := fun i hi => by
  obtain ⟨a, rfl, hcell⟩ := h (q + i) (by omega)
  refine ⟨a.add q, ?_, by rw [add_add]; exact hcell⟩
  unfold dropA
  rw [if_neg (by omega)]
  rfl
theorem kf_is {u : BT Int} {i : Nat} {k v : Int} (h : u.toL[i]? = some (k, v)) : kf u i = k := by unfold kf; rw [h]; rfl
theorem kf_rise {u : BT Int} (h : BT.Srt ltK u.toL) {i : Nat} (hi : i + 1 < u.toL.length) : kf u i < kf u (i + 1) := by
  have := List.pairwise_iff_getElem.1 h i (i + 1) (by omega) hi (by omega)
  unfold kf
  rw [List.getElem?_eq_getElem (by omega), List.getElem?_eq_getElem hi]
  simpa [ltK] using this
theorem rank_at {u : BT Int} (h : BT.Srt ltK u.toL) (ho : u.Ok) {i : Nat} {k v : Int} (e : u.toL[i]? = some (k, v)) : BT.rnk ltK k u = i := by
  rw [BT.rnk_toL ltK ordI k u ho h]; exact (BT.look_at ordI h e).2
end TI
end Go.Proofs.Ytokdcnpfbdddpaa
