/- Items that came in, opened. -/
import Derived.Test.YtjlbbnjcdickgabWbA
import Derived.Test.YtjlbbnjcdickgabRows
import Derived.ProofKit
import Derived.OpenShut
import Derived.ChangeOld
import Derived.SizedLaws
import Derived.ChangeArms
namespace Go.Proofs.Ytjlbbnjcdickgab
open Go.ChangeShapes Go.WideShapes Go.ChangeAt Go.RowKit
theorem nc4 : Try.prog.cellsOf 4 = 1 := by kernel_rfl
theorem nc22 : Try.prog.cellsOf 39 = 1 := by kernel_rfl
theorem nc9 : Try.prog.cellsOf 9 = 1 := by kernel_rfl
theorem ncIT : Try.prog.cellsOf 41 = 3 := by kernel_rfl
theorem three_cells {w : World} {a : Addr} {l : List Value} (h : w.cells? 0 a 3 = some l) : ∃ v0 v1 v2, l = [v0, v1, v2] ∧ w.cell? (a.add 0) = some v0 ∧ w.cell? (a.add 1) = some v1 ∧ w.cell? (a.add 2) = some v2 := by
  unfold World.cells? at h
  rw [if_pos (Nat.zero_le _)] at h
  have e : List.range 3 = [0, 1, 2] := rfl
  rw [e] at h
  simp only [List.mapM_cons, List.mapM_nil] at h
  cases h0 : w.cell? (a.add 0) <;> rw [h0] at h <;> simp at h
  cases h1 : w.cell? (a.add 1) <;> rw [h1] at h <;> simp at h
  cases h2 : w.cell? (a.add 2) <;> rw [h2] at h <;> simp at h
  exact ⟨_, _, _, h.symm, rfl, rfl, rfl⟩
theorem spotN {w : World} {a : Addr} {v : Value} (h : w.cell? a = some v) : a.spot = none := by
  unfold World.cell? at h
  split at h
  · split at h
    · cases h
    · rename_i hs; simpa using hs
  · cases h
theorem bulk_app {H : Type} (l : List (DataW H)) (d : DataW H) : Rows.uptoBulkAll (l ++ [d]) = Rows.uptoBulkAll l + Rows.uptoBulk d := by
  induction l with
  | nil => simp [Rows.uptoBulkAll]
  | cons a l ih => rw [List.cons_append, Rows.uptoBulkAll, Rows.uptoBulkAll, ih]; omega
/-- The texts' bytes of the first k. -/
def preT (t : Nat → It) : Nat → Nat
  | 0 => 0
  | k + 1 => preT t k + (t k).text.length
theorem bulk_take {H : Type} (l : List (DataW H)) (t : Nat → It) (h : ∀ i d, l[i]? = some d → (t i).text.length + 1 ≤ Rows.uptoBulk d) (k : Nat) : k ≤ l.length → preT t k + k ≤ Rows.uptoBulkAll (l.take k) := by
  induction k with
  | zero => intro _; exact Nat.zero_le _
  | succ k ih =>
    intro hk
    have hg : l[k]? = some (l[k]'(by omega)) := List.getElem?_eq_getElem (by omega)
    rw [List.take_add_one, hg, Option.toList_some, bulk_app]
    have := ih (by omega)
    have := h k _ hg
    show preT t k + (t k).text.length + (k + 1) ≤ _
    omega
theorem frI_le (i : It) : (frI i).length ≤ 16 + i.text.length := by
  unfold frI
  split
  · rw [lek_len]; omega
  · rw [fr8_len]; have := padN_lt8 i.text.length; omega
theorem pre_fr (t : Nat → It) (n : Nat) : (((List.range n).map t).flatMap frI).length ≤ 16 * n + preT t n ∧ ∀ i ∈ (List.range n).map t, i.text.length ≤ preT t n := by
  induction n with
  | zero => exact ⟨Nat.zero_le _, fun i hi => by simp at hi⟩
  | succ n ih =>
    rw [List.range_succ, List.map_append, List.flatMap_append, List.length_append]
    have h1 : ([n].map t).flatMap frI = frI (t n) := by simp
    have h2 := frI_le (t n)
    rw [h1]
    refine ⟨?_, fun i hi => ?_⟩
    · show _ ≤ 16 * (n + 1) + (preT t n + (t n).text.length)
      have := ih.1
      omega
    · show _ ≤ preT t n + (t n).text.length
      rcases List.mem_append.1 hi with hi | hi
      · have := ih.2 i hi; omega
      · simp at hi; rw [hi]; omega
set_option maxHeartbeats 2000000 in
theorem open_items {H : Type} {enc : TypeId × Value → H} {w : World} {sp : Nat → Bool} {held : Bool} (fuel : Nat) (z : Option Addr) (n c : Nat) (x : DataW H × List MemPlace) (h : DataW.trod enc Try.prog w 0 sp held fuel 22 [.slice z n c] = some x) (hb : Rows.uptoBulk x.1 ≤ 1048576) :
    ∃ L : List It, ItRow w (.slice z n c) L ∧ L.length ≤ 1048576 ∧ (∀ i ∈ L, i.num < 18446744073709551616 ∧ i.text.length ≤ 1048576) ∧ (L.flatMap frI).length ≤ 33554432 := by
  rcases DataW.trod_slice Try.underlying22 h with ⟨hc, _⟩ | ⟨a, len, cap, elems, rest, n2, rfl, hc, hx, _, hlc, _, hel, hE, _, _⟩
  · simp at hc
    obtain ⟨rfl, rfl, rfl⟩ := hc
    exact ⟨[], ⟨⟨none, 0, rfl, fun k hk => absurd hk (by simp)⟩⟩, Nat.zero_le _, fun i hi => absurd hi (by simp), Nat.zero_le _⟩
  · simp at hc
    obtain ⟨rfl, rfl, rfl⟩ := hc
    have each : ∀ i, i < n → ∃ it : It, it.num < 18446744073709551616 ∧ w.cell? ((a.add (i * 3)).add 0) = some (.bool it.isInt) ∧ w.cell? ((a.add (i * 3)).add 1) = some (.int .u64 (it.num : Int)) ∧ w.cell? ((a.add (i * 3)).add 2) = some (.string (ba it.text)) ∧ ∀ d, (elems.map (·.1))[i]? = some d → it.text.length + 1 ≤ Rows.uptoBulk d := by
      intro i hi
      have hi' := hE i hi
      rw [ncIT] at hi'
      obtain ⟨zi, hz⟩ : ∃ zi, elems[i]? = some zi := ⟨_, List.getElem?_eq_getElem (by omega)⟩
      rw [hz, Option.bind_eq_some_iff] at hi'
      obtain ⟨l, hl3, htr⟩ := hi'
      obtain ⟨v0, v1, v2, rfl, c0, c1, c2⟩ := three_cells hl3
      obtain ⟨ys, n3, rfl, rfl, _, hyl, hys⟩ := DataW.trod_struct Try.underlying41 htr
      have r0 : DataW.trod enc Try.prog w 0 sp held n3 4 (([v0, v1, v2].drop 0).take 1) = ys[0]? := by have := hys 0 _ rfl; rw [← nc4]; exact this
      have r1 : DataW.trod enc Try.prog w 0 sp held n3 39 (([v0, v1, v2].drop 1).take 1) = ys[1]? := by have := hys 1 _ rfl; rw [← nc22]; exact this
      have r2 : DataW.trod enc Try.prog w 0 sp held n3 9 (([v0, v1, v2].drop 2).take 1) = ys[2]? := by have := hys 2 _ rfl; rw [← nc9]; exact this
      have hyl : ys.length = 3 := hyl
      match ys, hyl with
      | [w0, w1, w2], _ =>
        obtain ⟨bo, hbo, _⟩ := DataW.trod_bool Try.underlying4 (x := w0) r0
        obtain ⟨nu, hnu, _, hnf⟩ := DataW.trod_int Try.underlying39 (x := w1) r1
        obtain ⟨tx, htx, hyt, _⟩ := DataW.trod_string Try.underlying9 (x := w2) r2
        simp at hbo hnu htx
        subst hbo hnu htx
        have hnb := bounds_u64 hnf
        refine ⟨⟨bo, nu.toNat, tx.data.toList⟩, ?_, c0, ?_, ?_, fun d hd => ?_⟩
        · show nu.toNat < _
          omega
        · rw [c1]
          show some (Value.int .u64 nu) = some (.int .u64 (nu.toNat : Int))
          rw [Int.toNat_of_nonneg (by omega)]
        · rw [c2]
          show some (Value.string tx) = some (.string (ba tx.data.toList))
          rw [ba_list]
        rw [List.getElem?_map, hz] at hd
        simp at hd
        subst hd
        simp only [Rows.uptoBulk, Rows.uptoBulkAll, hyt]
        show tx.data.toList.length + 1 ≤ _
        omega
    let ft : Nat → It := fun i => if hi : i < n then (each i hi).choose else ⟨false, 0, []⟩
    have sp' : ∀ i (hi : i < n), (ft i).num < 18446744073709551616 ∧ w.cell? ((a.add (i * 3)).add 0) = some (.bool (ft i).isInt) ∧ w.cell? ((a.add (i * 3)).add 1) = some (.int .u64 ((ft i).num : Int)) ∧ w.cell? ((a.add (i * 3)).add 2) = some (.string (ba (ft i).text)) ∧ ∀ d, (elems.map (·.1))[i]? = some d → (ft i).text.length + 1 ≤ Rows.uptoBulk d := fun i hi => by
      have := (each i hi).choose_spec
      simp only [ft, hi, dif_pos]
      exact this
    have hlen : (elems.map (·.1)).length = n := by rw [List.length_map]; exact hel
    have hbk := bulk_take (elems.map (·.1)) ft (fun i d hd => (sp' i (by have := (List.getElem?_eq_some_iff.1 hd).1; omega)).2.2.2.2 d hd) n (by omega)
    rw [List.take_of_length_le (by omega)] at hbk
    rw [hx] at hb
    simp only [Rows.uptoBulk] at hb
    obtain ⟨q1, q2⟩ := pre_fr ft n
    have hLn : ((List.range n).map ft).length = n := by rw [List.length_map, List.length_range]
    refine ⟨(List.range n).map ft, ⟨⟨some a, c, by rw [hLn], fun i hi => ?_⟩⟩, by rw [hLn]; omega, fun i hi => ⟨?_, by have := q2 i hi; omega⟩, by omega⟩
    · rw [hLn] at hi
      obtain ⟨_, c0, c1, c2, _⟩ := sp' i hi
      have hsp : a.spot = none := by
        have h0 := (sp' 0 (by omega)).2.1
        have e : (a.add (0 * 3)).add 0 = a := by simp [Addr.add]
        rw [e] at h0
        exact spotN h0
      have hadd : ∀ j, (a.add (i * 3)).add j = ⟨a.block, a.off + i * 3 + j, none⟩ := fun j => by
        obtain ⟨g, o, s⟩ := a
        simp only at hsp
        subst hsp
        rw [Addr.add_lit, Addr.add_lit]
      rw [hadd] at c0 c1 c2
      have ha : a = ⟨a.block, a.off, none⟩ := by obtain ⟨g, o, s⟩ := a; simp only at hsp; subst hsp; rfl
      rw [List.getElem_map, List.getElem_range]
      exact ⟨a.block, a.off, by rw [← ha], (by have := World.block_lt_of_cell? _ _ c0; exact this), c0, c1, c2⟩
    · obtain ⟨j, hj, rfl⟩ := List.mem_map.1 hi
      rw [List.mem_range] at hj
      exact (sp' j hj).1
end Go.Proofs.Ytjlbbnjcdickgab
