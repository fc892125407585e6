/- A recipe that came in, opened, with the bound of its text. -/
import Derived.Test.YtbfhfejdmhjccaaRpD
import Derived.Test.YtbfhfejdmhjccaaRows
import Derived.ProofKit
import Derived.OpenShut
import Derived.ChangeOld
import Derived.SizedLaws
import Derived.SliceStrings
import Derived.ChangeArms
namespace Go.Proofs.Ytbfhfejdmhjccaa
open Go.ChangeShapes Go.WideShapes Go.ChangeAt Go.RowKit

theorem nc9 : Try.prog.cellsOf 9 = 1 := by kernel_rfl
theorem ncLS : Try.prog.cellsOf 23 = 1 := by kernel_rfl
theorem ncLST : Try.prog.cellsOf 24 = 1 := by kernel_rfl
theorem ncSTP : Try.prog.cellsOf 47 = 2 := by kernel_rfl
theorem ncREC : Try.prog.cellsOf 26 = 3 := by kernel_rfl
theorem one_at {l : List Value} {o : Nat} {v : Value} (h : (l.drop o).take 1 = [v]) : l[o]? = some v := by
  have := congrArg (fun k => k[0]?) h
  simpa using this
theorem two_cells {w : World} {a : Addr} {l : List Value} (h : w.cells? 0 a 2 = some l) : ∃ v0 v1, l = [v0, v1] ∧ w.cell? (a.add 0) = some v0 ∧ w.cell? (a.add 1) = some v1 := by
  unfold World.cells? at h
  rw [if_pos (Nat.zero_le _)] at h
  have e : List.range 2 = [0, 1] := rfl
  rw [e] at h
  simp only [List.mapM_cons, List.mapM_nil] at h
  cases h0 : w.cell? (a.add 0) <;> rw [h0] at h <;> simp at h
  cases h1 : w.cell? (a.add 1) <;> rw [h1] at h <;> simp at h
  exact ⟨_, _, h.symm, rfl, rfl⟩
theorem spotN {w : World} {a : Addr} {v : Value} (h : w.cell? a = some v) : a.spot = none := by
  unfold World.cell? at h
  split at h
  · split at h
    · cases h
    · rename_i hs; simpa using hs
  · cases h
theorem add_lits {a : Addr} (h : a.spot = none) (i : Nat) : a.add i = ⟨a.block, a.off + i, none⟩ := by
  unfold Addr.add
  split
  · rename_i e
    subst e
    cases a
    simp_all
  · rfl
/-- The bytes of texts, one more for each. -/
def tot (L : List (List UInt8)) : Nat := (L.map fun t => t.length + 1).sum
theorem cms_tot (L : List (List UInt8)) : (cms qT L).length ≤ 3 * tot L := by
  unfold cms tot
  induction L with
  | nil => simp
  | cons t L ih =>
    rw [List.flatMap_cons, List.length_append, List.map_cons, List.sum_cons, List.length_cons]
    have := flat_len t
    have e : (qT t).length = (t.flatMap esc).length + 2 := by unfold qT; rw [List.length_cons, List.length_append, List.length_singleton]
    omega
theorem seq_cms {α : Type} (f : α → List UInt8) (L : List α) : (seq f L).length ≤ (cms f L).length := by
  cases L with
  | nil => exact Nat.zero_le _
  | cons a L =>
    show (f a ++ cms f L).length ≤ ((44 :: f a) ++ cms f L).length
    simp
theorem bulk_strs {H : Type} (l : List ByteArray) : Rows.uptoBulkAll (H := H) (strs l) = tot (l.map fun s => s.data.toList) := by
  induction l with
  | nil => rfl
  | cons a l ih =>
    have e : Rows.uptoBulkAll (H := H) (strs (a :: l)) = a.data.toList.length + 1 + Rows.uptoBulkAll (H := H) (strs l) := rfl
    rw [e, ih]
    rfl
theorem open_texts {H : Type} {enc : TypeId × Value → H} {w : World} {fuel : Nat} {cs : List Value} {x : DataW H × List MemPlace}
    (hf : DataW.trod enc Try.prog w 0 (fun _ => true) true fuel 23 cs = some x) :
    ∃ (v : Value) (L : List (List UInt8)), cs = [v] ∧ RT w w.heap.size v L ∧ tot L + 1 ≤ Rows.uptoBulk x.1 := by
  rcases open_strings undLS Try.underlying9 nc9 hf with ⟨hcs, hx⟩ | ⟨a, n, c', ss, hcs, _, hl, hm, hlen, hx, hcell, _⟩
  · exact ⟨_, [], hcs, ⟨none, 0, rfl, fun i t hi => by simp at hi⟩, by rw [hx]; exact Nat.le_refl _⟩
  · simp only [if_true] at hlen
    have hn : ((ss.take n).map fun s => s.data.toList).length = n := by rw [List.length_map, List.length_take]; omega
    refine ⟨_, (ss.take n).map fun s => s.data.toList, hcs, ⟨some a, c', by rw [hn], fun i t hi => ?_⟩, ?_⟩
    · have hin : i < n := by have := (List.getElem?_eq_some_iff.1 hi).1; rw [hn] at this; exact this
      have hc := hcell i (by omega)
      have hlt := World.block_lt_of_cell? _ _ hc
      have hsp : a.spot = none := by
        have h0 := hcell 0 (by omega)
        have e0 : a.add 0 = a := by unfold Addr.add; rw [if_pos rfl]
        rw [e0] at h0
        exact spotN h0
      rw [add_lits hsp] at hc hlt
      refine ⟨a.block, a.off, by cases a; simp_all, hlt, ?_⟩
      rw [hc]
      rw [List.getElem?_map, List.getElem?_take_of_lt hin, List.getElem?_eq_getElem (by omega)] at hi
      simp at hi
      subst hi
      rw [List.getD_eq_getElem?_getD, List.getElem?_eq_getElem (by omega)]
      show some (Value.string ss[i]) = some (Value.string (ba ss[i].data.toList))
      rw [ba_list]
    · rw [hx]
      have b2 : Rows.uptoBulk (DataW.slice (strs (H := H) (ss.take n)) (strs (ss.drop n))) = Rows.uptoBulkAll (strs (H := H) (ss.take n)) + Rows.uptoBulkAll (strs (H := H) (ss.drop n)) + 1 := rfl
      rw [b2, bulk_strs (H := H) (ss.take n)]
      omega
theorem sT_tot (s : Stp) : (sT s).length + 1 ≤ 3 * (s.1.length + tot s.2 + 3) := by
  have h1 := cms_tot s.2
  have h2 := flat_len s.1
  have e : (sT s).length = (s.1.flatMap esc).length + 4 + (cms qT s.2).length := by
    unfold sT qT
    rw [List.length_cons, List.length_append, List.length_append, List.length_cons, List.length_append, List.length_singleton, List.length_singleton]
    omega
  omega
theorem bulk_app {H : Type} (l : List (DataW H)) (d : DataW H) : Rows.uptoBulkAll (l ++ [d]) = Rows.uptoBulkAll l + Rows.uptoBulk d := by
  induction l with
  | nil => simp [Rows.uptoBulkAll]
  | cons a l ih => rw [List.cons_append, Rows.uptoBulkAll, Rows.uptoBulkAll, ih]; omega
theorem cms_bulk {H : Type} (l : List (DataW H)) (L : List Stp) (hl : L.length = l.length) (h : ∀ (i : Nat) (d : DataW H) (s : Stp), l[i]? = some d → L[i]? = some s → (sT s).length + 1 ≤ 3 * Rows.uptoBulk d) : (cms sT L).length ≤ 3 * Rows.uptoBulkAll l := by
  induction l generalizing L with
  | nil =>
    have e : L = [] := List.eq_nil_of_length_eq_zero (by simpa using hl)
    rw [e]
    exact Nat.zero_le _
  | cons d l ih =>
    cases L with
    | nil => simp at hl
    | cons s L =>
      have h0 := h 0 d s rfl rfl
      have h1 := ih L (by simpa using hl) (fun i d s hd hs => h (i + 1) d s (by simpa using hd) (by simpa using hs))
      rw [Rows.uptoBulkAll]
      show ((44 :: sT s) ++ cms sT L).length ≤ _
      rw [List.length_append, List.length_cons]
      omega

set_option maxHeartbeats 2000000 in
theorem open_steps {H : Type} {enc : TypeId × Value → H} {w : World} {fuel : Nat} {cs : List Value} {x : DataW H × List MemPlace}
    (h : DataW.trod enc Try.prog w 0 (fun _ => true) true fuel 24 cs = some x) :
    ∃ (v : Value) (L : List Stp), cs = [v] ∧ RS w w.heap.size v L ∧ (cms sT L).length + 1 ≤ 3 * Rows.uptoBulk x.1 := by
  rcases DataW.trod_slice undLST h with ⟨hc, hx⟩ | ⟨a, len, cap, elems, rest, n2, rfl, hc, hx, _, hlc, _, hel, hE, _, _⟩
  · exact ⟨_, [], hc, ⟨none, 0, rfl, fun i t hi => by simp at hi⟩, by rw [hx]; show 0 + 1 ≤ 3 * 1; omega⟩
  · have each : ∀ i, i < len → ∃ (s : Stp) (y : Value), w.cell? ((a.add (i * 2)).add 0) = some (.string (ba s.1)) ∧ w.cell? ((a.add (i * 2)).add 1) = some y ∧ RT w w.heap.size y s.2 ∧ ∀ d, (elems.map (·.1))[i]? = some d → (sT s).length + 1 ≤ 3 * Rows.uptoBulk d := by
      intro i hi
      have hi' := hE i hi
      rw [ncSTP] at hi'
      obtain ⟨zi, hz⟩ : ∃ zi, elems[i]? = some zi := ⟨_, List.getElem?_eq_getElem (by omega)⟩
      rw [hz, Option.bind_eq_some_iff] at hi'
      obtain ⟨l, hl2, htr⟩ := hi'
      obtain ⟨v0, v1, rfl, c0, c1⟩ := two_cells hl2
      obtain ⟨ys, n3, rfl, rfl, _, hyl, hys⟩ := DataW.trod_struct Try.underlying47 htr
      have r0 : DataW.trod enc Try.prog w 0 (fun _ => true) true n3 9 (([v0, v1].drop 0).take 1) = ys[0]? := by have := hys 0 _ rfl; rw [← nc9]; exact this
      have r1 : DataW.trod enc Try.prog w 0 (fun _ => true) true n3 23 (([v0, v1].drop 1).take 1) = ys[1]? := by have := hys 1 _ rfl; rw [← ncLS]; exact this
      have hyl : ys.length = 2 := hyl
      match ys, hyl with
      | [w0, w1], _ =>
        obtain ⟨tx, htx, hyt, _⟩ := DataW.trod_string Try.underlying9 (x := w0) r0
        obtain ⟨v, L, hv, hRT, hbk⟩ := open_texts (x := w1) r1
        simp at htx hv
        subst htx hv
        refine ⟨(tx.data.toList, L), v1, ?_, c1, hRT, fun d hd => ?_⟩
        · rw [c0]
          show some (Value.string tx) = some (.string (ba tx.data.toList))
          rw [ba_list]
        · rw [List.getElem?_map, hz] at hd
          simp at hd
          subst hd
          have hs := sT_tot (tx.data.toList, L)
          simp only [Rows.uptoBulk, Rows.uptoBulkAll, hyt]
          dsimp only at hs
          omega
    let ft : Nat → Stp := fun i => if hi : i < len then (each i hi).choose else ([], [])
    have sp' : ∀ i (hi : i < len), ∃ y : Value, w.cell? ((a.add (i * 2)).add 0) = some (.string (ba (ft i).1)) ∧ w.cell? ((a.add (i * 2)).add 1) = some y ∧ RT w w.heap.size y (ft i).2 ∧ ∀ d, (elems.map (·.1))[i]? = some d → (sT (ft i)).length + 1 ≤ 3 * Rows.uptoBulk d := fun i hi => by
      have := (each i hi).choose_spec
      simp only [ft, hi, dif_pos]
      exact this
    have hn : ((List.range len).map ft).length = len := by rw [List.length_map, List.length_range]
    refine ⟨_, (List.range len).map ft, hc, ⟨some a, cap, by rw [hn], fun i t hi => ?_⟩, ?_⟩
    · have hin : i < len := by have := (List.getElem?_eq_some_iff.1 hi).1; rw [hn] at this; exact this
      rw [List.getElem?_map, List.getElem?_range hin] at hi
      simp at hi
      subst hi
      obtain ⟨y, h0, h1, h2, _⟩ := sp' i hin
      have hsp : a.spot = none := by
        obtain ⟨y0, k0, _⟩ := sp' 0 (by omega)
        have e0 : (a.add (0 * 2)).add 0 = a := by unfold Addr.add; simp
        rw [e0] at k0
        exact spotN k0
      have hlt := World.block_lt_of_cell? _ _ h0
      rw [add_lits hsp] at h0 h1 hlt
      rw [add_lits rfl] at h0 h1 hlt
      exact ⟨a.block, a.off, y, by cases a; simp_all, hlt, h0, h1, h2⟩
    · have hb := cms_bulk (elems.map (·.1)) ((List.range len).map ft) (by rw [hn, List.length_map]; omega) (fun i d s hd hs => by
        have hin : i < len := by have := (List.getElem?_eq_some_iff.1 hs).1; rw [hn] at this; exact this
        rw [List.getElem?_map, List.getElem?_range hin] at hs
        simp at hs
        subst hs
        obtain ⟨y, _, _, _, h4⟩ := sp' i hin
        exact h4 d hd)
      rw [hx]
      simp only [Rows.uptoBulk]
      omega

set_option maxHeartbeats 2000000 in
theorem open_rec {H : Type} {enc : TypeId × Value → H} {w : World} (fuel : Nat) (cs : List Value) (x : DataW H × List MemPlace) (h : DataW.trod enc Try.prog w 0 (fun _ => true) true fuel 26 cs = some x) (hb : Rows.uptoBulk x.1 ≤ 1048576) :
    ∃ r : Rec, ∃ vd vs, cs = [.string (ba r.nm), vd, vs] ∧ RT w w.heap.size vd r.ds ∧ RS w w.heap.size vs r.ss ∧ (rT r).length ≤ 4000000 := by
  obtain ⟨xs, n1, rfl, rfl, hl, hlen, hfs⟩ := DataW.trod_struct Try.underlying26 h
  rw [ncREC] at hl
  have g0 : DataW.trod enc Try.prog w 0 (fun _ => true) true n1 9 ((cs.drop 0).take 1) = xs[0]? := by have := hfs 0 _ rfl; rw [← nc9]; exact this
  have g1 : DataW.trod enc Try.prog w 0 (fun _ => true) true n1 23 ((cs.drop 1).take 1) = xs[1]? := by have := hfs 1 _ rfl; rw [← ncLS]; exact this
  have g2 : DataW.trod enc Try.prog w 0 (fun _ => true) true n1 24 ((cs.drop 2).take 1) = xs[2]? := by have := hfs 2 _ rfl; rw [← ncLST]; exact this
  have hlen : xs.length = 3 := hlen
  clear hfs h
  match cs, hl, xs, hlen with
  | [u0, u1, u2], _, [y0, y1, y2], _ =>
    obtain ⟨tx, htx, hyt, _⟩ := DataW.trod_string Try.underlying9 (x := y0) g0
    obtain ⟨vd, ds, hvd, hRT, hbd⟩ := open_texts (x := y1) g1
    obtain ⟨vs, ss, hvs, hRS, hbs⟩ := open_steps (x := y2) g2
    simp at htx hvd hvs
    subst htx hvd hvs
    refine ⟨⟨tx.data.toList, ds, ss⟩, u1, u2, ?_, hRT, hRS, ?_⟩
    · rw [show (Rec.mk tx.data.toList ds ss).nm = tx.data.toList from rfl, ba_list]
    · rw [rT_len]
      have h1 := seq_cms qT ds
      have h2 := cms_tot ds
      have h3 := seq_cms sT ss
      have h4 := flat_len tx.data.toList
      have e : (qT tx.data.toList).length = (tx.data.toList.flatMap esc).length + 2 := by unfold qT; rw [List.length_cons, List.length_append, List.length_singleton]
      simp only [Rows.uptoBulk, Rows.uptoBulkAll, hyt, List.map_cons, List.map_nil] at hb
      omega

end Go.Proofs.Ytbfhfejdmhjccaa
