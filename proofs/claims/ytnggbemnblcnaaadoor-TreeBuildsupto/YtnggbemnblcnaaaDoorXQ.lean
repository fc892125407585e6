/- TxOy Utf, gathered (own text of the verifier). -/
import Derived.Test.YtnggbemnblcnaaaDoorXD
import Derived.Test.YtnggbemnblcnaaaDoorXO
import Derived.Test.YtnggbemnblcnaaaDoorRows
import Derived.ProofKit
import Derived.OpenShut
import Derived.ChangeOld
import Derived.SizedLaws
import Derived.ChangeArms
namespace Go.Proofs.YtnggbemnblcnaaaDoor
open Go.ChangeShapes Go.WideShapes Go.ChangeAt Go.RowKit
theorem ro4 : Tryd.prog.cellsOf 4 = 1 := by kernel_rfl
theorem ro9 : Tryd.prog.cellsOf 9 = 1 := by kernel_rfl
theorem roK : Tryd.prog.cellsOf 25 = 1 := by kernel_rfl
theorem roR : Tryd.prog.cellsOf 27 = 4 := by kernel_rfl
theorem four_cells {w : World} {a : Addr} {l : List Value} (h : w.cells? 0 a 4 = some l) : ∃ v0 v1 v2 v3, l = [v0, v1, v2, v3] ∧ w.cell? (a.add 0) = some v0 ∧ w.cell? (a.add 1) = some v1 ∧ w.cell? (a.add 2) = some v2 ∧ w.cell? (a.add 3) = some v3 := by
  unfold World.cells? at h
  rw [if_pos (Nat.zero_le _)] at h
  have e : List.range 4 = [0, 1, 2, 3] := rfl
  rw [e] at h
  simp only [List.mapM_cons, List.mapM_nil] at h
  cases h0 : w.cell? (a.add 0) <;> rw [h0] at h <;> simp at h
  cases h1 : w.cell? (a.add 1) <;> rw [h1] at h <;> simp at h
  cases h2 : w.cell? (a.add 2) <;> rw [h2] at h <;> simp at h
  cases h3 : w.cell? (a.add 3) <;> rw [h3] at h <;> simp at h
  exact ⟨_, _, _, _, h.symm, rfl, rfl, rfl, rfl⟩
theorem spotR {w : World} {a : Addr} {v : Value} (h : w.cell? a = some v) : a.spot = none := by
  unfold World.cell? at h
  split at h
  · split at h
    · cases h
    · rename_i hs; simpa using hs
  · cases h
theorem bulk_memR {H : Type} (l : List (DataW H)) (i : Nat) (d : DataW H) (h : l[i]? = some d) : Rows.uptoBulk d ≤ Rows.uptoBulkAll l := by
  induction l generalizing i with
  | nil => simp at h
  | cons a l ih =>
    rw [Rows.uptoBulkAll]
    cases i with
    | zero => simp at h; subst h; omega
    | succ i => simp at h; have := ih i h; omega
theorem bulk_lenR {H : Type} (l : List (DataW H)) (h : ∀ (i : Nat) (d : DataW H), l[i]? = some d → 1 ≤ Rows.uptoBulk d) : l.length ≤ Rows.uptoBulkAll l := by
  induction l with
  | nil => exact Nat.zero_le _
  | cons a l ih =>
    rw [Rows.uptoBulkAll, List.length_cons]
    have h1 := h 0 a rfl
    have h2 := ih (fun i d hd => h (i + 1) d hd)
    omega

set_option maxHeartbeats 2000000 in
theorem open_rows {H : Type} {enc : TypeId × Value → H} {w : World} {sp : Nat → Bool} {held : Bool} (fuel : Nat) (z : Option Addr) (n c : Nat) (x : DataW H × List MemPlace) (h : DataW.trod enc Tryd.prog w 0 sp held fuel 22 [.slice z n c] = some x) (hb : Rows.uptoBulk x.1 ≤ 1048576) :
    ∃ L : List RW, L.length = n ∧ RIs w z L ∧ L.length ≤ 1048576 ∧ smR L ∧ L.length ≤ c := by
  rcases DataW.trod_slice Tryd.underlying22 h with ⟨hc, _⟩ | ⟨a, len, cap, elems, rest, n2, rfl, hc, hx, _, hlc, _, hel, hE, _, _⟩
  · simp at hc
    obtain ⟨rfl, rfl, rfl⟩ := hc
    exact ⟨[], rfl, fun i r hr => by simp at hr, by simp, fun r hr => by simp at hr, by simp⟩
  · simp at hc
    obtain ⟨rfl, rfl, rfl⟩ := hc
    rw [hx] at hb
    have hbE : Rows.uptoBulkAll (elems.map (·.1)) ≤ 1048576 := by
      simp only [Rows.uptoBulk] at hb
      omega
    have each : ∀ i, i < n → ∃ r : RW, w.cell? ((a.add (i * 4)).add 0) = some (.string r.1) ∧ w.cell? ((a.add (i * 4)).add 1) = some (.int .i64 r.2.1) ∧ w.cell? ((a.add (i * 4)).add 2) = some (.bool r.2.2.1) ∧ w.cell? ((a.add (i * 4)).add 3) = some (.string r.2.2.2) ∧ ∃ d, (elems.map (·.1))[i]? = some d ∧ r.1.size + r.2.2.2.size + 1 ≤ Rows.uptoBulk d := by
      intro i hi
      have hi' := hE i hi
      rw [roR] at hi'
      obtain ⟨zi, hz⟩ : ∃ zi, elems[i]? = some zi := ⟨_, List.getElem?_eq_getElem (by omega)⟩
      rw [hz, Option.bind_eq_some_iff] at hi'
      obtain ⟨l, hl3, htr⟩ := hi'
      obtain ⟨v0, v1, v2, v3, rfl, c0, c1, c2, c3⟩ := four_cells hl3
      obtain ⟨ys, n3, rfl, rfl, _, hyl, hys⟩ := DataW.trod_struct Tryd.underlying27 htr
      have r0 : DataW.trod enc Tryd.prog w 0 sp held n3 9 (([v0, v1, v2, v3].drop 0).take (Tryd.prog.cellsOf 9)) = ys[0]? := hys 0 _ rfl
      rw [ro9] at r0
      have r1 : DataW.trod enc Tryd.prog w 0 sp held n3 25 (([v0, v1, v2, v3].drop 1).take (Tryd.prog.cellsOf 25)) = ys[1]? := hys 1 _ rfl
      rw [roK] at r1
      have r2 : DataW.trod enc Tryd.prog w 0 sp held n3 4 (([v0, v1, v2, v3].drop 2).take (Tryd.prog.cellsOf 4)) = ys[2]? := hys 2 _ rfl
      rw [ro4] at r2
      have r3 : DataW.trod enc Tryd.prog w 0 sp held n3 9 (([v0, v1, v2, v3].drop 3).take (Tryd.prog.cellsOf 9)) = ys[3]? := hys 3 _ rfl
      rw [ro9] at r3
      have hyl : ys.length = 4 := hyl
      match ys, hyl with
      | [w0, w1, w2, w3], _ =>
        obtain ⟨t0, ht0, hy0, _⟩ := DataW.trod_string Tryd.underlying9 (x := w0) r0
        obtain ⟨k1, hk1, hy1, _⟩ := DataW.trod_int Tryd.underlying25 (x := w1) r1
        obtain ⟨bo, hbo, hy2, _⟩ := DataW.trod_bool Tryd.underlying4 (x := w2) r2
        obtain ⟨t3, ht3, hy3, _⟩ := DataW.trod_string Tryd.underlying9 (x := w3) r3
        simp at ht0 hk1 hbo ht3
        subst ht0 hk1 hbo ht3
        refine ⟨(t0, k1, bo, t3), c0, c1, c2, c3, _, by rw [List.getElem?_map, hz]; rfl, ?_⟩
        simp only [Rows.uptoBulk, Rows.uptoBulkAll, hy0, hy3, List.map_cons]
        have q0 : t0.data.toList.length = t0.size := by rw [Array.length_toList]; rfl
        have q3 : t3.data.toList.length = t3.size := by rw [Array.length_toList]; rfl
        omega
    have hfn : ∃ f : Nat → RW, ∀ i, i < n → w.cell? ((a.add (i * 4)).add 0) = some (.string (f i).1) ∧ w.cell? ((a.add (i * 4)).add 1) = some (.int .i64 (f i).2.1) ∧ w.cell? ((a.add (i * 4)).add 2) = some (.bool (f i).2.2.1) ∧ w.cell? ((a.add (i * 4)).add 3) = some (.string (f i).2.2.2) ∧ ∃ d, (elems.map (·.1))[i]? = some d ∧ (f i).1.size + (f i).2.2.2.size + 1 ≤ Rows.uptoBulk d := by
      refine ⟨fun i => if hi : i < n then (each i hi).choose else (⟨#[]⟩, 0, false, ⟨#[]⟩), fun i hi => ?_⟩
      have := (each i hi).choose_spec
      simp only [hi, dif_pos]
      exact this
    obtain ⟨f, hf⟩ := hfn
    have hlen : (elems.map (·.1)).length = n := by rw [List.length_map]; exact hel
    have hnl : n ≤ 1048576 := by
      have := bulk_lenR (elems.map (·.1)) (fun i d hd => by
        have hi : i < n := by have := (List.getElem?_eq_some_iff.1 hd).1; omega
        obtain ⟨_, _, _, _, d', h1, h2⟩ := hf i hi
        rw [hd] at h1
        cases h1
        omega)
      omega
    have hget : ∀ i r, ((List.range n).map f)[i]? = some r → i < n ∧ r = f i := fun i r hr => by
      rw [List.getElem?_map] at hr
      obtain ⟨j, hj, hjr⟩ := Option.map_eq_some_iff.1 hr
      obtain ⟨h1, h2⟩ := List.getElem?_eq_some_iff.1 hj
      simp at h1 h2
      exact ⟨h1, by rw [← hjr, ← h2]⟩
    refine ⟨(List.range n).map f, by simp, fun i r hr => ?_, by simpa using hnl, fun r hr => ?_, by simpa using hlc⟩
    · obtain ⟨hi, rfl⟩ := hget i r hr
      obtain ⟨c0, c1, c2, c3, _⟩ := hf i hi
      have hs0 : a.spot = none := by
        have h0 := (hf 0 (by omega)).1
        have e : (a.add (0 * 4)).add 0 = a := by simp [Addr.add]
        rw [e] at h0
        exact spotR h0
      obtain ⟨g, o, s⟩ := a
      simp only at hs0
      subst hs0
      have hgl := World.block_lt_of_cell? _ _ c0
      rw [add_block, add_block] at hgl
      rw [Addr.add_lit, Addr.add_lit] at c0 c1 c2 c3
      exact ⟨g, o, rfl, hgl, c0, c1, c2, c3⟩
    · obtain ⟨i, hi, rfl⟩ := List.mem_map.1 hr
      simp at hi
      obtain ⟨_, _, _, _, d, h1, h2⟩ := hf i hi
      have := bulk_memR _ i d h1
      exact ⟨by omega, by omega⟩

end Go.Proofs.YtnggbemnblcnaaaDoor
namespace Go.Proofs.YtnggbemnblcnaaaDoor
def firstCells : Array Value := (Go.Pinned.utf8FirstZ.map fun (n : Nat) => Value.int .u8 (n : Int)).toArray
def rangeCells : Array Value := (([128, 191, 160, 191, 128, 159, 144, 191, 128, 143] ++ List.replicate 22 0).map fun (n : Nat) => Value.int .u8 (n : Int)).toArray
end Go.Proofs.YtnggbemnblcnaaaDoor
