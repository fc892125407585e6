/- TablePlays: the calls that came in, opened (own text of the verifier). -/
import Derived.Test.YtbdnniaajiiimaaPpC
import Derived.Test.YtbdnniaajiiimaaRows
import Derived.ProofKit
import Derived.OpenShut
import Derived.ChangeOld
import Derived.SizedLaws
import Derived.ChangeArms
namespace Go.Proofs.Ytbdnniaajiiimaa
namespace TS
open Go.ChangeShapes Go.WideShapes Go.ChangeAt Go.RowKit
/-- A row of calls: whose, which, a key, a number. -/
structure CRow (w : World) (z : Option Addr) (n : Nat) (wh kd : Nat → Int) (ky : Nat → ByteArray) (nm : Nat → Int) : Prop where
  cell : ∀ i, i < n → ∃ b o, z = some ⟨b, o, none⟩ ∧ b < w.heap.size ∧ w.cell? ⟨b, o + i * 4, none⟩ = some (.int .i64 (wh i)) ∧ w.cell? ⟨b, o + i * 4 + 1, none⟩ = some (.int .i64 (kd i)) ∧ w.cell? ⟨b, o + i * 4 + 2, none⟩ = some (.string (ky i)) ∧ w.cell? ⟨b, o + i * 4 + 3, none⟩ = some (.int .i64 (nm i))
  wb : ∀ i, i < n → -9223372036854775808 ≤ wh i ∧ wh i ≤ 9223372036854775807
theorem CRow.below {w w' : World} {z : Option Addr} {n : Nat} {wh kd : Nat → Int} {ky : Nat → ByteArray} {nm : Nat → Int} (h : CRow w z n wh kd ky nm) (b : Below w.heap.size w w') : CRow w' z n wh kd ky nm :=
  ⟨fun i hi => by
    obtain ⟨g, o, e, hl, c0, c1, c2, c3⟩ := h.cell i hi
    exact ⟨g, o, e, Nat.lt_of_lt_of_le hl b.size, (b.cell (p := ⟨g, o + i * 4, none⟩) hl).trans c0, (b.cell (p := ⟨g, o + i * 4 + 1, none⟩) hl).trans c1, (b.cell (p := ⟨g, o + i * 4 + 2, none⟩) hl).trans c2, (b.cell (p := ⟨g, o + i * 4 + 3, none⟩) hl).trans c3⟩, h.wb⟩
theorem nc3P : Try.prog.cellsOf 3 = 1 := by kernel_rfl
theorem nc9P : Try.prog.cellsOf 9 = 1 := by kernel_rfl
theorem ncOP : Try.prog.cellsOf 32 = 4 := by kernel_rfl
theorem four_cells {w : World} {a : Addr} {l : List Value} (h : w.cells? 0 a 4 = some l) : ∃ v0 v1 v2 v3, l = [v0, v1, v2, v3] ∧ w.cell? (a.add 0) = some v0 ∧ w.cell? (a.add 1) = some v1 ∧ w.cell? (a.add 2) = some v2 ∧ w.cell? (a.add 3) = some v3 := by
  unfold World.cells? at h
  rw [if_pos (Nat.zero_le _)] at h
  have e : List.range 4 = [0, 1, 2, 3] := rfl
  rw [e] at h
  simp only [List.mapM_cons, List.mapM_nil] at h
  cases h0 : w.cell? (a.add 0) <;> rw [h0] at h <;> simp at h
  cases h1 : w.cell? (a.add 1) <;> rw [h1] at h <;> simp at h
  cases h2 : w.cell? (a.add 2) <;> rw [h2] at h <;> simp at h
  cases h3 : w.cell? (a.add 3) <;> rw [h3] at h <;> simp at h
  exact ⟨_, _, _, _, h.symm, rfl, rfl, rfl, rfl⟩
theorem spotP {w : World} {a : Addr} {v : Value} (h : w.cell? a = some v) : a.spot = none := by
  unfold World.cell? at h
  split at h
  · split at h
    · cases h
    · rename_i hs; simpa using hs
  · cases h
theorem bulk_len {H : Type} (l : List (DataW H)) (h : ∀ (i : Nat) (d : DataW H), l[i]? = some d → 1 ≤ Rows.uptoBulk d) : l.length ≤ Rows.uptoBulkAll l := by
  induction l with
  | nil => exact Nat.zero_le _
  | cons a l ih =>
    rw [Rows.uptoBulkAll, List.length_cons]
    have h1 := h 0 a rfl
    have h2 := ih (fun i d hd => h (i + 1) d (by simpa using hd))
    omega
set_option maxHeartbeats 2000000 in
theorem open_calls {H : Type} {enc : TypeId × Value → H} {w : World} {sp : Nat → Bool} {held : Bool} (fuel : Nat) (z : Option Addr) (n c : Nat) (x : DataW H × List MemPlace) (h : DataW.trod enc Try.prog w 0 sp held fuel 22 [.slice z n c] = some x) (hb : Rows.uptoBulk x.1 ≤ 1048576) :
    ∃ L : ((Nat → Int) × (Nat → Int)) × ((Nat → ByteArray) × (Nat → Int)), CRow w z n L.1.1 L.1.2 L.2.1 L.2.2 ∧ n ≤ 1048576 := by
  rcases DataW.trod_slice Try.underlying22 h with ⟨hc, _⟩ | ⟨a, len, cap, elems, rest, n2, rfl, hc, hx, _, hlc, _, hel, hE, _, _⟩
  · simp at hc
    obtain ⟨rfl, rfl, rfl⟩ := hc
    exact ⟨((fun _ => 0, fun _ => 0), (fun _ => ByteArray.empty, fun _ => 0)), ⟨fun k hk => absurd hk (by omega), fun k hk => absurd hk (by omega)⟩, Nat.zero_le _⟩
  · simp at hc
    obtain ⟨rfl, rfl, rfl⟩ := hc
    have each : ∀ i, i < n → ∃ q : (Int × Int) × (ByteArray × Int), (-9223372036854775808 ≤ q.1.1 ∧ q.1.1 ≤ 9223372036854775807) ∧ w.cell? ((a.add (i * 4)).add 0) = some (.int .i64 q.1.1) ∧ w.cell? ((a.add (i * 4)).add 1) = some (.int .i64 q.1.2) ∧ w.cell? ((a.add (i * 4)).add 2) = some (.string q.2.1) ∧ w.cell? ((a.add (i * 4)).add 3) = some (.int .i64 q.2.2) ∧ ∀ d, (elems.map (·.1))[i]? = some d → 1 ≤ Rows.uptoBulk d := by
      intro i hi
      have hi' := hE i hi
      rw [ncOP] at hi'
      obtain ⟨zi, hz⟩ : ∃ zi, elems[i]? = some zi := ⟨_, List.getElem?_eq_getElem (by omega)⟩
      rw [hz, Option.bind_eq_some_iff] at hi'
      obtain ⟨l, hl3, htr⟩ := hi'
      obtain ⟨v0, v1, v2, v3, rfl, c0, c1, c2, c3⟩ := four_cells hl3
      obtain ⟨ys, n3, rfl, rfl, _, hyl, hys⟩ := DataW.trod_struct Try.underlying32 htr
      have r0 : DataW.trod enc Try.prog w 0 sp held n3 3 (([v0, v1, v2, v3].drop 0).take 1) = ys[0]? := by have := hys 0 _ rfl; rw [← nc3P]; exact this
      have r1 : DataW.trod enc Try.prog w 0 sp held n3 3 (([v0, v1, v2, v3].drop 1).take 1) = ys[1]? := by have := hys 1 _ rfl; rw [← nc3P]; exact this
      have r2 : DataW.trod enc Try.prog w 0 sp held n3 9 (([v0, v1, v2, v3].drop 2).take 1) = ys[2]? := by have := hys 2 _ rfl; rw [← nc9P]; exact this
      have r3 : DataW.trod enc Try.prog w 0 sp held n3 3 (([v0, v1, v2, v3].drop 3).take 1) = ys[3]? := by have := hys 3 _ rfl; rw [← nc3P]; exact this
      have hyl : ys.length = 4 := hyl
      match ys, hyl with
      | [w0, w1, w2, w3], _ =>
        obtain ⟨wh, hwh, _, hwf⟩ := DataW.trod_int Try.underlying3 (x := w0) r0
        obtain ⟨kd, hkd, _, _⟩ := DataW.trod_int Try.underlying3 (x := w1) r1
        obtain ⟨tx, htx, hyt, _⟩ := DataW.trod_string Try.underlying9 (x := w2) r2
        obtain ⟨nm, hnm, _, _⟩ := DataW.trod_int Try.underlying3 (x := w3) r3
        simp at hwh hkd htx hnm
        subst hwh hkd htx hnm
        refine ⟨((wh, kd), (tx, nm)), bounds_i64 hwf, c0, c1, c2, c3, fun d hd => ?_⟩
        rw [List.getElem?_map, hz] at hd
        simp at hd
        subst hd
        simp only [Rows.uptoBulk, Rows.uptoBulkAll]
        omega
    let f : Nat → (Int × Int) × (ByteArray × Int) := fun i => if hi : i < n then (each i hi).choose else ((0, 0), (ByteArray.empty, 0))
    have sp' : ∀ i, i < n → (-9223372036854775808 ≤ (f i).1.1 ∧ (f i).1.1 ≤ 9223372036854775807) ∧ w.cell? ((a.add (i * 4)).add 0) = some (.int .i64 (f i).1.1) ∧ w.cell? ((a.add (i * 4)).add 1) = some (.int .i64 (f i).1.2) ∧ w.cell? ((a.add (i * 4)).add 2) = some (.string (f i).2.1) ∧ w.cell? ((a.add (i * 4)).add 3) = some (.int .i64 (f i).2.2) ∧ ∀ d, (elems.map (·.1))[i]? = some d → 1 ≤ Rows.uptoBulk d := fun i hi => by
      have := (each i hi).choose_spec
      simp only [f, hi, dif_pos]
      exact this
    have hlen : (elems.map (·.1)).length = n := by rw [List.length_map]; exact hel
    have hbk := bulk_len (elems.map (·.1)) (fun i d hd => (sp' i (by have := (List.getElem?_eq_some_iff.1 hd).1; omega)).2.2.2.2.2 d hd)
    rw [hx] at hb
    simp only [Rows.uptoBulk] at hb
    refine ⟨((fun i => (f i).1.1, fun i => (f i).1.2), (fun i => (f i).2.1, fun i => (f i).2.2)), ⟨fun i hi => ?_, fun i hi => (sp' i hi).1⟩, by omega⟩
    obtain ⟨_, c0, c1, c2, c3, _⟩ := sp' i hi
    have hsp : a.spot = none := by
      have h0 := (sp' 0 (by omega)).2.1
      have e : (a.add (0 * 4)).add 0 = a := by simp [Addr.add]
      rw [e] at h0
      exact spotP h0
    have hadd : ∀ j, (a.add (i * 4)).add j = ⟨a.block, a.off + i * 4 + j, none⟩ := fun j => by
      obtain ⟨g, o, s⟩ := a
      simp only at hsp
      subst hsp
      rw [Addr.add_lit, Addr.add_lit]
    rw [hadd] at c0 c1 c2 c3
    have ha : a = ⟨a.block, a.off, none⟩ := by obtain ⟨g, o, s⟩ := a; simp only at hsp; subst hsp; rfl
    exact ⟨a.block, a.off, by rw [← ha], (by have := World.block_lt_of_cell? _ _ c0; exact this), c0, c1, c2, c3⟩
end TS
end Go.Proofs.Ytbdnniaajiiimaa
