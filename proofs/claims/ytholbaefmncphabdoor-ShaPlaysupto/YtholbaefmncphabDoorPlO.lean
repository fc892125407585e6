/- The calls that came in, opened. -/
import Derived.Test.YtholbaefmncphabDoorPlW
import Derived.Test.YtholbaefmncphabDoorRows
import Derived.ProofKit
import Derived.OpenShut
import Derived.ChangeOld
import Derived.SizedLaws
import Derived.ChangeArms
namespace Go.Proofs.YtholbaefmncphabDoor
open Go.ChangeShapes Go.WideShapes Go.ChangeAt Go.RowKit
theorem nc3 : Tryd.prog.cellsOf 3 = 1 := by kernel_rfl
theorem nc9 : Tryd.prog.cellsOf 9 = 1 := by kernel_rfl
theorem nc48 : Tryd.prog.cellsOf 48 = 3 := by kernel_rfl
theorem three_cells {w : World} {a : Addr} {l : List Value} (h : w.cells? 0 a 3 = some l) : ∃ v0 v1 v2, l = [v0, v1, v2] ∧ w.cell? (a.add 0) = some v0 ∧ w.cell? (a.add 1) = some v1 ∧ w.cell? (a.add 2) = some v2 := by
  unfold World.cells? at h
  rw [if_pos (Nat.zero_le _)] at h
  have e : List.range 3 = [0, 1, 2] := rfl
  rw [e] at h
  simp only [List.mapM_cons, List.mapM_nil] at h
  cases h0 : w.cell? (a.add 0) <;> rw [h0] at h <;> simp at h
  cases h1 : w.cell? (a.add 1) <;> rw [h1] at h <;> simp at h
  cases h2 : w.cell? (a.add 2) <;> rw [h2] at h <;> simp at h
  exact ⟨_, _, _, h.symm, rfl, rfl, rfl⟩
theorem spotN {w : World} {a : Addr} {v : Value} (h : w.cell? a = some v) : a.spot = none := by
  unfold World.cell? at h
  split at h
  · split at h
    · cases h
    · rename_i hs; simpa using hs
  · cases h
theorem bulk_app {H : Type} (l : List (DataW H)) (d : DataW H) : Rows.uptoBulkAll (l ++ [d]) = Rows.uptoBulkAll l + Rows.uptoBulk d := by
  induction l with
  | nil => simp [Rows.uptoBulkAll]
  | cons a l ih => rw [List.cons_append, Rows.uptoBulkAll, Rows.uptoBulkAll, ih]; omega
theorem bulk_take {H : Type} (l : List (DataW H)) (t : Nat → ByteArray) (h : ∀ i d, l[i]? = some d → (t i).size + 1 ≤ Rows.uptoBulk d) (k : Nat) : k ≤ l.length → preS t k + k ≤ Rows.uptoBulkAll (l.take k) := by
  induction k with
  | zero => intro _; exact Nat.zero_le _
  | succ k ih =>
    intro hk
    have hg : l[k]? = some (l[k]'(by omega)) := List.getElem?_eq_getElem (by omega)
    rw [List.take_add_one, hg, Option.toList_some, bulk_app]
    have := ih (by omega)
    have := h k _ hg
    show preS t k + (t k).size + (k + 1) ≤ _
    omega
set_option maxHeartbeats 2000000 in
theorem open_ops {H : Type} {enc : TypeId × Value → H} {w : World} {sp : Nat → Bool} {held : Bool} (fuel : Nat) (z : Option Addr) (n c : Nat) (x : DataW H × List MemPlace) (h : DataW.trod enc Tryd.prog w 0 sp held fuel 44 [.slice z n c] = some x) (hb : Rows.uptoBulk x.1 ≤ 1048576) :
    ∃ who kind t, ORow w z n c who kind t ∧ n ≤ 1048576 ∧ preS t n ≤ 1048576 := by
  rcases DataW.trod_slice Tryd.underlying44 h with ⟨hc, _⟩ | ⟨a, len, cap, elems, rest, n2, rfl, hc, hx, _, hlc, _, hel, hE, _, _⟩
  · simp at hc
    obtain ⟨rfl, rfl, rfl⟩ := hc
    exact ⟨fun _ => 0, fun _ => 0, fun _ => ByteArray.empty, ⟨Nat.le_refl _, fun k hk => absurd hk (by omega), fun k hk => absurd hk (by omega)⟩, Nat.zero_le _, Nat.zero_le _⟩
  · simp at hc
    obtain ⟨rfl, rfl, rfl⟩ := hc
    have each : ∀ i, i < n → ∃ (wh kd : Int) (tx : ByteArray), (-9223372036854775808 ≤ wh ∧ wh ≤ 9223372036854775807) ∧ w.cell? ((a.add (i * 3)).add 0) = some (.int .i64 wh) ∧ w.cell? ((a.add (i * 3)).add 1) = some (.int .i64 kd) ∧ w.cell? ((a.add (i * 3)).add 2) = some (.string tx) ∧ ∀ d, (elems.map (·.1))[i]? = some d → tx.size + 1 ≤ Rows.uptoBulk d := by
      intro i hi
      have hi' := hE i hi
      rw [nc48] at hi'
      obtain ⟨zi, hz⟩ : ∃ zi, elems[i]? = some zi := ⟨_, List.getElem?_eq_getElem (by omega)⟩
      rw [hz, Option.bind_eq_some_iff] at hi'
      obtain ⟨l, hl3, htr⟩ := hi'
      obtain ⟨v0, v1, v2, rfl, c0, c1, c2⟩ := three_cells hl3
      obtain ⟨ys, n3, rfl, rfl, _, hyl, hys⟩ := DataW.trod_struct Tryd.underlying48 htr
      have r0 : DataW.trod enc Tryd.prog w 0 sp held n3 3 (([v0, v1, v2].drop 0).take 1) = ys[0]? := by have := hys 0 _ rfl; rw [← nc3]; exact this
      have r1 : DataW.trod enc Tryd.prog w 0 sp held n3 3 (([v0, v1, v2].drop 1).take 1) = ys[1]? := by have := hys 1 _ rfl; rw [← nc3]; exact this
      have r2 : DataW.trod enc Tryd.prog w 0 sp held n3 9 (([v0, v1, v2].drop 2).take 1) = ys[2]? := by have := hys 2 _ rfl; rw [← nc9]; exact this
      have hyl : ys.length = 3 := hyl
      match ys, hyl with
      | [w0, w1, w2], _ =>
        obtain ⟨wh, hwh, _, hwf⟩ := DataW.trod_int Tryd.underlying3 (x := w0) r0
        obtain ⟨kd, hkd, _, _⟩ := DataW.trod_int Tryd.underlying3 (x := w1) r1
        obtain ⟨tx, htx, hyt, _⟩ := DataW.trod_string Tryd.underlying9 (x := w2) r2
        simp at hwh hkd htx
        subst hwh hkd htx
        refine ⟨wh, kd, tx, bounds_i64 hwf, c0, c1, c2, fun d hd => ?_⟩
        rw [List.getElem?_map, hz] at hd
        simp at hd
        subst hd
        simp only [Rows.uptoBulk, Rows.uptoBulkAll, hyt]
        have : tx.data.toList.length = tx.size := by rw [Array.length_toList]; rfl
        omega
    let fw : Nat → Int := fun i => if hi : i < n then (each i hi).choose else 0
    let fk : Nat → Int := fun i => if hi : i < n then (each i hi).choose_spec.choose else 0
    let ft : Nat → ByteArray := fun i => if hi : i < n then (each i hi).choose_spec.choose_spec.choose else ByteArray.empty
    have sp' : ∀ i (hi : i < n), (-9223372036854775808 ≤ fw i ∧ fw i ≤ 9223372036854775807) ∧ w.cell? ((a.add (i * 3)).add 0) = some (.int .i64 (fw i)) ∧ w.cell? ((a.add (i * 3)).add 1) = some (.int .i64 (fk i)) ∧ w.cell? ((a.add (i * 3)).add 2) = some (.string (ft i)) ∧ ∀ d, (elems.map (·.1))[i]? = some d → (ft i).size + 1 ≤ Rows.uptoBulk d := fun i hi => by
      have := (each i hi).choose_spec.choose_spec.choose_spec
      simp only [fw, fk, ft, hi, dif_pos]
      exact this
    have hlen : (elems.map (·.1)).length = n := by rw [List.length_map]; exact hel
    have hbk := bulk_take (elems.map (·.1)) ft (fun i d hd => (sp' i (by have := (List.getElem?_eq_some_iff.1 hd).1; omega)).2.2.2.2 d hd) n (by omega)
    rw [List.take_of_length_le (by omega)] at hbk
    rw [hx] at hb
    simp only [Rows.uptoBulk] at hb
    refine ⟨fw, fk, ft, ⟨hlc, fun i hi => ?_, fun i hi => (sp' i hi).1⟩, by omega, by omega⟩
    obtain ⟨_, c0, c1, c2, _⟩ := sp' i hi
    have hsp : a.spot = none := by
      have h0 := (sp' 0 (by omega)).2.1
      have e : (a.add (0 * 3)).add 0 = a := by simp [Addr.add]
      rw [e] at h0
      exact spotN h0
    have hadd : ∀ j, (a.add (i * 3)).add j = ⟨a.block, a.off + i * 3 + j, none⟩ := fun j => by
      obtain ⟨g, o, s⟩ := a
      simp only at hsp
      subst hsp
      rw [Addr.add_lit, Addr.add_lit]
    rw [hadd] at c0 c1 c2
    have ha : a = ⟨a.block, a.off, none⟩ := by obtain ⟨g, o, s⟩ := a; simp only at hsp; subst hsp; rfl
    exact ⟨a.block, a.off, by rw [← ha], (by have := World.block_lt_of_cell? _ _ c0; exact this), c0, c1, c2⟩
end Go.Proofs.YtholbaefmncphabDoor
