/- Calls that came in, opened. -/
import Derived.Test.YthjpmiidbgaiaaaPpW
import Derived.Test.YthjpmiidbgaiaaaRows
import Derived.ProofKit
import Derived.OpenShut
import Derived.ChangeOld
import Derived.SizedLaws
import Derived.ChangeArms
namespace Go.Proofs.Ythjpmiidbgaiaaa
open Go.ChangeShapes Go.WideShapes Go.ChangeAt Go.RowKit
theorem nc4 : Try.prog.cellsOf 4 = 1 := by kernel_rfl
theorem nc9 : Try.prog.cellsOf 9 = 1 := by kernel_rfl
theorem ncOT : Try.prog.cellsOf 42 = 2 := by kernel_rfl
theorem two_cells {w : World} {a : Addr} {l : List Value} (h : w.cells? 0 a 2 = some l) : ∃ v0 v1, l = [v0, v1] ∧ w.cell? (a.add 0) = some v0 ∧ w.cell? (a.add 1) = some v1 := by
  unfold World.cells? at h
  rw [if_pos (Nat.zero_le _)] at h
  have e : List.range 2 = [0, 1] := rfl
  rw [e] at h
  simp only [List.mapM_cons, List.mapM_nil] at h
  cases h0 : w.cell? (a.add 0) <;> rw [h0] at h <;> simp at h
  cases h1 : w.cell? (a.add 1) <;> rw [h1] at h <;> simp at h
  exact ⟨_, _, h.symm, rfl, rfl⟩
theorem spotN {w : World} {a : Addr} {v : Value} (h : w.cell? a = some v) : a.spot = none := by
  unfold World.cell? at h
  split at h
  · split at h
    · cases h
    · rename_i hs; simpa using hs
  · cases h
theorem bulk_app {H : Type} (l : List (DataW H)) (d : DataW H) : Rows.uptoBulkAll (l ++ [d]) = Rows.uptoBulkAll l + Rows.uptoBulk d := by
  induction l with
  | nil => simp [Rows.uptoBulkAll]
  | cons a l ih => rw [List.cons_append, Rows.uptoBulkAll, Rows.uptoBulkAll, ih]; omega
theorem bulk_take {H : Type} (l : List (DataW H)) (t : Nat → List UInt8) (h : ∀ i d, l[i]? = some d → (t i).length + 1 ≤ Rows.uptoBulk d) (k : Nat) : k ≤ l.length → preB t k + k ≤ Rows.uptoBulkAll (l.take k) := by
  induction k with
  | zero => intro _; exact Nat.zero_le _
  | succ k ih =>
    intro hk
    have hg : l[k]? = some (l[k]'(by omega)) := List.getElem?_eq_getElem (by omega)
    rw [List.take_add_one, hg, Option.toList_some, bulk_app]
    have := ih (by omega)
    have := h k _ hg
    show preB t k + (t k).length + (k + 1) ≤ _
    omega
set_option maxHeartbeats 2000000 in
theorem open_ops {H : Type} {enc : TypeId × Value → H} {w : World} {sp : Nat → Bool} {held : Bool} (fuel : Nat) (z : Option Addr) (n c : Nat) (x : DataW H × List MemPlace) (h : DataW.trod enc Try.prog w 0 sp held fuel 35 [.slice z n c] = some x) (hb : Rows.uptoBulk x.1 ≤ 1048576) :
    ∃ L : (Nat → Bool) × (Nat → List UInt8), OpRow w z n L.1 L.2 ∧ n ≤ 1048576 ∧ preB L.2 n ≤ 1048576 := by
  rcases DataW.trod_slice Try.underlying35 h with ⟨hc, _⟩ | ⟨a, len, cap, elems, rest, n2, rfl, hc, hx, _, hlc, _, hel, hE, _, _⟩
  · simp at hc
    obtain ⟨rfl, rfl, rfl⟩ := hc
    exact ⟨(fun _ => false, fun _ => []), ⟨fun k hk => absurd hk (by omega)⟩, Nat.zero_le _, Nat.zero_le _⟩
  · simp at hc
    obtain ⟨rfl, rfl, rfl⟩ := hc
    have each : ∀ i, i < n → ∃ it : Bool × List UInt8, w.cell? ((a.add (i * 2)).add 0) = some (.bool it.1) ∧ w.cell? ((a.add (i * 2)).add 1) = some (.string (ba it.2)) ∧ ∀ d, (elems.map (·.1))[i]? = some d → it.2.length + 1 ≤ Rows.uptoBulk d := by
      intro i hi
      have hi' := hE i hi
      rw [ncOT] at hi'
      obtain ⟨zi, hz⟩ : ∃ zi, elems[i]? = some zi := ⟨_, List.getElem?_eq_getElem (by omega)⟩
      rw [hz, Option.bind_eq_some_iff] at hi'
      obtain ⟨l, hl3, htr⟩ := hi'
      obtain ⟨v0, v1, rfl, c0, c1⟩ := two_cells hl3
      obtain ⟨ys, n3, rfl, rfl, _, hyl, hys⟩ := DataW.trod_struct Try.underlying42 htr
      have r0 : DataW.trod enc Try.prog w 0 sp held n3 4 (([v0, v1].drop 0).take 1) = ys[0]? := by have := hys 0 _ rfl; rw [← nc4]; exact this
      have r1 : DataW.trod enc Try.prog w 0 sp held n3 9 (([v0, v1].drop 1).take 1) = ys[1]? := by have := hys 1 _ rfl; rw [← nc9]; exact this
      have hyl : ys.length = 2 := hyl
      match ys, hyl with
      | [w0, w1], _ =>
        obtain ⟨bo, hbo, _⟩ := DataW.trod_bool Try.underlying4 (x := w0) r0
        obtain ⟨tx, htx, hyt, _⟩ := DataW.trod_string Try.underlying9 (x := w1) r1
        simp at hbo htx
        subst hbo htx
        refine ⟨(bo, tx.data.toList), c0, ?_, fun d hd => ?_⟩
        · rw [c1]
          show some (Value.string tx) = some (.string (ba tx.data.toList))
          rw [ba_list]
        rw [List.getElem?_map, hz] at hd
        simp at hd
        subst hd
        simp only [Rows.uptoBulk, Rows.uptoBulkAll, hyt]
        show tx.data.toList.length + 1 ≤ _
        omega
    let ft : Nat → Bool × List UInt8 := fun i => if hi : i < n then (each i hi).choose else (false, [])
    have sp' : ∀ i (hi : i < n), w.cell? ((a.add (i * 2)).add 0) = some (.bool (ft i).1) ∧ w.cell? ((a.add (i * 2)).add 1) = some (.string (ba (ft i).2)) ∧ ∀ d, (elems.map (·.1))[i]? = some d → (ft i).2.length + 1 ≤ Rows.uptoBulk d := fun i hi => by
      have := (each i hi).choose_spec
      simp only [ft, hi, dif_pos]
      exact this
    have hlen : (elems.map (·.1)).length = n := by rw [List.length_map]; exact hel
    have hbk := bulk_take (elems.map (·.1)) (fun i => (ft i).2) (fun i d hd => (sp' i (by have := (List.getElem?_eq_some_iff.1 hd).1; omega)).2.2 d hd) n (by omega)
    rw [List.take_of_length_le (by omega)] at hbk
    rw [hx] at hb
    simp only [Rows.uptoBulk] at hb
    refine ⟨(fun i => (ft i).1, fun i => (ft i).2), ⟨fun i hi => ?_⟩, by omega, by show preB (fun i => (ft i).2) n ≤ _; omega⟩
    obtain ⟨c0, c1, _⟩ := sp' i hi
    have hsp : a.spot = none := by
      have h0 := (sp' 0 (by omega)).1
      have e : (a.add (0 * 2)).add 0 = a := by simp [Addr.add]
      rw [e] at h0
      exact spotN h0
    have hadd : ∀ j, (a.add (i * 2)).add j = ⟨a.block, a.off + i * 2 + j, none⟩ := fun j => by
      obtain ⟨g, o, s⟩ := a
      simp only at hsp
      subst hsp
      rw [Addr.add_lit, Addr.add_lit]
    rw [hadd] at c0 c1
    have ha : a = ⟨a.block, a.off, none⟩ := by obtain ⟨g, o, s⟩ := a; simp only at hsp; subst hsp; rfl
    exact ⟨a.block, a.off, by rw [← ha], (by have := World.block_lt_of_cell? _ _ c0; exact this), c0, c1⟩
theorem open_opsF {H : Type} {enc : TypeId × Value → H} {w : World} {sp : Nat → Bool} {held : Bool} (fuel : Nat) (z : Option Addr) (n c : Nat) (x : DataW H × List MemPlace) (h : DataW.trod enc Try.prog w 0 sp held fuel 35 [.slice z n c] = some x) (hb : Rows.uptoBulk x.1 ≤ 1048576) :
    ∃ L : (Nat → Bool) × (Nat → List UInt8), ∃ z2 n2 c2, Value.slice z n c = .slice z2 n2 c2 ∧ OpRow w z2 n2 L.1 L.2 ∧ n2 ≤ 1048576 ∧ preB L.2 n2 ≤ 1048576 := by
  obtain ⟨L, h1⟩ := open_ops fuel z n c x h hb
  exact ⟨L, z, n, c, rfl, h1⟩
theorem pplays_walkF (r : Value) (L : (Nat → Bool) × (Nat → List UInt8)) (w : World) (h : ∃ z2 n2 c2, r = .slice z2 n2 c2 ∧ OpRow w z2 n2 L.1 L.2 ∧ n2 ≤ 1048576 ∧ preB L.2 n2 ≤ 1048576) :
    Calls Try.prog 5 #[r] w fun e w' => e = .returned (.bool true) ∧ Below w.heap.size w w' := by
  obtain ⟨z, n, c, rfl, h1, h2, h3⟩ := h
  exact plays_walk z n c L.1 L.2 w h1 h2 h3

end Go.Proofs.Ythjpmiidbgaiaaa
