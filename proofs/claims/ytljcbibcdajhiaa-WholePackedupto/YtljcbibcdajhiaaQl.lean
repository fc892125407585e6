/- Gathered: TvO PqV. -/
import Derived.Test.YtljcbibcdajhiaaTvB
import Derived.Test.YtljcbibcdajhiaaRows
import Derived.ProofKit
import Derived.OpenShut
import Derived.ChangeOld
import Derived.SizedLaws
import Derived.ChangeArms
import Derived.Test.YtljcbibcdajhiaaQi
/- A node that came in, opened, with the bound of its texts. -/
namespace Go.Proofs.Ytljcbibcdajhiaa
open Go.ChangeShapes Go.WideShapes Go.ChangeAt Go.RowKit

theorem ncKD : Try.prog.cellsOf 22 = 1 := by kernel_rfl
theorem nc4 : Try.prog.cellsOf 4 = 1 := by kernel_rfl
theorem nc9 : Try.prog.cellsOf 9 = 1 := by kernel_rfl
theorem ncLET : Try.prog.cellsOf 23 = 1 := by kernel_rfl
theorem ncNT : Try.prog.cellsOf 25 = 4 := by kernel_rfl
theorem ncET : Try.prog.cellsOf 83 = 5 := by kernel_rfl
theorem nbET : Try.prog.bytesOf 83 = 72 := by kernel_rfl

theorem five_cells {w : World} {a : Addr} {l : List Value} (h : w.cells? 0 a 5 = some l) : ∃ v0 v1 v2 v3 v4, l = [v0, v1, v2, v3, v4] ∧ w.cell? (a.add 0) = some v0 ∧ w.cell? (a.add 1) = some v1 ∧ w.cell? (a.add 2) = some v2 ∧ w.cell? (a.add 3) = some v3 ∧ w.cell? (a.add 4) = some v4 := by
  unfold World.cells? at h
  rw [if_pos (Nat.zero_le _)] at h
  have e : List.range 5 = [0, 1, 2, 3, 4] := rfl
  rw [e] at h
  simp only [List.mapM_cons, List.mapM_nil] at h
  cases h0 : w.cell? (a.add 0) <;> rw [h0] at h <;> simp at h
  cases h1 : w.cell? (a.add 1) <;> rw [h1] at h <;> simp at h
  cases h2 : w.cell? (a.add 2) <;> rw [h2] at h <;> simp at h
  cases h3 : w.cell? (a.add 3) <;> rw [h3] at h <;> simp at h
  cases h4 : w.cell? (a.add 4) <;> rw [h4] at h <;> simp at h
  exact ⟨_, _, _, _, _, h.symm, rfl, rfl, rfl, rfl, rfl⟩

theorem spotN {w : World} {a : Addr} {v : Value} (h : w.cell? a = some v) : a.spot = none := by
  unfold World.cell? at h
  split at h
  · split at h
    · cases h
    · rename_i hs; simpa using hs
  · cases h

theorem bulk_one {H : Type} (d : DataW H) : 1 ≤ Rows.uptoBulk d := by
  cases d with
  | lit l => cases l <;> simp [Rows.uptoBulk]
  | nil => simp [Rows.uptoBulk]
  | ptr d => simp [Rows.uptoBulk]
  | slice elems spare => simp [Rows.uptoBulk]
  | agg parts => simp [Rows.uptoBulk]
  | iface t d => simp [Rows.uptoBulk]
  | map entries => simp [Rows.uptoBulk]
  | held h => simp [Rows.uptoBulk]
theorem bulk_part {H : Type} {d : DataW H} {l : List (DataW H)} (h : d ∈ l) : Rows.uptoBulk d ≤ Rows.uptoBulkAll l := by
  induction l with
  | nil => cases h
  | cons x r ih =>
    simp only [Rows.uptoBulkAll]
    cases List.mem_cons.1 h with
    | inl e => subst e; omega
    | inr e => have := ih e; omega
theorem bulk_len {H : Type} (l : List (DataW H)) : l.length ≤ Rows.uptoBulkAll l := by
  induction l with
  | nil => simp [Rows.uptoBulkAll]
  | cons x r ih => have := bulk_one x; simp only [Rows.uptoBulkAll, List.length_cons]; omega
theorem smL_of (ns : List ByteArray) : ∀ (ks : List Tr), (∀ (j : Nat) (s : ByteArray) (T : Tr), ns[j]? = some s → ks[j]? = some T → s.size ≤ 1048576 ∧ smT T) → smL ns ks := by
  induction ns with
  | nil => intro ks _; rw [smL] <;> simp
  | cons a ns ih =>
    intro ks h
    cases ks with
    | nil => rw [smL] <;> simp
    | cons K ks =>
      rw [smL]
      have h0 := h 0 a K rfl rfl
      exact ⟨h0.1, h0.2, ih ks (fun j s T h1 h2 => h (j + 1) s T (by simpa using h1) (by simpa using h2))⟩

set_option maxHeartbeats 2000000 in
theorem open_nodeB {H : Type} {enc : TypeId × Value → H} {w : World} {sp : Nat → Bool} {held : Bool} (fuel : Nat) : ∀ (cs : List Value) (x : DataW H × List MemPlace), DataW.trod enc Try.prog w 0 sp held fuel 25 cs = some x → Rows.uptoBulk x.1 ≤ 1048576 →
    ∃ k e t z n c T, cs = [.int .i64 k, .bool e, .string t, .slice z n c] ∧ At w fuel (.agg #[.int .i64 k, .bool e, .string t, .slice z n c]) T ∧ smT T := by
  induction fuel using Nat.strongRecOn with
  | ind fuel IH =>
    intro cs x h hw
    obtain ⟨xs, n1, rfl, rfl, hl, hlen, hfs⟩ := DataW.trod_struct Try.underlying25 h
    rw [ncNT] at hl
    have g0 : DataW.trod enc Try.prog w 0 sp held n1 22 ((cs.drop 0).take (Try.prog.cellsOf 22)) = xs[0]? := hfs 0 _ rfl
    rw [ncKD] at g0
    have g1 : DataW.trod enc Try.prog w 0 sp held n1 4 ((cs.drop 1).take (Try.prog.cellsOf 4)) = xs[1]? := hfs 1 _ rfl
    rw [nc4] at g1
    have g2 : DataW.trod enc Try.prog w 0 sp held n1 9 ((cs.drop 2).take (Try.prog.cellsOf 9)) = xs[2]? := hfs 2 _ rfl
    rw [nc9] at g2
    have g3 : DataW.trod enc Try.prog w 0 sp held n1 23 ((cs.drop 3).take (Try.prog.cellsOf 23)) = xs[3]? := hfs 3 _ rfl
    rw [ncLET] at g3
    have hlen : xs.length = 4 := hlen
    clear hfs h
    match cs, hl, xs, hlen with
    | [u0, u1, u2, u3], _, [y0, y1, y2, y3], _ =>
      obtain ⟨k, hk, yk, _⟩ := DataW.trod_int Try.underlying22 (x := y0) g0
      obtain ⟨e, he, ye⟩ := DataW.trod_bool Try.underlying4 (x := y1) g1
      obtain ⟨t, ht, yt, _⟩ := DataW.trod_string Try.underlying9 (x := y2) g2
      have hw : Rows.uptoBulk y0.1 + (Rows.uptoBulk y1.1 + (Rows.uptoBulk y2.1 + (Rows.uptoBulk y3.1 + 0))) + 1 ≤ 1048576 := hw
      have htz : t.size ≤ 1048576 := by
        have e9 : Rows.uptoBulk y2.1 = t.data.toList.length + 1 := by rw [yt]; rfl
        have e8 : t.data.toList.length = t.size := by rw [Array.length_toList]; rfl
        omega
      have hw3 : Rows.uptoBulk y3.1 ≤ 1048576 := by omega
      simp at hk he ht
      subst hk he ht
      rcases DataW.trod_slice Try.underlying23 (x := y3) g3 with ⟨hc, _⟩ | ⟨a, len, cap, elems, rest, n2, rfl, hc, hx, _, hlc, _, hel, hE, _, _⟩
      · simp at hc
        subst hc
        exact ⟨k, e, t, none, 0, 0, .mk k e t [] [], rfl, ⟨none, 0, 0, rfl, rfl, rfl, Nat.le_refl _, by omega, Or.inl rfl⟩, by rw [smT]; exact ⟨htz, by rw [smL] <;> simp⟩⟩
      · simp at hc
        subst hc
        rw [hx] at hw3
        have hw4 : Rows.uptoBulkAll (elems.map Prod.fst) + Rows.uptoBulkAll (rest.map Prod.fst) + 1 ≤ 1048576 := hw3
        have hb : len ≤ 1954687338211 := by
          have := bulk_len (elems.map Prod.fst)
          rw [List.length_map] at this
          omega
        have each : ∀ i, i < len → ∃ (s : ByteArray) (T : Tr) (k' : Int) (e' : Bool) (t' : ByteArray) (z : Option Addr) (p q : Nat), w.cell? ((a.add (i * 5)).add 0) = some (.string s) ∧ w.cell? ((a.add (i * 5)).add 1) = some (.int .i64 k') ∧ w.cell? ((a.add (i * 5)).add 2) = some (.bool e') ∧ w.cell? ((a.add (i * 5)).add 3) = some (.string t') ∧ w.cell? ((a.add (i * 5)).add 4) = some (.slice z p q) ∧ At w (n2 + 1) (.agg #[.int .i64 k', .bool e', .string t', .slice z p q]) T ∧ s.size ≤ 1048576 ∧ smT T := by
          intro i hi
          have hi' := hE i hi
          rw [ncET] at hi'
          obtain ⟨zi, hz⟩ : ∃ zi, elems[i]? = some zi := ⟨_, List.getElem?_eq_getElem (by omega)⟩
          rw [hz, Option.bind_eq_some_iff] at hi'
          obtain ⟨l, hl5, htr⟩ := hi'
          obtain ⟨v0, v1, v2, v3, v4, rfl, c0, c1, c2, c3, c4⟩ := five_cells hl5
          obtain ⟨ys, n3, rfl, rfl, _, hyl, hys⟩ := DataW.trod_struct Try.underlying83 htr
          have r0 : DataW.trod enc Try.prog w 0 sp held n3 9 (([v0, v1, v2, v3, v4].drop 0).take (Try.prog.cellsOf 9)) = ys[0]? := hys 0 _ rfl
          rw [nc9] at r0
          have r1 : DataW.trod enc Try.prog w 0 sp held n3 25 (([v0, v1, v2, v3, v4].drop 1).take (Try.prog.cellsOf 25)) = ys[1]? := hys 1 _ rfl
          rw [ncNT] at r1
          have hyl : ys.length = 2 := hyl
          match ys, hyl with
          | [w0, w1], _ =>
            obtain ⟨s, hs, ys, _⟩ := DataW.trod_string Try.underlying9 (x := w0) r0
            have hw5 : Rows.uptoBulk (DataW.agg [w0.1, w1.1]) ≤ Rows.uptoBulkAll (elems.map Prod.fst) := bulk_part (List.mem_map.2 ⟨_, List.mem_of_getElem? hz, by simp⟩)
            have hw6 : Rows.uptoBulk w0.1 + (Rows.uptoBulk w1.1 + 0) + 1 ≤ Rows.uptoBulkAll (elems.map Prod.fst) := hw5
            have hsz : s.size ≤ 1048576 := by
              have e9 : Rows.uptoBulk w0.1 = s.data.toList.length + 1 := by rw [ys]; rfl
              have e8 : s.data.toList.length = s.size := by rw [Array.length_toList]; rfl
              omega
            obtain ⟨k', e', t', z, p, q, T, hcs, hA, hsT⟩ := IH n3 (by omega) _ w1 r1 (by omega)
            simp at hs hcs
            obtain ⟨rfl, rfl, rfl, rfl⟩ := hcs
            subst hs
            exact ⟨s, T, k', e', t', z, p, q, c0, c1, c2, c3, c4, hA.upto (by omega), hsz, hsT⟩
        by_cases h0 : len = 0
        · subst h0
          exact ⟨k, e, t, some a, 0, cap, .mk k e t [] [], rfl, ⟨some a, 0, cap, rfl, rfl, rfl, hlc, by omega, Or.inl rfl⟩, by rw [smT]; exact ⟨htz, by rw [smL] <;> simp⟩⟩
        · have hsp : a.spot = none := by
            obtain ⟨_, _, _, _, _, _, _, _, c0, _⟩ := each 0 (by omega)
            have : (a.add (0 * 5)).add 0 = a := by simp [Addr.add]
            rw [this] at c0
            exact spotN c0
          have hadd : ∀ i j, (a.add (i * 5)).add j = ⟨a.block, a.off + i * 5 + j, none⟩ := fun i j => by
            obtain ⟨g, o, s⟩ := a
            simp only at hsp
            subst hsp
            rw [Addr.add_lit, Addr.add_lit]
          have hblk : a.block < w.heap.size := by
            obtain ⟨_, _, _, _, _, _, _, _, c0, _⟩ := each 0 (by omega)
            rw [hadd] at c0
            have := World.block_lt_of_cell? (w := w) ⟨a.block, a.off + 0 * 5 + 0, none⟩ c0; exact this
          have ha : a = ⟨a.block, a.off, none⟩ := by obtain ⟨g, o, s⟩ := a; simp only at hsp; subst hsp; rfl
          let fs : Nat → ByteArray := fun i => if hi : i < len then (each i hi).choose else ByteArray.empty
          let ft : Nat → Tr := fun i => if hi : i < len then (each i hi).choose_spec.choose else .mk 0 false ByteArray.empty [] []
          refine ⟨k, e, t, some a, len, cap, .mk k e t ((List.range len).map fs) ((List.range len).map ft), rfl, ⟨some a, len, cap, rfl, by simp, by simp, hlc, hb, Or.inr ⟨a.block, a.off, by rw [← ha], hblk, fun j s T hs hT => ?_⟩⟩, by
            rw [smT]
            refine ⟨htz, smL_of _ _ (fun j s T hs hT => ?_)⟩
            have hj : j < len := by have := (List.getElem?_eq_some_iff.1 hs).1; simpa using this
            have es : s = (each j hj).choose := by simp [hj] at hs; rw [← hs]; simp [fs, hj]
            have eT : T = (each j hj).choose_spec.choose := by simp [hj] at hT; rw [← hT]; simp [ft, hj]
            obtain ⟨k', e', t', z, p, q, c0, c1, c2, c3, c4, hA, h8, h9⟩ := (each j hj).choose_spec.choose_spec
            rw [es, eT]
            exact ⟨h8, h9⟩⟩
          have hj : j < len := by have := (List.getElem?_eq_some_iff.1 hs).1; simpa using this
          have es : s = (each j hj).choose := by simp [hj] at hs; rw [← hs]; simp [fs, hj]
          have eT : T = (each j hj).choose_spec.choose := by simp [hj] at hT; rw [← hT]; simp [ft, hj]
          obtain ⟨k', e', t', z, p, q, c0, c1, c2, c3, c4, hA, -, -⟩ := (each j hj).choose_spec.choose_spec
          refine ⟨k', e', t', z, p, q, (congrArg w.cell? (hadd j 0)).symm.trans (c0.trans (by rw [es])), (congrArg w.cell? (hadd j 1)).symm.trans c1, (congrArg w.cell? (hadd j 2)).symm.trans c2, (congrArg w.cell? (hadd j 3)).symm.trans c3, (congrArg w.cell? (hadd j 4)).symm.trans c4, ?_⟩
          rw [eT]; exact hA

end Go.Proofs.Ytljcbibcdajhiaa
/- WholePacked: its list of numbers, opened (own text of the verifier). -/
namespace Go.Proofs.Ytljcbibcdajhiaa
open Go.RowKit

open Go.ChangeShapes in
theorem bulk_lits {H : Type} (k : IntKind) (zs : List Int) : Rows.uptoBulkAll (H := H) (lits k zs) = zs.length := by
  induction zs with
  | nil => rfl
  | cons z zs ih =>
    show Rows.uptoBulk (DataW.lit (.int k z)) + Rows.uptoBulkAll (lits k zs) = _
    rw [ih, List.length_cons]
    show 1 + zs.length = _
    omega

open Go.ChangeShapes in
theorem open_isl {H : Type} {enc : TypeId × Value → H} {w : World} {held : Bool} (fuel : Nat) (z : Option Addr) (n c : Nat) (x : DataW H × List MemPlace) (h : DataW.trod enc Try.prog w 0 (fun _ => true) held fuel 26 [.slice z n c] = some x) (hb : Rows.uptoBulk x.1 ≤ 1048576) :
    ∃ f : Nat → Int, ISr w z n f ∧ n ≤ 1048576 := by
  rcases open_ints Try.underlying26 Try.underlying3 (by kernel_rfl) h with ⟨hcs, _⟩ | ⟨a, l, cp, zs, hcs, _, hl, hm, hz, hx, hcell, hwz⟩
  · simp at hcs
    obtain ⟨rfl, rfl, rfl⟩ := hcs
    exact ⟨fun _ => 0, fun k hk => absurd hk (by omega), Nat.zero_le _⟩
  · simp at hcs
    obtain ⟨rfl, rfl, rfl⟩ := hcs
    have hz' : zs.length = c := by simpa using hz
    subst hx
    refine ⟨fun k => zs.getD k 0, fun k hk => ⟨_, rfl, hcell k (by omega)⟩, ?_⟩
    have e1 : Rows.uptoBulk (H := H) (.slice (lits .i64 (zs.take n)) (lits .i64 (zs.drop n))) = Rows.uptoBulkAll (H := H) (lits .i64 (zs.take n)) + Rows.uptoBulkAll (H := H) (lits .i64 (zs.drop n)) + 1 := by simp only [Rows.uptoBulk]
    have hb' : Rows.uptoBulk (H := H) (.slice (lits .i64 (zs.take n)) (lits .i64 (zs.drop n))) ≤ 1048576 := hb
    rw [e1, bulk_lits, bulk_lits, List.length_take, List.length_drop] at hb'
    omega

theorem packed_final (m : Nat) (k : Int) (e : Bool) (t : ByteArray) (x : Option Addr) (n c : Nat) (T : Tr) (y : Option Addr) (ny cy : Nat) (f : Nat → Int) (w : World) (hA : At w m (.agg #[Value.int IntKind.i64 k, Value.bool e, Value.string t, Value.slice x n c]) T) (hS : smT T) (hny : ny ≤ 1048576) (hy : ISr w y ny f) :
    Calls Try.prog 3 #[.agg #[Value.int IntKind.i64 k, Value.bool e, Value.string t, Value.slice x n c], .slice y ny cy] w fun en w' => en = .returned (.bool true) ∧ Below w.heap.size w w' := packed_walk m k e t x n c T y ny cy f w hA hS hy hny

end Go.Proofs.Ytljcbibcdajhiaa
