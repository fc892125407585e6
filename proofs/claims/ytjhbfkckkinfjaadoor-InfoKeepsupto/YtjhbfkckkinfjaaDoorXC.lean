/- InW InE2 Utf Tbs, gathered (own text of the verifier). -/
import Derived.Test.YtjhbfkckkinfjaaDoorInV
import Derived.Test.YtjhbfkckkinfjaaDoorRows
import Derived.ProofKit
import Derived.OpenShut
import Derived.ChangeOld
import Derived.SizedLaws
import Derived.SliceStrings
namespace Go.Proofs.YtjhbfkckkinfjaaDoor
open Go.ChangeShapes Go.WideShapes Go.ChangeAt Go.RowKit

theorem nc9 : Tryd.prog.cellsOf 9 = 1 := by kernel_rfl
theorem nc3 : Tryd.prog.cellsOf 3 = 1 := by kernel_rfl
theorem nc5 : Tryd.prog.cellsOf 5 = 1 := by kernel_rfl
theorem ncDIG : Tryd.prog.cellsOf 23 = 32 := by kernel_rfl
theorem ncLS : Tryd.prog.cellsOf 24 = 1 := by kernel_rfl
theorem ncINF : Tryd.prog.cellsOf 26 = 37 := by kernel_rfl
theorem bulk_strs {H : Type} (l : List ByteArray) : l.length ≤ Rows.uptoBulkAll (H := H) (strs l) ∧ ∀ s ∈ l, s.size ≤ Rows.uptoBulkAll (H := H) (strs l) := by
  induction l with
  | nil => exact ⟨Nat.zero_le _, fun s hs => by cases hs⟩
  | cons a l ih =>
    have e : Rows.uptoBulkAll (H := H) (strs (a :: l)) = a.data.toList.length + 1 + Rows.uptoBulkAll (H := H) (strs l) := rfl
    have e2 : a.data.toList.length = a.size := by rw [Array.length_toList]; rfl
    refine ⟨by rw [e, List.length_cons]; have := ih.1; omega, fun s hs => ?_⟩
    rw [e]
    rcases List.mem_cons.1 hs with rfl | hs
    · omega
    · have := ih.2 s hs; omega
theorem open_texts {H : Type} {enc : TypeId × Value → H} {w : World} {fuel : Nat} {cs : List Value} {x : DataW H × List MemPlace}
    (hf : DataW.trod enc Tryd.prog w 0 (fun _ => true) true fuel 24 cs = some x) (bk : Rows.uptoBulk x.1 ≤ 1048576) :
    ∃ (z : Option Addr) (n c : Nat) (f : Nat → ByteArray), cs = [.slice z n c] ∧ SIs w z n f ∧ n ≤ c ∧ n ≤ 1048576 ∧ ∀ i, i < n → (f i).size ≤ 1048576 := by
  rcases open_strings Tryd.underlying24 Tryd.underlying9 nc9 hf with ⟨hcs, hx⟩ | ⟨a, n, c', ss, hcs, _, hl, hm, hlen, hx, hcell, _⟩
  · exact ⟨none, 0, 0, fun _ => ByteArray.empty, hcs, fun i hi => absurd hi (by omega), by omega, by omega, fun i hi => absurd hi (by omega)⟩
  · simp only [if_true] at hlen
    subst hx
    have b1 := bulk_strs (H := H) (ss.take n)
    have b2 : Rows.uptoBulk (DataW.slice (strs (H := H) (ss.take n)) (strs (ss.drop n))) = Rows.uptoBulkAll (strs (H := H) (ss.take n)) + Rows.uptoBulkAll (strs (H := H) (ss.drop n)) + 1 := rfl
    simp only [] at bk
    rw [b2] at bk
    refine ⟨some a, n, c', fun i => ss.getD i ByteArray.empty, hcs, fun i hi => ⟨a, rfl, hcell i (by omega)⟩, hl, ?_, fun i hi => ?_⟩
    · have := b1.1
      rw [List.length_take] at this
      omega
    · have hmem : ss.getD i ByteArray.empty ∈ ss.take n := by
        rw [List.mem_take_iff_getElem]
        exact ⟨i, by omega, by simp [List.getD, show i < ss.length by omega]⟩
      have := b1.2 _ hmem
      show (ss.getD i ByteArray.empty).size ≤ 1048576
      omega
theorem one_at {l : List Value} {o : Nat} {v : Value} (h : (l.drop o).take 1 = [v]) : l[o]? = some v := by
  have := congrArg (fun k => k[0]?) h
  simpa using this

set_option maxHeartbeats 2000000 in
theorem open_info {H : Type} {enc : TypeId × Value → H} {w : World} (fuel : Nat) (cs : List Value) (x : DataW H × List MemPlace) (h : DataW.trod enc Tryd.prog w 0 (fun _ => true) true fuel 26 cs = some x) (hb : Rows.uptoBulk x.1 ≤ 1048576) :
    ∃ (P : ByteArray) (D : Nat → Int) (z : Int) (F : ByteArray) (xr : Option Addr) (nr cr : Nat) (fr : Nat → ByteArray) (xs : Option Addr) (ns cs' : Nat) (fs : Nat → ByteArray), cs = infL P D z (.slice xr nr cr) F (.slice xs ns cs') ∧ SIs w xr nr fr ∧ SIs w xs ns fs ∧ ns ≤ cs' ∧ ns ≤ 1152921504606846976 ∧ ∀ i, i < ns → (fs i).size ≤ 1048576 := by
  obtain ⟨xs, n1, rfl, rfl, hl, hlen, hfs⟩ := DataW.trod_struct Tryd.underlying26 h
  rw [ncINF] at hl
  have g0 : DataW.trod enc Tryd.prog w 0 (fun _ => true) true n1 9 ((cs.drop 0).take 1) = xs[0]? := by have := hfs 0 _ rfl; rw [← nc9]; exact this
  have g1 : DataW.trod enc Tryd.prog w 0 (fun _ => true) true n1 23 ((cs.drop 1).take 32) = xs[1]? := by have := hfs 1 _ rfl; rw [← ncDIG]; exact this
  have g2 : DataW.trod enc Tryd.prog w 0 (fun _ => true) true n1 3 ((cs.drop 33).take 1) = xs[2]? := by have := hfs 2 _ rfl; rw [← nc3]; exact this
  have g3 : DataW.trod enc Tryd.prog w 0 (fun _ => true) true n1 24 ((cs.drop 34).take 1) = xs[3]? := by have := hfs 3 _ rfl; rw [← ncLS]; exact this
  have g4 : DataW.trod enc Tryd.prog w 0 (fun _ => true) true n1 9 ((cs.drop 35).take 1) = xs[4]? := by have := hfs 4 _ rfl; rw [← nc9]; exact this
  have g5 : DataW.trod enc Tryd.prog w 0 (fun _ => true) true n1 24 ((cs.drop 36).take 1) = xs[5]? := by have := hfs 5 _ rfl; rw [← ncLS]; exact this
  have hlen : xs.length = 6 := hlen
  clear hfs h
  match xs, hlen with
  | [y0, y1, y2, y3, y4, y5], _ =>
    obtain ⟨P, hP, _, _⟩ := DataW.trod_string Tryd.underlying9 (x := y0) g0
    obtain ⟨F, hF, _, _⟩ := DataW.trod_string Tryd.underlying9 (x := y4) g4
    obtain ⟨z, hz, _, _⟩ := DataW.trod_int Tryd.underlying3 (x := y2) g2
    simp only [Rows.uptoBulk, Rows.uptoBulkAll, List.map_cons, List.map_nil] at hb
    obtain ⟨xr, nr, cr, fr, hr, sr, _, _, _⟩ := open_texts (x := y3) g3 (by omega)
    obtain ⟨xz, ns, cz, fs, hs, ss, lz, mz, kz⟩ := open_texts (x := y5) g5 (by omega)
    obtain ⟨ys, m, _, _, _, hyl, hys⟩ := DataW.trod_array undDIG (x := y1) g1
    have hd : ∀ j, ∃ v : Int, j < 32 → cs[1 + j]? = some (.int .u8 v) := fun j => by
      by_cases hj : j < 32
      · have h1 := hys j hj
        rw [List.getElem?_eq_getElem (by omega)] at h1
        obtain ⟨v, hv, _, _⟩ := DataW.trod_int Tryd.underlying5 h1
        rw [nc5, Nat.mul_one] at hv
        refine ⟨v, fun _ => ?_⟩
        have h2 := one_at hv
        rw [List.getElem?_take_of_lt (by omega), List.getElem?_drop] at h2
        exact h2
      · exact ⟨0, fun h => absurd h hj⟩
    obtain ⟨D, hD⟩ := Classical.axiomOfChoice hd
    refine ⟨P, D, z, F, xr, nr, cr, fr, xz, ns, cz, fs, ?_, sr, ss, lz, by omega, kz⟩
    have c0 := one_at hP
    have c33 := one_at hz
    have c34 := one_at hr
    have c35 := one_at hF
    have c36 := one_at hs
    refine List.ext_getElem? (fun j => ?_)
    by_cases h0 : j = 0
    · subst h0; exact c0
    by_cases h1 : j < 33
    · obtain ⟨k, rfl⟩ : ∃ k, j = 1 + k := ⟨j - 1, by omega⟩
      rw [infL_dig _ _ _ _ _ _ k (by omega)]
      exact hD k (by omega)
    by_cases h2 : j < 37
    · obtain ⟨k, rfl⟩ : ∃ k, j = 33 + k := ⟨j - 33, by omega⟩
      rw [infL_tail]
      match k, h2 with
      | 0, _ => exact c33
      | 1, _ => exact c34
      | 2, _ => exact c35
      | 3, _ => exact c36
      | k + 4, h2 => omega
    · rw [List.getElem?_eq_none (by omega), List.getElem?_eq_none (by rw [infL_len]; omega)]

end Go.Proofs.YtjhbfkckkinfjaaDoor
namespace Go.Proofs.YtjhbfkckkinfjaaDoor
open Go.ChangeShapes Go.WideShapes Go.ChangeAt Go.RowKit

set_option maxHeartbeats 2000000 in
theorem open_infoE {H : Type} {enc : TypeId × Value → H} {w : World} (fuel : Nat) (cs : List Value) (x : DataW H × List MemPlace) (h : DataW.trod enc Tryd.prog w 0 (fun _ => true) true fuel 26 cs = some x) (hb : Rows.uptoBulk x.1 ≤ 1048576) :
    ∃ (P : ByteArray) (D : Nat → Int) (z : Int) (F : ByteArray) (xr : Option Addr) (nr cr : Nat) (fr : Nat → ByteArray) (xs : Option Addr) (ns cs' : Nat) (fs : Nat → ByteArray), cs = infL P D z (.slice xr nr cr) F (.slice xs ns cs') ∧ SIs w xr nr fr ∧ SIs w xs ns fs ∧ (nr ≤ cr ∧ ns ≤ cs') ∧ (nr ≤ 1048576 ∧ ns ≤ 1048576) ∧ (∀ i, i < ns → (fs i).size ≤ 1048576) ∧ (∀ i, i < nr → (fr i).size ≤ 1048576) ∧ (∀ j, 0 ≤ D j ∧ D j < 256) ∧ P.size ≤ 1048576 ∧ F.size ≤ 1048576 := by
  obtain ⟨xs, n1, rfl, rfl, hl, hlen, hfs⟩ := DataW.trod_struct Tryd.underlying26 h
  rw [ncINF] at hl
  have g0 : DataW.trod enc Tryd.prog w 0 (fun _ => true) true n1 9 ((cs.drop 0).take 1) = xs[0]? := by have := hfs 0 _ rfl; rw [← nc9]; exact this
  have g1 : DataW.trod enc Tryd.prog w 0 (fun _ => true) true n1 23 ((cs.drop 1).take 32) = xs[1]? := by have := hfs 1 _ rfl; rw [← ncDIG]; exact this
  have g2 : DataW.trod enc Tryd.prog w 0 (fun _ => true) true n1 3 ((cs.drop 33).take 1) = xs[2]? := by have := hfs 2 _ rfl; rw [← nc3]; exact this
  have g3 : DataW.trod enc Tryd.prog w 0 (fun _ => true) true n1 24 ((cs.drop 34).take 1) = xs[3]? := by have := hfs 3 _ rfl; rw [← ncLS]; exact this
  have g4 : DataW.trod enc Tryd.prog w 0 (fun _ => true) true n1 9 ((cs.drop 35).take 1) = xs[4]? := by have := hfs 4 _ rfl; rw [← nc9]; exact this
  have g5 : DataW.trod enc Tryd.prog w 0 (fun _ => true) true n1 24 ((cs.drop 36).take 1) = xs[5]? := by have := hfs 5 _ rfl; rw [← ncLS]; exact this
  have hlen : xs.length = 6 := hlen
  clear hfs h
  match xs, hlen with
  | [y0, y1, y2, y3, y4, y5], _ =>
    obtain ⟨P, hP, hPx, _⟩ := DataW.trod_string Tryd.underlying9 (x := y0) g0
    obtain ⟨F, hF, hFx, _⟩ := DataW.trod_string Tryd.underlying9 (x := y4) g4
    obtain ⟨z, hz, _, _⟩ := DataW.trod_int Tryd.underlying3 (x := y2) g2
    simp only [Rows.uptoBulk, Rows.uptoBulkAll, List.map_cons, List.map_nil] at hb
    obtain ⟨xr, nr, cr, fr, hr, sr, lr, mr, kr⟩ := open_texts (x := y3) g3 (by omega)
    obtain ⟨xz, ns, cz, fs, hs, ss, lz, mz, kz⟩ := open_texts (x := y5) g5 (by omega)
    obtain ⟨ys, m, _, _, _, hyl, hys⟩ := DataW.trod_array undDIG (x := y1) g1
    have hd : ∀ j, ∃ v : Int, (0 ≤ v ∧ v < 256) ∧ (j < 32 → cs[1 + j]? = some (.int .u8 v)) := fun j => by
      by_cases hj : j < 32
      · have h1 := hys j hj
        rw [List.getElem?_eq_getElem (by omega)] at h1
        obtain ⟨v, hv, _, hvw⟩ := DataW.trod_int Tryd.underlying5 h1
        rw [nc5, Nat.mul_one] at hv
        refine ⟨v, by have := bounds_u8 hvw; exact ⟨this.1, by omega⟩, fun _ => ?_⟩
        have h2 := one_at hv
        rw [List.getElem?_take_of_lt (by omega), List.getElem?_drop] at h2
        exact h2
      · exact ⟨0, by omega, fun h => absurd h hj⟩
    obtain ⟨D, hD⟩ := Classical.axiomOfChoice hd
    refine ⟨P, D, z, F, xr, nr, cr, fr, xz, ns, cz, fs, ?_, sr, ss, ⟨lr, lz⟩, ⟨mr, mz⟩, kz, kr, fun j => (hD j).1, ?_, ?_⟩
    rotate_left
    · subst hPx; simp only [Rows.uptoBulk] at hb; have e2 : P.data.toList.length = P.size := by rw [Array.length_toList]; rfl
      omega
    · subst hFx; simp only [Rows.uptoBulk] at hb; have e2 : F.data.toList.length = F.size := by rw [Array.length_toList]; rfl
      omega
    have c0 := one_at hP
    have c33 := one_at hz
    have c34 := one_at hr
    have c35 := one_at hF
    have c36 := one_at hs
    refine List.ext_getElem? (fun j => ?_)
    by_cases h0 : j = 0
    · subst h0; exact c0
    by_cases h1 : j < 33
    · obtain ⟨k, rfl⟩ : ∃ k, j = 1 + k := ⟨j - 1, by omega⟩
      rw [infL_dig _ _ _ _ _ _ k (by omega)]
      exact (hD k).2 (by omega)
    by_cases h2 : j < 37
    · obtain ⟨k, rfl⟩ : ∃ k, j = 33 + k := ⟨j - 33, by omega⟩
      rw [infL_tail]
      match k, h2 with
      | 0, _ => exact c33
      | 1, _ => exact c34
      | 2, _ => exact c35
      | 3, _ => exact c36
      | k + 4, h2 => omega
    · rw [List.getElem?_eq_none (by omega), List.getElem?_eq_none (by rw [infL_len]; omega)]

end Go.Proofs.YtjhbfkckkinfjaaDoor
namespace Go.Proofs.YtjhbfkckkinfjaaDoor
def firstCells : Array Value := (Go.Pinned.utf8FirstZ.map fun (n : Nat) => Value.int .u8 (n : Int)).toArray
def rangeCells : Array Value := (([128, 191, 160, 191, 128, 159, 144, 191, 128, 143] ++ List.replicate 22 0).map fun (n : Nat) => Value.int .u8 (n : Int)).toArray
end Go.Proofs.YtjhbfkckkinfjaaDoor
namespace Go.Proofs.YtjhbfkckkinfjaaDoor
def tab32Cells : Array Value := ([0, 1, 28, 2, 29, 14, 24, 3, 30, 22, 20, 15, 25, 17, 4, 8, 31, 27, 13, 23, 21, 19, 16, 7, 26, 12, 18, 6, 11, 5, 10, 9].map fun (n : Nat) => Value.int .u8 (n : Int)).toArray
def tab64Cells : Array Value := ([0, 1, 56, 2, 57, 49, 28, 3, 61, 58, 42, 50, 38, 29, 17, 4, 62, 47, 59, 36, 45, 43, 51, 22, 53, 39, 33, 30, 24, 18, 12, 5, 63, 55, 48, 27, 60, 41, 37, 16, 46, 35, 44, 21, 52, 32, 23, 11, 54, 26, 40, 15, 34, 20, 31, 10, 25, 14, 19, 9, 13, 8, 7, 6].map fun (n : Nat) => Value.int .u8 (n : Int)).toArray
def powCells : Array Value := ([1, 10, 100, 1000, 10000, 100000, 1000000, 10000000, 100000000, 1000000000, 10000000000, 100000000000, 1000000000000, 10000000000000, 100000000000000, 1000000000000000, 10000000000000000, 100000000000000000, 1000000000000000000, 10000000000000000000].map fun (n : Nat) => Value.int .u64 (n : Int)).toArray
end Go.Proofs.YtjhbfkckkinfjaaDoor
