/- A scanner as the laws use it (own text of the verifier). -/
import Derived.Test.YtojefckhefanhabSaA
import Derived.Test.YtojefckhefanhabSaE
namespace Go.Proofs.Ytojefckhefanhab
open Go.RowKit Go.Sort
/-- A slice of numbers. -/
def ISl (w : World) (x : Option Addr) (n : Nat) (f : Nat → Int) : Prop := ∀ i, i < n → ∃ a, x = some a ∧ w.cell? (a.add i) = some (.int .i64 (f i))
theorem ISl.below {w w' : World} {x : Option Addr} {n B : Nat} {f : Nat → Int} (h : ISl w x n f) (b : Below B w w') (hB : w.heap.size ≤ B) : ISl w' x n f := fun i hi => by
  obtain ⟨a, ha, hc⟩ := h i hi
  refine ⟨a, ha, ?_⟩
  have hl := World.block_lt_of_cell? _ _ hc
  rw [b.cell (p := a.add i) (by omega)]
  exact hc
namespace Sc

theorem ext_tk (x : ByteArray) (a b : Nat) : (x.extract a b).toList = (x.data.toList.take b).drop a := by
  rw [ByteArray.toList_eq, ByteArray.data_extract, Array.toList_extract]
  simp [List.extract, List.drop_take]
theorem ba_dat (l : List UInt8) : (ba l).data.toList = l := by simp [ba]

/-- A text as bytes. -/
theorem conv_str (w : World) (s : ByteArray) : ∃ y w', (convert 9 31 (.string s)).run Try.prog w = .ok y w' ∧ Txt w' y s.data.toList ∧ Below w.heap.size w w' ∧ ∀ x l c, y = .slice (some x) l c → w.heap.size ≤ x.block := by
  have CV := run_bytes_of_string (P := Try.prog) w 9 31 5 s Try.underlying9 und30 Try.underlying5
  exact ⟨_, _, CV, (txt_str w s (grownCap w s.size 0 5) 5 _ (grownCap_ge w s.size 0 5)).below (Below.refl _ _).drew, ((Below.refl _ _).alloc (Nat.le_refl _) _).drew, fun x l c e => by injection e with e _ _; injection e with e; subst e; exact Nat.le_refl _⟩

/-- Block g is a scanner for H that has taken A in; all that it holds lies at B or above. -/
def Sn (B : Nat) (w : World) (g : Nat) (H : List (List UInt8)) (A : List UInt8) : Prop :=
  ∃ m N kept S F fv, SM w g A.length kept m N S F fv ∧ GF H A kept S F ∧ (∀ h ∈ H, isH Lt h) ∧ B ≤ g ∧ B ≤ m ∧ ∀ k, fv.ownBlock = some k → B ≤ k
theorem Sn.lt {B : Nat} {w : World} {g : Nat} {H : List (List UInt8)} {A : List UInt8} (h : Sn B w g H A) : g < w.heap.size := by
  obtain ⟨m, N, kept, S, F, fv, h1, _⟩ := h
  exact h1.lt
theorem Sn.below {B : Nat} {w w' : World} {g : Nat} {H : List (List UInt8)} {A : List UInt8} (h : Sn B w g H A) (b : Below w.heap.size w w') : Sn B w' g H A := by
  obtain ⟨m, N, kept, S, F, fv, h1, h2⟩ := h
  exact ⟨m, N, kept, S, F, fv, h1.below b, h2⟩
theorem Sn.cell {B : Nat} {w : World} {g : Nat} {H : List (List UInt8)} {A : List UInt8} (h : Sn B w g H A) : w.cell? ⟨g, 0, none⟩ = some (.int .i64 (A.length : Int)) := by
  obtain ⟨m, N, kept, S, F, fv, h1, _⟩ := h
  exact h1.win.c0
theorem Sn.new (hs : List ByteArray) (x : Option Addr) (c : Nat) (w : World) (hn : hs.length ≤ 268435456) (hc : ∀ (j : Nat) (s : ByteArray), hs[j]? = some s → ∃ a : Addr, x = some a ∧ a.block < w.heap.size ∧ w.cell? (a.add j) = some (.string s)) :
    Calls Try.prog 5 #[.slice x hs.length c] w fun e w' => Below w.heap.size w w' ∧ (((∃ s ∈ hs, hsh s ≠ 0) ∧ e = .returned (.tuple #[.pointer none, .int .i64 131])) ∨ ((∀ s ∈ hs, hsh s = 0) ∧ ∃ g, e = .returned (.tuple #[.pointer (some ⟨g, 0, none⟩), .int .i64 0]) ∧ Sn w.heap.size w' g (hs.map fun s => s.data.toList) [])) := by
  refine (snew_any hs x c w hn hc).mono ?_
  rintro e w' ⟨b, h | ⟨h1, g, m, S, hg, hm, rfl, SM1, hS⟩⟩
  · exact ⟨b, .inl h⟩
  · refine ⟨b, .inr ⟨h1, g, rfl, m, _, _, S, [], _, SM1, GF.start (fun h => by rw [hS, List.mem_map]), fun h hh => ?_, hg, hm, fun k hk => by cases hk⟩⟩
    obtain ⟨s, hs', rfl⟩ := List.mem_map.1 hh
    exact isH_of (h1 s hs')
theorem Sn.feed {B : Nat} {w : World} {g : Nat} {H : List (List UInt8)} {A : List UInt8} (h : Sn B w g H A) (hB : B ≤ w.heap.size) (y : Value) (p : List UInt8) (hp : Txt w y p) (hy : ∀ x l c, y = .slice (some x) l c → x.block ≠ g) (hl : A.length + p.length ≤ 268435456) :
    Calls Try.prog 7 #[.pointer (some ⟨g, 0, none⟩), y] w fun e w' => e = .returned (.tuple #[]) ∧ Sn B w' g H (A ++ p) ∧ Below B w w' := by
  obtain ⟨m, N, kept, S, F, fv, h1, h2, h3, h4, h5, h6⟩ := h
  refine (sfeed_any g m N H A kept p S F fv y w h1 h2 h3 hp hy hl).mono ?_
  rintro e w' ⟨kept', S', F', fv', rfl, S3, G3, K3, p3⟩
  refine ⟨rfl, ⟨m, N, kept', S', F', fv', S3, G3, h3, h4, h5, fun k hk => ?_⟩, ⟨K3.os, K3.tape, K3.output, K3.size, fun k hk => K3.block k (by omega) (by omega) (by omega) (fun e => by have := h6 k e.symm; omega)⟩⟩
  rcases p3 with p3 | p3
  · exact h6 k (p3 ▸ hk)
  · exact Nat.le_trans hB (p3 k hk)
theorem Sn.found {B : Nat} {w : World} {g : Nat} {H : List (List UInt8)} {A : List UInt8} (h : Sn B w g H A) (hl : A.length ≤ 268435456) :
    Calls Try.prog 11 #[.pointer (some ⟨g, 0, none⟩)] w fun e w' => ∃ v F, e = .returned v ∧ Tx w' w.heap.size v (srt F) ∧ F.Nodup ∧ (∀ h, h ∈ F ↔ h ∈ H ∧ occ h A) ∧ F.length ≤ A.length ∧ Sn B w' g H A ∧ Below w.heap.size w w' := by
  have h0 := h
  obtain ⟨m, N, kept, S, F, fv, h1, h2, h3, h4, h5, h6⟩ := h
  have hF := h2.fl
  refine (sfound_any g _ kept m N S F fv w h1 (by omega)).mono ?_
  rintro e w' ⟨v, rfl, tx, b⟩
  exact ⟨v, F, rfl, tx, h2.fb.nd, fun h => (h2.fb.mem h).trans (and_congr_right fun hh => (h2.base.occ (h3 h hh)).symm), by omega, h0.below b, b⟩

/-- The list of what was found, in order. -/
theorem srt_mem (F : List (List UInt8)) (h : List UInt8) : h ∈ srt F ↔ h ∈ F := by
  unfold srt
  exact List.mem_mergeSort
theorem srt_rising (F : List (List UInt8)) (nd : F.Nodup) : (srt F).Pairwise (fun a b => a < b) := by
  have h1 : (srt F).Pairwise (fun a b => decide (a ≤ b) = true) := by
    unfold srt
    refine List.pairwise_mergeSort (fun _ _ _ h1 h2 => ?_) (fun a b => ?_) F
    · simp only [decide_eq_true_eq] at *
      exact List.le_trans h1 h2
    · simp only [Bool.or_eq_true, decide_eq_true_eq]
      exact List.le_total a b
  have h2 : (srt F).Nodup := by
    unfold srt
    exact (List.mergeSort_perm F _).nodup_iff.2 nd
  refine (h1.and h2).imp (fun {a b} ⟨p, q⟩ => ?_)
  rw [decide_eq_true_eq] at p
  rcases List.le_iff_lt_or_eq.1 p with r | r
  · exact r
  · exact absurd r q
theorem srt_is {F L : List (List UInt8)} (nd : F.Nodup) (hL : L.Pairwise (fun a b => a < b)) (mem : ∀ h, h ∈ F ↔ h ∈ L) : srt F = L :=
  rising_one (lt := fun a b => a < b) (fun a => List.lt_irrefl a) (fun _ _ _ => List.lt_trans) _ _ (srt_rising F nd) hL (fun h => (srt_mem F h).trans (mem h))

end Sc
end Go.Proofs.Ytojefckhefanhab
