/- A scanner and a rewriter side by side (own text of the verifier). -/
import Derived.Test.YtojefckhefanhabSaI
import Derived.Test.YtojefckhefanhabSaW
namespace Go.Proofs.Ytojefckhefanhab
open Go.RowKit Go.Sort
namespace Sc

/-- What may have changed: low blocks in P, rows of type T from n0 on, new blocks. -/
structure Un (T : TypeId) (n0 : Nat) (P : Nat → Prop) (a b : World) : Prop where
  os : b.os = a.os
  tape : b.tape = a.tape
  output : b.output = a.output
  size : a.heap.size ≤ b.heap.size
  low : ∀ k, k < n0 → ¬ P k → b.heap[k]? = a.heap[k]?
  oth : ∀ k cur T' fz, a.heap[k]? = some (.cells cur T' fz) → T' ≠ T → n0 ≤ k → b.heap[k]? = a.heap[k]?
def SnQ (n0 : Nat) (w : World) (g m : Nat) (H : List (List UInt8)) (A : List UInt8) : Prop :=
  ∃ N kept S F fv, SM w g A.length kept m N S F fv ∧ GF H A kept S F ∧ (∀ h ∈ H, isH Lt h) ∧ ∀ k, fv.ownBlock = some k → n0 ≤ k
def RnQ (n0 : Nat) (w : World) (g : Nat) (f t A E : List UInt8) : Prop :=
  ∃ kept Ps pv, RM w g A.length kept f t Ps false pv ∧ GS f t A E kept Ps ∧ isH Lt f ∧ t.length = 32 ∧ ∀ k, pv.ownBlock = some k → n0 ≤ k
def RcQ (n0 : Nat) (w : World) (g : Nat) (f t A : List UInt8) : Prop :=
  ∃ pv, RM w g A.length [] f t (pl f 0 A) true pv ∧ ∀ k, pv.ownBlock = some k → n0 ≤ k
theorem SnQ.lt {n0 : Nat} {w : World} {g m : Nat} {H : List (List UInt8)} {A : List UInt8} (h : SnQ n0 w g m H A) : g < w.heap.size := by
  obtain ⟨_, _, _, _, _, h1, _⟩ := h; exact h1.lt
theorem RnQ.lt {n0 : Nat} {w : World} {g : Nat} {f t A E : List UInt8} (h : RnQ n0 w g f t A E) : g < w.heap.size := by
  obtain ⟨_, _, _, h1, _⟩ := h; exact h1.lt
theorem SnQ.keep {n0 : Nat} {w w' : World} {g m : Nat} {H : List (List UInt8)} {A : List UInt8} (h : SnQ n0 w g m H A) (e1 : w'.heap[g]? = w.heap[g]?) (e2 : w'.heap[m]? = w.heap[m]?) (e3 : ∀ k cur fz, n0 ≤ k → w.heap[k]? = some (.cells cur 9 fz) → w'.heap[k]? = w.heap[k]?) : SnQ n0 w' g m H A := by
  obtain ⟨N, kept, S, F, fv, h1, h2, h3, h4⟩ := h
  exact ⟨N, kept, S, F, fv, h1.same e1 e2 (fun k hk => by
    obtain ⟨cur, hc⟩ := row_cells h1.fr k hk
    exact e3 k _ _ (h4 k hk) hc), h2, h3, h4⟩
theorem RnQ.keep {n0 : Nat} {w w' : World} {g : Nat} {f t A E : List UInt8} (h : RnQ n0 w g f t A E) (e1 : w'.heap[g]? = w.heap[g]?) (e3 : ∀ k cur fz, n0 ≤ k → w.heap[k]? = some (.cells cur 3 fz) → w'.heap[k]? = w.heap[k]?) : RnQ n0 w' g f t A E := by
  obtain ⟨kept, Ps, pv, h1, h2, h3, h4, h5⟩ := h
  exact ⟨kept, Ps, pv, h1.same e1 (fun k hk => by
    obtain ⟨cur, fz, hc⟩ := row_i64 h1.pr k hk
    exact e3 k _ _ (h5 k hk) hc), h2, h3, h4, h5⟩
theorem RcQ.keep {n0 : Nat} {w w' : World} {g : Nat} {f t A : List UInt8} (h : RcQ n0 w g f t A) (e1 : w'.heap[g]? = w.heap[g]?) (e3 : ∀ k cur fz, n0 ≤ k → w.heap[k]? = some (.cells cur 3 fz) → w'.heap[k]? = w.heap[k]?) : RcQ n0 w' g f t A := by
  obtain ⟨pv, h1, h5⟩ := h
  exact ⟨pv, h1.same e1 (fun k hk => by
    obtain ⟨cur, fz, hc⟩ := row_i64 h1.pr k hk
    exact e3 k _ _ (h5 k hk) hc), h5⟩
theorem SnQ.below {n0 : Nat} {w w' : World} {g m : Nat} {H : List (List UInt8)} {A : List UInt8} (h : SnQ n0 w g m H A) (b : Below w.heap.size w w') : SnQ n0 w' g m H A := by
  obtain ⟨N, kept, S, F, fv, h1, h2⟩ := h
  exact ⟨N, kept, S, F, fv, h1.below b, h2⟩
theorem RnQ.below {n0 : Nat} {w w' : World} {g : Nat} {f t A E : List UInt8} (h : RnQ n0 w g f t A E) (b : Below w.heap.size w w') : RnQ n0 w' g f t A E := by
  obtain ⟨kept, Ps, pv, h1, h2⟩ := h
  exact ⟨kept, Ps, pv, h1.below b, h2⟩
theorem RcQ.below {n0 : Nat} {w w' : World} {g : Nat} {f t A : List UInt8} (h : RcQ n0 w g f t A) (b : Below w.heap.size w w') : RcQ n0 w' g f t A := by
  obtain ⟨pv, h1, h2⟩ := h
  exact ⟨pv, h1.below b, h2⟩
theorem SnQ.un {n0 : Nat} {w w' : World} {g m : Nat} {H : List (List UInt8)} {A : List UInt8} {P : Nat → Prop} (h : SnQ n0 w g m H A) (u : Un 3 n0 P w w') (hg : g < n0) (hm : m < n0) (pg : ¬ P g) (pm : ¬ P m) : SnQ n0 w' g m H A :=
  h.keep (u.low g hg pg) (u.low m hm pm) (fun k _ _ hk hc => u.oth k _ _ _ hc (by decide) hk)
theorem RnQ.un {n0 : Nat} {w w' : World} {g : Nat} {f t A E : List UInt8} {P : Nat → Prop} (h : RnQ n0 w g f t A E) (u : Un 9 n0 P w w') (hg : g < n0) (pg : ¬ P g) : RnQ n0 w' g f t A E :=
  h.keep (u.low g hg pg) (fun k _ _ hk hc => u.oth k _ _ _ hc (by decide) hk)
theorem SnQ.feed {n0 : Nat} {w : World} {g m : Nat} {H : List (List UInt8)} {A : List UInt8} (h : SnQ n0 w g m H A) (hg : g < n0) (hm : m < n0) (hn : n0 ≤ w.heap.size) (y : Value) (p : List UInt8) (hp : Txt w y p) (hy : ∀ x l c, y = .slice (some x) l c → x.block ≠ g) (hl : A.length + p.length ≤ 268435456) :
    Calls Try.prog 7 #[.pointer (some ⟨g, 0, none⟩), y] w fun e w' => e = .returned (.tuple #[]) ∧ SnQ n0 w' g m H (A ++ p) ∧ Un 9 n0 (fun k => k = g ∨ k = m) w w' := by
  obtain ⟨N, kept, S, F, fv, h1, h2, h3, h4⟩ := h
  refine (sfeed_any g m N H A kept p S F fv y w h1 h2 h3 hp hy hl).mono ?_
  rintro e w' ⟨kept', S', F', fv', rfl, S3, G3, K3, p3⟩
  refine ⟨rfl, ⟨N, kept', S', F', fv', S3, G3, h3, fun k hk => ?_⟩, K3.os, K3.tape, K3.output, K3.size, fun k hk hP => ?_, fun k cur T' fz hc hT hk => ?_⟩
  · rcases p3 with p3 | p3
    · exact h4 k (p3 ▸ hk)
    · exact Nat.le_trans hn (p3 k hk)
  · exact K3.block k (by omega) (fun e => hP (.inl e)) (fun e => hP (.inr e)) (fun e => by have := h4 k e.symm; omega)
  · refine K3.block k (Array.getElem?_eq_some_iff.1 hc).1 (by omega) (by omega) (fun e => hT ?_)
    obtain ⟨cur', hc'⟩ := row_cells h1.fr k e.symm
    rw [hc] at hc'
    injection hc' with hc'
    injection hc' with _ hc' _
theorem RnQ.feed {n0 : Nat} {w : World} {g : Nat} {f t A E : List UInt8} (h : RnQ n0 w g f t A E) (hg : g < n0) (hn : n0 ≤ w.heap.size) (y : Value) (p : List UInt8) (hp : Txt w y p) (hy : ∀ x l c, y = .slice (some x) l c → x.block ≠ g) (hl : A.length + p.length ≤ 268435456) :
    Calls Try.prog 8 #[.pointer (some ⟨g, 0, none⟩), y] w fun e w' => ∃ ans, e = .returned (.string (ba ans)) ∧ ans.length ≤ A.length + p.length ∧ RnQ n0 w' g f t (A ++ p) (E ++ ans) ∧ Un 3 n0 (fun k => k = g) w w' := by
  obtain ⟨kept, Ps, pv, h1, h2, h3, h4, h6⟩ := h
  have hps : Ps.length ≤ A.length := by rw [← h2.all.2]; exact pl_len _ _ _
  refine (rfeed_any g A f t E kept p Ps pv y w h1 h2 hp hy (by omega) (by omega) h3 h4 (by omega)).mono ?_
  rintro e w' ⟨ans, kept', Ps', pv', rfl, R3, G3, K3, p3⟩
  have hal : ans.length ≤ A.length + p.length := by
    have := rw_len (f := f) h4 (A ++ p)
    rw [G3.all.1, List.length_append, List.length_append, List.length_append] at this
    omega
  refine ⟨ans, rfl, hal, ⟨kept', Ps', pv', R3, G3, h3, h4, fun k hk => ?_⟩, K3.os, K3.tape, K3.output, K3.size, fun k hk hP => ?_, fun k cur T' fz hc hT hk => ?_⟩
  · rcases p3 with p3 | p3
    · exact h6 k (p3 ▸ hk)
    · exact Nat.le_trans hn (p3 k hk)
  · exact K3.block k (by omega) hP (fun e => by have := h6 k e.symm; omega)
  · refine K3.block k (Array.getElem?_eq_some_iff.1 hc).1 (by omega) (fun e => hT ?_)
    obtain ⟨cur', fz', hc'⟩ := row_i64 h1.pr k e.symm
    rw [hc] at hc'
    injection hc' with hc'
    injection hc' with _ hc' _
theorem RnQ.close {n0 : Nat} {w : World} {g : Nat} {f t A E : List UInt8} (h : RnQ n0 w g f t A E) (hg : g < n0) (hn : n0 ≤ w.heap.size) :
    Calls Try.prog 9 #[.pointer (some ⟨g, 0, none⟩)] w fun e w' => ∃ ans, e = .returned (.string (ba ans)) ∧ E ++ ans = rw' f t A ∧ RcQ n0 w' g f t A ∧ Un 3 n0 (fun k => k = g) w w' := by
  obtain ⟨kept, Ps, pv, h1, h2, h3, h4, h6⟩ := h
  refine (rclose_any g A.length f t kept Ps pv w h1).mono ?_
  rintro e w' ⟨rfl, R, G⟩
  refine ⟨kept, rfl, h2.all.1.symm, ⟨pv, by rw [h2.all.2]; exact R, h6⟩, G.os, G.tape, G.output, G.size, fun k hk hP => G.block k (by omega) (fun e => hP (Option.some.inj e)), fun k cur T' fz hc hT hk => G.block k (Array.getElem?_eq_some_iff.1 hc).1 (fun e => by have := Option.some.inj e; omega)⟩
theorem SnQ.found {n0 : Nat} {w : World} {g m : Nat} {H : List (List UInt8)} {A : List UInt8} (h : SnQ n0 w g m H A) (hl : A.length ≤ 268435456) :
    Calls Try.prog 11 #[.pointer (some ⟨g, 0, none⟩)] w fun e w' => ∃ v F, e = .returned v ∧ w'.ownsRow w.heap.size 9 1 v F.length (tv_ (srt F)) ∧ F.Nodup ∧ (∀ h, h ∈ F ↔ h ∈ H ∧ occ h A) ∧ F.length ≤ A.length ∧ Below w.heap.size w w' := by
  obtain ⟨N, kept, S, F, fv, h1, h2, h3, h6⟩ := h
  have hF := h2.fl
  refine (sfound_own g _ kept m N S F fv w h1 (by omega)).mono ?_
  rintro e w' ⟨v, rfl, tx, b⟩
  exact ⟨v, F, rfl, tx, h2.fb.nd, fun h => (h2.fb.mem h).trans (and_congr_right fun hh => (h2.base.occ (h3 h hh)).symm), by omega, b⟩
theorem RcQ.ps {n0 : Nat} {w : World} {g : Nat} {f t A : List UInt8} (h : RcQ n0 w g f t A) (hl : A.length ≤ 268435456) :
    Calls Try.prog 12 #[.pointer (some ⟨g, 0, none⟩)] w fun e w' => ∃ v, e = .returned v ∧ w'.ownsRow w.heap.size 3 1 v (pl f 0 A).length (pv_ (pl f 0 A)) ∧ Below w.heap.size w w' := by
  obtain ⟨pv, h1, _⟩ := h
  have hps : (pl f 0 A).length ≤ A.length := pl_len _ _ _
  exact rplaces_any g _ f t [] _ true pv w h1 (by omega)
end Sc
end Go.Proofs.Ytojefckhefanhab
