/- A rewriter as the laws use it (own text of the verifier). -/
import Derived.Test.YtojefckhefanhabSaF
namespace Go.Proofs.Ytojefckhefanhab
open Go.RowKit
namespace Sc

set_option maxRecDepth 100000 in
set_option maxHeartbeats 4000000 in
theorem rfeed_shut (g n : Nat) (f t kept : List UInt8) (Ps : List Nat) (pv y : Value) (w : World) (hR : RM w g n kept f t Ps true pv) :
    Calls Try.prog 8 #[.pointer (some ⟨g, 0, none⟩), y] w fun e w' => e = .returned (.string ⟨#[]⟩) ∧ Below w.heap.size w w' := by
  have bA : Below w.heap.size w (w.alloc (.cells #[.pointer (some ⟨g, 0, none⟩)] 28)) := (Below.refl _ _).alloc (Nat.le_refl _) _
  have cc1 := (hR.below bA).cc
  have HB : Hid _ := bA
  clear hR bA
  go_enter Try.func8, Try.ntmps8
  go_wp2
  go_ret
  exact ⟨rfl, HB.out⟩

/-- Block g is a rewriter (f into t) that has taken A in and told E. -/
def Rn (B : Nat) (w : World) (g : Nat) (f t A E : List UInt8) : Prop :=
  ∃ kept Ps pv, RM w g A.length kept f t Ps false pv ∧ GS f t A E kept Ps ∧ isH Lt f ∧ t.length = 32 ∧ B ≤ g ∧ ∀ k, pv.ownBlock = some k → B ≤ k
theorem Rn.lt {B : Nat} {w : World} {g : Nat} {f t A E : List UInt8} (h : Rn B w g f t A E) : g < w.heap.size := by
  obtain ⟨kept, Ps, pv, h1, _⟩ := h
  exact h1.lt
theorem Rn.below {B : Nat} {w w' : World} {g : Nat} {f t A E : List UInt8} (h : Rn B w g f t A E) (b : Below w.heap.size w w') : Rn B w' g f t A E := by
  obtain ⟨kept, Ps, pv, h1, h2⟩ := h
  exact ⟨kept, Ps, pv, h1.below b, h2⟩
theorem Rn.cell {B : Nat} {w : World} {g : Nat} {f t A E : List UInt8} (h : Rn B w g f t A E) : w.cell? ⟨g, 0, none⟩ = some (.int .i64 (A.length : Int)) := by
  obtain ⟨kept, Ps, pv, h1, _⟩ := h
  exact h1.win.c0
theorem Rn.len {B : Nat} {w : World} {g : Nat} {f t A E : List UInt8} (h : Rn B w g f t A E) : E.length ≤ A.length := by
  obtain ⟨kept, Ps, pv, _, h2, _, h3, _⟩ := h
  have h1 := rw_len (f := f) h3 A
  rw [h2.all.1, List.length_append] at h1
  omega
theorem Rn.start {w : World} {g : Nat} {f t : ByteArray} (h1 : hsh f = 0) (h2 : hsh t = 0) (R : RM w g 0 [] f.data.toList t.data.toList [] false (.slice none 0 0)) {B : Nat} (hB : B ≤ g) : Rn B w g f.data.toList t.data.toList [] [] :=
  ⟨[], [], _, R, GS.start _ _, isH_of h1, (isH_of h2).len, hB, fun k hk => by cases hk⟩
theorem Rn.feed {B : Nat} {w : World} {g : Nat} {f t A E : List UInt8} (h : Rn B w g f t A E) (hB : B ≤ w.heap.size) (y : Value) (p : List UInt8) (hp : Txt w y p) (hy : ∀ x l c, y = .slice (some x) l c → x.block ≠ g) (hl : A.length + p.length ≤ 268435456) :
    Calls Try.prog 8 #[.pointer (some ⟨g, 0, none⟩), y] w fun e w' => ∃ ans, e = .returned (.string (ba ans)) ∧ Rn B w' g f t (A ++ p) (E ++ ans) ∧ Below B w w' := by
  obtain ⟨kept, Ps, pv, h1, h2, h3, h4, h5, h6⟩ := h
  have hps : Ps.length ≤ A.length := by rw [← h2.all.2]; exact pl_len _ _ _
  refine (rfeed_any g A f t E kept p Ps pv y w h1 h2 hp hy (by omega) (by omega) h3 h4 (by omega)).mono ?_
  rintro e w' ⟨ans, kept', Ps', pv', rfl, R3, G3, K3, p3⟩
  refine ⟨ans, rfl, ⟨kept', Ps', pv', R3, G3, h3, h4, h5, fun k hk => ?_⟩, ⟨K3.os, K3.tape, K3.output, K3.size, fun k hk => K3.block k (by omega) (by omega) (fun e => by have := h6 k e.symm; omega)⟩⟩
  rcases p3 with p3 | p3
  · exact h6 k (p3 ▸ hk)
  · exact Nat.le_trans hB (p3 k hk)
theorem Rn.ps {B : Nat} {w : World} {g : Nat} {f t A E : List UInt8} (h : Rn B w g f t A E) (hl : A.length ≤ 268435456) :
    Calls Try.prog 12 #[.pointer (some ⟨g, 0, none⟩)] w fun e w' => ∃ v, e = .returned v ∧ w'.ownsRow w.heap.size 3 1 v (pl f 0 A).length (pv_ (pl f 0 A)) ∧ Below w.heap.size w w' := by
  obtain ⟨kept, Ps, pv, h1, h2, _⟩ := h
  have hps : Ps.length ≤ A.length := by rw [← h2.all.2]; exact pl_len _ _ _
  rw [h2.all.2]
  exact rplaces_any g _ f t kept Ps false pv w h1 (by omega)
/-- A rewriter that is closed. -/
def Rc (B : Nat) (w : World) (g : Nat) (f t A : List UInt8) : Prop :=
  ∃ pv, RM w g A.length [] f t (pl f 0 A) true pv ∧ B ≤ g ∧ ∀ k, pv.ownBlock = some k → B ≤ k
theorem Rc.below {B : Nat} {w w' : World} {g : Nat} {f t A : List UInt8} (h : Rc B w g f t A) (b : Below w.heap.size w w') : Rc B w' g f t A := by
  obtain ⟨pv, h1, h2⟩ := h
  exact ⟨pv, h1.below b, h2⟩
theorem Rc.cell {B : Nat} {w : World} {g : Nat} {f t A : List UInt8} (h : Rc B w g f t A) : w.cell? ⟨g, 0, none⟩ = some (.int .i64 (A.length : Int)) := by
  obtain ⟨pv, h1, _⟩ := h
  exact h1.win.c0
theorem Rn.close {B : Nat} {w : World} {g : Nat} {f t A E : List UInt8} (h : Rn B w g f t A E) (hB : B ≤ w.heap.size) :
    Calls Try.prog 9 #[.pointer (some ⟨g, 0, none⟩)] w fun e w' => ∃ ans, e = .returned (.string (ba ans)) ∧ E ++ ans = rw' f t A ∧ Rc B w' g f t A ∧ Below B w w' := by
  obtain ⟨kept, Ps, pv, h1, h2, h3, h4, h5, h6⟩ := h
  refine (rclose_any g A.length f t kept Ps pv w h1).mono ?_
  rintro e w' ⟨rfl, R, G⟩
  refine ⟨kept, rfl, h2.all.1.symm, ⟨pv, ?_, h5, h6⟩, (Below.refl B w).grown G hB (fun k hk => by have := Option.some.inj hk; omega)⟩
  rw [h2.all.2]
  exact R
theorem Rc.feed {B : Nat} {w : World} {g : Nat} {f t A : List UInt8} (h : Rc B w g f t A) (y : Value) :
    Calls Try.prog 8 #[.pointer (some ⟨g, 0, none⟩), y] w fun e w' => e = .returned (.string ⟨#[]⟩) ∧ Rc B w' g f t A ∧ Below w.heap.size w w' := by
  have h0 := h
  obtain ⟨pv, h1, _⟩ := h
  refine (rfeed_shut g _ f t _ _ pv y w h1).mono ?_
  rintro e w' ⟨rfl, b⟩
  exact ⟨rfl, h0.below b, b⟩
theorem Rc.close {B : Nat} {w : World} {g : Nat} {f t A : List UInt8} (h : Rc B w g f t A) (hB : B ≤ w.heap.size) :
    Calls Try.prog 9 #[.pointer (some ⟨g, 0, none⟩)] w fun e w' => e = .returned (.string (ba [])) ∧ Rc B w' g f t A ∧ Below B w w' := by
  obtain ⟨pv, h1, h5, h6⟩ := h
  refine (rclose_any g A.length f t [] _ pv w h1).mono ?_
  rintro e w' ⟨rfl, R, G⟩
  exact ⟨rfl, ⟨pv, R, h5, h6⟩, (Below.refl B w).grown G hB (fun k hk => by have := Option.some.inj hk; omega)⟩
theorem Rc.ps {B : Nat} {w : World} {g : Nat} {f t A : List UInt8} (h : Rc B w g f t A) (hl : A.length ≤ 268435456) :
    Calls Try.prog 12 #[.pointer (some ⟨g, 0, none⟩)] w fun e w' => ∃ v, e = .returned v ∧ w'.ownsRow w.heap.size 3 1 v (pl f 0 A).length (pv_ (pl f 0 A)) ∧ Below w.heap.size w w' := by
  obtain ⟨pv, h1, _⟩ := h
  have hps : (pl f 0 A).length ≤ A.length := pl_len _ _ _
  exact rplaces_any g _ f t [] _ true pv w h1 (by omega)

end Sc
end Go.Proofs.Ytojefckhefanhab
