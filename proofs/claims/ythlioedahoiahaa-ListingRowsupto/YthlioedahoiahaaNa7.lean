/- NaO NqA, joined (own text of the verifier). -/
import Derived.Test.YthlioedahoiahaaNa3
import Derived.Test.YthlioedahoiahaaNp5
namespace Go.Proofs.Ythlioedahoiahaa
open Go.RowKit

def T0 : Tr := .mk 3 false ⟨#[]⟩ [] []
theorem ck0 : (ckT T0).2 = 0 := by
  unfold ckT T0
  rw [vT]
  decide +kernel
theorem fw0 : fwS (wMagic :: wdT T0) = 96 := by
  unfold T0
  rw [wdT, wdL]
  · decide +kernel
  · simp
theorem ser0 : serT T0 = (NB.ba (arcT T0), 0) := by unfold serT; rw [if_neg (by rw [ck0]; decide)]
theorem arc0 : (NB.ba (arcT T0)).size = 96 := by unfold arcT; rw [NB.ba_size, frm_len, fw0]
/-- Parse reads the empty directory's archive. -/
def PaE : Prop := ∀ w, Calls Try.prog 11 #[.string (NB.ba (arcT T0))] w fun e w' => (∃ x n c, e = .returned (.tuple #[.agg #[Value.int IntKind.i64 3, Value.bool false, Value.string ⟨#[]⟩, Value.slice x n c], .agg #[Value.int IntKind.i64 0, Value.int IntKind.i64 0]])) ∧ Below w.heap.size w w'

end Go.Proofs.Ythlioedahoiahaa

namespace Go.Proofs.Ythlioedahoiahaa
open Go.RowKit

def A0 : List UInt8 := frm [wMagic, wOpen, wType, wDirectory, wClose]
theorem arc_A0 : arcT T0 = A0 := by
  unfold arcT T0 A0
  rw [wdT, wdL]
  · rfl
  · simp
theorem prs_A0 : (((prs A0).code == 0) && ((prs A0).c.next == 17) && ((prs A0).c.root.k == 3) && ((prs A0).c.root.e == false) && decide ((prs A0).c.root.t = ⟨#[]⟩) && (prs A0).c.root.nms.isEmpty && (prs A0).c.root.ks.isEmpty) = true := by decide +kernel
theorem root_A0 : (prs A0).c.root = T0 ∧ (prs A0).code = 0 ∧ (prs A0).c.next = 17 := by
  have h := prs_A0
  simp only [Bool.and_eq_true, beq_iff_eq, decide_eq_true_eq, List.isEmpty_iff] at h
  obtain ⟨⟨⟨⟨⟨⟨h1, h2⟩, h3⟩, h4⟩, h5⟩, h6⟩, h7⟩ := h
  refine ⟨?_, h1, h2⟩
  generalize (prs A0).c.root = R at *
  obtain ⟨k, e, t, nms, ks⟩ := R
  unfold T0
  simp only [Tr.k, Tr.e, Tr.t, Tr.nms, Tr.ks] at h3 h4 h5 h6 h7
  rw [h3, h4, h5, h6, h7]
theorem fin_whole {p : PS} (h1 : p.code = 0) (h2 : p.c.next = 17) : p.ansT = p.c.root ∧ p.ansF = (0, 0) := by
  have e : p.fin = p.shut := by unfold PS.fin; rw [if_neg (fun h => h.2 h2)]
  have hc : ¬ p.fin.code ≠ 0 := by rw [e]; show ¬ p.code ≠ 0; omega
  exact ⟨if_neg hc, if_neg hc⟩
theorem paE : PaE := by
  intro w
  rw [arc_A0]
  refine (parse_any A0 w (by decide +kernel)).mono ?_
  rintro e w' ⟨⟨v, fr, rfl, hT, _⟩, b⟩
  obtain ⟨r1, r2, r3⟩ := root_A0
  obtain ⟨a1, a2⟩ := fin_whole r2 r3
  rw [a1, r1] at hT ⊢
  rw [a2]
  obtain ⟨x, c, hv⟩ := hT.shape
  subst hv
  exact ⟨⟨x, _, c, rfl⟩, b⟩


theorem wfL_of (P : Tr → Prop) (hP : ∀ T, P T → wfT T) : ∀ (nms : List ByteArray) (ks : List Tr), nms.length = ks.length → (∀ (j : Nat) (T : Tr), ks[j]? = some T → P T) → wfL nms ks
  | [], [], _, _ => by simp [wfL]
  | s :: nms, T :: ks, hl, h => by
    rw [wfL]
    exact ⟨hP T (h 0 T rfl), wfL_of P hP nms ks (by simpa using hl) (fun j T hj => h (j + 1) T hj)⟩
  | [], _ :: _, hl, _ => by simp at hl
  | _ :: _, [], hl, _ => by simp at hl
theorem At.wf {w : World} : ∀ (m : Nat) (v : Value) (T : Tr), At w m v T → wfT T
  | 0, _, _, h => h.elim
  | m + 1, v, .mk k e t ns ks, h => by
    obtain ⟨x, n, c, _, h1, h2, _, _, h5⟩ := h
    rw [wfT]
    refine wfL_of (fun T => ∃ v, At w m v T) (fun T hT => by obtain ⟨v, hv⟩ := hT; exact At.wf m v T hv) ns ks (by omega) (fun j T hj => ?_)
    have hjn : j < ns.length := by have := (List.getElem?_eq_some_iff.1 hj).1; omega
    rcases h5 with h5 | ⟨g, o, _, _, h6⟩
    · omega
    · obtain ⟨a, b, d, f, p, q, _, _, _, _, _, hA⟩ := h6 j ns[j] T (List.getElem?_eq_getElem hjn) hj
      exact ⟨_, hA⟩
end Go.Proofs.Ythlioedahoiahaa
