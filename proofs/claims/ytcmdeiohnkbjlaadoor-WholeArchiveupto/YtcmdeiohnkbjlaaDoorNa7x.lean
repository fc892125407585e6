/- NaO NqA, joined (own text of the verifier). -/
import Derived.Test.YtcmdeiohnkbjlaaDoorNa3x
import Derived.Test.YtcmdeiohnkbjlaaDoorNp5x
namespace Go.Proofs.YtcmdeiohnkbjlaaDoor
open Go.RowKit

/-- awake answers true. -/
def AwN : Prop := ∀ w, Calls Tryd.prog 4 #[] w fun e w' => e = .returned (.bool true) ∧ Below w.heap.size w w'

def T0 : Tr := .mk 3 false ⟨#[]⟩ [] []
theorem ck0 : (ckT T0).2 = 0 := by
  unfold ckT T0
  rw [vT]
  decide +kernel
theorem fw0 : fwS (wMagic :: wdT T0) = 96 := by
  unfold T0
  rw [wdT, wdL]
  · decide +kernel
  · simp
theorem ser0 : serT T0 = (NB.ba (arcT T0), 0) := by unfold serT; rw [if_neg (by rw [ck0]; decide)]
theorem arc0 : (NB.ba (arcT T0)).size = 96 := by unfold arcT; rw [NB.ba_size, frm_len, fw0]
/-- Parse reads the empty directory's archive. -/
def PaE : Prop := ∀ w, Calls Tryd.prog 19 #[.string (NB.ba (arcT T0))] w fun e w' => (∃ x n c, e = .returned (.tuple #[.agg #[Value.int IntKind.i64 3, Value.bool false, Value.string ⟨#[]⟩, Value.slice x n c], .agg #[Value.int IntKind.i64 0, Value.int IntKind.i64 0]])) ∧ Below w.heap.size w w'

set_option maxHeartbeats 8000000 in
set_option maxRecDepth 10000 in
theorem nawake_any (PA : PaE) : AwN := by
  intro w
  have HP : Hid PaE := PA
  clear PA
  have hA : At w 1 (.agg #[Value.int IntKind.i64 3, Value.bool false, Value.string ⟨#[]⟩, Value.slice none 0 0]) T0 := ⟨none, 0, 0, rfl, rfl, rfl, by decide, by decide, Or.inl rfl⟩
  have C1 := nserial_any 1 3 false ⟨#[]⟩ none 0 0 T0 w hA (by unfold T0; simp only [smT, smL]; decide) (by unfold T0; simp [wfT, wfL])
  rw [ser0] at C1
  obtain ⟨X, hX⟩ : ∃ X, NB.ba (arcT T0) = X := ⟨_, rfl⟩
  have hz : X.size = 96 := by rw [← hX]; exact arc0
  have C2 := HP.out
  unfold PaE at C2
  rw [hX] at C1 C2
  clear hX hA HP
  have HC2 : Hid (∀ w, Calls Tryd.prog 19 #[.string X] w fun e w' => (∃ x n c, e = .returned (.tuple #[.agg #[Value.int IntKind.i64 3, Value.bool false, Value.string ⟨#[]⟩, Value.slice x n c], .agg #[Value.int IntKind.i64 0, Value.int IntKind.i64 0]])) ∧ Below w.heap.size w w') := C2
  clear C2
  go_enter Tryd.func4, Tryd.ntmps4
  go_wp2_with fail
  refine C1.mono ?_
  rintro e1 w1 ⟨rfl, b1⟩
  have HB : Hid (Below w.heap.size w w1) := b1
  clear b1 C1
  go_wp2_with fail
  refine (HC2.out w1).mono ?_
  rintro e2 w2 ⟨⟨xr, nr, cr, rfl⟩, b2⟩
  have HB2 : Hid (Below w.heap.size w w2) := HB.out.trans (b2.mono HB.out.size)
  clear b2 HB
  have b3 : Below w2.heap.size w2 ((w2.alloc (Obj.cells #[Value.int IntKind.i64 3, Value.bool false, Value.string ⟨#[]⟩, Value.slice xr nr cr] 25)).alloc (Obj.cells #[Value.int IntKind.i64 0, Value.int IntKind.i64 0] 42)) := ((Below.refl _ _).alloc (Nat.le_refl _) _).alloc (by rw [World.size_alloc]; omega) _
  have HB3 : Hid (Below w.heap.size w ((w2.alloc (Obj.cells #[Value.int IntKind.i64 3, Value.bool false, Value.string ⟨#[]⟩, Value.slice xr nr cr] 25)).alloc (Obj.cells #[Value.int IntKind.i64 0, Value.int IntKind.i64 0] 42))) := HB2.out.trans (b3.mono HB2.out.size)
  clear b3
  go_wp2
  go_ret
  exact ⟨rfl, HB3.out⟩

end Go.Proofs.YtcmdeiohnkbjlaaDoor

namespace Go.Proofs.YtcmdeiohnkbjlaaDoor
open Go.RowKit

def A0 : List UInt8 := frm [wMagic, wOpen, wType, wDirectory, wClose]
theorem arc_A0 : arcT T0 = A0 := by
  unfold arcT T0 A0
  rw [wdT, wdL]
  · rfl
  · simp
theorem prs_A0 : (((prs A0).code == 0) && ((prs A0).c.next == 17) && ((prs A0).c.root.k == 3) && ((prs A0).c.root.e == false) && decide ((prs A0).c.root.t = ⟨#[]⟩) && (prs A0).c.root.nms.isEmpty && (prs A0).c.root.ks.isEmpty) = true := by decide +kernel
theorem root_A0 : (prs A0).c.root = T0 ∧ (prs A0).code = 0 ∧ (prs A0).c.next = 17 := by
  have h := prs_A0
  simp only [Bool.and_eq_true, beq_iff_eq, decide_eq_true_eq, List.isEmpty_iff] at h
  obtain ⟨⟨⟨⟨⟨⟨h1, h2⟩, h3⟩, h4⟩, h5⟩, h6⟩, h7⟩ := h
  refine ⟨?_, h1, h2⟩
  generalize (prs A0).c.root = R at *
  obtain ⟨k, e, t, nms, ks⟩ := R
  unfold T0
  simp only [Tr.k, Tr.e, Tr.t, Tr.nms, Tr.ks] at h3 h4 h5 h6 h7
  rw [h3, h4, h5, h6, h7]
theorem fin_whole {p : PS} (h1 : p.code = 0) (h2 : p.c.next = 17) : p.ansT = p.c.root ∧ p.ansF = (0, 0) := by
  have e : p.fin = p.shut := by unfold PS.fin; rw [if_neg (fun h => h.2 h2)]
  have hc : ¬ p.fin.code ≠ 0 := by rw [e]; show ¬ p.code ≠ 0; omega
  exact ⟨if_neg hc, if_neg hc⟩
theorem paE : PaE := by
  intro w
  rw [arc_A0]
  refine (parse_any A0 w (by decide +kernel)).mono ?_
  rintro e w' ⟨⟨v, fr, rfl, hT, _⟩, b⟩
  obtain ⟨r1, r2, r3⟩ := root_A0
  obtain ⟨a1, a2⟩ := fin_whole r2 r3
  rw [a1, r1] at hT ⊢
  rw [a2]
  obtain ⟨x, c, hv⟩ := hT.shape
  subst hv
  exact ⟨⟨x, _, c, rfl⟩, b⟩

theorem awN : AwN := nawake_any paE -- at 4


theorem wfL_of (P : Tr → Prop) (hP : ∀ T, P T → wfT T) : ∀ (nms : List ByteArray) (ks : List Tr), nms.length = ks.length → (∀ (j : Nat) (T : Tr), ks[j]? = some T → P T) → wfL nms ks
  | [], [], _, _ => by simp [wfL]
  | s :: nms, T :: ks, hl, h => by
    rw [wfL]
    exact ⟨hP T (h 0 T rfl), wfL_of P hP nms ks (by simpa using hl) (fun j T hj => h (j + 1) T hj)⟩
  | [], _ :: _, hl, _ => by simp at hl
  | _ :: _, [], hl, _ => by simp at hl
theorem At.wf {w : World} : ∀ (m : Nat) (v : Value) (T : Tr), At w m v T → wfT T
  | 0, _, _, h => h.elim
  | m + 1, v, .mk k e t ns ks, h => by
    obtain ⟨x, n, c, _, h1, h2, _, _, h5⟩ := h
    rw [wfT]
    refine wfL_of (fun T => ∃ v, At w m v T) (fun T hT => by obtain ⟨v, hv⟩ := hT; exact At.wf m v T hv) ns ks (by omega) (fun j T hj => ?_)
    have hjn : j < ns.length := by have := (List.getElem?_eq_some_iff.1 hj).1; omega
    rcases h5 with h5 | ⟨g, o, _, _, h6⟩
    · omega
    · obtain ⟨a, b, d, f, p, q, _, _, _, _, _, hA⟩ := h6 j ns[j] T (List.getElem?_eq_getElem hjn) hj
      exact ⟨_, hA⟩
end Go.Proofs.YtcmdeiohnkbjlaaDoor
