/- The parser byte by byte (own text of the verifier). -/
import Derived.Test.YtpbgmknebhnonabNa7
import Derived.Test.YtpbgmknebhnonabNrC
namespace Go.Proofs.Ytpbgmknebhnonab
open Go.RowKit

set_option maxHeartbeats 1000000 in
theorem fault_any (g : Nat) (a b : Int) (w : World) (h2 : w.cell? ⟨g, 2, none⟩ = some (.int .i64 a)) (h3 : w.cell? ⟨g, 3, none⟩ = some (.int .i64 b)) : Calls Try.prog 19 #[.pointer (some ⟨g, 0, none⟩)] w fun e w' => e = .returned (.agg #[.int .i64 a, .int .i64 b]) ∧ Below w.heap.size w w' := by
  have bA : Hid (Below w.heap.size w (w.alloc (.cells #[.int .i64 a, .int .i64 b] 34))) := (Below.refl _ _).alloc (Nat.le_refl _) _
  have sA : Hid (St (w.alloc (.cells #[.int .i64 a, .int .i64 b] 34)) w.heap.size [.int .i64 a, .int .i64 b]) := St.new w _ _
  have hl := World.block_lt_of_cell? _ _ h2
  go_enter Try.func19, Try.ntmps19
  go_wp2
  exact ret_fault rfl rfl sA.out ⟨rfl, bA.out⟩

theorem acc_same (c : PC) (s : ByteArray) (h : (c.accept s).1 ≠ 0) : (c.accept s).2 = c := by
  unfold PC.accept at h ⊢
  by_cases h7 : c.next = 7
  · rw [if_pos h7] at h; exact absurd rfl h
  rw [if_neg h7] at h ⊢
  by_cases h9 : c.next = 9
  · rw [if_pos h9] at h ⊢
    by_cases ht : tgt s ≠ 0
    · rw [if_pos ht]
    · rw [if_neg ht] at h; exact absurd rfl h
  rw [if_neg h9] at h ⊢
  by_cases h14 : c.next = 14
  · rw [if_pos h14] at h ⊢
    cases ho : c.op with
    | nil => rfl
    | cons o R =>
      rw [ho] at h
      dsimp only at h ⊢
      by_cases hc : ceP o.nms.getLast? s ≠ 0
      · rw [if_pos hc]
      · rw [if_neg hc] at h; exact absurd rfl h
  rw [if_neg h14] at h ⊢
  unfold PC.fixed at h ⊢
  by_cases hb : (bhP c.next s).2 = false
  · rw [if_pos hb]
  rw [if_neg hb] at h ⊢
  by_cases h1 : c.next = 1 ∧ c.op.length = 32
  · rw [if_pos h1]
  rw [if_neg h1] at h ⊢
  by_cases h2 : c.next = 1
  · rw [if_pos h2] at h; exact absurd rfl h
  rw [if_neg h2] at h ⊢
  by_cases h3 : c.next = 3
  · rw [if_pos h3] at h; exact absurd rfl h
  rw [if_neg h3] at h ⊢
  by_cases h4 : s = wExec
  · rw [if_pos h4] at h; exact absurd rfl h
  rw [if_neg h4] at h ⊢
  by_cases h5 : (bhP c.next s).1 = 16
  · rw [if_pos h5] at h; exact absurd rfl h
  · rw [if_neg h5] at h; exact absurd rfl h

/-- The length with the next byte. -/
def PS.ll (p : PS) (b : UInt8) : Nat := if p.held < 8 then p.nl b else p.len
/-- What one byte comes to. -/
def StepP (p : PS) (b : UInt8) : Prop :=
  ((p.step b).code ≠ 0 ∧ (p.step b).held = p.held ∧ (p.step b).c.op.length ≤ 32 ∧ (p.held = 7 → 1048576 < p.ll b → (p.step b).code = 6 ∧ (p.step b).fat = (p.taken : Int) - 7)) ∨
  ((p.step b).code = 0 ∧ (p.held = 7 → ¬ 1048576 < p.ll b) ∧ (p.step b).c.op.length ≤ 32 ∧ PI (p.step b) ∧ (p.step b).taken = p.taken + 1 ∧ (p.taken + 1 - (p.step b).held) % 8 = 0 ∧ (p.step b).part = p.part ∧ (p.step b).closed = p.closed ∧
    (((p.step b).held = p.held + 1 ∧ (p.step b).len = p.ll b ∧ p.held + 1 ≠ 8 + p.ll b + padN (p.ll b)) ∨ ((p.step b).held = 0 ∧ (p.step b).len = 0 ∧ p.held + 1 = 8 + p.ll b + padN (p.ll b))))
theorem pad8 (n : Nat) : (8 + n + padN n) % 8 = 0 := by unfold padN; omega
theorem step_ends {p q : PS} {b : UInt8} (hI : PI p) (hn : p.c.next ≠ 17) (ht : p.taken ≠ 1048576) (hm : (p.taken - p.held) % 8 = 0) (hp : p.put b = ((0, 0), q)) (hq : q.taken = p.taken ∧ q.held = p.held ∧ q.c = p.c ∧ q.len = p.ll b) (h7 : p.held = 7 → ¬ 1048576 < p.ll b) : StepP p b := by
  have hhd := hI.hd
  have hdp := hI.ci.dp
  have e : p.take b = q.ends := by unfold PS.take; rw [if_neg hn, if_neg ht, hp, if_neg (by show ¬ (0 : Int) ≠ 0; decide)]
  obtain ⟨q1, q2, q3, q4⟩ := hq
  have hk := p.take_keep b
  by_cases he : q.held + 1 ≠ 8 + q.len + padN q.len
  · rw [ends_go he] at e
    have h0 : (p.take b).1.1 = 0 := by rw [e]
    have hs := PS.step_ok h0
    have hst := hI.step b (by rw [hs]; rfl)
    refine Or.inr ⟨by rw [hs]; rfl, h7, ?_, hst.1, hst.2, ?_, ?_, ?_, Or.inl ⟨?_, ?_, by rw [← q2, ← q4]; exact he⟩⟩
    · rw [hs, e]; show q.c.op.length ≤ 32; rw [q3]; exact hdp
    · rw [hs, e]; show (p.taken + 1 - (q.held + 1)) % 8 = 0; rw [q2]; omega
    · rw [hs]; exact hk.2.1
    · rw [hs]; exact hk.2.2.1
    · rw [hs, e]; show q.held + 1 = _; rw [q2]
    · rw [hs, e]; exact q4
  · have he' : q.held + 1 = 8 + q.len + padN q.len := by omega
    by_cases ha : (q.c.accept (NB.ba q.text)).1 ≠ 0
    · rw [ends_bad he' ha] at e
      have h0 : (p.take b).1.1 ≠ 0 := by rw [e]; exact ha
      have hs := PS.step_bad h0
      refine Or.inl ⟨by rw [hs]; exact h0, by rw [hs, e]; exact q2, ?_, fun h1 h2 => absurd h2 (h7 h1)⟩
      rw [hs, e]
      show (q.c.accept (NB.ba q.text)).2.op.length ≤ 32
      rw [acc_same _ _ ha, q3]
      exact hdp
    · rw [ends_ok he' (by omega)] at e
      have h0 : (p.take b).1.1 = 0 := by rw [e]
      have hs := PS.step_ok h0
      have hst := hI.step b (by rw [hs]; rfl)
      refine Or.inr ⟨by rw [hs]; rfl, h7, hst.1.ci.dp, hst.1, hst.2, ?_, by rw [hs]; exact hk.2.1, by rw [hs]; exact hk.2.2.1, Or.inr ⟨by rw [hs, e]; rfl, by rw [hs, e]; rfl, by rw [← q2, ← q4]; exact he'⟩⟩
      rw [hs, e]
      show (p.taken + 1 - 0) % 8 = 0
      have h8 := pad8 q.len
      rw [q2] at he'
      omega
theorem step_cases {p : PS} (hI : PI p) (hn : p.c.next ≠ 17) (hm : (p.taken - p.held) % 8 = 0) (b : UInt8) : StepP p b := by
  have hhd := hI.hd
  have hdp := hI.ci.dp
  by_cases ht : p.taken = 1048576
  · have e : p.take b = ((2, (p.taken : Int)), p) := by unfold PS.take; rw [if_neg hn, if_pos ht]
    have h0 : (p.take b).1.1 ≠ 0 := by rw [e]; show (2 : Int) ≠ 0; decide
    have hs := PS.step_bad h0
    refine Or.inl ⟨by rw [hs]; exact h0, by rw [hs, e]; rfl, by rw [hs, e]; exact hdp, fun h7 _ => ?_⟩
    exfalso
    omega
  by_cases h8 : p.held < 8
  · have hll : p.ll b = p.nl b := if_pos h8
    by_cases h7 : p.held = 7 ∧ 1048576 < p.nl b
    · have e : p.take b = ((6, (p.taken : Int) - p.held), p.sl (p.nl b)) := by
        have e : p.put b = ((6, (p.taken : Int) - p.held), p.sl (p.nl b)) := by unfold PS.put; rw [if_pos h8, if_pos h7]
        unfold PS.take
        rw [if_neg hn, if_neg ht, e, if_pos (by show (6 : Int) ≠ 0; decide)]
      have h0 : (p.take b).1.1 ≠ 0 := by rw [e]; show (6 : Int) ≠ 0; decide
      have hs := PS.step_bad h0
      refine Or.inl ⟨by rw [hs]; exact h0, by rw [hs, e]; rfl, by rw [hs, e]; exact hdp, fun _ _ => ⟨by rw [hs, e]; rfl, ?_⟩⟩
      rw [hs, e]
      show (p.taken : Int) - p.held = _
      rw [h7.1]
      rfl
    · exact step_ends (q := p.sl (p.nl b)) hI hn ht hm (by unfold PS.put; rw [if_pos h8, if_neg h7]) ⟨rfl, rfl, rfl, hll.symm⟩ (fun h1 h2 => h7 ⟨h1, by rw [← hll]; exact h2⟩)
  · have hll : p.ll b = p.len := if_neg h8
    by_cases hlt : p.text.length < p.len
    · exact step_ends (q := p.st (p.text ++ [b])) hI hn ht hm (by unfold PS.put; rw [if_neg h8, if_pos hlt]) ⟨rfl, rfl, rfl, hll.symm⟩ (fun h1 => by omega)
    · by_cases hb : b ≠ 0
      · have e : p.take b = ((7, (p.taken : Int)), p) := by
          have e : p.put b = ((7, (p.taken : Int)), p) := by unfold PS.put; rw [if_neg h8, if_neg hlt, if_pos hb]
          unfold PS.take
          rw [if_neg hn, if_neg ht, e, if_pos (by show (7 : Int) ≠ 0; decide)]
        have h0 : (p.take b).1.1 ≠ 0 := by rw [e]; show (7 : Int) ≠ 0; decide
        have hs := PS.step_bad h0
        exact Or.inl ⟨by rw [hs]; exact h0, by rw [hs, e]; rfl, by rw [hs, e]; exact hdp, fun h7 _ => by omega⟩
      · exact step_ends hI hn ht hm (by unfold PS.put; rw [if_neg h8, if_neg hlt, if_neg hb]) ⟨rfl, rfl, rfl, hll.symm⟩ (fun h1 => by omega)
end Go.Proofs.Ytpbgmknebhnonab
