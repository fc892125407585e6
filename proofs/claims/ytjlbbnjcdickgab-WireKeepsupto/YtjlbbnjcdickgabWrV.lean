/- What is read whole is framed again as it was: pure. -/
import Derived.Test.YtjlbbnjcdickgabWrT
namespace Go.Proofs.Ytjlbbnjcdickgab
open Go.RowKit

/-- An item's bytes; its letter. -/
def frI (i : It) : List UInt8 := if i.isInt then lek 8 i.num else fr8 i.text
def plI (i : It) : UInt8 := if i.isInt then 105 else 116

theorem lek_le (k : Nat) (l : List UInt8) (h : l.length = k) : lek k (le l) = l := by
  induction k generalizing l with
  | zero => exact (List.eq_nil_of_length_eq_zero h).symm
  | succ k ih =>
    cases l with
    | nil => cases h
    | cons b l =>
      have hb := b.toNat_lt
      show UInt8.ofNat ((b.toNat + 256 * le l) % 256) :: lek k ((b.toNat + 256 * le l) / 256) = b :: l
      rw [show (b.toNat + 256 * le l) % 256 = b.toNat by omega, show (b.toNat + 256 * le l) / 256 = le l by omega, UInt8.ofNat_toNat, ih l (by simpa using h)]
theorem zeros_all (z : List UInt8) (h : ¬ zeros z < z.length) : z = List.replicate z.length 0 := by
  induction z with
  | nil => rfl
  | cons b z ih =>
    unfold zeros at h ih
    rw [List.takeWhile_cons] at h
    by_cases hb : b = 0
    · subst hb
      rw [if_pos (by simp), List.length_cons, List.length_cons] at h
      rw [List.length_cons, List.replicate_succ, ← ih (by omega)]
    · rw [if_neg (by simpa using hb)] at h
      simp at h
theorem le8_lt (l : List UInt8) (h : l.length = 8) : le l < 18446744073709551616 := by
  have := le_lt l
  rw [h] at this
  exact this

theorem rdG_back (m : Nat) (plan : List UInt8) : ∀ (rem : List UInt8) (at_ : Nat) (out : List It), (∀ c ∈ plan, okL c = true) → (rdG m plan rem at_ out).code = 0 → (rdG m plan rem at_ out).out.length = out.length + plan.length →
    ∃ L, (rdG m plan rem at_ out).out = out ++ L ∧ L.flatMap frI = rem ∧ L.map plI = plan ∧ ∀ i ∈ L, i.num < 18446744073709551616 ∧ i.text.length ≤ rem.length := by
  induction plan with
  | nil =>
    intro rem at_ out _ hc _
    unfold rdG at hc ⊢
    by_cases h : rem.length = 0
    · rw [if_pos h]
      exact ⟨[], (List.append_nil _).symm, (List.eq_nil_of_length_eq_zero h).symm, rfl, fun i hi => by cases hi⟩
    · rw [if_neg h] at hc
      cases hc
  | cons c p ih =>
    intro rem at_ out hok hc hl
    have hc1 := hok c (by simp)
    unfold rdG at hc hl ⊢
    by_cases h8 : rem.length < 8
    · rw [if_pos h8] at hl
      have : out.length = out.length + (p.length + 1) := hl
      omega
    rw [if_neg h8] at hc hl ⊢
    have lt8 : (rem.take 8).length = 8 := by rw [List.length_take]; omega
    have hr : rem = rem.take 8 ++ rem.drop 8 := (List.take_append_drop 8 rem).symm
    have hb := le8_lt _ lt8
    have hlk := lek_le 8 _ lt8
    generalize rem.take 8 = l8 at *
    generalize hd : rem.drop 8 = r at *
    have hrl : rem.length = 8 + r.length := by rw [hr, List.length_append, lt8]
    by_cases hct : c = 116
    · rw [if_pos hct] at hc hl ⊢
      generalize le l8 = n at *
      by_cases hm : m < n
      · rw [if_pos hm] at hc; cases hc
      rw [if_neg hm] at hc hl ⊢
      by_cases hz : zeros ((r.drop n).take (padN n)) < ((r.drop n).take (padN n)).length
      · rw [if_pos hz] at hc; cases hc
      rw [if_neg hz] at hc hl ⊢
      by_cases hs : r.length < n + padN n
      · rw [if_pos hs] at hl
        have : out.length = out.length + (p.length + 1) := hl
        omega
      rw [if_neg hs] at hc hl ⊢
      obtain ⟨L, h1, h2, h3, h4⟩ := ih _ _ _ (fun c hc => hok c (by simp [hc])) hc (by rw [hl]; simp; omega)
      have tn : (r.take n).length = n := by rw [List.length_take]; omega
      have pz : (r.drop n).take (padN n) = List.replicate (padN n) 0 := by
        have h := zeros_all _ hz
        rw [List.length_take, List.length_drop, Nat.min_eq_left (by omega)] at h
        exact h
      refine ⟨⟨false, 0, r.take n⟩ :: L, by rw [h1, List.append_assoc]; rfl, ?_, ?_, ?_⟩
      · rw [List.flatMap_cons, h2]
        show fr8 (r.take n) ++ _ = rem
        unfold fr8
        rw [tn, hlk, ← pz, List.append_assoc, List.append_assoc, ← List.drop_drop, List.take_append_drop, List.take_append_drop, ← hr]
      · rw [List.map_cons, h3, hct]
        rfl
      · intro i hi
        rcases List.mem_cons.1 hi with rfl | hi
        · exact ⟨by show 0 < 18446744073709551616; decide, by show (r.take n).length ≤ _; omega⟩
        · have := h4 i hi
          rw [List.length_drop] at this
          exact ⟨this.1, by omega⟩
    · rw [if_neg hct] at hc hl ⊢
      obtain ⟨L, h1, h2, h3, h4⟩ := ih _ _ _ (fun c hc => hok c (by simp [hc])) hc (by rw [hl]; simp; omega)
      have hci : c = 105 := by
        unfold okL at hc1
        simp [hct] at hc1
        exact hc1
      refine ⟨⟨true, le l8, []⟩ :: L, by rw [h1, List.append_assoc]; rfl, ?_, ?_, ?_⟩
      · rw [List.flatMap_cons, h2]
        show lek 8 (le l8) ++ _ = rem
        rw [hlk, ← hr]
      · rw [List.map_cons, h3, hci]
        rfl
      · intro i hi
        rcases List.mem_cons.1 hi with rfl | hi
        · exact ⟨hb, Nat.zero_le _⟩
        · have := h4 i hi
          exact ⟨this.1, by omega⟩

/-- How many items are still to come. -/
def Jn (t : Nat) (s : RS) : Prop := s.cl = false ∧ (s.code = 0 → (s.ph = 4 → s.out.length = t) ∧ (s.ph ≠ 4 → s.out.length + s.plan.length + 1 = t))
theorem Jn.beg {t : Nat} {s : RS} (h1 : s.cl = false) (h2 : s.code = 0 → s.out.length + s.plan.length = t) : Jn t s.beg := by
  obtain ⟨tk, code, fat, plan, most, cl, ph, lack, word, tx, out⟩ := s
  cases plan with
  | nil => exact ⟨h1, fun hc => ⟨fun _ => h2 hc, fun h => absurd rfl h⟩⟩
  | cons c p =>
    have hp : phOf c ≠ 4 := by unfold phOf; split <;> decide
    refine ⟨h1, fun hc => ⟨fun h => absurd h hp, fun _ => ?_⟩⟩
    have := h2 hc
    show out.length + p.length + 1 = t
    have e : out.length + (p.length + 1) = t := this
    omega
theorem Jn.adv {t : Nat} {s : RS} (h : Jn t s) (hp : s.ph ≠ 4) : Jn t s.adv := by
  have h2 : s.code = 0 → s.out.length + s.plan.length + 1 = t := fun hc => (h.2 hc).2 hp
  have hpush : ∀ i, Jn t ((s.tick.push i).beg) := fun i => Jn.beg h.1 (fun hc => by
    have := h2 hc
    show (s.out ++ [i]).length + s.plan.length = t
    simp; omega)
  unfold RS.adv
  split
  · exact ⟨h.1, fun hc => ⟨fun e => absurd e hp, fun _ => h2 hc⟩⟩
  · unfold RS.fin
    split
    · exact hpush _
    · split
      · exact ⟨h.1, fun hc => ⟨fun e => absurd e (by show ¬ 2 = 4; decide), fun _ => h2 hc⟩⟩
      · split
        · exact ⟨h.1, fun hc => ⟨fun e => absurd e (by show ¬ 3 = 4; decide), fun _ => h2 hc⟩⟩
        · exact hpush _
theorem Jn.step {t : Nat} {s : RS} (h : Jn t s) (b : UInt8) : Jn t (s.step b) := by
  unfold RS.step RS.take
  split
  · exact h
  split
  · exact ⟨h.1, fun hc => absurd hc (show ¬ 5 = 0 by decide)⟩
  split
  · rename_i h4 h3
    split
    · exact h.adv h4
    · exact ⟨h.1, fun hc => absurd hc (show ¬ 7 = 0 by decide)⟩
  split
  · rename_i h4 _ _
    exact Jn.adv (s := s.tput b) h h4
  split
  · exact ⟨h.1, fun hc => absurd hc (show ¬ 6 = 0 by decide)⟩
  · rename_i h4 _ _ _
    exact Jn.adv (s := s.wput b) h h4
theorem Jn.run {t : Nat} {s : RS} (h : Jn t s) (l : List UInt8) : Jn t (s.run l) := by
  induction l generalizing s with
  | nil => exact h
  | cons b l ih => rw [RS.run_cons]; exact ih (h.step b)

theorem badAt_ok (pl : List UInt8) (h : ¬ badAt pl < pl.length) : badAt pl = pl.length ∧ ∀ c ∈ pl, okL c = true := by
  induction pl with
  | nil => exact ⟨rfl, fun c hc => by cases hc⟩
  | cons c p ih =>
    unfold badAt at h ih ⊢
    rw [List.takeWhile_cons] at h ⊢
    by_cases hc : okL c = true
    · rw [if_pos hc] at h ⊢
      rw [List.length_cons, List.length_cons] at h
      obtain ⟨h1, h2⟩ := ih (by omega)
      exact ⟨by rw [List.length_cons, List.length_cons, h1], fun d hd => by
        rcases List.mem_cons.1 hd with rfl | hd
        · exact hc
        · exact h2 d hd⟩
    · rw [if_neg hc] at h
      simp at h

/-- What Split reads whole is framed again as it was. -/
theorem one_pure (tl pl : List UInt8) (m : Nat) (h : (sp tl pl m).code = 0) : (sp tl pl m).out.flatMap frI = tl ∧ (sp tl pl m).out.map plI = pl ∧ ∀ i ∈ (sp tl pl m).out, i.num < 18446744073709551616 ∧ i.text.length ≤ tl.length := by
  have hs : ((rsNew pl m).run tl).code = 0 ∧ ((rsNew pl m).run tl).ph = 4 := by
    unfold sp RS.shut at h
    split at h
    · exact absurd h (show ¬ 4 = 0 by decide)
    · rename_i h2
      have h3 : ((rsNew pl m).run tl).code = 0 := h
      exact ⟨h3, Classical.byContradiction fun c => h2 ⟨h3, c⟩⟩
  have hbad : ¬ badAt pl < pl.length := fun hb => by
    have e : (rsNew pl m).run tl = rsNew pl m := by
      unfold rsNew
      rw [if_pos hb]
      exact RS.run_off _ (RS.fl_off _ _ _ (by decide)) _
    rw [e] at hs
    unfold rsNew at hs
    rw [if_pos hb] at hs
    exact absurd hs.1 (show ¬ 30 = 0 by decide)
  obtain ⟨b1, b2⟩ := badAt_ok pl hbad
  have hj : Jn pl.length ((rsNew pl m).run tl) := by
    refine Jn.run ?_ tl
    unfold rsNew
    rw [if_neg hbad]
    exact Jn.beg rfl (fun _ => by show 0 + pl.length = _; omega)
  have hlen := (hj.2 hs.1).1 hs.2
  have hg := sp_got tl pl m b1
  have e1 : (rdG m pl tl 0 []).code = 0 := by rw [← hg]; exact hs.1
  have e2 : (rdG m pl tl 0 []).out = (sp tl pl m).out := by rw [← hg]; unfold sp; rw [shut_out]; rfl
  have e3 : (rdG m pl tl 0 []).out.length = ([] : List It).length + pl.length := by
    rw [← hg]
    show ((rsNew pl m).run tl).out.length = 0 + pl.length
    omega
  obtain ⟨L, h1, h2, h3, h4⟩ := rdG_back m pl tl 0 [] b2 e1 e3
  rw [List.nil_append, e2] at h1
  rw [h1]
  exact ⟨h2, h3, h4⟩

end Go.Proofs.Ytjlbbnjcdickgab
