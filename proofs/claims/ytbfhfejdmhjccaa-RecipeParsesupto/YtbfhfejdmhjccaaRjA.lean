/- The document's word, walked. -/
import Derived.Test.YtbfhfejdmhjccaaRiF
namespace Go.Proofs.Ytbfhfejdmhjccaa
open Go.RowKit

/-- What is left is an end of the text. -/
def Sf (s l : List UInt8) : Prop := ∃ a, s = a ++ l
theorem Sf.le {s l : List UInt8} (h : Sf s l) : l.length ≤ s.length := by
  obtain ⟨a, e⟩ := h
  rw [e, List.length_append]
  omega
theorem Sf.cons {s l : List UInt8} {x : UInt8} (h : Sf s (x :: l)) : s.length - (x :: l).length < s.length ∧ bt (ba s) (s.length - (x :: l).length) = (x.toNat : Int) ∧ s.length - l.length = s.length - (x :: l).length + 1 ∧ Sf s l := by
  obtain ⟨a, e⟩ := h
  have hl : s.length = a.length + (l.length + 1) := by rw [e, List.length_append]; rfl
  have hi : s.length - (x :: l).length = a.length := by simp only [List.length_cons]; omega
  refine ⟨by rw [hi]; omega, ?_, by rw [hi]; omega, a ++ [x], by rw [e]; simp⟩
  rw [hi, bt_get _ _ (by omega), List.getD_eq_getElem?_getD, e, List.getElem?_append_right (Nat.le_refl _), Nat.sub_self]
  rfl
/-- What the document's word answers. -/
def WordP (s : List UInt8) (R : Rs Unit) (e : Ending) : Prop :=
  match R with
  | .ok _ m => e = .returned (.tuple #[.int .i64 ((s.length - m.length : Nat) : Int), .bool true]) ∧ Sf s m
  | .bad m => e = .returned (.tuple #[.int .i64 ((s.length - m.length : Nat) : Int), .bool false]) ∧ Sf s m

set_option maxHeartbeats 4000000 in
theorem word_any (s l f : List UInt8) (w : World) (hs : s.length ≤ 16777216) (hf : f.length ≤ 1024) (h : Sf s l) :
    Calls Try.prog 19 #[.string (ba s), .int .i64 ((s.length - l.length : Nat) : Int), .string (ba f)] w fun e w' => WordP s (ex f l) e ∧ ∃ q, w' = w.drewN q := by
  have hsz := ba_size s
  have hfz := ba_size f
  have hgs : ∀ (n : Nat) (h : n < (ba s).size), (((ba s)[n]'h).toNat : Int) = bt (ba s) n := get_bt (ba s)
  have hgf : ∀ (n : Nat) (h : n < (ba f).size), (((ba f)[n]'h).toNat : Int) = bt (ba f) n := get_bt (ba f)
  have hBF : Hid (∀ i, i < f.length → bt (ba f) i = ((f.getD i 0).toNat : Int)) := bt_get f
  generalize hR : ex f l = R
  have HR : Hid (ex f l = R) := hR
  have HS : Hid (Sf s l) := h
  clear hR h
  go_enter Try.func19, Try.ntmps19
  go_wp2_with fail
  go_loopg [1, 8] f.length (fun gk av iv wr => ∃ (i : Nat) (m : List UInt8), gk + i = f.length ∧ iv = .int .i64 (i : Int) ∧ av = .int .i64 ((s.length - m.length : Nat) : Int) ∧ Hid (ex (f.drop i) m = R) ∧ Hid (Sf s m) ∧ Hid (∃ q, wr = w.drewN q))
  case atStart => exact ⟨0, l, rfl, rfl, rfl, HR, HS, 0, rfl⟩
  case round =>
    obtain ⟨i, m, hgk, rfl, rfl, hE, hS, hq⟩ := hrel
    clear HR HS
    have hml := hS.out.le
    by_cases hi : i < f.length
    · have x1 := hBF.out i hi
      have hd : f.drop i = f.getD i 0 :: f.drop (i + 1) := by
        rw [List.drop_eq_getElem_cons hi, List.getD_eq_getElem?_getD, List.getElem?_eq_getElem hi]
        rfl
      rw [hd] at hE
      have hi' : (i : Int) < (f.length : Int) := by omega
      generalize f.getD i 0 = c at x1 hE
      clear hd
      cases m with
      | nil =>
        have HB : Hid (R = .bad []) := hE.out.symm
        rw [show s.length - ([] : List UInt8).length = s.length from rfl]
        have hge : decide ((s.length : Int) ≤ (s.length : Int)) = true := by simp
        have hge2 : (s.length : Int) ≤ (s.length : Int) := Int.le_refl _
        go_wp2_with fail
        go_quiet (fail)
        generalize hw9 : wr.drewN nq = w9
        have HW : Hid (∃ q, w9 = w.drewN q) := by obtain ⟨q, e⟩ := hq.out; exact ⟨q + nq, by rw [← hw9, e, World.drewN_drewN]⟩
        clear hw9
        go_wp2
        try rw [Exit.noGoto_ret]
        go_ret2
        rw [HB.out]
        exact ⟨⟨rfl, hS.out⟩, HW.out⟩
      | cons y m =>
        obtain ⟨k1, k2, k3, k4⟩ := hS.out.cons
        have HS2 : Hid (Sf s m) := k4
        have HK3 : Hid (s.length - m.length = s.length - (y :: m).length + 1) := k3
        have HSS := hS
        generalize hat : s.length - (y :: m).length = t at k1 k2 HK3 ⊢
        have HAT : Hid (s.length - (y :: m).length = t) := hat
        clear k3 k4 hat
        have hge : decide ((s.length : Int) ≤ (t : Int)) = false := by simp only [decide_eq_false_iff_not]; omega
        have hge2 : ¬ (s.length : Int) ≤ (t : Int) := by omega
        have htl : (t : Int) < (s.length : Int) := by omega
        by_cases hy : y = c
        · subst hy
          have HE2 : Hid (ex (f.drop (i + 1)) m = R) := by
            have := hE.out
            rw [ex_cons, if_pos rfl] at this
            exact this
          have hne : ((y.toNat : Int) == (y.toNat : Int)) = true := by simp
          go_wp2_with fail
          go_quiet (fail)
          generalize hw9 : wr.drewN nq = w9
          have HW : Hid (∃ q, w9 = w.drewN q) := by obtain ⟨q, e⟩ := hq.out; exact ⟨q + nq, by rw [← hw9, e, World.drewN_drewN]⟩
          clear hw9
          go_wp2
          go_roundg (gk - 1)
          case measure => omega
          case rel => exact ⟨i + 1, m, by omega, by go_num, by rw [HK3.out]; go_num, HE2, HS2, HW⟩
        · have HB : Hid (R = .bad (y :: m)) := by
            have := hE.out
            rw [ex_cons, if_neg hy] at this
            exact this.symm
          have hne : ((y.toNat : Int) != (c.toNat : Int)) = true := by
            rw [bne_iff_ne]
            intro e
            exact hy (UInt8.toNat_inj.1 (Int.ofNat_inj.1 e))
          have hge3 : decide (s.length ≤ t) = false := by simp only [decide_eq_false_iff_not]; omega
          go_wp2_with fail
          go_quiet (fail)
          generalize hw9 : wr.drewN nq = w9
          have HW : Hid (∃ q, w9 = w.drewN q) := by obtain ⟨q, e⟩ := hq.out; exact ⟨q + nq, by rw [← hw9, e, World.drewN_drewN]⟩
          clear hw9
          go_wp2
          try rw [Exit.noGoto_ret]
          go_ret2
          rw [HB.out]
          exact ⟨⟨by rw [HAT.out]; rfl, HSS.out⟩, HW.out⟩
    · have HB : Hid (R = .ok () m) := by
        have := hE.out
        rw [List.drop_of_length_le (by omega)] at this
        exact this.symm
      have hi' : ¬ (i : Int) < (f.length : Int) := by omega
      go_wp2
      go_ret2
      rw [HB.out]
      exact ⟨⟨rfl, hS.out⟩, hq.out⟩

end Go.Proofs.Ytbfhfejdmhjccaa
