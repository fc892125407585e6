/- Closed and Split agree: pure; the law's same. -/
import Derived.Test.YtjlbbnjcdickgaaWsD
namespace Go.Proofs.Ytjlbbnjcdickgaa
open Go.RowKit

theorem readR_got (tl pl : List UInt8) (m : Nat) : readR tl pl m = ((rsNew pl m).run tl).got := by
  unfold readR
  by_cases h : badAt pl < pl.length
  · rw [if_pos h]
    unfold rsNew
    rw [if_pos h, RS.run_off _ (RS.fl_off _ _ _ (by decide))]
    rfl
  · rw [if_neg h]
    exact (sp_got tl pl m (badAt_ok pl h).1).symm
/-- What Closed answers. -/
def clC (g : Got) (n : Nat) : Nat := if g.code = 0 ∧ g.out.length < n then 4 else g.code
def clA (g : Got) (n : Nat) : Nat := if g.code = 0 ∧ g.out.length < n then g.tk else g.fat
theorem closed_sp (tl pl : List UInt8) (m : Nat) : clC (readR tl pl m) pl.length = (sp tl pl m).code ∧ clA (readR tl pl m) pl.length = (sp tl pl m).fat ∧ (readR tl pl m).out = (sp tl pl m).out := by
  have hj : ((rsNew pl m).run tl).code = 0 → (((rsNew pl m).run tl).ph ≠ 4 ↔ ((rsNew pl m).run tl).out.length < pl.length) := fun hc => by
    by_cases hb : badAt pl < pl.length
    · have e : (rsNew pl m).run tl = rsNew pl m := by
        unfold rsNew
        rw [if_pos hb]
        exact RS.run_off _ (RS.fl_off _ _ _ (by decide)) _
      rw [e] at hc
      unfold rsNew at hc
      rw [if_pos hb] at hc
      exact absurd hc (show ¬ 30 = 0 by decide)
    · have hj : Jn pl.length ((rsNew pl m).run tl) := by
        refine Jn.run ?_ tl
        unfold rsNew
        rw [if_neg hb]
        exact Jn.beg rfl (fun _ => by show 0 + pl.length = _; omega)
      constructor
      · intro h; have := (hj.2 hc).2 h; omega
      · intro h h4; have := (hj.2 hc).1 h4; omega
  rw [readR_got]
  unfold clC clA sp RS.shut
  show (if ((rsNew pl m).run tl).code = 0 ∧ ((rsNew pl m).run tl).out.length < pl.length then 4 else ((rsNew pl m).run tl).code) = _ ∧ (if ((rsNew pl m).run tl).code = 0 ∧ ((rsNew pl m).run tl).out.length < pl.length then ((rsNew pl m).run tl).tk else ((rsNew pl m).run tl).fat) = _ ∧ ((rsNew pl m).run tl).out = _
  by_cases hc : ((rsNew pl m).run tl).code = 0
  · by_cases h4 : ((rsNew pl m).run tl).ph ≠ 4
    · have h5 := (hj hc).1 h4
      have k1 : ((rsNew pl m).run tl).code = 0 ∧ ((rsNew pl m).run tl).out.length < pl.length := ⟨hc, h5⟩
      have k2 : ((rsNew pl m).run tl).code = 0 ∧ ((rsNew pl m).run tl).ph ≠ 4 := ⟨hc, h4⟩
      simp only [if_pos k1, if_pos k2]
      repeat' apply And.intro
      all_goals first | trivial | rfl
    · have k1 : ¬ (((rsNew pl m).run tl).code = 0 ∧ ((rsNew pl m).run tl).out.length < pl.length) := fun h => h4 ((hj hc).2 h.2)
      have k2 : ¬ (((rsNew pl m).run tl).code = 0 ∧ ((rsNew pl m).run tl).ph ≠ 4) := fun h => h4 h.2
      simp only [if_neg k1, if_neg k2]
      repeat' apply And.intro
      all_goals first | trivial | rfl
  · have k1 : ¬ (((rsNew pl m).run tl).code = 0 ∧ ((rsNew pl m).run tl).out.length < pl.length) := fun h => hc h.1
    have k2 : ¬ (((rsNew pl m).run tl).code = 0 ∧ ((rsNew pl m).run tl).ph ≠ 4) := fun h => hc h.1
    simp only [if_neg k1, if_neg k2]
    repeat' apply And.intro
    all_goals first | trivial | rfl

set_option maxHeartbeats 2000000 in
theorem closed_any (tl pl : List UInt8) (most : Int) (w : World) (ht : tl.length ≤ 1073741824) (hl : pl.length ≤ 1073741824) (hm : most ≤ 9223372036854775807) :
    Calls Try.prog 18 #[.string (ba tl), .string (ba pl), .int .i64 most] w fun e w' => e = .returned (.tuple #[.int .i64 (clC (readR tl pl most.toNat) pl.length : Int), .int .i64 (clA (readR tl pl most.toNat) pl.length : Int)]) ∧ Below w.heap.size w w' := by
  have hsp := ba_size pl
  go_enter Try.func18, Try.ntmps18
  go_wp2_with fail
  refine (read_any tl pl most _ ht hl hm).mono ?_
  rintro e w1 ⟨v, rfl, O, b1⟩
  obtain ⟨R, hRR⟩ : ∃ R, readR tl pl most.toNat = R := ⟨_, rfl⟩
  have HQ : Hid (readR tl pl most.toNat = R) := hRR
  rw [hRR] at O ⊢
  clear hRR
  obtain ⟨x, c, rfl⟩ : ∃ x c, v = .slice x R.out.length c := by
    rcases O.open with ⟨h, h2⟩ | ⟨g, cap, h, _⟩
    · exact ⟨none, 0, by rw [h, h2]; rfl⟩
    · exact ⟨_, _, h⟩
  have B1 : Hid (Below w.heap.size w w1) := b1
  clear O b1
  unfold gotV
  by_cases h0 : R.code = 0
  · by_cases h1 : R.out.length < pl.length
    · have e1 : Hid (clC R pl.length = 4 ∧ clA R pl.length = R.tk) := ⟨if_pos ⟨h0, h1⟩, if_pos ⟨h0, h1⟩⟩
      rw [h0]
      go_wp2
      go_quiet (fail)
      go_wp2
      go_ret2
      exact ⟨by rw [HQ.out, e1.out.1, e1.out.2]; rfl, (B1.out.alloc B1.out.size _).trans ⟨rfl, rfl, rfl, Nat.le_refl _, fun _ _ => rfl⟩⟩
    · have e1 : Hid (clC R pl.length = R.code ∧ clA R pl.length = R.fat) := ⟨if_neg (fun c => h1 c.2), if_neg (fun c => h1 c.2)⟩
      have H0 : Hid (R.code = 0) := h0
      rw [h0]
      go_wp2
      go_quiet (fail)
      go_wp2
      go_ret2
      exact ⟨by rw [HQ.out, e1.out.1, e1.out.2, H0.out]; rfl, (B1.out.alloc B1.out.size _).trans ⟨rfl, rfl, rfl, Nat.le_refl _, fun _ _ => rfl⟩⟩
  · have e1 : Hid (clC R pl.length = R.code ∧ clA R pl.length = R.fat) := ⟨if_neg (fun c => h0 c.1), if_neg (fun c => h0 c.1)⟩
    have g0 : ((R.code : Int) == 0) = false := by simp; omega
    have g1 : (R.code : Int) ≠ 0 := by omega
    go_wp2
    go_quiet (fail)
    go_wp2
    go_ret2
    exact ⟨by rw [HQ.out, e1.out.1, e1.out.2]; rfl, (B1.out.alloc B1.out.size _).trans ⟨rfl, rfl, rfl, Nat.le_refl _, fun _ _ => rfl⟩⟩

end Go.Proofs.Ytjlbbnjcdickgaa
