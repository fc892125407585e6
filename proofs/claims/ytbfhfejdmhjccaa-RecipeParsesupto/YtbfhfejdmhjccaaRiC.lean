/- Same at any two recipes; the laws' plain, walked. -/
import Derived.Test.YtbfhfejdmhjccaaRiB
namespace Go.Proofs.Ytbfhfejdmhjccaa
open Go.RowKit

/-- A recipe's lists are no longer than this. -/
structure Sml (r : Rec) : Prop where
  d : r.ds.length ≤ 1073741824
  s : r.ss.length ≤ 1073741824
  a : ∀ s ∈ r.ss, s.2.length ≤ 1073741824
def eqR (r q : Rec) : Bool := decide (r.nm = q.nm ∧ r.ds = q.ds ∧ r.ss = q.ss)

set_option maxHeartbeats 8000000 in
theorem same_any (r q : Rec) (vd vs ud us : Value) (w : World) (hvd : RT w w.heap.size vd r.ds) (hvs : RS w w.heap.size vs r.ss) (hud : RT w w.heap.size ud q.ds) (hus : RS w w.heap.size us q.ss) (hr : Sml r) (hq : Sml q) :
    Calls Try.prog 15 #[.agg #[.string (ba r.nm), vd, vs], .agg #[.string (ba q.nm), ud, us]] w fun e w' => e = .returned (.bool (eqR r q)) ∧ Below w.heap.size w w' := by
  have s1 : (w.alloc (.cells #[.string (ba r.nm), vd, vs] 26)).heap.size = w.heap.size + 1 := World.size_alloc _ _
  have S0 : St3 ((w.alloc (.cells #[.string (ba r.nm), vd, vs] 26)).alloc (.cells #[.string (ba q.nm), ud, us] 26)) w.heap.size (.string (ba r.nm)) vd vs := (St3.new w _ _ _).same (Below.heap_alloc _ _ _ (by rw [s1]; omega))
  have S1 : St3 ((w.alloc (.cells #[.string (ba r.nm), vd, vs] 26)).alloc (.cells #[.string (ba q.nm), ud, us] 26)) (w.heap.size + 1) (.string (ba q.nm)) ud us := by
    have := St3.new (w.alloc (.cells #[.string (ba r.nm), vd, vs] 26)) (.string (ba q.nm)) ud us
    rw [s1] at this
    exact this
  have B0 : Below w.heap.size w ((w.alloc (.cells #[.string (ba r.nm), vd, vs] 26)).alloc (.cells #[.string (ba q.nm), ud, us] 26)) := ((Below.refl _ _).alloc (Nat.le_refl _) _).alloc (by rw [s1]; omega) _
  have EC := slEq_any w.heap.size w.heap.size vd ud r.ds q.ds _ (hvd.below B0 (Nat.le_refl _)) (hud.below B0 (Nat.le_refl _)) hr.d hq.d
  have FC := fun W (b : Below w.heap.size w W) => eqF_any vs us r.ss q.ss W ((hvs.below b (Nat.le_refl _)).up b.size) ((hus.below b (Nat.le_refl _)).up b.size) hq.s hr.a hq.a
  obtain ⟨x1, c1, rfl, -⟩ := hvd
  obtain ⟨x2, c2, rfl, -⟩ := hvs
  obtain ⟨x3, c3, rfl, -⟩ := hud
  obtain ⟨x4, c4, rfl, -⟩ := hus
  generalize hE : eqR r q = E
  have HE : Hid (decide (r.nm = q.nm ∧ r.ds = q.ds ∧ r.ss = q.ss) = E) := hE
  obtain ⟨nm, ds, ss⟩ := r
  obtain ⟨nq, dq, sq⟩ := q
  dsimp only at *
  have a0 := S0.c0
  have a1 := S0.c1
  have a2 := S0.c2
  have d0 := S1.c0
  have d1 := S1.c1
  have d2 := S1.c2
  clear S0 S1 s1 hE hr hq
  by_cases ho : nm = nq
  · subst ho
    have he : ((ba nm).toList == (ba nm).toList) = true := by simp
    by_cases hd : ds = dq
    · rw [decide_eq_true hd] at EC
      have HF : Hid (E = decide (ss = sq)) := by
        unfold Hid
        rw [← HE.out]
        by_cases e : ss = sq
        · rw [decide_eq_true e]; exact decide_eq_true ⟨rfl, hd, e⟩
        · rw [decide_eq_false e]; exact decide_eq_false (fun c => e c.2.2)
      clear HE hd
      go_enter Try.func15, Try.ntmps15
      go_wp2_with fail
      refine EC.mono ?_
      rintro e w1 ⟨rfl, q, rfl⟩
      have z2 : ∀ k, (((w.alloc (.cells #[.string (ba nm), .slice x1 ds.length c1, .slice x2 ss.length c2] 26)).alloc (.cells #[.string (ba nm), .slice x3 dq.length c3, .slice x4 sq.length c4] 26)).drewN q).cell? k = ((w.alloc (.cells #[.string (ba nm), .slice x1 ds.length c1, .slice x2 ss.length c2] 26)).alloc (.cells #[.string (ba nm), .slice x3 dq.length c3, .slice x4 sq.length c4] 26)).cell? k := fun _ => rfl
      have B1 : Below w.heap.size w (((w.alloc (.cells #[.string (ba nm), .slice x1 ds.length c1, .slice x2 ss.length c2] 26)).alloc (.cells #[.string (ba nm), .slice x3 dq.length c3, .slice x4 sq.length c4] 26)).drewN q) := bel_drewN B0 q
      have f2 := (z2 _).trans a2
      have g2 := (z2 _).trans d2
      generalize ((w.alloc (.cells #[.string (ba nm), .slice x1 ds.length c1, .slice x2 ss.length c2] 26)).alloc (.cells #[.string (ba nm), .slice x3 dq.length c3, .slice x4 sq.length c4] 26)).drewN q = w5 at B1 f2 g2 ⊢
      clear EC B0 a0 a1 a2 d0 d1 d2 z2
      go_wp2_with fail
      refine (FC w5 B1).mono ?_
      rintro e w6 ⟨rfl, b6⟩
      have HB6 : Hid (Below w.heap.size w w6) := bel_trans B1 b6
      clear FC B1 b6 f2 g2
      generalize decide (ss = sq) = D at HF ⊢
      cases D
      · go_wp2
        go_ret
        exact ⟨by rw [HF.out]; rfl, HB6.out⟩
      · go_wp2
        go_ret
        exact ⟨by rw [HF.out]; rfl, HB6.out⟩
    · rw [decide_eq_false hd] at EC
      have HF : Hid (E = false) := by
        unfold Hid
        rw [← HE.out]
        exact decide_eq_false (fun c => hd c.2.1)
      clear HE hd FC
      go_enter Try.func15, Try.ntmps15
      go_wp2_with fail
      refine EC.mono ?_
      rintro e w1 ⟨rfl, q, rfl⟩
      have HB : Hid (Below w.heap.size w (((w.alloc (.cells #[.string (ba nm), .slice x1 ds.length c1, .slice x2 ss.length c2] 26)).alloc (.cells #[.string (ba nm), .slice x3 dq.length c3, .slice x4 sq.length c4] 26)).drewN q)) := bel_drewN B0 q
      clear EC B0
      go_wp2
      go_ret
      exact ⟨by rw [HF.out]; rfl, HB.out⟩
  · have he : ((ba nm).toList == (ba nq).toList) = false := by rw [beq_eq_false_iff_ne, ba_toList, ba_toList]; exact ho
    have HF : Hid (E = false) := by
      unfold Hid
      rw [← HE.out]
      exact decide_eq_false (fun c => ho c.1)
    have HB : Hid (Below w.heap.size w ((w.alloc (.cells #[.string (ba nm), .slice x1 ds.length c1, .slice x2 ss.length c2] 26)).alloc (.cells #[.string (ba nq), .slice x3 dq.length c3, .slice x4 sq.length c4] 26))) := B0
    clear HE EC FC ho B0
    go_enter Try.func15, Try.ntmps15
    go_wp2
    go_ret
    exact ⟨by rw [HF.out]; rfl, HB.out⟩

end Go.Proofs.Ytbfhfejdmhjccaa
