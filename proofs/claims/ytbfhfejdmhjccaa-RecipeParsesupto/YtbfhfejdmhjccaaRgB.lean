/- Same of two zero recipes; the law RecipeOne, walked. -/
import Derived.Test.YtbfhfejdmhjccaaRgA
namespace Go.Proofs.Ytbfhfejdmhjccaa
open Go.RowKit

theorem RT.up {w : World} {B C : Nat} {v : Value} {L : List (List UInt8)} (h : RT w B v L) (e : B ≤ C) : RT w C v L := by
  obtain ⟨x, c, e1, h⟩ := h
  refine ⟨x, c, e1, fun i t hi => ?_⟩
  obtain ⟨b, o, h1, h2, h3⟩ := h i t hi
  exact ⟨b, o, h1, by omega, h3⟩
theorem RS.up {w : World} {B C : Nat} {v : Value} {L : List Stp} (h : RS w B v L) (e : B ≤ C) : RS w C v L := by
  obtain ⟨x, c, e1, h⟩ := h
  refine ⟨x, c, e1, fun i t hi => ?_⟩
  obtain ⟨b, o, y, h1, h2, h3, h4, h5⟩ := h i t hi
  exact ⟨b, o, y, h1, by omega, h3, h4, h5.up e⟩

set_option maxHeartbeats 1000000 in
theorem slEq_nil (w : World) : Calls Try.prog 29 #[.slice none 0 0, .slice none 0 0] w fun e w' => e = .returned (.bool true) ∧ w' = w := by
  go_enter Try.func29, Try.ntmps29
  go_wp2_with fail
  go_loopg [13] 0 (fun gk iv wr => iv = .int .i64 0 ∧ Hid (wr = w))
  case atStart => exact ⟨rfl, rfl⟩
  case round =>
    obtain ⟨rfl, hw⟩ := hrel
    go_wp2
    go_ret
    exact ⟨rfl, hw.out⟩
set_option maxHeartbeats 1000000 in
theorem eqF_nil (f : Value) (w : World) : Calls Try.prog 30 #[.slice none 0 0, .slice none 0 0, f] w fun e w' => e = .returned (.bool true) ∧ w' = w := by
  go_enter Try.func30, Try.ntmps30
  go_wp2_with fail
  go_loopg [17] 0 (fun gk iv wr => iv = .int .i64 0 ∧ Hid (wr = w))
  case atStart => exact ⟨rfl, rfl⟩
  case round =>
    obtain ⟨rfl, hw⟩ := hrel
    go_wp2
    go_ret
    exact ⟨rfl, hw.out⟩
set_option maxHeartbeats 2000000 in
theorem same_zero (w : World) : Calls Try.prog 15 #[.agg #[.string ⟨#[]⟩, .slice none 0 0, .slice none 0 0], .agg #[.string ⟨#[]⟩, .slice none 0 0, .slice none 0 0]] w fun e w' => e = .returned (.bool true) ∧ Below w.heap.size w w' := by
  have s1 : (w.alloc (.cells #[.string ⟨#[]⟩, .slice none 0 0, .slice none 0 0] 26)).heap.size = w.heap.size + 1 := World.size_alloc _ _
  have S0 : St3 ((w.alloc (.cells #[.string ⟨#[]⟩, .slice none 0 0, .slice none 0 0] 26)).alloc (.cells #[.string ⟨#[]⟩, .slice none 0 0, .slice none 0 0] 26)) w.heap.size (.string ⟨#[]⟩) (.slice none 0 0) (.slice none 0 0) := (St3.new w _ _ _).same (Below.heap_alloc _ _ _ (by rw [s1]; omega))
  have S1 : St3 ((w.alloc (.cells #[.string ⟨#[]⟩, .slice none 0 0, .slice none 0 0] 26)).alloc (.cells #[.string ⟨#[]⟩, .slice none 0 0, .slice none 0 0] 26)) (w.heap.size + 1) (.string ⟨#[]⟩) (.slice none 0 0) (.slice none 0 0) := by
    have := St3.new (w.alloc (.cells #[.string ⟨#[]⟩, .slice none 0 0, .slice none 0 0] 26)) (.string ⟨#[]⟩) (.slice none 0 0) (.slice none 0 0)
    rw [s1] at this
    exact this
  have B0 : Below w.heap.size w ((w.alloc (.cells #[.string ⟨#[]⟩, .slice none 0 0, .slice none 0 0] 26)).alloc (.cells #[.string ⟨#[]⟩, .slice none 0 0, .slice none 0 0] 26)) := ((Below.refl _ _).alloc (Nat.le_refl _) _).alloc (by rw [s1]; omega) _
  have a0 := S0.c0
  have a1 := S0.c1
  have a2 := S0.c2
  have b0 := S1.c0
  have b1 := S1.c1
  have b2 := S1.c2
  clear S0 S1 s1
  have HB : Hid (Below w.heap.size w ((w.alloc (.cells #[.string ⟨#[]⟩, .slice none 0 0, .slice none 0 0] 26)).alloc (.cells #[.string ⟨#[]⟩, .slice none 0 0, .slice none 0 0] 26))) := B0
  clear B0
  go_enter Try.func15, Try.ntmps15
  go_wp2_with fail
  refine (slEq_nil _).mono ?_
  rintro e w1 ⟨rfl, rfl⟩
  go_wp2_with fail
  refine (eqF_nil _ _).mono ?_
  rintro e w1 ⟨rfl, rfl⟩
  go_wp2
  go_ret
  exact ⟨rfl, HB.out⟩

set_option maxHeartbeats 4000000 in
theorem one_walk (s : ByteArray) (w : World) (hs : s.size ≤ 1048576) : Calls Try.prog 5 #[.string s] w fun e w' => e = .returned (.bool true) ∧ Below w.heap.size w w' := by
  obtain ⟨l, rfl⟩ : ∃ l, s = ba l := ⟨s.data.toList, (ba_list s).symm⟩
  rw [ba_size] at hs
  have PC := fun W => parse_any l W (by omega)
  unfold ParseP at PC
  cases hp : prs l with
  | bad m =>
    rw [hp] at PC
    dsimp only at PC
    go_enter Try.func5, Try.ntmps5
    go_wp2_with fail
    refine (awake_any w).mono ?_
    rintro e w1 ⟨rfl, b1⟩
    have HB1 : Hid (Below w.heap.size w w1) := b1
    go_wp2_with fail
    refine (PC w1).mono ?_
    rintro e w2 ⟨⟨k, hk, rfl, hF⟩, b2⟩
    have HB2 : Hid (Below w.heap.size w w2) := bel_trans HB1.out b2
    clear b1 b2 PC HB1 hF hk
    have S2 := St3.new w2 (.string ⟨#[]⟩) (.slice none 0 0) (.slice none 0 0)
    have HB3 : Hid (Below w.heap.size w (w2.alloc (.cells #[.string ⟨#[]⟩, .slice none 0 0, .slice none 0 0] 26))) := HB2.out.alloc HB2.out.size _
    have a0 := S2.c0
    have a1 := S2.c1
    have a2 := S2.c2
    go_wp2_with fail
    generalize w2.alloc (.cells #[.string ⟨#[]⟩, .slice none 0 0, .slice none 0 0] 26) = w3 at HB3 ⊢
    refine (same_zero w3).mono ?_
    rintro e w4 ⟨rfl, b4⟩
    have HB4 : Hid (Below w.heap.size w w4) := bel_trans HB3.out b4
    clear b4
    go_wp2
    go_ret
    exact ⟨rfl, HB4.out⟩
  | ok r m =>
    rw [hp] at PC
    have HONE : Hid (l = rT r) := prs_one hp
    have hll : Hid ((rT r).length ≤ 300000000) := by unfold Hid; rw [← HONE.out]; omega
    have hte : ((ba l).toList == (ba l).toList) = true := by simp
    obtain ⟨nm, ds, ss⟩ := r
    dsimp only at PC
    clear hp
    go_enter Try.func5, Try.ntmps5
    go_wp2_with fail
    refine (awake_any w).mono ?_
    rintro e w1 ⟨rfl, b1⟩
    have HB1 : Hid (Below w.heap.size w w1) := b1
    go_wp2_with fail
    refine (PC w1).mono ?_
    rintro e w2 ⟨⟨vd, vs, rfl, TD, TS⟩, b2⟩
    have HB2 : Hid (Below w.heap.size w w2) := bel_trans HB1.out b2
    have RD := TD.read
    have RSS := TS.read
    obtain ⟨pd, cd, rfl⟩ := TD.shape
    obtain ⟨pt, ct, rfl⟩ := TS.shape
    dsimp only at RD RSS TD TS ⊢
    have S2 := St3.new w2 (.string (ba nm)) (.slice pd ds.length cd) (.slice pt ss.length ct)
    have b3 : Below w2.heap.size w2 (w2.alloc (.cells #[.string (ba nm), .slice pd ds.length cd, .slice pt ss.length ct] 26)) := (Below.refl _ _).alloc (Nat.le_refl _) _
    have HB3 : Hid (Below w.heap.size w (w2.alloc (.cells #[.string (ba nm), .slice pd ds.length cd, .slice pt ss.length ct] 26))) := bel_trans HB2.out b3
    have RD3 : RT (w2.alloc (.cells #[.string (ba nm), .slice pd ds.length cd, .slice pt ss.length ct] 26)) w2.heap.size (.slice pd ds.length cd) ds := RD.below b3 (Nat.le_refl _)
    have RS3 : RS (w2.alloc (.cells #[.string (ba nm), .slice pd ds.length cd, .slice pt ss.length ct] 26)) w2.heap.size (.slice pt ss.length ct) ss := RSS.below b3 (Nat.le_refl _)
    have hsz := b3.size
    have a0 := S2.c0
    have a1 := S2.c1
    have a2 := S2.c2
    clear b1 b2 PC HB1 HB2 TD TS RD RSS b3 S2
    go_wp2_with fail
    generalize w2.alloc (.cells #[.string (ba nm), .slice pd ds.length cd, .slice pt ss.length ct] 26) = w3 at HB3 RD3 RS3 hsz ⊢
    refine (print_any nm ds ss (.slice pd ds.length cd) (.slice pt ss.length ct) w3 (RD3.up hsz) (RS3.up hsz) hll.out).mono ?_
    rintro e w4 ⟨rfl, b4⟩
    have HB4 : Hid (Below w.heap.size w w4) := bel_trans HB3.out b4
    rw [← HONE.out]
    clear b4 RD3 RS3 a0 a1 a2 hll HONE
    go_wp2
    go_ret
    exact ⟨rfl, HB4.out⟩

end Go.Proofs.Ytbfhfejdmhjccaa
