/- Size, walked. -/
import Derived.Test.YtpbgmknebhnonabTvD
import Derived.Deep.RegionHeld3
namespace Go.Proofs.Ytpbgmknebhnonab
open Go.RowKit

mutual
theorem smT_sz : ∀ T : Tr, smT T → szT T
  | .mk k e t ns ks => fun h => by
    rw [smT] at h
    rw [szT]
    exact ⟨by omega, smL_sz ns ks h.2⟩
theorem smL_sz : ∀ (ns : List ByteArray) (ks : List Tr), smL ns ks → szL ns ks
  | s :: ns, T :: ks => fun h => by
    rw [smL] at h
    rw [szL]
    exact ⟨by omega, smT_sz T h.2.1, smL_sz ns ks h.2.2⟩
  | [], _ => fun _ => by rw [szL] <;> simp
  | _ :: _, [] => fun _ => by rw [szL] <;> simp
end
/-- What Size answers. -/
def szA (T : Tr) : Int × Int := if (ckT T).2 ≠ 0 then (0, (ckT T).2) else (24 + tbT T, 0)
mutual
theorem vT_code (ns : List ByteArray) (b : Int) : ∀ (T : Tr) (o : ByteArray × Int), (vT ns b T).off = some o → o.2 ≠ 0
  | .mk k e t nms ks => fun o h => by
    rw [vT] at h
    split at h
    · injection h with h; rw [← h]; show (61 : Int) ≠ 0; decide
    · split at h
      · rename_i h2; injection h with h; rw [← h]; exact h2
      · split at h
        · injection h with h; rw [← h]; show (2 : Int) ≠ 0; decide
        · exact vL_code ns (b + nbP k e t) none nms ks o h
theorem vL_code (ns : List ByteArray) (b : Int) (prev : Option ByteArray) : ∀ (nms : List ByteArray) (ks : List Tr) (o : ByteArray × Int), (vL ns b prev nms ks).off = some o → o.2 ≠ 0
  | s :: nms, T :: ks => fun o h => by
    rw [vL] at h
    split at h
    · rename_i h2; injection h with h; rw [← h]; exact h2
    · cases hv : (vT (ns ++ [s]) (b + ebP s) T).off with
      | some o' =>
        rw [hv] at h
        injection h with h
        rw [← h]
        exact vT_code _ _ T o' hv
      | none => rw [hv] at h; exact vL_code ns _ (some s) nms ks o h
  | [], ks => fun o h => by rw [vL_end] at h; cases h
  | s :: nms, [] => fun o h => by
    have h9 : vL ns b prev (s :: nms) [] = ⟨b, none⟩ := by rw [vL]; simp
    rw [h9] at h; cases h
end
theorem ckT_zero {T : Tr} (h : (ckT T).2 = 0) : (vT [] 24 T).off = none := by
  unfold ckT at h
  cases hv : (vT [] 24 T).off with
  | none => rfl
  | some o => rw [hv] at h; exact absurd h (vT_code _ _ T o hv)
theorem tb_le {T : Tr} (h : (vT [] 24 T).off = none) : tbT T ≤ 1048576 := by
  have h1 := vT_bytes [] 24 T h
  have h2 := vT_bd [] 24 T h (by decide) (by decide)
  omega

set_option maxHeartbeats 8000000 in
theorem size_tree (f : Nat) (u : Value) (T : Tr) (w : World) (hA : At w f u T) (hsm : smT T) :
    Calls Try.prog 10 #[u] w fun e w' => e = .returned (.tuple #[.int .i64 (szA T).1, .int .i64 (szA T).2]) ∧ Below w.heap.size w w' := by
  obtain ⟨k, e, t, nms, ks⟩ := T
  cases f with
  | zero => exact hA.elim
  | succ f =>
  obtain ⟨x, n, c, rfl, hrest⟩ := hA
  have HA : Hid (At w (f + 1) (.agg #[.int .i64 k, .bool e, .string t, .slice x n c]) (.mk k e t nms ks)) := ⟨x, n, c, rfl, hrest⟩
  clear hrest
  generalize (Tr.mk k e t nms ks) = T at HA hsm ⊢
  have b1 : Below w.heap.size w (w.alloc (.cells #[.int .i64 k, .bool e, .string t, .slice x n c] 25)) := (Below.refl _ _).alloc (Nat.le_refl _) _
  have N1 : NB (w.alloc (.cells #[.int .i64 k, .bool e, .string t, .slice x n c] 25)) w.heap.size k e t x n c := NB.new w k e t x n c
  have CC := check_tree (f + 1) _ T (w.alloc (.cells #[.int .i64 k, .bool e, .string t, .slice x n c] 25)) (HA.out.below b1) hsm
  have hz1 : w.heap.size < (w.alloc (.cells #[.int .i64 k, .bool e, .string t, .slice x n c] 25)).heap.size := by rw [World.size_alloc]; omega
  have HSM : Hid (smT T) := hsm
  have HB1 : Hid (Below w.heap.size w (w.alloc (.cells #[.int .i64 k, .bool e, .string t, .slice x n c] 25))) := b1
  have HN1 : Hid (NB (w.alloc (.cells #[.int .i64 k, .bool e, .string t, .slice x n c] 25)) w.heap.size k e t x n c) := N1
  clear b1 N1 hsm
  go_enter Try.func10, Try.ntmps10
  go_wp2_with fail
  refine CC.mono ?_
  rintro e5 w2 ⟨rfl, b2⟩
  have HB2 : Hid (Below w.heap.size w w2) := HB1.out.trans (b2.mono HB1.out.size)
  have HN2 : Hid (NB w2 w.heap.size k e t x n c) := (b2.block _ hz1).trans HN1.out
  clear b2 CC HB1 HN1 hz1
  have HZ : Hid (szA T = if (ckT T).2 ≠ 0 then (0, (ckT T).2) else (24 + tbT T, 0)) := rfl
  have HOK : Hid ((ckT T).2 = 0 → tbT T ≤ 1048576) := fun h => tb_le (ckT_zero h)
  generalize (ckT T).1 = CP at *
  generalize hcv : (ckT T).2 = CV at *
  by_cases hc : CV ≠ 0
  · have HZ2 : Hid (szA T = (0, CV)) := by have := HZ.out; rw [if_pos hc] at this; exact this
    have q1 : (CV != 0) = true := by simpa using hc
    clear HZ HOK hcv
    go_wp2
    go_ret2
    exact ⟨by rw [HZ2.out]; rfl, HB2.out⟩
  · obtain rfl : CV = 0 := by omega
    have HZ2 : Hid (szA T = (24 + tbT T, 0)) := by have := HZ.out; rw [if_neg hc] at this; exact this
    have htb := HOK.out rfl
    have htb0 := tb_nonneg (f + 1) w _ T HA.out
    have y0 := HN2.out.c0
    have y1 := HN2.out.c1
    have y2 := HN2.out.c2
    have y3 := HN2.out.c3
    have TB : Hid (∀ W, Below w2.heap.size w2 W → Calls Try.prog 30 #[.agg #[.int .i64 k, .bool e, .string t, .slice x n c]] W fun e w' => e = .returned (.int .i64 (tbT T)) ∧ Below W.heap.size W w') := fun W hW => treeBytes_any (f + 1) _ T W (HA.out.below (HB2.out.trans (hW.mono HB2.out.size))) (smT_sz T HSM.out) (by omega)
    have FL : Hid (∀ (W : World) (H : Nat), W.cell? ⟨H, 0, none⟩ = some (.string ⟨#[100, 101, 112, 111, 116, 45, 97, 114, 99, 104, 105, 118, 101, 45, 49]⟩) → Calls Try.prog 29 #[.slice (some ⟨H, 0, none⟩) 1 1] W fun e w' => e = .returned (.int .i64 24) ∧ w' = W) := fun W H hH => by
      have h := tframed_any (some ⟨H, 0, none⟩) 1 [⟨#[100, 101, 112, 111, 116, 45, 97, 114, 99, 104, 105, 118, 101, 45, 49]⟩] W (fun j hj => ⟨H, 0, rfl, World.block_lt_of_cell? _ _ hH, by
        have hj0 : j = 0 := by simp at hj; omega
        subst hj0
        exact hH⟩) (by decide) (by intro s hs; simp only [List.mem_cons, List.not_mem_nil, or_false] at hs; subst hs; decide)
      rw [frw7] at h
      exact h
    have hs1 : IntKind.i64.wrap (24 + tbT T) = 24 + tbT T := by rw [IntKind.wrap_i64]; omega
    have bA : Below w2.heap.size w2 w2.drew := (Below.refl _ _).drew
    have bB : Below w2.heap.size w2 (w2.alloc (.cells #[.string ⟨#[100, 101, 112, 111, 116, 45, 97, 114, 99, 104, 105, 118, 101, 45, 49]⟩] 9)).drew := ((Below.refl _ _).alloc (Nat.le_refl _) _).drew
    have bC : (w2.alloc (.cells #[.string ⟨#[100, 101, 112, 111, 116, 45, 97, 114, 99, 104, 105, 118, 101, 45, 49]⟩] 9)).drew.cell? ⟨w2.heap.size, 0, none⟩ = some (.string ⟨#[100, 101, 112, 111, 116, 45, 97, 114, 99, 104, 105, 118, 101, 45, 49]⟩) := World.cell?_alloc_new w2 _ _ 0
    clear HZ HOK hcv HSM hc
    generalize tbT T = TBV at *
    go_upto_region 4 with fail
    go_region_held3 (fun W => W.cell? ⟨w.heap.size, 0, none⟩ = some (.int .i64 k) ∧ W.cell? ⟨w.heap.size, 1, none⟩ = some (.bool e) ∧ W.cell? ⟨w.heap.size, 2, none⟩ = some (.string t) ∧ W.cell? ⟨w.heap.size, 3, none⟩ = some (.slice x n c))
      (first | go_keep | exact ⟨y0, y1, y2, y3⟩ | exact N6.out)
      (first
        | (have mk := b7; go_at_call 29; refine (FL.out _ _ b7).mono ?_; rintro e5 w5 ⟨rfl, rfl⟩)
        | (have mk := B6; go_at_call 29; refine (FL.out _ _ (World.cell?_alloc_new w6 _ _ 0)).mono ?_; rintro e5 w5 ⟨rfl, rfl⟩)
        | (go_at_call 29; refine (FL.out _ _ bC).mono ?_; rintro e5 w5 ⟨rfl, rfl⟩)
        | (go_at_call 30; refine (TB.out _ bB).mono ?_; rintro e6 w6 ⟨rfl, b6⟩; have b7 := (b6.cell (p := ⟨w2.heap.size, 0, none⟩) (by show w2.heap.size < (w2.alloc _).heap.size; rw [World.size_alloc]; omega)).trans bC; have B6 : Hid (Below w.heap.size w w6) := HB2.out.trans ((bB.trans (b6.mono bB.size)).mono HB2.out.size)
           have N6 : Hid (w6.cell? ⟨w.heap.size, 0, none⟩ = some (.int .i64 k) ∧ w6.cell? ⟨w.heap.size, 1, none⟩ = some (.bool e) ∧ w6.cell? ⟨w.heap.size, 2, none⟩ = some (.string t) ∧ w6.cell? ⟨w.heap.size, 3, none⟩ = some (.slice x n c)) := by
             have hh := (bB.trans (b6.mono bB.size)).block w.heap.size (heap_lt HN2.out)
             exact ⟨NB.c0 (hh.trans HN2.out), NB.c1 (hh.trans HN2.out), NB.c2 (hh.trans HN2.out), NB.c3 (hh.trans HN2.out)⟩)
        | (go_at_call 30; refine (TB.out _ bA).mono ?_; rintro e6 w6 ⟨rfl, b6⟩; have B6 : Hid (Below w.heap.size w w6) := HB2.out.trans ((bA.trans (b6.mono bA.size)).mono HB2.out.size)
           have N6 : Hid (w6.cell? ⟨w.heap.size, 0, none⟩ = some (.int .i64 k) ∧ w6.cell? ⟨w.heap.size, 1, none⟩ = some (.bool e) ∧ w6.cell? ⟨w.heap.size, 2, none⟩ = some (.string t) ∧ w6.cell? ⟨w.heap.size, 3, none⟩ = some (.slice x n c)) := by
             have hh := (bA.trans (b6.mono bA.size)).block w.heap.size (heap_lt HN2.out)
             exact ⟨NB.c0 (hh.trans HN2.out), NB.c1 (hh.trans HN2.out), NB.c2 (hh.trans HN2.out), NB.c3 (hh.trans HN2.out)⟩))
    all_goals go_wp2
    all_goals go_ret2
    all_goals exact ⟨by rw [HZ2.out]; rfl, by first | exact B6.out | exact B6.out.alloc B6.out.size _⟩

end Go.Proofs.Ytpbgmknebhnonab
