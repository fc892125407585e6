/- Split; awake. -/
import Derived.Test.YtjlbbnjcdickgabWrF
import Derived.Test.YtjlbbnjcdickgabWrN
import Derived.Laws.IdiomStrings
namespace Go.Proofs.Ytjlbbnjcdickgab
open Go.RowKit

theorem rsNew_ok (l : List UInt8) (m : Nat) (hm : m ≤ 9223372036854775807) : (rsNew l m).off = true ∨ (rsNew l m).Inv := by
  unfold rsNew
  split
  · exact .inl (RS.fl_off _ _ _ (by decide))
  · exact .inr (RS.beg_Inv rfl rfl rfl hm (Nat.le_refl 0))
theorem rsNew_tk (l : List UInt8) (m : Nat) : (rsNew l m).tk = 0 ∧ (rsNew l m).out = [] := by
  unfold rsNew
  split
  · exact ⟨rfl, rfl⟩
  · unfold rs0
    cases l <;> exact ⟨rfl, rfl⟩

/-- A reader's end. -/
def sp (tl pl : List UInt8) (m : Nat) : RS := ((rsNew pl m).run tl).shut
theorem shut_out (s : RS) : s.shut.out = s.out := by
  unfold RS.shut
  split <;> rfl

theorem RS.beg_cf (s : RS) : s.beg.code = s.code ∧ s.beg.fat = s.fat := by
  obtain ⟨tk, code, fat, plan, most, cl, ph, lack, word, tx, out⟩ := s
  cases plan <;> exact ⟨rfl, rfl⟩
theorem RS.adv_cf (s : RS) : s.adv.code = s.code ∧ s.adv.fat = s.fat := by
  unfold RS.adv
  split
  · exact ⟨rfl, rfl⟩
  · unfold RS.fin
    split
    · exact RS.beg_cf _
    · split
      · exact ⟨rfl, rfl⟩
      · split
        · exact ⟨rfl, rfl⟩
        · exact RS.beg_cf _
theorem RS.step_cf (s : RS) (b : UInt8) (h : s.code = 0 → s.fat = 0) : (s.step b).code = 0 → (s.step b).fat = 0 := by
  unfold RS.step RS.take
  have e1 := RS.adv_cf s
  have e2 := RS.adv_cf (s.tput b)
  have e3 := RS.adv_cf (s.wput b)
  split
  · exact h
  split
  · exact fun h => absurd h (show ¬ 5 = 0 by decide)
  split
  · split
    · rw [e1.1, e1.2]; exact h
    · exact fun h => absurd h (show ¬ 7 = 0 by decide)
  split
  · rw [e2.1, e2.2]; exact h
  split
  · exact fun h => absurd h (show ¬ 6 = 0 by decide)
  · rw [e3.1, e3.2]; exact h
theorem RS.run_cf (s : RS) (l : List UInt8) (h : s.code = 0 → s.fat = 0) : (s.run l).code = 0 → (s.run l).fat = 0 := by
  induction l generalizing s with
  | nil => exact h
  | cons b l ih => rw [RS.run_cons]; exact ih _ (RS.step_cf s b h)
theorem sp_fat (tl pl : List UInt8) (m : Nat) : (sp tl pl m).code = 0 → (sp tl pl m).fat = 0 := by
  have h : ((rsNew pl m).run tl).code = 0 → ((rsNew pl m).run tl).fat = 0 := RS.run_cf _ _ (by
    unfold rsNew
    split
    · exact fun h => absurd h (show ¬ 30 = 0 by decide)
    · have := RS.beg_cf (rs0 pl m)
      rw [this.2]
      exact fun _ => rfl)
  unfold sp RS.shut
  split
  · exact fun h => absurd h (show ¬ 4 = 0 by decide)
  · exact h

theorem OwnI.mono {w : World} {B B' : Nat} {v : Value} {L : List It} (h : OwnI w B v L) (hB : B' ≤ B) : OwnI w B' v L := by
  obtain ⟨hl, h | ⟨g, cap, cur, hv, hb, hr⟩⟩ := h
  · exact ⟨hl, .inl h⟩
  · exact ⟨hl, .inr ⟨g, cap, cur, hv, by omega, hr⟩⟩

theorem PSl.conv (w : World) (tl : List UInt8) (g : Nat) (v : Value) (hg : g < w.heap.size) (hv : ∀ k, v.ownBlock = some k → k < w.heap.size) : ∃ c w', (convert 9 32 (.string (ba tl))).run Try.prog w = .ok (.slice (some ⟨w.heap.size, 0, none⟩) tl.length c) w' ∧ PSl w' g v (some ⟨w.heap.size, 0, none⟩) tl ∧ Below w.heap.size w w' := by
  have h0 := run_bytes_of_string (P := Try.prog) w 9 32 5 (ba tl) Try.underlying9 Try.underlying32 Try.underlying5
  rw [ba_size] at h0
  refine ⟨_, _, h0, .inr ⟨_, 0, rfl, by omega, fun e => by have := hv _ e; omega, by rw [World.size_alloc]; show w.heap.size < w.heap.size + 1; omega, fun j hj => ?_⟩, ((Below.refl _ _).drew).alloc (Nat.le_refl _) _⟩
  rw [Nat.zero_add]
  have h1 := World.cell?_alloc_mark w.drew (bytesRow (ba tl) (grownCap w tl.length 0 5)) 5 ((bytesRow (ba tl) (grownCap w tl.length 0 5)).size, (bytesRow (ba tl) (grownCap w tl.length 0 5)).size + 1) j
  refine h1.trans ?_
  have hj' : j < (ba tl).size := by rw [ba_size]; exact hj
  rw [bytesRow_at (ba tl) _ j hj']
  rfl

set_option maxHeartbeats 1000000 in
theorem split_any (tl pl : List UInt8) (most : Int) (w : World) (ht : tl.length ≤ 1073741824) (hl : pl.length ≤ 1073741824) (hm1 : most ≤ 9223372036854775807) :
    Calls Try.prog 9 #[.string (ba tl), .string (ba pl), .int .i64 most] w fun e w' => ∃ r L, e = .returned (.tuple #[r, .agg #[.int .i64 ((sp tl pl most.toNat).code : Int), .int .i64 ((sp tl pl most.toNat).fat : Int)]]) ∧ OwnI w' w.heap.size r L ∧ ((sp tl pl most.toNat).code = 0 → L = (sp tl pl most.toNat).out) ∧ ((sp tl pl most.toNat).code ≠ 0 → L = [] ∧ r = .slice none 0 0) ∧ Below w.heap.size w w' := by
  go_enter Try.func9, Try.ntmps9
  go_wp2_with fail
  refine (newReader_any pl most _ hl hm1).mono ?_
  rintro e w1 ⟨rfl, R1, b1⟩
  rw [World.size_alloc] at R1 b1 ⊢
  have HR1 : Hid (Rd w1 (w.heap.size + 1) (.slice none 0 0) (rsNew pl most.toNat)) := R1
  obtain ⟨c, w2, hcv, hP, b2⟩ := PSl.conv w1 tl (w.heap.size + 1) (.slice none 0 0) R1.lt (fun k h => by cases h)
  clear R1
  go_wp2_with fail
  have hs0 := rsNew_tk pl most.toNat
  have R2 := HR1.out.below b2
  have b1s := b1.size
  rw [World.size_alloc] at b1s
  refine (feed_any (w.heap.size + 1) (.slice none 0 0) (rsNew pl most.toNat) _ c tl w2 R2 (rsNew_ok pl most.toNat (by omega)) hP (by rw [hs0.1]; omega)).mono ?_
  rintro e w3 ⟨v3, r, L, rfl, R3, I3, M3, O3, hout, hsep⟩
  rw [hs0.2, List.nil_append] at hout
  have HR3 : Hid (Rd w3 (w.heap.size + 1) v3 ((rsNew pl most.toNat).run tl)) := R3
  have hg2 : w.heap.size + 1 < w2.heap.size := R2.lt
  have HO3 : Hid (OwnI w3 w2.heap.size r L) := O3
  have HM3 : Hid (Mv w2 w3 (w.heap.size + 1) (.slice none 0 0) v3) := M3
  have HSE : Hid (∀ k, r.ownBlock = some k → v3.ownBlock ≠ some k) := hsep
  have HL : Hid (L = (sp tl pl most.toNat).out) := by unfold Hid sp; rw [shut_out, hout]
  have Hb1 : Hid (Below (w.heap.size + 1) (w.alloc (.cells #[.int .i64 0, .int .i64 0] 29)) w1) := b1
  have Hb2 : Hid (Below w1.heap.size w1 w2) := b2
  have HG2 : Hid (w.heap.size + 1 < w2.heap.size) := hg2
  have HB1S : Hid (w.heap.size + 1 ≤ w1.heap.size) := b1s
  clear R3 M3 O3 I3 hsep hout b1 b2 R2 hcv hP hs0 hg2 b1s
  go_wp2_with fail
  refine (close_any (w.heap.size + 1) v3 _ w3 HR3.out).mono ?_
  rintro e w4 ⟨v4, rfl, R4, M4⟩
  have HO4 : Hid (OwnI w4 w2.heap.size r L) := HO3.out.mv M4 HG2.out HSE.out
  have eG : w4.heap[w.heap.size]? = (w.alloc (.cells #[.int .i64 0, .int .i64 0] 29)).heap[w.heap.size]? := by
    have h2 := HG2.out
    have h3 := HB1S.out
    have n3 : v3.ownBlock ≠ some w.heap.size := fun e => (HM3.out.new _ e).elim (fun h => by cases h) (fun h => by omega)
    rw [M4.block _ (by have := HM3.out.size; omega) (by omega) n3, HM3.out.block _ (by omega) (by omega) (by simp [Value.ownBlock]), Hb2.out.block _ (by omega), Hb1.out.block _ (by omega)]
  have x0 : w4.cell? ⟨w.heap.size, 0, none⟩ = some (.int .i64 0) := (World.cell?_of_block (w := w.alloc (.cells #[.int .i64 0, .int .i64 0] 29)) (a := ⟨w.heap.size, 0, none⟩) eG).trans ((World.cell?_alloc_new w _ _ 0).trans rfl)
  have x1 : w4.cell? ⟨w.heap.size, 1, none⟩ = some (.int .i64 0) := (World.cell?_of_block (w := w.alloc (.cells #[.int .i64 0, .int .i64 0] 29)) (a := ⟨w.heap.size, 1, none⟩) eG).trans ((World.cell?_alloc_new w _ _ 1).trans rfl)
  have z0 : w4.frozen? ⟨w.heap.size, 0, none⟩ = false := (World.frozen?_of_block (w := w.alloc (.cells #[.int .i64 0, .int .i64 0] 29)) (a := ⟨w.heap.size, 0, none⟩) eG).trans (World.frozen?_alloc_new w _ _ _)
  have z1 : w4.frozen? ⟨w.heap.size, 1, none⟩ = false := (World.frozen?_of_block (w := w.alloc (.cells #[.int .i64 0, .int .i64 0] 29)) (a := ⟨w.heap.size, 1, none⟩) eG).trans (World.frozen?_alloc_new w _ _ _)
  have B4 : Hid (Below w.heap.size w w4) := by
    have h2 := HG2.out
    have h3 := HB1S.out
    have ba : Below w.heap.size w (w.alloc (.cells #[.int .i64 0, .int .i64 0] 29)) := (Below.refl _ _).alloc (Nat.le_refl _) _
    have bm : Below w.heap.size w2 w3 := HM3.out.keeps _ (by omega) (by omega) (fun k h => by cases h)
    have bn : Below w.heap.size w3 w4 := M4.keeps _ (by have := HM3.out.size; omega) (by omega) (fun k h => (HM3.out.new k h).elim (fun h => by cases h) (fun h => by omega))
    exact (((ba.trans (Hb1.out.mono (by omega))).trans (Hb2.out.mono (by omega))).trans bm).trans bn
  have HZ : Hid (w.heap.size < w4.heap.size ∧ w.heap.size + 1 < w2.heap.size ∧ w2.heap.size ≤ w4.heap.size) := ⟨by have := HM3.out.size; have := M4.size; have := HG2.out; omega, HG2.out, Nat.le_trans HM3.out.size M4.size⟩
  have hw4 : w.heap.size < w4.heap.size := HZ.out.1
  have hw4n : w.heap.size ≠ w4.heap.size := by omega
  have hw4m : w4.heap.size ≠ w.heap.size := by omega
  clear R4 M4 eG HR3 HO3 HM3 HSE Hb1 Hb2 HG2 HB1S HR1
  rw [show ((rsNew pl most.toNat).run tl).shut = sp tl pl most.toNat from rfl]
  obtain ⟨S, hS⟩ : ∃ S, sp tl pl most.toNat = S := ⟨_, rfl⟩
  have HSP : Hid (sp tl pl most.toNat = S) := hS
  have HF : Hid (S.code = 0 → S.fat = 0) := hS ▸ sp_fat tl pl most.toNat
  rw [hS] at HL ⊢
  clear hS
  have ap1 : ∀ (i j : Nat) (x y : Value) (C : Array Value), w.heap.size < w4.heap.size → (((w4.setCell ⟨w.heap.size, 0, none⟩ x).setCell ⟨w.heap.size, 1, none⟩ y).alloc (.cells C 29)).cell? ⟨w.heap.size, j, none⟩ = ((w4.setCell ⟨w.heap.size, 0, none⟩ x).setCell ⟨w.heap.size, 1, none⟩ y).cell? ⟨w.heap.size, j, none⟩ := fun _ j x y C h =>
    World.cell?_alloc_old _ _ _ (by simp; omega)
  have HA : Hid (∀ (i j : Nat) (x y : Value) (C : Array Value), w.heap.size < w4.heap.size → (((w4.setCell ⟨w.heap.size, 0, none⟩ x).setCell ⟨w.heap.size, 1, none⟩ y).alloc (.cells C 29)).cell? ⟨w.heap.size, j, none⟩ = ((w4.setCell ⟨w.heap.size, 0, none⟩ x).setCell ⟨w.heap.size, 1, none⟩ y).cell? ⟨w.heap.size, j, none⟩) := ap1
  clear ap1
  by_cases h0 : S.code = 0
  · rw [h0]
    go_wp2
    have ap1 := HA.out 0
    have q0 : ((((w4.setCell ⟨w.heap.size, 0, none⟩ (.int .i64 0)).setCell ⟨w.heap.size, 1, none⟩ (.int .i64 0)).alloc (.cells #[.int .i64 0, .int .i64 (S.fat : Int)] 29))).cell? ⟨w.heap.size, 0, none⟩ = some (.int .i64 0) := by
      refine Eq.trans (ap1 _ _ _ _ hw4) ?_
      rw [cell_other _ _ 0 1 _ (by decide)]
      exact World.cell?_setCell_same _ _ _ x0
    have q1 : ((((w4.setCell ⟨w.heap.size, 0, none⟩ (.int .i64 0)).setCell ⟨w.heap.size, 1, none⟩ (.int .i64 0)).alloc (.cells #[.int .i64 0, .int .i64 (S.fat : Int)] 29))).cell? ⟨w.heap.size, 1, none⟩ = some (.int .i64 0) := by
      refine Eq.trans (ap1 _ _ _ _ hw4) ?_
      exact World.cell?_setCell_same _ _ _ ((cell_other _ _ 1 0 _ (by decide)).trans x1)
    have B5 : Hid (Below w.heap.size w ((((w4.setCell ⟨w.heap.size, 0, none⟩ (.int .i64 0)).setCell ⟨w.heap.size, 1, none⟩ (.int .i64 0)).alloc (.cells #[.int .i64 0, .int .i64 (S.fat : Int)] 29)))) := (((B4.out.setCell (Nat.le_refl _) _).setCell (Nat.le_refl _) _).alloc (by simp; omega) _)
    have O5 : Hid (OwnI ((((w4.setCell ⟨w.heap.size, 0, none⟩ (.int .i64 0)).setCell ⟨w.heap.size, 1, none⟩ (.int .i64 0)).alloc (.cells #[.int .i64 0, .int .i64 (S.fat : Int)] 29))) w.heap.size r L) := ((((HO4.out.same (fun k hk => Below.heap_setCell w4 ⟨w.heap.size, 0, none⟩ _ k (by have := (HO4.out.lt k hk).1; have := HZ.out; show k ≠ w.heap.size; omega))).same (fun k hk => Below.heap_setCell (w4.setCell _ _) ⟨w.heap.size, 1, none⟩ _ k (by have := (HO4.out.lt k hk).1; have := HZ.out; show k ≠ w.heap.size; omega)))).alloc _).mono (by have := HZ.out; omega)
    generalize (((w4.setCell ⟨w.heap.size, 0, none⟩ (.int .i64 0)).setCell ⟨w.heap.size, 1, none⟩ (.int .i64 0)).alloc (.cells #[.int .i64 0, .int .i64 (S.fat : Int)] 29)) = W5 at q0 q1 B5 O5 ⊢
    refine bodyPost_ret (v := .tuple #[r, .agg #[.int .i64 0, .int .i64 0]]) (by simp [results, Try.results9, go_sem, q0, q1]) rfl ⟨r, L, ?_, O5.out, fun _ => by rw [HL.out, HSP.out], fun h => absurd (by rw [HSP.out]; exact h0) h, B5.out⟩
    rw [HSP.out, h0, HF.out h0]
    rfl
  · have g0 : ((S.code : Int) == 0) = false := by simp; omega
    go_wp2
    go_region
    have ap1 := HA.out 0
    have q0 : ((((w4.setCell ⟨w.heap.size, 0, none⟩ (.int .i64 (S.code : Int))).setCell ⟨w.heap.size, 1, none⟩ (.int .i64 (S.fat : Int))).alloc (.cells #[.int .i64 (S.code : Int), .int .i64 (S.fat : Int)] 29)).drew).cell? ⟨w.heap.size, 0, none⟩ = some (.int .i64 (S.code : Int)) := by
      refine Eq.trans (ap1 _ _ _ _ hw4) ?_
      rw [cell_other _ _ 0 1 _ (by decide)]
      exact World.cell?_setCell_same _ _ _ x0
    have q1 : ((((w4.setCell ⟨w.heap.size, 0, none⟩ (.int .i64 (S.code : Int))).setCell ⟨w.heap.size, 1, none⟩ (.int .i64 (S.fat : Int))).alloc (.cells #[.int .i64 (S.code : Int), .int .i64 (S.fat : Int)] 29)).drew).cell? ⟨w.heap.size, 1, none⟩ = some (.int .i64 (S.fat : Int)) := by
      refine Eq.trans (ap1 _ _ _ _ hw4) ?_
      exact World.cell?_setCell_same _ _ _ ((cell_other _ _ 1 0 _ (by decide)).trans x1)
    have B5 : Hid (Below w.heap.size w ((((w4.setCell ⟨w.heap.size, 0, none⟩ (.int .i64 (S.code : Int))).setCell ⟨w.heap.size, 1, none⟩ (.int .i64 (S.fat : Int))).alloc (.cells #[.int .i64 (S.code : Int), .int .i64 (S.fat : Int)] 29)).drew)) := (((B4.out.setCell (Nat.le_refl _) _).setCell (Nat.le_refl _) _).alloc (by simp; omega) _).drew
    have O5 : Hid (OwnI ((((w4.setCell ⟨w.heap.size, 0, none⟩ (.int .i64 (S.code : Int))).setCell ⟨w.heap.size, 1, none⟩ (.int .i64 (S.fat : Int))).alloc (.cells #[.int .i64 (S.code : Int), .int .i64 (S.fat : Int)] 29)).drew) w.heap.size (.slice none 0 0) []) := OwnI.nil _ _
    generalize (((w4.setCell ⟨w.heap.size, 0, none⟩ (.int .i64 (S.code : Int))).setCell ⟨w.heap.size, 1, none⟩ (.int .i64 (S.fat : Int))).alloc (.cells #[.int .i64 (S.code : Int), .int .i64 (S.fat : Int)] 29)).drew = W5 at q0 q1 B5 O5 ⊢
    go_wp2
    refine bodyPost_ret (v := .tuple #[.slice none 0 0, .agg #[.int .i64 (S.code : Int), .int .i64 (S.fat : Int)]]) (by simp [results, Try.results9, go_sem, q0, q1]) rfl ⟨.slice none 0 0, [], ?_, O5.out, fun h => absurd (by rw [HSP.out] at h; exact h) h0, fun _ => ⟨rfl, rfl⟩, B5.out⟩
    rw [HSP.out]

end Go.Proofs.Ytjlbbnjcdickgab
