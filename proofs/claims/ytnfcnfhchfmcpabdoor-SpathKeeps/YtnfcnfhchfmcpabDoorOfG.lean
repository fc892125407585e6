/- (*sha.State).Sum, walked. -/
import Derived.Test.YtnfcnfhchfmcpabDoorOfF
namespace Go.Proofs.YtnfcnfhchfmcpabDoor
open Go.RowKit
/-- A State's cells. -/
def sl (n : Int) (h f : Nat → Int) : List Value := Value.int .i64 n :: ((List.range 8).map (fun i => Value.int .u32 (h i)) ++ (List.range 64).map (fun i => Value.int .u8 (f i)))
theorem sl_length (n : Int) (h f : Nat → Int) : (sl n h f).length = 73 := by simp [sl]
theorem sl_size (n : Int) (h f : Nat → Int) : (sl n h f).toArray.size = 73 := by rw [List.size_toArray, sl_length]
theorem sl_zero (n : Int) (h f : Nat → Int) : (sl n h f)[0]? = some (.int .i64 n) := rfl
theorem sl_word (n : Int) (h f : Nat → Int) (j : Nat) (hj : j < 8) : (sl n h f)[1 + j]? = some (.int .u32 (h j)) := by
  unfold sl
  rw [Nat.add_comm 1 j, List.getElem?_cons_succ, List.getElem?_append_left (by simp; omega)]
  simp [hj]
theorem sl_byte (n : Int) (h f : Nat → Int) (j : Nat) (hj : j < 64) : (sl n h f)[9 + j]? = some (.int .u8 (f j)) := by
  unfold sl
  rw [show 9 + j = (8 + j) + 1 from by omega, List.getElem?_cons_succ, List.getElem?_append_right (by simp)]
  simp [hj]
theorem Stt.range {w : World} {g : Nat} {n : Int} {h f : Nat → Int} (s : Stt w g n h f) : w.rangeAt g 0 (sl n h f) := fun j v hv => by
  have hj : j < 73 := by
    have := (List.getElem?_eq_some_iff.1 hv).1
    rw [sl_length] at this; exact this
  rw [Nat.zero_add]
  by_cases h0 : j = 0
  · subst h0; rw [s.c0, ← hv]; rfl
  · by_cases h1 : j < 9
    · obtain ⟨i, rfl⟩ : ∃ i, j = 1 + i := ⟨j - 1, by omega⟩
      rw [s.cw i (by omega), ← hv, sl_word n h f i (by omega)]
    · obtain ⟨i, rfl⟩ : ∃ i, j = 9 + i := ⟨j - 9, by omega⟩
      rw [s.cb i (by omega), ← hv, sl_byte n h f i (by omega)]
theorem Stt.of_range {w : World} {g : Nat} {n : Int} {h f : Nat → Int} (r : w.rangeAt g 0 (sl n h f)) (fr : ∀ j, j < 73 → w.frozen? ⟨g, j, none⟩ = false) : Stt w g n h f :=
  ⟨by have := r 0 _ (sl_zero n h f); simpa using this, fun j hj => by have := r (1 + j) _ (sl_word n h f j hj); simpa using this, fun j hj => by have := r (9 + j) _ (sl_byte n h f j hj); simpa using this, fr⟩
theorem sl_one (n : Int) (h f : Nat → Int) : (sl n h f).toArray.all (·.oneCell') = true := by
  apply all_oneCell_toArray
  intro v hv
  unfold sl at hv
  simp only [List.mem_cons, List.mem_append, List.mem_map] at hv
  rcases hv with rfl | ⟨_, _, rfl⟩ | ⟨_, _, rfl⟩ <;> rfl
theorem zst_get (j : Nat) (hj : j < 73) : (zst[j]?).isSome = true := by rw [Array.getElem?_eq_getElem (by rw [zst_size]; exact hj)]; rfl
theorem there_zst (w : World) : (w.alloc (.cells zst 54)).there w.heap.size 0 73 := fun j hj => by
  rw [Nat.zero_add, World.cell?_alloc_new]
  exact ⟨zst_get j hj, World.frozen?_alloc_new w _ _ _⟩
theorem Tryd.size54 : (Tryd.prog.info? 54).map (·.size) = some 73 := by kernel_rfl

/-- Behind the copy. -/
structure Cp (w : World) (g : Nat) (n : Int) (h f : Nat → Int) (W : World) : Prop where
  old : Stt W g n h f
  new : Stt W (w.heap.size + 1) n h f
  res : Row .u8 W w.heap.size 32 (fun _ => 0)
  bel : Below w.heap.size w W
  sz : w.heap.size + 1 + 1 ≤ W.heap.size
theorem there_zst2 (w : World) (o : Obj) : ((w.alloc o).alloc (.cells zst 54)).there (w.heap.size + 1) 0 73 := by
  have := there_zst (w.alloc o)
  rw [World.size_alloc] at this
  exact this
theorem cp_of (w : World) (C : Array Value) (hC : C = Array.replicate 32 (.int .u8 0)) (g : Nat) (n : Int) (h f : Nat → Int) (S : Stt w g n h f) :
    Cp w g n h f (((w.alloc (.cells C 28)).alloc (.cells zst 54)).setCells (w.heap.size + 1) 0 (sl n h f)) := by
  have hs : (w.alloc (.cells C 28)).heap.size = w.heap.size + 1 := World.size_alloc _ _
  have th := there_zst2 w (.cells C 28)
  have B : Below w.heap.size w ((w.alloc (.cells C 28)).alloc (.cells zst 54)) := ((Below.refl _ _).alloc (Nat.le_refl _) _).alloc (by rw [hs]; omega) _
  have R : Row .u8 ((w.alloc (.cells C 28)).alloc (.cells zst 54)) w.heap.size 32 (fun _ => 0) := (Row.rep hC).alloc (by rw [hs]; omega) _
  refine ⟨?_, ?_, ?_, ?_, ?_⟩
  · exact (S.below B S.lt).same (World.heap_setCells_other _ _ _ _ (by rw [World.size_alloc, hs]; have := S.lt; omega) (by have := S.lt; omega))
  · refine Stt.of_range (World.rangeAt_setCells_same _ _ _ _ (by rw [sl_length]; exact th)) (fun j hj => ?_)
    rw [World.frozen?_setCells]
    have := (th j hj).2
    rw [Nat.zero_add] at this
    exact this
  · exact R.same (World.heap_setCells_other _ _ _ _ (by rw [World.size_alloc, hs]; omega) (by omega))
  · exact setCells_below _ (by omega) _ _ _ _ B
  · have := (gb_setCells ((w.alloc (.cells C 28)).alloc (.cells zst 54)) (w.heap.size + 1) 0 (sl n h f)).size
    rw [World.size_alloc, hs] at this
    omega

theorem wpList_store_copy {ops : Array Oper} {rest : List Oper} {o : Oper} {a : Act} {w : World} {Q : Exit → Act → World → Prop} (hgd : o.guard = none) (ho : o.op = .store 54 (.tmp 3) (.tmp 6)) (w0 : World) (C : Array Value) (hC : C = Array.replicate 32 (.int .u8 0))
    (hw : w = (w0.alloc (.cells C 28)).alloc (.cells zst 54)) (g : Nat) (n : Int) (h f : Nat → Int) (hx : a.eval (.tmp 3) = .pointer (some ⟨w0.heap.size + 1, 0, none⟩)) (hy : a.eval (.tmp 6) = .agg (sl n h f).toArray) (hdst : o.dst = none) (S : Stt w0 g n h f)
    (hK : ∀ W, Cp w0 g n h f W → wpList Tryd.prog ops Q rest a W) : wpList Tryd.prog ops Q (o :: rest) a w := by
  subst hw
  refine wpList_store_mid hgd 54 (.tmp 3) (.tmp 6) ho (w0.heap.size + 1) 0 (sl n h f).toArray hx hy (by rw [sl_size]; exact there_zst2 _ _) (by rw [Tryd.size54, sl_size]) (sl_one _ _ _) ?_
  rw [hdst]
  exact hK _ (cp_of w0 C hC g n h f S)

set_option maxRecDepth 100000 in
set_option maxHeartbeats 1000000 in
theorem sum_any (g N : Nat) (m f : Nat → Int) (w : World) (S : Stt w g N (hw m (N / 64)) f) (hf : FB m N f) (hm : ∀ i, i < (padStr N).size → m (N + i) = bt (padStr N) i) (hN : N ≤ 1152921504606846976) (hK : KT w) (hg : 0 < g) :
    Calls Tryd.prog 16 #[.pointer (some ⟨g, 0, none⟩)] w fun e w' => e = .returned (.agg (cs .u8 32 (dg (hw m ((N + (padStr N).size) / 64))))) ∧ Below w.heap.size w w' := by
  have q1 := run_zero_st
  have q2 := zst_size
  have HF : Hid (FB m N f) := hf
  have HM : Hid (∀ i, i < (padStr N).size → m (N + i) = bt (padStr N) i) := hm
  have HS : Hid (Stt w g N (hw m (N / 64)) f) := S
  have HKT : Hid (KT w) := hK
  have hgl : g < w.heap.size := S.lt
  clear hf hm hK S
  generalize hH : hw m (N / 64) = H at *
  have HH : Hid (hw m (N / 64) = H) := hH
  clear hH
  go_enter Tryd.func16, Tryd.ntmps16
  go_wp2_with (first
    | (refine wpList_load_mid (by rfl) 54 (.tmp 5) (by rfl) g 0 (by rfl) (sl N H f) _ (Stt.range (HS.out.same (Below.heap_alloc _ _ g hgl))) Tryd.underlying54 rfl (by rw [Tryd.size54, sl_length]) ?_)
    | (refine wpList_store_copy (by rfl) (by rfl) w _ rfl rfl g N H f (by rfl) (by rfl) (by rfl) HS.out ?_; intro W1 CP1; have c0 := CP1.old.c0; clear q1 q2))
  refine (pad_all (N : Int) _ (by omega)).mono ?_
  rintro e w2 ⟨rfl, b2⟩
  have KT2 : KT w2 := (HKT.out.grown (gb_below CP1.bel (some g)) hg).grown (gb_below b2 (some g)) hg
  have S2 : Stt w2 (w.heap.size + 1) N (hw m (N / 64)) f := by rw [HH.out]; exact CP1.new.below b2 (by have := CP1.sz; omega)
  have R2 : Row .u8 w2 w.heap.size 32 (fun _ => 0) := CP1.res.below b2 (by have := CP1.sz; omega)
  have B2 : Below w.heap.size w w2 := CP1.bel.trans (b2.mono (by have := CP1.sz; omega))
  have z2 : w.heap.size + 1 + 1 ≤ w2.heap.size := by have := CP1.sz; have := b2.size; omega
  have hps : (padStr (N : Int)).size ≤ 72 := by rw [padStr_size N]; omega
  clear b2 CP1 c0 HKT HS
  go_wp2_with fail
  refine (writeText_any (w.heap.size + 1) N (padStr (N : Int)) m f w2 S2 HF.out HM.out (by omega) KT2 (by omega)).mono ?_
  rintro e w3 ⟨rfl, ⟨f', S3, _⟩, G3⟩
  have R3 : Row .u8 w3 w.heap.size 32 (fun _ => 0) := R2.same (G3.block _ (by omega) (by simp))
  have B3 : Below w.heap.size w w3 := B2.trans ⟨G3.os, G3.tape, G3.output, G3.size, fun k hk => G3.block k (by omega) (by simp; omega)⟩
  have z3 : w.heap.size + 1 + 1 ≤ w3.heap.size := by have := G3.size; omega
  clear S2 R2 B2 z2 G3 KT2 HF HM
  generalize hH2 : hw m ((N + (padStr (N : Int)).size) / 64) = H2 at S3 ⊢
  have HW2 : Hid (∀ j, W32 (H2 j)) := fun j => by rw [← hH2]; exact hw_w _ _ _
  have HH2 : Hid (hw m ((N + (padStr (N : Int)).size) / 64) = H2) := hH2
  clear hH2 HH
  go_wp2_with (first
    | (refine wpList_load_mid (by rfl) 48 (.tmp 14) (by rfl) (w.heap.size + 1) 1 (by rfl) (cs .u32 8 H2).toList _ S3.rangeW Tryd.underlying48 rfl (by rw [Tryd.sz48]; simp [cs_size]) ?_; rw [Array.toArray_toList])
    | fail)
  refine (digestOf_any H2 _ HW2.out).mono ?_
  rintro e w4 ⟨rfl, b4⟩
  have R4 : Row .u8 w4 w.heap.size 32 (fun _ => 0) := R3.below b4 (by omega)
  have B4 : Below w.heap.size w w4 := B3.trans (b4.mono (by omega))
  have z4 : w.heap.size < w4.heap.size := by have := b4.size; omega
  clear R3 B3 b4 S3 z3
  go_wp2_with (refine wpList_store_any (by rfl) 28 (.tmp 2) (.tmp 16) (by rfl) w.heap.size (by rfl) (by rfl) R4 Tryd.sz28 (by rfl) ?_; intro W5 R5 U5)
  exact bodyPost_ret (results_arr Tryd.results16 _ _ rfl R5 Tryd.und28 Tryd.sz28) rfl ⟨by rw [HH2.out], U5.below B4 (Nat.le_refl _) (by omega)⟩

end Go.Proofs.YtnfcnfhchfmcpabDoor
