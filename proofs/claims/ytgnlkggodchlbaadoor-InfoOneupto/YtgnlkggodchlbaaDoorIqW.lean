/- The law InfoOne walked. -/
import Derived.Test.YtgnlkggodchlbaaDoorIpC
import Derived.Test.YtgnlkggodchlbaaDoorIoF
namespace Go.Proofs.YtgnlkggodchlbaaDoor
open Go.RowKit Go.Shelf

theorem pz_len (k : Nat) : ∀ (t : ByteArray) (n : Nat) (s : IS), t.size < k → (pz k t n s).1.S.length ≤ s.S.length + t.size := by
  induction k with
  | zero => intro t n s h; omega
  | succ k ih =>
    intro t n s hk
    by_cases hd : 4 ≤ n ∧ t.size = 0
    · rw [pz_done hd]; exact Nat.le_add_right _ _
    · cases hf : ctF t 10
      · rw [pz_open hd hf]; exact Nat.zero_le _
      · have hsz := ctB_lt hf
        by_cases hq : tkC s n (ctA t 10) = 0
        · rw [pz_next hd hf hq]
          have := ih (ctB t 10) (n + 1) (tkS s n (ctA t 10)) (by omega)
          have := tkS_len s n (ctA t 10)
          omega
        · rw [pz_bad hd hf hq]; exact Nat.zero_le _
theorem pz_err (k : Nat) : ∀ (t : ByteArray) (n : Nat) (s : IS), (pz k t n s).2.1 ≠ 0 → (pz k t n s).1 = IS.zero := by
  induction k with
  | zero => intro t n s h; exact absurd rfl h
  | succ k ih =>
    intro t n s h
    by_cases hd : 4 ≤ n ∧ t.size = 0
    · rw [pz_done hd] at h; exact absurd rfl h
    · cases hf : ctF t 10
      · rw [pz_open hd hf]
      · by_cases hq : tkC s n (ctA t 10) = 0
        · rw [pz_next hd hf hq] at h ⊢; exact ih _ _ _ h
        · rw [pz_bad hd hf hq]
theorem orC_0 {a b : Int} (h : orC a b = 0) : a = 0 ∧ b = 0 := by
  by_cases ha : a = 0
  · rw [orC_z ha] at h; exact ⟨ha, h⟩
  · rw [orC_n ha] at h; exact absurd h ha
theorem signs_small {P : ByteArray} {z : Int} {fr : Nat → ByteArray} {nr : Nat} {F : ByteArray} {fs : Nat → ByteArray} {ns : Nat} (h : ckC P z fr nr F fs ns = 0) (i : Nat) (hi : i < ns) : (fs i).size ≤ 85 := by
  have h2 := (orC_0 h).2
  unfold ssC at h2
  split at h2
  · rename_i g
    have h3 := (g i hi).1
    unfold snC at h3
    split at h3
    · rename_i g3; exact snOk_max g3
    · cases h3
  · cases h2
theorem sm_zero (fr fs fr' fs' : Nat → ByteArray) : smB ⟨#[]⟩ (fun _ => 0) 0 fr 0 ⟨#[]⟩ fs 0 ⟨#[]⟩ (fun _ => 0) 0 fr' 0 ⟨#[]⟩ fs' 0 = true := by
  unfold smB
  rw [eqT_all (fun i hi => absurd hi (by omega)), eqT_all (fun i hi => absurd hi (by omega))]
  decide +kernel
theorem wpList_load_infG {ops : Array Oper} {rest : List Oper} {o : Oper} {a : Act} {w : World} {Q : Exit → Act → World → Prop} {g : Nat} {P : ByteArray} {D : Nat → Int} {z : Int} {vr : Value} {F : ByteArray} {vs : Value} (hgd : Region.wanted o (yielded ops a.tmps) = true) (x : Operand) (ho : o.op = .load 26 x)
    (hx : a.eval x = .pointer (some ⟨g, 0, none⟩)) (h : Inf w g P D z vr F vs) (hK : wpList Tryd.prog ops Q rest (a.put o.dst (.agg (infC P D z vr F vs))) w) : wpList Tryd.prog ops Q (o :: rest) a w :=
  wpList_load_midG hgd 26 x ho g 0 hx (infL P D z vr F vs) _ h.range Tryd.underlying26 rfl (by rw [szINF]; exact congrArg some (infC_size P D z vr F vs).symm) hK

theorem wpList_load_rg {ops : Array Oper} {rest : List Oper} {o : Oper} {a : Act} {w : World} {Q : Exit → Act → World → Prop} {g : Nat} {P : ByteArray} {D : Nat → Int} {z : Int} {vr : Value} {F : ByteArray} {vs : Value} (hgd : Region.wanted o (yielded ops a.tmps) = true) (x : Operand) (ho : o.op = .load 26 x)
    (hx : a.eval x = .pointer (some ⟨g, 0, none⟩)) (h : w.rangeAt g 0 (infL P D z vr F vs)) (hK : wpList Tryd.prog ops Q rest (a.put o.dst (.agg (infC P D z vr F vs))) w) : wpList Tryd.prog ops Q (o :: rest) a w :=
  wpList_load_midG hgd 26 x ho g 0 hx (infL P D z vr F vs) _ h Tryd.underlying26 rfl (by rw [szINF]; exact congrArg some (infC_size P D z vr F vs).symm) hK
theorem range_same {w w' : World} {g : Nat} {L : List Value} (h : w.rangeAt g 0 L) (e : w'.heap[g]? = w.heap[g]?) : w'.rangeAt g 0 L := fun j u hj =>
  (World.cell?_of_block (w := w) (w' := w') (a := ⟨g, 0 + j, none⟩) e).trans (h j u hj)

set_option maxRecDepth 100000 in
set_option maxHeartbeats 4000000 in
theorem ione_walk (text : ByteArray) (w : World) (ht : text.size ≤ 1048576) (hT : PT w) :
    Calls Tryd.prog 6 #[.string text] w fun e w' => e = .returned (.bool true) ∧ Below w.heap.size w w' := by
  have HT : Hid (PT w) := hT
  have CA := iaw_any w hT
  have CP := fun W => iparse_any text W (by omega)
  have O1 := one_form text
  have O2 := pz_err (text.size + 1) text 0 IS.zero
  have O3 := pz_len (text.size + 1) text 0 IS.zero (by omega)
  change (PZ text).2.1 ≠ 0 → (PZ text).1 = IS.zero at O2
  change (PZ text).1.S.length ≤ 0 + text.size at O3
  generalize PZ text = pr at CP O1 O2 O3
  obtain ⟨s, c, at_⟩ := pr
  clear hT
  go_enter Tryd.func6, Tryd.ntmps6
  go_wp2_with fail
  refine CA.mono ?_
  clear CA
  rintro e w1 ⟨rfl, b1⟩
  go_wp2_with fail
  refine (CP w1).mono ?_
  clear CP
  rintro e w2 ⟨⟨vr, vs, rfl, OR, OS, _⟩, b2⟩
  obtain ⟨xr, cr, rfl, hcr, SR⟩ := OR.shape
  obtain ⟨xs, cz, rfl, hcz, SS⟩ := OS.shape
  have B2 : Hid (Below w.heap.size w w2) := b1.trans (b2.mono b1.size)
  clear b1 b2 OR OS
  have J0 : Inf ((w2.alloc (.cells (infC ⟨#[]⟩ (fun _ => 0) 0 (.slice none 0 0) ⟨#[]⟩ (.slice none 0 0)) 26)).alloc (.cells #[.int .i64 0, .int .i64 0] 42)) w2.heap.size ⟨#[]⟩ (fun _ => 0) 0 (.slice none 0 0) ⟨#[]⟩ (.slice none 0 0) := (Inf.box _ _ _ _ _ _ _ _).same (Below.heap_alloc _ _ _ (by rw [World.size_alloc]; omega))
  have F0 : Hid (Row .i64 ((w2.alloc (.cells (infC ⟨#[]⟩ (fun _ => 0) 0 (.slice none 0 0) ⟨#[]⟩ (.slice none 0 0)) 26)).alloc (.cells #[.int .i64 0, .int .i64 0] 42)) (w2.heap.size + 1) 2 (fun _ => 0)) := by
    have := Row.arr (k := .i64) (w := w2.alloc (.cells (infC ⟨#[]⟩ (fun _ => 0) 0 (.slice none 0 0) ⟨#[]⟩ (.slice none 0 0)) 26)) (e := 42) (C := #[.int .i64 0, .int .i64 0]) (n := 2) (f := fun _ => 0) (fun j hj => by rcases (show j = 0 ∨ j = 1 from by omega) with rfl | rfl <;> rfl)
    rw [World.size_alloc] at this
    exact this
  have B0 : Hid (Below w2.heap.size w2 ((w2.alloc (.cells (infC ⟨#[]⟩ (fun _ => 0) 0 (.slice none 0 0) ⟨#[]⟩ (.slice none 0 0)) 26)).alloc (.cells #[.int .i64 0, .int .i64 0] 42))) := ((Below.refl _ _).alloc (Nat.le_refl _) _).alloc (by rw [World.size_alloc]; omega) _
  have z0 : Hid (w2.heap.size + 2 = ((w2.alloc (.cells (infC ⟨#[]⟩ (fun _ => 0) 0 (.slice none 0 0) ⟨#[]⟩ (.slice none 0 0)) 26)).alloc (.cells #[.int .i64 0, .int .i64 0] 42)).heap.size) := by unfold Hid; rw [World.size_alloc, World.size_alloc]
  go_wp2_with (refine wpList_store_inf (by rfl) (.tmp 3) (.tmp 12) (by rfl) (by rfl) (by rfl) J0 rfl rfl (by rfl) ?_; intro W5 R5 U5; refine Hid.out ?_)
  unfold Hid
  have F5 : Row .i64 W5 (w2.heap.size + 1) 2 (fun _ => 0) := F0.out.upd U5 (by have := z0.out; omega) (by omega)
  have B5 : Hid (Below w2.heap.size w2 W5) := U5.below B0.out (Nat.le_refl _) B0.out.size
  have z5 : Hid (w2.heap.size + 2 = W5.heap.size) := by unfold Hid; rw [U5.size]; exact z0.out
  have d0 := F5.cell 0 (by omega)
  have d1 := F5.cell 1 (by omega)
  have g0 := F5.free 0 (by omega)
  have g1 := F5.free 1 (by omega)
  have F6 : Hid (Row .i64 ((W5.setCell ⟨w2.heap.size + 1, 0, none⟩ (.int .i64 c)).setCell ⟨w2.heap.size + 1, 1, none⟩ (.int .i64 at_)) (w2.heap.size + 1) 2 (fun j => if j = 1 then (at_ : Int) else if j = 0 then c else 0)) := (F5.set 0 c (by omega)).set 1 at_ (by omega)
  have R6 : Hid (((W5.setCell ⟨w2.heap.size + 1, 0, none⟩ (.int .i64 c)).setCell ⟨w2.heap.size + 1, 1, none⟩ (.int .i64 at_)).rangeAt w2.heap.size 0 (infL s.P s.D s.z (.slice xr s.R.length cr) s.F (.slice xs s.S.length cz))) := range_set (range_set R5 _ _ _ (by omega)) _ _ _ (by omega)
  have B6 : Hid (Below w2.heap.size w2 ((W5.setCell ⟨w2.heap.size + 1, 0, none⟩ (.int .i64 c)).setCell ⟨w2.heap.size + 1, 1, none⟩ (.int .i64 at_))) := (B5.out.setCell (by show _ ≤ w2.heap.size + 1; omega) _).setCell (by show _ ≤ w2.heap.size + 1; omega) _
  have z6 : Hid (w2.heap.size + 2 = ((W5.setCell ⟨w2.heap.size + 1, 0, none⟩ (.int .i64 c)).setCell ⟨w2.heap.size + 1, 1, none⟩ (.int .i64 at_)).heap.size) := by unfold Hid; rw [World.size_setCell, World.size_setCell]; exact z5.out
  clear J0 F0 R5 U5 F5 B5 z5 B0 z0
  by_cases hc : c = 0
  · subst hc
    obtain ⟨q1, q2⟩ := O1 rfl
    have SZ := fun i hi => signs_small q1 i hi
    have SR6 : Hid (SIs _ xr s.R.length (Sq.nth s.R)) := SR.below B6.out (Nat.le_refl _)
    have SS6 : Hid (SIs _ xs s.S.length (Sq.nth s.S)) := SS.below B6.out (Nat.le_refl _)
    have T6 : Hid (PT _) := HT.out.below (B2.out.trans (B6.out.mono B2.out.size))
    have e1 : (text.toList == text.toList) = true := by simp
    clear O1 O2
    go_wp2_with (refine wpList_load_rg (by rfl) (.tmp 3) (by rfl) (by rfl) R6.out ?_; refine Hid.out ?_)
    unfold Hid
    generalize (W5.setCell ⟨w2.heap.size + 1, 0, none⟩ (.int .i64 0)).setCell ⟨w2.heap.size + 1, 1, none⟩ (.int .i64 at_) = W6 at F6 R6 B6 z6 SR6 SS6 T6 ⊢
    have CP := print_any s.P s.D s.z s.F xr s.R.length cr (Sq.nth s.R) xs s.S.length cz (Sq.nth s.S) W6 SR6.out SS6.out hcz (by have h3 : s.S.length ≤ 0 + text.size := O3; omega) (fun i hi => by have := SZ i hi; omega) T6.out
    have CC := fun W (b : Below W6.heap.size W6 W) => ick_any s.P s.D s.z s.F xr s.R.length cr (Sq.nth s.R) xs s.S.length cz (Sq.nth s.S) W (SR6.out.below b (Nat.le_refl _)) (SS6.out.below b (Nat.le_refl _)) hcz (by have h3 : s.S.length ≤ 0 + text.size := O3; omega) (fun i hi => by have := SZ i hi; omega)
    rw [q1, prS_z rfl, q2] at CP
    rw [q1] at CC
    go_wp2_with fail
    refine CP.mono ?_
    clear CP
    rintro e w7 ⟨rfl, b7⟩
    have R7 : Hid (w7.rangeAt w2.heap.size 0 (infL s.P s.D s.z (.slice xr s.R.length cr) s.F (.slice xs s.S.length cz))) := range_same R6.out (b7.block _ (by have := z6.out; omega))
    have B7 : Hid (Below w.heap.size w w7) := (B2.out.trans (B6.out.mono B2.out.size)).trans (b7.mono (by have := B2.out.size; have := B6.out.size; omega))
    have CC7 := CC w7 b7
    clear CC q1 q2 SZ F6 R6 B6 SR6 SS6 T6
    go_wp2_with (refine wpList_load_rg (by rfl) (.tmp 3) (by rfl) (by rfl) R7.out ?_)
    refine CC7.mono ?_
    clear CC7
    rintro e w8 ⟨rfl, b8⟩
    have B8 : Hid (Below w.heap.size w w8) := B7.out.trans (b8.mono B7.out.size)
    go_wp2
    go_ret
    exact ⟨rfl, B8.out⟩
  · have hc' : (c != 0) = true := by rw [bne_iff_ne]; exact hc
    have es := O2 hc
    obtain rfl : s = IS.zero := es
    have SR6 : Hid (SIs _ xr 0 (Sq.nth [])) := SR.below B6.out (Nat.le_refl _)
    have SS6 : Hid (SIs _ xs 0 (Sq.nth [])) := SS.below B6.out (Nat.le_refl _)
    have ha : (0 : Int) ≤ (at_ : Int) := by omega
    have f1 := F6.out.cell 1 (by omega)
    clear O1 O2
    go_wp2_with (refine wpList_load_rg (by rfl) (.tmp 3) (by rfl) (by rfl) R6.out ?_; refine Hid.out ?_)
    unfold Hid
    generalize (W5.setCell ⟨w2.heap.size + 1, 0, none⟩ (.int .i64 c)).setCell ⟨w2.heap.size + 1, 1, none⟩ (.int .i64 at_) = W6 at F6 R6 B6 z6 SR6 SS6 f1 ⊢
    have CS := same_any ⟨#[]⟩ (fun _ => 0) 0 ⟨#[]⟩ xr 0 cr (Sq.nth []) xs 0 cz (Sq.nth []) ⟨#[]⟩ (fun _ => 0) 0 ⟨#[]⟩ none 0 0 (Sq.nth []) none 0 0 (Sq.nth []) W6 SR6.out SS6.out (fun i hi => absurd hi (by omega)) (fun i hi => absurd hi (by omega)) (by omega) (by omega) (by omega) (by omega)
    rw [sm_zero] at CS
    go_wp2_with fail
    rw [inf_zero]
    refine CS.mono ?_
    clear CS
    rintro e w7 ⟨rfl, b7⟩
    have f2 : w7.cell? ⟨w2.heap.size + 1, 1, none⟩ = some (.int .i64 at_) := (World.cell?_of_block (w := W6) (w' := w7) (a := ⟨w2.heap.size + 1, 1, none⟩) (b7.block (w2.heap.size + 1) (by have := z6.out; omega))).trans f1
    have B7 : Hid (Below w.heap.size w w7) := (B2.out.trans (B6.out.mono B2.out.size)).trans (b7.mono (by have := B2.out.size; have := B6.out.size; omega))
    go_wp2
    go_ret
    exact ⟨rfl, B7.out⟩

end Go.Proofs.YtgnlkggodchlbaaDoor
