/- TkD TkO Utf, gathered (own text of the verifier; made by joint.py). -/
import Derived.Test.YtmknnblogfpifaaDoorYF
import Derived.Test.YtmknnblogfpifaaDoorTvO
import Derived.Test.YtmknnblogfpifaaDoorRows
namespace Go.Proofs.YtmknnblogfpifaaDoor
open Go.ChangeAt Go.ChangeShapes Go.RowKit Go.WideShapes

/-- Two trees, cloned, each in a box. -/
structure KF (w1 : World) (T U : Tr) (Ga Gb : Nat) (ya : Option Addr) (ca : Nat) (fa : List Nat) (yb : Option Addr) (cb : Nat) (fb : List Nat) (w : World) : Prop where
  bel : Below w1.heap.size w1 w
  ba : w.heap[Ga]? = some (.cells #[Value.int IntKind.i64 T.k, Value.bool T.e, Value.string T.t, Value.slice ya T.nms.length ca] 25 (0, 0))
  bb : w.heap[Gb]? = some (.cells #[Value.int IntKind.i64 U.k, Value.bool U.e, Value.string U.t, Value.slice yb U.nms.length cb] 25 (0, 0))
  ta : TrV w w1.heap.size T (.slice ya T.nms.length ca) fa ∧ fa.Nodup
  tb : TrV w w1.heap.size U (.slice yb U.nms.length cb) fb ∧ fb.Nodup
  ab : ∀ b ∈ fb, b ∉ fa
  ga : w1.heap.size ≤ Ga ∧ Ga < w.heap.size ∧ Ga ∉ fa ∧ Ga ∉ fb
  gb : w1.heap.size ≤ Gb ∧ Gb < w.heap.size ∧ Gb ∉ fa ∧ Gb ∉ fb

theorem KF.made {w0 w1 w : World} {T U : Tr} {Ga Gb : Nat} {ya : Option Addr} {ca : Nat} {fa : List Nat} {yb : Option Addr} {cb : Nat} {fb : List Nat} (ha : TrV w0 w1.heap.size T (.slice ya T.nms.length ca) fa ∧ fa.Nodup) (hb : TrV w0 w1.heap.size U (.slice yb U.nms.length cb) fb ∧ fb.Nodup) (hab : ∀ b ∈ fb, b ∉ fa) (bel : Below w1.heap.size w1 w) (ba : w.heap[Ga]? = some (.cells #[Value.int IntKind.i64 T.k, Value.bool T.e, Value.string T.t, Value.slice ya T.nms.length ca] 25 (0, 0))) (bb : w.heap[Gb]? = some (.cells #[Value.int IntKind.i64 U.k, Value.bool U.e, Value.string U.t, Value.slice yb U.nms.length cb] 25 (0, 0)))
    (ga : w1.heap.size ≤ Ga ∧ Ga < w0.heap.size ∧ Ga ∉ fa ∧ Ga ∉ fb) (gb : w1.heap.size ≤ Gb ∧ Gb < w0.heap.size ∧ Gb ∉ fa ∧ Gb ∉ fb) (hk : ∀ x, x ≠ Ga → x ≠ Gb → w.heap[x]? = w0.heap[x]?) (hs : w0.heap.size ≤ w.heap.size) : KF w1 T U Ga Gb ya ca fa yb cb fb w :=
  ⟨bel, ba, bb, ⟨TrV.same _ _ _ ha.1 (fun b hm => hk b (fun e => ga.2.2.1 (by rw [← e]; exact hm)) (fun e => gb.2.2.1 (by rw [← e]; exact hm))), ha.2⟩, ⟨TrV.same _ _ _ hb.1 (fun b hm => hk b (fun e => ga.2.2.2 (by rw [← e]; exact hm)) (fun e => gb.2.2.2 (by rw [← e]; exact hm))), hb.2⟩, hab, ⟨ga.1, Nat.lt_of_lt_of_le ga.2.1 hs, ga.2.2⟩, ⟨gb.1, Nat.lt_of_lt_of_le gb.2.1 hs, gb.2.2⟩⟩

set_option maxHeartbeats 32000000 in
set_option maxRecDepth 10000 in
theorem keeps_walk (f fu : Nat) (k : Int) (e : Bool) (t : ByteArray) (z : Option Addr) (n cz : Nat) (T : Tr) (p : ByteArray) (ku : Int) (eu : Bool) (tu : ByteArray) (zu : Option Addr) (nu czu : Nat) (U : Tr) (w : World) (hA : At w f (.agg #[Value.int IntKind.i64 k, Value.bool e, Value.string t, Value.slice z n cz]) T) (hS : smT T) (hL : lnB 1048576 T) (hp : p.size ≤ 1048576) (hU : At w fu (.agg #[Value.int IntKind.i64 ku, Value.bool eu, Value.string tu, Value.slice zu nu czu]) U) (hSU : smT U) (hLU : lnB 1048576 U) :
    Calls Tryd.prog 6 #[.agg #[Value.int IntKind.i64 k, Value.bool e, Value.string t, Value.slice z n cz], .string p, .agg #[Value.int IntKind.i64 ku, Value.bool eu, Value.string tu, Value.slice zu nu czu]] w fun en w' => en = .returned (.bool true) ∧ Below w.heap.size w w' := by
  have HH : Hid (At w f (.agg #[Value.int IntKind.i64 k, Value.bool e, Value.string t, Value.slice z n cz]) T ∧ smT T ∧ wfT T ∧ At w fu (.agg #[Value.int IntKind.i64 ku, Value.bool eu, Value.string tu, Value.slice zu nu czu]) U ∧ smT U ∧ wfT U ∧ lnB 1048576 T ∧ lnB 1048576 U) := ⟨hA, hS, At.wf _ _ _ hA, hU, hSU, At.wf _ _ _ hU, hL, hLU⟩
  clear hA hS hU hSU hL hLU
  go_enter Tryd.func6, Tryd.ntmps6
  go_wp2_with fail
  have hs1 : (w.alloc (Obj.cells #[Value.int IntKind.i64 k, Value.bool e, Value.string t, Value.slice z n cz] 25)).heap.size = w.heap.size + 1 := World.size_alloc _ _
  have b1 : Below w.heap.size w (w.alloc (Obj.cells #[Value.int IntKind.i64 k, Value.bool e, Value.string t, Value.slice z n cz] 25)) := (Below.refl _ _).alloc (Nat.le_refl _) _
  have b2 : Below (w.alloc (Obj.cells #[Value.int IntKind.i64 k, Value.bool e, Value.string t, Value.slice z n cz] 25)).heap.size (w.alloc (Obj.cells #[Value.int IntKind.i64 k, Value.bool e, Value.string t, Value.slice z n cz] 25)) ((w.alloc (Obj.cells #[Value.int IntKind.i64 k, Value.bool e, Value.string t, Value.slice z n cz] 25)).alloc (Obj.cells #[Value.int IntKind.i64 ku, Value.bool eu, Value.string tu, Value.slice zu nu czu] 25)) := (Below.refl _ _).alloc (Nat.le_refl _) _
  have HB0 : Hid (Below w.heap.size w ((w.alloc (Obj.cells #[Value.int IntKind.i64 k, Value.bool e, Value.string t, Value.slice z n cz] 25)).alloc (Obj.cells #[Value.int IntKind.i64 ku, Value.bool eu, Value.string tu, Value.slice zu nu czu] 25))) := b1.trans (b2.mono b1.size)
  have HT : Hid (((w.alloc (Obj.cells #[Value.int IntKind.i64 k, Value.bool e, Value.string t, Value.slice z n cz] 25)).alloc (Obj.cells #[Value.int IntKind.i64 ku, Value.bool eu, Value.string tu, Value.slice zu nu czu] 25)).heap[w.heap.size]? = some (.cells #[Value.int IntKind.i64 k, Value.bool e, Value.string t, Value.slice z n cz] 25 (0, 0))) := (b2.block _ (by rw [hs1]; omega)).trans (heap_alloc_new _ _)
  have HU : Hid (((w.alloc (Obj.cells #[Value.int IntKind.i64 k, Value.bool e, Value.string t, Value.slice z n cz] 25)).alloc (Obj.cells #[Value.int IntKind.i64 ku, Value.bool eu, Value.string tu, Value.slice zu nu czu] 25)).heap[w.heap.size + 1]? = some (.cells #[Value.int IntKind.i64 ku, Value.bool eu, Value.string tu, Value.slice zu nu czu] 25 (0, 0))) := by
    show ((w.alloc (Obj.cells #[Value.int IntKind.i64 k, Value.bool e, Value.string t, Value.slice z n cz] 25)).alloc (Obj.cells #[Value.int IntKind.i64 ku, Value.bool eu, Value.string tu, Value.slice zu nu czu] 25)).heap[w.heap.size + 1]? = _
    rw [← hs1]; exact heap_alloc_new _ _
  have HK : Hid (((w.alloc (Obj.cells #[Value.int IntKind.i64 k, Value.bool e, Value.string t, Value.slice z n cz] 25)).alloc (Obj.cells #[Value.int IntKind.i64 ku, Value.bool eu, Value.string tu, Value.slice zu nu czu] 25)).heap.size = w.heap.size + 1 + 1) := by
    show ((w.alloc (Obj.cells #[Value.int IntKind.i64 k, Value.bool e, Value.string t, Value.slice z n cz] 25)).alloc (Obj.cells #[Value.int IntKind.i64 ku, Value.bool eu, Value.string tu, Value.slice zu nu czu] 25)).heap.size = _
    rw [World.size_alloc, hs1]
  clear hs1 b1 b2
  obtain ⟨GT, hGT⟩ : ∃ GT, w.heap.size = GT := ⟨_, rfl⟩
  have HGT : Hid (w.heap.size = GT) := hGT
  obtain ⟨GU, hGU⟩ : ∃ GU, GT + 1 = GU := ⟨_, rfl⟩
  rw [hGT] at HT HU HK ⊢
  rw [hGU] at HU HK ⊢
  have HGU : Hid (GT + 1 = GU) := hGU
  clear hGT hGU
  generalize ((w.alloc (Obj.cells #[Value.int IntKind.i64 k, Value.bool e, Value.string t, Value.slice z n cz] 25)).alloc (Obj.cells #[Value.int IntKind.i64 ku, Value.bool eu, Value.string tu, Value.slice zu nu czu] 25)) = w1 at *
  have HS : Hid (∀ W, Below w1.heap.size w1 W → W.cell? ⟨GT, 0, none⟩ = some (.int .i64 k) ∧ W.cell? ⟨GT, 1, none⟩ = some (.bool e) ∧ W.cell? ⟨GT, 2, none⟩ = some (.string t) ∧ W.cell? ⟨GT, 3, none⟩ = some (.slice z n cz) ∧ W.cell? ⟨GU, 0, none⟩ = some (.int .i64 ku) ∧ W.cell? ⟨GU, 1, none⟩ = some (.bool eu) ∧ W.cell? ⟨GU, 2, none⟩ = some (.string tu) ∧ W.cell? ⟨GU, 3, none⟩ = some (.slice zu nu czu)) := fun W b => by
    obtain ⟨a0, a1, a2, a3, _⟩ := cell4 ((b.block GT (heap_lt HT.out)).trans HT.out)
    obtain ⟨c0, c1, c2, c3, _⟩ := cell4 ((b.block GU (heap_lt HU.out)).trans HU.out)
    exact ⟨a0, a1, a2, a3, c0, c1, c2, c3⟩
  refine (awake_any w1).mono ?_
  rintro en w2 ⟨rfl, b2⟩
  have HB2 : Below w1.heap.size w1 w2.drew := b2.trans ⟨rfl, rfl, rfl, Nat.le_refl _, fun _ _ => rfl⟩
  clear b2
  go_upto_region 3 with fail
  go_cut [7, 8] from 23 to 26 (fun v7 v8 wx => ∃ Ga Gb ya ca fa yb cb fb, v7 = .pointer (some ⟨Ga, 0, none⟩) ∧ v8 = .pointer (some ⟨Gb, 0, none⟩) ∧ Hid (KF w1 T U Ga Gb ya ca fa yb cb fb wx))
  case first =>
    refine wp_region_held_drew (S := (fun W : World => W.cell? ⟨GT, 0, none⟩ = some (.int .i64 k) ∧ W.cell? ⟨GT, 1, none⟩ = some (.bool e) ∧ W.cell? ⟨GT, 2, none⟩ = some (.string t) ∧ W.cell? ⟨GT, 3, none⟩ = some (.slice z n cz) ∧ W.cell? ⟨GU, 0, none⟩ = some (.int .i64 ku) ∧ W.cell? ⟨GU, 1, none⟩ = some (.bool eu) ∧ W.cell? ⟨GU, 2, none⟩ = some (.string tu) ∧ W.cell? ⟨GU, 3, none⟩ = some (.slice zu nu czu))) (by kernel_rfl) (HS.out w2.drew HB2) (fun _ => ?_)
    have N0 : (fun W : World => W.cell? ⟨GT, 0, none⟩ = some (.int .i64 k) ∧ W.cell? ⟨GT, 1, none⟩ = some (.bool e) ∧ W.cell? ⟨GT, 2, none⟩ = some (.string t) ∧ W.cell? ⟨GT, 3, none⟩ = some (.slice z n cz) ∧ W.cell? ⟨GU, 0, none⟩ = some (.int .i64 ku) ∧ W.cell? ⟨GU, 1, none⟩ = some (.bool eu) ∧ W.cell? ⟨GU, 2, none⟩ = some (.string tu) ∧ W.cell? ⟨GU, 3, none⟩ = some (.slice zu nu czu)) w2.drew := HS.out w2.drew HB2
    have HB : Hid (Below w1.heap.size w1 w2.drew) := HB2
    clear HB2
    generalize w2.drew = wd at *
    refine wpAnyH_take (i := 0) (oi := { dst := some 23, op := Op.load 25 (Operand.tmp 3), type := 25, pos := "law.go:225", after := #[], guard := none }) (v := .agg #[Value.int IntKind.i64 k, Value.bool e, Value.string t, Value.slice z n cz]) rfl (by kernel_rfl) (by kernel_rfl) (by kernel_rfl) (fun _ _ _ h => h) (Or.inl ⟨by rfl, by rintro w ⟨s0, s1, s2, s3, s4, s5, s6, s7⟩; go_simp⟩) N0 ?_
    try simp only [Act.put, List.setIfInBounds_toArray, List.set_cons_zero, List.set_cons_succ]
    refine wpAnyH_take (i := 2) (oi := { dst := some 25, op := Op.load 25 (Operand.tmp 5), type := 25, pos := "law.go:225", after := #[], guard := none }) (v := .agg #[Value.int IntKind.i64 ku, Value.bool eu, Value.string tu, Value.slice zu nu czu]) rfl (by kernel_rfl) (by kernel_rfl) (by kernel_rfl) (fun _ _ _ h => h) (Or.inl ⟨by rfl, by rintro w ⟨s0, s1, s2, s3, s4, s5, s6, s7⟩; go_simp⟩) N0 ?_
    try simp only [Act.put, List.setIfInBounds_toArray, List.set_cons_zero, List.set_cons_succ]
    refine wpAnyH_ready (rs := [1, 4, 5]) (by kernel_rfl) (by decide) (AllReadyH.cons rfl (fun K1 hK1 => ?_) (AllReadyH.cons rfl (fun K1 hK1 => ?_) (AllReadyH.cons rfl (fun K1 hK1 => ?_) AllReadyH.nil)))
    · rw [if_pos (by rfl)]
      go_simp
      refine (clone_any f _ T wd (HH.out.1.below (HB0.out.trans (HB.out.mono HB0.out.size))) (lnB_ln (by decide) _ HH.out.2.2.2.2.2.2.1)).mono ?_
      rintro en wk1 ⟨⟨xx, fa, rfl, hVx, hNx⟩, bx⟩
      obtain ⟨ya, ca, rfl⟩ := hVx.shape
      have hlx := TrV.lt _ _ _ hVx
      have HA1 : Hid (TrV wk1 w1.heap.size T (.slice ya T.nms.length ca) fa ∧ fa.Nodup) := ⟨TrV.low HB.out.size _ _ _ hVx, hNx⟩
      replace HB : Hid (Below w1.heap.size w1 wk1) := HB.out.trans (bx.mono HB.out.size)
      clear hVx hNx bx hlx
      go_wp2_with fail
      refine hK1.out _ _ (HS.out _ HB.out) (fun _ => ?_)
      clear hK1 K1
      try simp only [Act.put, List.setIfInBounds_toArray, List.set_cons_zero, List.set_cons_succ]
      refine wpAnyH_ready (rs := [3, 4, 5]) (by kernel_rfl) (by decide) (AllReadyH.cons rfl (fun K1 hK1 => ?_) (AllReadyH.cons rfl (fun K1 hK1 => ?_) (AllReadyH.cons rfl (fun K1 hK1 => ?_) AllReadyH.nil)))
      · rw [if_pos (by rfl)]
        go_simp
        refine (clone_any fu _ U wk1 (HH.out.2.2.2.1.below (HB0.out.trans (HB.out.mono HB0.out.size))) (lnB_ln (by decide) _ HH.out.2.2.2.2.2.2.2)).mono ?_
        rintro en wk2 ⟨⟨xx, fb, rfl, hVx, hNx⟩, bx⟩
        obtain ⟨yb, cb, rfl⟩ := hVx.shape
        have hlx := TrV.lt _ _ _ hVx
        have HB1 : Hid (TrV wk2 w1.heap.size U (.slice yb U.nms.length cb) fb ∧ fb.Nodup) := ⟨TrV.low HB.out.size _ _ _ hVx, hNx⟩
        have HAB1 : Hid (∀ b ∈ fb, b ∉ fa) := fun b hb ha => by
          have h1 := (hlx b hb).1
          have h2 := (TrV.lt _ _ _ HA1.out.1 b ha).2
          omega
        replace HA1 : Hid (TrV wk2 w1.heap.size T (.slice ya T.nms.length ca) fa ∧ fa.Nodup) := ⟨TrV.same _ _ _ HA1.out.1 (fun b hb => bx.block b (TrV.lt _ _ _ HA1.out.1 b hb).2), HA1.out.2⟩
        replace HB : Hid (Below w1.heap.size w1 wk2) := HB.out.trans (bx.mono HB.out.size)
        clear hVx hNx bx hlx
        go_wp2_with fail
        refine hK1.out _ _ (HS.out _ HB.out) (fun _ => ?_)
        clear hK1 K1
        try simp only [Act.put, List.setIfInBounds_toArray, List.set_cons_zero, List.set_cons_succ]
        refine wpAnyH_ready (rs := [4, 5]) (by kernel_rfl) (by decide) (AllReadyH.cons rfl (fun K1 hK1 => ?_) (AllReadyH.cons rfl (fun K1 hK1 => ?_) AllReadyH.nil))
        · rw [if_pos (by rfl)]
          have bx : Below wk2.heap.size wk2 (wk2.alloc (.cells #[Value.int IntKind.i64 0, Value.bool false, Value.string ⟨#[]⟩, Value.slice none 0 0] 25)) := (Below.refl _ _).alloc (Nat.le_refl _) _
          have zx : (wk2.alloc (.cells #[Value.int IntKind.i64 0, Value.bool false, Value.string ⟨#[]⟩, Value.slice none 0 0] 25)).heap[wk2.heap.size]? = some (.cells #[Value.int IntKind.i64 0, Value.bool false, Value.string ⟨#[]⟩, Value.slice none 0 0] 25 (0, 0)) := heap_alloc_new _ _
          have lx : wk2.heap.size < (wk2.alloc (.cells #[Value.int IntKind.i64 0, Value.bool false, Value.string ⟨#[]⟩, Value.slice none 0 0] 25)).heap.size := by rw [World.size_alloc]; omega
          have bX : Below w1.heap.size w1 (wk2.alloc (.cells #[Value.int IntKind.i64 0, Value.bool false, Value.string ⟨#[]⟩, Value.slice none 0 0] 25)) := HB.out.trans (bx.mono HB.out.size)
          go_simp
          refine hK1.out _ _ (HS.out _ bX) (fun _ => ?_)
          clear hK1 K1
          try simp only [Act.put, List.setIfInBounds_toArray, List.set_cons_zero, List.set_cons_succ]
          obtain ⟨Ga, hGx⟩ : ∃ Ga, wk2.heap.size = Ga := ⟨_, rfl⟩
          have HSZ : Hid (wk2.heap.size = Ga) := hGx
          have H7 : Hid ((wk2.alloc (.cells #[Value.int IntKind.i64 0, Value.bool false, Value.string ⟨#[]⟩, Value.slice none 0 0] 25)).heap[Ga]? = some (.cells #[Value.int IntKind.i64 0, Value.bool false, Value.string ⟨#[]⟩, Value.slice none 0 0] 25 (0, 0)) ∧ w1.heap.size ≤ Ga ∧ Ga < (wk2.alloc (.cells #[Value.int IntKind.i64 0, Value.bool false, Value.string ⟨#[]⟩, Value.slice none 0 0] 25)).heap.size ∧ Ga ∉ fa ∧ Ga ∉ fb) := ⟨by rw [← HSZ.out]; exact zx, by rw [← HSZ.out]; exact HB.out.size, by rw [← HSZ.out]; exact lx, fun hm => by have h2 := (TrV.lt _ _ _ HA1.out.1 _ hm).2; have h3 := HSZ.out; omega, fun hm => by have h2 := (TrV.lt _ _ _ HB1.out.1 _ hm).2; have h3 := HSZ.out; omega⟩
          replace HA1 : Hid (TrV (wk2.alloc (.cells #[Value.int IntKind.i64 0, Value.bool false, Value.string ⟨#[]⟩, Value.slice none 0 0] 25)) w1.heap.size T (.slice ya T.nms.length ca) fa ∧ fa.Nodup) := ⟨TrV.same _ _ _ HA1.out.1 (fun b hb => bx.block b (TrV.lt _ _ _ HA1.out.1 b hb).2), HA1.out.2⟩
          replace HB1 : Hid (TrV (wk2.alloc (.cells #[Value.int IntKind.i64 0, Value.bool false, Value.string ⟨#[]⟩, Value.slice none 0 0] 25)) w1.heap.size U (.slice yb U.nms.length cb) fb ∧ fb.Nodup) := ⟨TrV.same _ _ _ HB1.out.1 (fun b hb => bx.block b (TrV.lt _ _ _ HB1.out.1 b hb).2), HB1.out.2⟩
          replace HB : Hid (Below w1.heap.size w1 (wk2.alloc (.cells #[Value.int IntKind.i64 0, Value.bool false, Value.string ⟨#[]⟩, Value.slice none 0 0] 25))) := bX
          rw [hGx]
          clear bx zx lx bX hGx HSZ
          generalize wk2.alloc (.cells #[Value.int IntKind.i64 0, Value.bool false, Value.string ⟨#[]⟩, Value.slice none 0 0] 25) = wk3 at *
          refine wpAnyH_ready (rs := [5]) (by kernel_rfl) (by decide) (AllReadyH.cons rfl (fun K1 hK1 => ?_) AllReadyH.nil)
          rw [if_pos (by rfl)]
          have bx : Below wk3.heap.size wk3 (wk3.alloc (.cells #[Value.int IntKind.i64 0, Value.bool false, Value.string ⟨#[]⟩, Value.slice none 0 0] 25)) := (Below.refl _ _).alloc (Nat.le_refl _) _
          have zx : (wk3.alloc (.cells #[Value.int IntKind.i64 0, Value.bool false, Value.string ⟨#[]⟩, Value.slice none 0 0] 25)).heap[wk3.heap.size]? = some (.cells #[Value.int IntKind.i64 0, Value.bool false, Value.string ⟨#[]⟩, Value.slice none 0 0] 25 (0, 0)) := heap_alloc_new _ _
          have lx : wk3.heap.size < (wk3.alloc (.cells #[Value.int IntKind.i64 0, Value.bool false, Value.string ⟨#[]⟩, Value.slice none 0 0] 25)).heap.size := by rw [World.size_alloc]; omega
          have bX : Below w1.heap.size w1 (wk3.alloc (.cells #[Value.int IntKind.i64 0, Value.bool false, Value.string ⟨#[]⟩, Value.slice none 0 0] 25)) := HB.out.trans (bx.mono HB.out.size)
          go_simp
          refine hK1.out _ _ (HS.out _ bX) (fun _ => ?_)
          clear hK1 K1
          try simp only [Act.put, List.setIfInBounds_toArray, List.set_cons_zero, List.set_cons_succ]
          obtain ⟨Gb, hGx⟩ : ∃ Gb, wk3.heap.size = Gb := ⟨_, rfl⟩
          have HSZ : Hid (wk3.heap.size = Gb) := hGx
          have H8 : Hid ((wk3.alloc (.cells #[Value.int IntKind.i64 0, Value.bool false, Value.string ⟨#[]⟩, Value.slice none 0 0] 25)).heap[Gb]? = some (.cells #[Value.int IntKind.i64 0, Value.bool false, Value.string ⟨#[]⟩, Value.slice none 0 0] 25 (0, 0)) ∧ w1.heap.size ≤ Gb ∧ Gb < (wk3.alloc (.cells #[Value.int IntKind.i64 0, Value.bool false, Value.string ⟨#[]⟩, Value.slice none 0 0] 25)).heap.size ∧ Gb ∉ fa ∧ Gb ∉ fb) := ⟨by rw [← HSZ.out]; exact zx, by rw [← HSZ.out]; exact HB.out.size, by rw [← HSZ.out]; exact lx, fun hm => by have h2 := (TrV.lt _ _ _ HA1.out.1 _ hm).2; have h3 := HSZ.out; omega, fun hm => by have h2 := (TrV.lt _ _ _ HB1.out.1 _ hm).2; have h3 := HSZ.out; omega⟩
          have H78 : Hid (Ga ≠ Gb) := fun hh => by have h1 := H7.out.2.2.1; have h2 := HSZ.out; omega
          replace H7 : Hid ((wk3.alloc (.cells #[Value.int IntKind.i64 0, Value.bool false, Value.string ⟨#[]⟩, Value.slice none 0 0] 25)).heap[Ga]? = some (.cells #[Value.int IntKind.i64 0, Value.bool false, Value.string ⟨#[]⟩, Value.slice none 0 0] 25 (0, 0)) ∧ w1.heap.size ≤ Ga ∧ Ga < (wk3.alloc (.cells #[Value.int IntKind.i64 0, Value.bool false, Value.string ⟨#[]⟩, Value.slice none 0 0] 25)).heap.size ∧ Ga ∉ fa ∧ Ga ∉ fb) := ⟨(bx.block _ H7.out.2.2.1).trans H7.out.1, H7.out.2.1, Nat.lt_of_lt_of_le H7.out.2.2.1 bx.size, H7.out.2.2.2⟩
          replace HA1 : Hid (TrV (wk3.alloc (.cells #[Value.int IntKind.i64 0, Value.bool false, Value.string ⟨#[]⟩, Value.slice none 0 0] 25)) w1.heap.size T (.slice ya T.nms.length ca) fa ∧ fa.Nodup) := ⟨TrV.same _ _ _ HA1.out.1 (fun b hb => bx.block b (TrV.lt _ _ _ HA1.out.1 b hb).2), HA1.out.2⟩
          replace HB1 : Hid (TrV (wk3.alloc (.cells #[Value.int IntKind.i64 0, Value.bool false, Value.string ⟨#[]⟩, Value.slice none 0 0] 25)) w1.heap.size U (.slice yb U.nms.length cb) fb ∧ fb.Nodup) := ⟨TrV.same _ _ _ HB1.out.1 (fun b hb => bx.block b (TrV.lt _ _ _ HB1.out.1 b hb).2), HB1.out.2⟩
          replace HB : Hid (Below w1.heap.size w1 (wk3.alloc (.cells #[Value.int IntKind.i64 0, Value.bool false, Value.string ⟨#[]⟩, Value.slice none 0 0] 25))) := bX
          rw [hGx]
          clear bx zx lx bX hGx HSZ
          generalize wk3.alloc (.cells #[Value.int IntKind.i64 0, Value.bool false, Value.string ⟨#[]⟩, Value.slice none 0 0] 25) = wk4 at *
          obtain ⟨u0, u1, u2, u3, uf⟩ := cell4 H7.out.1
          have v0 := uf 0
          have v1 := uf 1
          have v2 := uf 2
          have v3 := uf 3
          clear uf
          refine wpAnyH_ready (rs := [6]) (by kernel_rfl) (by decide) (AllReadyH.cons rfl (fun K1 hK1 => ?_) AllReadyH.nil)
          rw [if_pos (by rfl)]
          go_simp
          have bX : Below w1.heap.size w1 (wk4.setCells Ga 0 [.int .i64 T.k, .bool T.e, .string T.t, .slice ya T.nms.length ca]) := belowE_setCells _ _ _ H7.out.2.1 HB.out
          have NX : (fun W : World => W.cell? ⟨GT, 0, none⟩ = some (.int .i64 k) ∧ W.cell? ⟨GT, 1, none⟩ = some (.bool e) ∧ W.cell? ⟨GT, 2, none⟩ = some (.string t) ∧ W.cell? ⟨GT, 3, none⟩ = some (.slice z n cz) ∧ W.cell? ⟨GU, 0, none⟩ = some (.int .i64 ku) ∧ W.cell? ⟨GU, 1, none⟩ = some (.bool eu) ∧ W.cell? ⟨GU, 2, none⟩ = some (.string tu) ∧ W.cell? ⟨GU, 3, none⟩ = some (.slice zu nu czu)) (wk4.setCells Ga 0 [.int .i64 T.k, .bool T.e, .string T.t, .slice ya T.nms.length ca]) := HS.out _ bX
          refine hK1.out _ _ NX (fun _ => ?_)
          clear hK1 K1
          try simp only [Act.put, List.setIfInBounds_toArray, List.set_cons_zero, List.set_cons_succ]
          have q7 := put4 H7.out.1 (.int .i64 T.k) (.bool T.e) (.string T.t) (.slice ya T.nms.length ca)
          have q8 := (heapE_setCells Ga [.int .i64 T.k, .bool T.e, .string T.t, .slice ya T.nms.length ca] 0 Gb (Ne.symm H78.out) wk4).trans H8.out.1
          have sX : wk4.heap.size ≤ (wk4.setCells Ga 0 [.int .i64 T.k, .bool T.e, .string T.t, .slice ya T.nms.length ca]).heap.size := by rw [sizeE_setCells]; exact Nat.le_refl _
          have kX : ∀ x, x ≠ Ga → (wk4.setCells Ga 0 [.int .i64 T.k, .bool T.e, .string T.t, .slice ya T.nms.length ca]).heap[x]? = wk4.heap[x]? := fun x hx => heapE_setCells Ga _ _ x hx _
          change wpAnyH _ _ _ _ _ _ _ _ (wk4.setCells Ga 0 [.int .i64 T.k, .bool T.e, .string T.t, .slice ya T.nms.length ca])
          have HX : Hid (Below w1.heap.size w1 (wk4.setCells Ga 0 [.int .i64 T.k, .bool T.e, .string T.t, .slice ya T.nms.length ca]) ∧ (wk4.setCells Ga 0 [.int .i64 T.k, .bool T.e, .string T.t, .slice ya T.nms.length ca]).heap[Ga]? = some (.cells #[Value.int IntKind.i64 T.k, Value.bool T.e, Value.string T.t, Value.slice ya T.nms.length ca] 25 (0, 0)) ∧ (wk4.setCells Ga 0 [.int .i64 T.k, .bool T.e, .string T.t, .slice ya T.nms.length ca]).heap[Gb]? = some (.cells #[Value.int IntKind.i64 0, Value.bool false, Value.string ⟨#[]⟩, Value.slice none 0 0] 25 (0, 0)) ∧ wk4.heap.size ≤ (wk4.setCells Ga 0 [.int .i64 T.k, .bool T.e, .string T.t, .slice ya T.nms.length ca]).heap.size ∧ ∀ x, x ≠ Ga → (wk4.setCells Ga 0 [.int .i64 T.k, .bool T.e, .string T.t, .slice ya T.nms.length ca]).heap[x]? = wk4.heap[x]?) := ⟨bX, q7, q8, sX, kX⟩
          clear bX NX q7 q8 sX kX u0 u1 u2 u3 v0 v1 v2 v3
          generalize wk4.setCells Ga 0 [.int .i64 T.k, .bool T.e, .string T.t, .slice ya T.nms.length ca] = wX at *
          obtain ⟨u0, u1, u2, u3, uf⟩ := cell4 HX.out.2.2.1
          have v0 := uf 0
          have v1 := uf 1
          have v2 := uf 2
          have v3 := uf 3
          clear uf
          refine wpAnyH_ready (rs := [7]) (by kernel_rfl) (by decide) (AllReadyH.cons rfl (fun K1 hK1 => ?_) AllReadyH.nil)
          rw [if_pos (by rfl)]
          go_simp
          have bY : Below w1.heap.size w1 (wX.setCells Gb 0 [.int .i64 U.k, .bool U.e, .string U.t, .slice yb U.nms.length cb]) := belowE_setCells _ _ _ H8.out.2.1 HX.out.1
          refine hK1.out _ _ (HS.out _ bY) (fun _ => ?_)
          clear hK1 K1
          refine wpAnyH_done (by kernel_rfl) ?_ _
          (try go_wp2_with fail)
          go_meet
          refine ⟨Ga, Gb, ya, ca, fa, yb, cb, fb, rfl, rfl, ?_⟩
          have sY : wX.heap.size = (wX.setCells Gb 0 [.int .i64 U.k, .bool U.e, .string U.t, .slice yb U.nms.length cb]).heap.size := by rw [sizeE_setCells]
          have kY : ∀ x, x ≠ Ga → x ≠ Gb → (wX.setCells Gb 0 [.int .i64 U.k, .bool U.e, .string U.t, .slice yb U.nms.length cb]).heap[x]? = wk4.heap[x]? := fun x hx hx' => (heapE_setCells Gb _ _ x hx' _).trans (HX.out.2.2.2.2 x hx)
          exact KF.made HA1.out HB1.out HAB1.out bY ((heapE_setCells Gb [.int .i64 U.k, .bool U.e, .string U.t, .slice yb U.nms.length cb] 0 Ga H78.out wX).trans HX.out.2.1) (put4 HX.out.2.2.1 _ _ _ _) H7.out.2 H8.out.2 kY (Nat.le_trans HX.out.2.2.2.1 (Nat.le_of_eq sY))
        · rw [if_pos (by rfl)]
          have bx : Below wk2.heap.size wk2 (wk2.alloc (.cells #[Value.int IntKind.i64 0, Value.bool false, Value.string ⟨#[]⟩, Value.slice none 0 0] 25)) := (Below.refl _ _).alloc (Nat.le_refl _) _
          have zx : (wk2.alloc (.cells #[Value.int IntKind.i64 0, Value.bool false, Value.string ⟨#[]⟩, Value.slice none 0 0] 25)).heap[wk2.heap.size]? = some (.cells #[Value.int IntKind.i64 0, Value.bool false, Value.string ⟨#[]⟩, Value.slice none 0 0] 25 (0, 0)) := heap_alloc_new _ _
          have lx : wk2.heap.size < (wk2.alloc (.cells #[Value.int IntKind.i64 0, Value.bool false, Value.string ⟨#[]⟩, Value.slice none 0 0] 25)).heap.size := by rw [World.size_alloc]; omega
          have bX : Below w1.heap.size w1 (wk2.alloc (.cells #[Value.int IntKind.i64 0, Value.bool false, Value.string ⟨#[]⟩, Value.slice none 0 0] 25)) := HB.out.trans (bx.mono HB.out.size)
          go_simp
          refine hK1.out _ _ (HS.out _ bX) (fun _ => ?_)
          clear hK1 K1
          try simp only [Act.put, List.setIfInBounds_toArray, List.set_cons_zero, List.set_cons_succ]
          obtain ⟨Gb, hGx⟩ : ∃ Gb, wk2.heap.size = Gb := ⟨_, rfl⟩
          have HSZ : Hid (wk2.heap.size = Gb) := hGx
          have H8 : Hid ((wk2.alloc (.cells #[Value.int IntKind.i64 0, Value.bool false, Value.string ⟨#[]⟩, Value.slice none 0 0] 25)).heap[Gb]? = some (.cells #[Value.int IntKind.i64 0, Value.bool false, Value.string ⟨#[]⟩, Value.slice none 0 0] 25 (0, 0)) ∧ w1.heap.size ≤ Gb ∧ Gb < (wk2.alloc (.cells #[Value.int IntKind.i64 0, Value.bool false, Value.string ⟨#[]⟩, Value.slice none 0 0] 25)).heap.size ∧ Gb ∉ fa ∧ Gb ∉ fb) := ⟨by rw [← HSZ.out]; exact zx, by rw [← HSZ.out]; exact HB.out.size, by rw [← HSZ.out]; exact lx, fun hm => by have h2 := (TrV.lt _ _ _ HA1.out.1 _ hm).2; have h3 := HSZ.out; omega, fun hm => by have h2 := (TrV.lt _ _ _ HB1.out.1 _ hm).2; have h3 := HSZ.out; omega⟩
          replace HA1 : Hid (TrV (wk2.alloc (.cells #[Value.int IntKind.i64 0, Value.bool false, Value.string ⟨#[]⟩, Value.slice none 0 0] 25)) w1.heap.size T (.slice ya T.nms.length ca) fa ∧ fa.Nodup) := ⟨TrV.same _ _ _ HA1.out.1 (fun b hb => bx.block b (TrV.lt _ _ _ HA1.out.1 b hb).2), HA1.out.2⟩
          replace HB1 : Hid (TrV (wk2.alloc (.cells #[Value.int IntKind.i64 0, Value.bool false, Value.string ⟨#[]⟩, Value.slice none 0 0] 25)) w1.heap.size U (.slice yb U.nms.length cb) fb ∧ fb.Nodup) := ⟨TrV.same _ _ _ HB1.out.1 (fun b hb => bx.block b (TrV.lt _ _ _ HB1.out.1 b hb).2), HB1.out.2⟩
          replace HB : Hid (Below w1.heap.size w1 (wk2.alloc (.cells #[Value.int IntKind.i64 0, Value.bool false, Value.string ⟨#[]⟩, Value.slice none 0 0] 25))) := bX
          rw [hGx]
          clear bx zx lx bX hGx HSZ
          generalize wk2.alloc (.cells #[Value.int IntKind.i64 0, Value.bool false, Value.string ⟨#[]⟩, Value.slice none 0 0] 25) = wk5 at *
          refine wpAnyH_ready (rs := [4]) (by kernel_rfl) (by decide) (AllReadyH.cons rfl (fun K1 hK1 => ?_) AllReadyH.nil)
          rw [if_pos (by rfl)]
          have bx : Below wk5.heap.size wk5 (wk5.alloc (.cells #[Value.int IntKind.i64 0, Value.bool false, Value.string ⟨#[]⟩, Value.slice none 0 0] 25)) := (Below.refl _ _).alloc (Nat.le_refl _) _
          have zx : (wk5.alloc (.cells #[Value.int IntKind.i64 0, Value.bool false, Value.string ⟨#[]⟩, Value.slice none 0 0] 25)).heap[wk5.heap.size]? = some (.cells #[Value.int IntKind.i64 0, Value.bool false, Value.string ⟨#[]⟩, Value.slice none 0 0] 25 (0, 0)) := heap_alloc_new _ _
          have lx : wk5.heap.size < (wk5.alloc (.cells #[Value.int IntKind.i64 0, Value.bool false, Value.string ⟨#[]⟩, Value.slice none 0 0] 25)).heap.size := by rw [World.size_alloc]; omega
          have bX : Below w1.heap.size w1 (wk5.alloc (.cells #[Value.int IntKind.i64 0, Value.bool false, Value.string ⟨#[]⟩, Value.slice none 0 0] 25)) := HB.out.trans (bx.mono HB.out.size)
          go_simp
          refine hK1.out _ _ (HS.out _ bX) (fun _ => ?_)
          clear hK1 K1
          try simp only [Act.put, List.setIfInBounds_toArray, List.set_cons_zero, List.set_cons_succ]
          obtain ⟨Ga, hGx⟩ : ∃ Ga, wk5.heap.size = Ga := ⟨_, rfl⟩
          have HSZ : Hid (wk5.heap.size = Ga) := hGx
          have H7 : Hid ((wk5.alloc (.cells #[Value.int IntKind.i64 0, Value.bool false, Value.string ⟨#[]⟩, Value.slice none 0 0] 25)).heap[Ga]? = some (.cells #[Value.int IntKind.i64 0, Value.bool false, Value.string ⟨#[]⟩, Value.slice none 0 0] 25 (0, 0)) ∧ w1.heap.size ≤ Ga ∧ Ga < (wk5.alloc (.cells #[Value.int IntKind.i64 0, Value.bool false, Value.string ⟨#[]⟩, Value.slice none 0 0] 25)).heap.size ∧ Ga ∉ fa ∧ Ga ∉ fb) := ⟨by rw [← HSZ.out]; exact zx, by rw [← HSZ.out]; exact HB.out.size, by rw [← HSZ.out]; exact lx, fun hm => by have h2 := (TrV.lt _ _ _ HA1.out.1 _ hm).2; have h3 := HSZ.out; omega, fun hm => by have h2 := (TrV.lt _ _ _ HB1.out.1 _ hm).2; have h3 := HSZ.out; omega⟩
          have H78 : Hid (Ga ≠ Gb) := fun hh => by have h1 := H8.out.2.2.1; have h2 := HSZ.out; omega
          replace H8 : Hid ((wk5.alloc (.cells #[Value.int IntKind.i64 0, Value.bool false, Value.string ⟨#[]⟩, Value.slice none 0 0] 25)).heap[Gb]? = some (.cells #[Value.int IntKind.i64 0, Value.bool false, Value.string ⟨#[]⟩, Value.slice none 0 0] 25 (0, 0)) ∧ w1.heap.size ≤ Gb ∧ Gb < (wk5.alloc (.cells #[Value.int IntKind.i64 0, Value.bool false, Value.string ⟨#[]⟩, Value.slice none 0 0] 25)).heap.size ∧ Gb ∉ fa ∧ Gb ∉ fb) := ⟨(bx.block _ H8.out.2.2.1).trans H8.out.1, H8.out.2.1, Nat.lt_of_lt_of_le H8.out.2.2.1 bx.size, H8.out.2.2.2⟩
          replace HA1 : Hid (TrV (wk5.alloc (.cells #[Value.int IntKind.i64 0, Value.bool false, Value.string ⟨#[]⟩, Value.slice none 0 0] 25)) w1.heap.size T (.slice ya T.nms.length ca) fa ∧ fa.Nodup) := ⟨TrV.same _ _ _ HA1.out.1 (fun b hb => bx.block b (TrV.lt _ _ _ HA1.out.1 b hb).2), HA1.out.2⟩
          replace HB1 : Hid (TrV (wk5.alloc (.cells #[Value.int IntKind.i64 0, Value.bool false, Value.string ⟨#[]⟩, Value.slice none 0 0] 25)) w1.heap.size U (.slice yb U.nms.length cb) fb ∧ fb.Nodup) := ⟨TrV.same _ _ _ HB1.out.1 (fun b hb => bx.block b (TrV.lt _ _ _ HB1.out.1 b hb).2), HB1.out.2⟩
          replace HB : Hid (Below w1.heap.size w1 (wk5.alloc (.cells #[Value.int IntKind.i64 0, Value.bool false, Value.string ⟨#[]⟩, Value.slice none 0 0] 25))) := bX
          rw [hGx]
          clear bx zx lx bX hGx HSZ
          generalize wk5.alloc (.cells #[Value.int IntKind.i64 0, Value.bool false, Value.string ⟨#[]⟩, Value.slice none 0 0] 25) = wk6 at *
          obtain ⟨u0, u1, u2, u3, uf⟩ := cell4 H7.out.1
          have v0 := uf 0
          have v1 := uf 1
          have v2 := uf 2
          have v3 := uf 3
          clear uf
          refine wpAnyH_ready (rs := [6]) (by kernel_rfl) (by decide) (AllReadyH.cons rfl (fun K1 hK1 => ?_) AllReadyH.nil)
          rw [if_pos (by rfl)]
          go_simp
          have bX : Below w1.heap.size w1 (wk6.setCells Ga 0 [.int .i64 T.k, .bool T.e, .string T.t, .slice ya T.nms.length ca]) := belowE_setCells _ _ _ H7.out.2.1 HB.out
          have NX : (fun W : World => W.cell? ⟨GT, 0, none⟩ = some (.int .i64 k) ∧ W.cell? ⟨GT, 1, none⟩ = some (.bool e) ∧ W.cell? ⟨GT, 2, none⟩ = some (.string t) ∧ W.cell? ⟨GT, 3, none⟩ = some (.slice z n cz) ∧ W.cell? ⟨GU, 0, none⟩ = some (.int .i64 ku) ∧ W.cell? ⟨GU, 1, none⟩ = some (.bool eu) ∧ W.cell? ⟨GU, 2, none⟩ = some (.string tu) ∧ W.cell? ⟨GU, 3, none⟩ = some (.slice zu nu czu)) (wk6.setCells Ga 0 [.int .i64 T.k, .bool T.e, .string T.t, .slice ya T.nms.length ca]) := HS.out _ bX
          refine hK1.out _ _ NX (fun _ => ?_)
          clear hK1 K1
          try simp only [Act.put, List.setIfInBounds_toArray, List.set_cons_zero, List.set_cons_succ]
          have q7 := put4 H7.out.1 (.int .i64 T.k) (.bool T.e) (.string T.t) (.slice ya T.nms.length ca)
          have q8 := (heapE_setCells Ga [.int .i64 T.k, .bool T.e, .string T.t, .slice ya T.nms.length ca] 0 Gb (Ne.symm H78.out) wk6).trans H8.out.1
          have sX : wk6.heap.size ≤ (wk6.setCells Ga 0 [.int .i64 T.k, .bool T.e, .string T.t, .slice ya T.nms.length ca]).heap.size := by rw [sizeE_setCells]; exact Nat.le_refl _
          have kX : ∀ x, x ≠ Ga → (wk6.setCells Ga 0 [.int .i64 T.k, .bool T.e, .string T.t, .slice ya T.nms.length ca]).heap[x]? = wk6.heap[x]? := fun x hx => heapE_setCells Ga _ _ x hx _
          change wpAnyH _ _ _ _ _ _ _ _ (wk6.setCells Ga 0 [.int .i64 T.k, .bool T.e, .string T.t, .slice ya T.nms.length ca])
          have HX : Hid (Below w1.heap.size w1 (wk6.setCells Ga 0 [.int .i64 T.k, .bool T.e, .string T.t, .slice ya T.nms.length ca]) ∧ (wk6.setCells Ga 0 [.int .i64 T.k, .bool T.e, .string T.t, .slice ya T.nms.length ca]).heap[Ga]? = some (.cells #[Value.int IntKind.i64 T.k, Value.bool T.e, Value.string T.t, Value.slice ya T.nms.length ca] 25 (0, 0)) ∧ (wk6.setCells Ga 0 [.int .i64 T.k, .bool T.e, .string T.t, .slice ya T.nms.length ca]).heap[Gb]? = some (.cells #[Value.int IntKind.i64 0, Value.bool false, Value.string ⟨#[]⟩, Value.slice none 0 0] 25 (0, 0)) ∧ wk6.heap.size ≤ (wk6.setCells Ga 0 [.int .i64 T.k, .bool T.e, .string T.t, .slice ya T.nms.length ca]).heap.size ∧ ∀ x, x ≠ Ga → (wk6.setCells Ga 0 [.int .i64 T.k, .bool T.e, .string T.t, .slice ya T.nms.length ca]).heap[x]? = wk6.heap[x]?) := ⟨bX, q7, q8, sX, kX⟩
          clear bX NX q7 q8 sX kX u0 u1 u2 u3 v0 v1 v2 v3
          generalize wk6.setCells Ga 0 [.int .i64 T.k, .bool T.e, .string T.t, .slice ya T.nms.length ca] = wX at *
          obtain ⟨u0, u1, u2, u3, uf⟩ := cell4 HX.out.2.2.1
          have v0 := uf 0
          have v1 := uf 1
          have v2 := uf 2
          have v3 := uf 3
          clear uf
          refine wpAnyH_ready (rs := [7]) (by kernel_rfl) (by decide) (AllReadyH.cons rfl (fun K1 hK1 => ?_) AllReadyH.nil)
          rw [if_pos (by rfl)]
          go_simp
          have bY : Below w1.heap.size w1 (wX.setCells Gb 0 [.int .i64 U.k, .bool U.e, .string U.t, .slice yb U.nms.length cb]) := belowE_setCells _ _ _ H8.out.2.1 HX.out.1
          refine hK1.out _ _ (HS.out _ bY) (fun _ => ?_)
          clear hK1 K1
          refine wpAnyH_done (by kernel_rfl) ?_ _
          (try go_wp2_with fail)
          go_meet
          refine ⟨Ga, Gb, ya, ca, fa, yb, cb, fb, rfl, rfl, ?_⟩
          have sY : wX.heap.size = (wX.setCells Gb 0 [.int .i64 U.k, .bool U.e, .string U.t, .slice yb U.nms.length cb]).heap.size := by rw [sizeE_setCells]
          have kY : ∀ x, x ≠ Ga → x ≠ Gb → (wX.setCells Gb 0 [.int .i64 U.k, .bool U.e, .string U.t, .slice yb U.nms.length cb]).heap[x]? = wk6.heap[x]? := fun x hx hx' => (heapE_setCells Gb _ _ x hx' _).trans (HX.out.2.2.2.2 x hx)
          exact KF.made HA1.out HB1.out HAB1.out bY ((heapE_setCells Gb [.int .i64 U.k, .bool U.e, .string U.t, .slice yb U.nms.length cb] 0 Ga H78.out wX).trans HX.out.2.1) (put4 HX.out.2.2.1 _ _ _ _) H7.out.2 H8.out.2 kY (Nat.le_trans HX.out.2.2.2.1 (Nat.le_of_eq sY))
      · rw [if_pos (by rfl)]
        have bx : Below wk1.heap.size wk1 (wk1.alloc (.cells #[Value.int IntKind.i64 0, Value.bool false, Value.string ⟨#[]⟩, Value.slice none 0 0] 25)) := (Below.refl _ _).alloc (Nat.le_refl _) _
        have zx : (wk1.alloc (.cells #[Value.int IntKind.i64 0, Value.bool false, Value.string ⟨#[]⟩, Value.slice none 0 0] 25)).heap[wk1.heap.size]? = some (.cells #[Value.int IntKind.i64 0, Value.bool false, Value.string ⟨#[]⟩, Value.slice none 0 0] 25 (0, 0)) := heap_alloc_new _ _
        have lx : wk1.heap.size < (wk1.alloc (.cells #[Value.int IntKind.i64 0, Value.bool false, Value.string ⟨#[]⟩, Value.slice none 0 0] 25)).heap.size := by rw [World.size_alloc]; omega
        have bX : Below w1.heap.size w1 (wk1.alloc (.cells #[Value.int IntKind.i64 0, Value.bool false, Value.string ⟨#[]⟩, Value.slice none 0 0] 25)) := HB.out.trans (bx.mono HB.out.size)
        go_simp
        refine hK1.out _ _ (HS.out _ bX) (fun _ => ?_)
        clear hK1 K1
        try simp only [Act.put, List.setIfInBounds_toArray, List.set_cons_zero, List.set_cons_succ]
        obtain ⟨Ga, hGx⟩ : ∃ Ga, wk1.heap.size = Ga := ⟨_, rfl⟩
        have HSZ : Hid (wk1.heap.size = Ga) := hGx
        have H7 : Hid ((wk1.alloc (.cells #[Value.int IntKind.i64 0, Value.bool false, Value.string ⟨#[]⟩, Value.slice none 0 0] 25)).heap[Ga]? = some (.cells #[Value.int IntKind.i64 0, Value.bool false, Value.string ⟨#[]⟩, Value.slice none 0 0] 25 (0, 0)) ∧ w1.heap.size ≤ Ga ∧ Ga < (wk1.alloc (.cells #[Value.int IntKind.i64 0, Value.bool false, Value.string ⟨#[]⟩, Value.slice none 0 0] 25)).heap.size ∧ Ga ∉ fa) := ⟨by rw [← HSZ.out]; exact zx, by rw [← HSZ.out]; exact HB.out.size, by rw [← HSZ.out]; exact lx, fun hm => by have h2 := (TrV.lt _ _ _ HA1.out.1 _ hm).2; have h3 := HSZ.out; omega⟩
        replace HA1 : Hid (TrV (wk1.alloc (.cells #[Value.int IntKind.i64 0, Value.bool false, Value.string ⟨#[]⟩, Value.slice none 0 0] 25)) w1.heap.size T (.slice ya T.nms.length ca) fa ∧ fa.Nodup) := ⟨TrV.same _ _ _ HA1.out.1 (fun b hb => bx.block b (TrV.lt _ _ _ HA1.out.1 b hb).2), HA1.out.2⟩
        replace HB : Hid (Below w1.heap.size w1 (wk1.alloc (.cells #[Value.int IntKind.i64 0, Value.bool false, Value.string ⟨#[]⟩, Value.slice none 0 0] 25))) := bX
        rw [hGx]
        clear bx zx lx bX hGx HSZ
        generalize wk1.alloc (.cells #[Value.int IntKind.i64 0, Value.bool false, Value.string ⟨#[]⟩, Value.slice none 0 0] 25) = wk7 at *
        refine wpAnyH_ready (rs := [3, 5]) (by kernel_rfl) (by decide) (AllReadyH.cons rfl (fun K1 hK1 => ?_) (AllReadyH.cons rfl (fun K1 hK1 => ?_) AllReadyH.nil))
        · rw [if_pos (by rfl)]
          go_simp
          refine (clone_any fu _ U wk7 (HH.out.2.2.2.1.below (HB0.out.trans (HB.out.mono HB0.out.size))) (lnB_ln (by decide) _ HH.out.2.2.2.2.2.2.2)).mono ?_
          rintro en wk8 ⟨⟨xx, fb, rfl, hVx, hNx⟩, bx⟩
          obtain ⟨yb, cb, rfl⟩ := hVx.shape
          have hlx := TrV.lt _ _ _ hVx
          have HB1 : Hid (TrV wk8 w1.heap.size U (.slice yb U.nms.length cb) fb ∧ fb.Nodup) := ⟨TrV.low HB.out.size _ _ _ hVx, hNx⟩
          have HAB1 : Hid (∀ b ∈ fb, b ∉ fa) := fun b hb ha => by
            have h1 := (hlx b hb).1
            have h2 := (TrV.lt _ _ _ HA1.out.1 b ha).2
            omega
          replace HA1 : Hid (TrV wk8 w1.heap.size T (.slice ya T.nms.length ca) fa ∧ fa.Nodup) := ⟨TrV.same _ _ _ HA1.out.1 (fun b hb => bx.block b (TrV.lt _ _ _ HA1.out.1 b hb).2), HA1.out.2⟩
          replace H7 : Hid (wk8.heap[Ga]? = some (.cells #[Value.int IntKind.i64 0, Value.bool false, Value.string ⟨#[]⟩, Value.slice none 0 0] 25 (0, 0)) ∧ w1.heap.size ≤ Ga ∧ Ga < wk8.heap.size ∧ Ga ∉ fa ∧ Ga ∉ fb) := ⟨(bx.block _ H7.out.2.2.1).trans H7.out.1, H7.out.2.1, Nat.lt_of_lt_of_le H7.out.2.2.1 bx.size, H7.out.2.2.2, fun hm => by have h1 := (hlx _ hm).1; have h2 := H7.out.2.2.1; omega⟩
          replace HB : Hid (Below w1.heap.size w1 wk8) := HB.out.trans (bx.mono HB.out.size)
          clear hVx hNx bx hlx
          go_wp2_with fail
          refine hK1.out _ _ (HS.out _ HB.out) (fun _ => ?_)
          clear hK1 K1
          try simp only [Act.put, List.setIfInBounds_toArray, List.set_cons_zero, List.set_cons_succ]
          refine wpAnyH_ready (rs := [5]) (by kernel_rfl) (by decide) (AllReadyH.cons rfl (fun K1 hK1 => ?_) AllReadyH.nil)
          rw [if_pos (by rfl)]
          have bx : Below wk8.heap.size wk8 (wk8.alloc (.cells #[Value.int IntKind.i64 0, Value.bool false, Value.string ⟨#[]⟩, Value.slice none 0 0] 25)) := (Below.refl _ _).alloc (Nat.le_refl _) _
          have zx : (wk8.alloc (.cells #[Value.int IntKind.i64 0, Value.bool false, Value.string ⟨#[]⟩, Value.slice none 0 0] 25)).heap[wk8.heap.size]? = some (.cells #[Value.int IntKind.i64 0, Value.bool false, Value.string ⟨#[]⟩, Value.slice none 0 0] 25 (0, 0)) := heap_alloc_new _ _
          have lx : wk8.heap.size < (wk8.alloc (.cells #[Value.int IntKind.i64 0, Value.bool false, Value.string ⟨#[]⟩, Value.slice none 0 0] 25)).heap.size := by rw [World.size_alloc]; omega
          have bX : Below w1.heap.size w1 (wk8.alloc (.cells #[Value.int IntKind.i64 0, Value.bool false, Value.string ⟨#[]⟩, Value.slice none 0 0] 25)) := HB.out.trans (bx.mono HB.out.size)
          go_simp
          refine hK1.out _ _ (HS.out _ bX) (fun _ => ?_)
          clear hK1 K1
          try simp only [Act.put, List.setIfInBounds_toArray, List.set_cons_zero, List.set_cons_succ]
          obtain ⟨Gb, hGx⟩ : ∃ Gb, wk8.heap.size = Gb := ⟨_, rfl⟩
          have HSZ : Hid (wk8.heap.size = Gb) := hGx
          have H8 : Hid ((wk8.alloc (.cells #[Value.int IntKind.i64 0, Value.bool false, Value.string ⟨#[]⟩, Value.slice none 0 0] 25)).heap[Gb]? = some (.cells #[Value.int IntKind.i64 0, Value.bool false, Value.string ⟨#[]⟩, Value.slice none 0 0] 25 (0, 0)) ∧ w1.heap.size ≤ Gb ∧ Gb < (wk8.alloc (.cells #[Value.int IntKind.i64 0, Value.bool false, Value.string ⟨#[]⟩, Value.slice none 0 0] 25)).heap.size ∧ Gb ∉ fa ∧ Gb ∉ fb) := ⟨by rw [← HSZ.out]; exact zx, by rw [← HSZ.out]; exact HB.out.size, by rw [← HSZ.out]; exact lx, fun hm => by have h2 := (TrV.lt _ _ _ HA1.out.1 _ hm).2; have h3 := HSZ.out; omega, fun hm => by have h2 := (TrV.lt _ _ _ HB1.out.1 _ hm).2; have h3 := HSZ.out; omega⟩
          have H78 : Hid (Ga ≠ Gb) := fun hh => by have h1 := H7.out.2.2.1; have h2 := HSZ.out; omega
          replace H7 : Hid ((wk8.alloc (.cells #[Value.int IntKind.i64 0, Value.bool false, Value.string ⟨#[]⟩, Value.slice none 0 0] 25)).heap[Ga]? = some (.cells #[Value.int IntKind.i64 0, Value.bool false, Value.string ⟨#[]⟩, Value.slice none 0 0] 25 (0, 0)) ∧ w1.heap.size ≤ Ga ∧ Ga < (wk8.alloc (.cells #[Value.int IntKind.i64 0, Value.bool false, Value.string ⟨#[]⟩, Value.slice none 0 0] 25)).heap.size ∧ Ga ∉ fa ∧ Ga ∉ fb) := ⟨(bx.block _ H7.out.2.2.1).trans H7.out.1, H7.out.2.1, Nat.lt_of_lt_of_le H7.out.2.2.1 bx.size, H7.out.2.2.2⟩
          replace HA1 : Hid (TrV (wk8.alloc (.cells #[Value.int IntKind.i64 0, Value.bool false, Value.string ⟨#[]⟩, Value.slice none 0 0] 25)) w1.heap.size T (.slice ya T.nms.length ca) fa ∧ fa.Nodup) := ⟨TrV.same _ _ _ HA1.out.1 (fun b hb => bx.block b (TrV.lt _ _ _ HA1.out.1 b hb).2), HA1.out.2⟩
          replace HB1 : Hid (TrV (wk8.alloc (.cells #[Value.int IntKind.i64 0, Value.bool false, Value.string ⟨#[]⟩, Value.slice none 0 0] 25)) w1.heap.size U (.slice yb U.nms.length cb) fb ∧ fb.Nodup) := ⟨TrV.same _ _ _ HB1.out.1 (fun b hb => bx.block b (TrV.lt _ _ _ HB1.out.1 b hb).2), HB1.out.2⟩
          replace HB : Hid (Below w1.heap.size w1 (wk8.alloc (.cells #[Value.int IntKind.i64 0, Value.bool false, Value.string ⟨#[]⟩, Value.slice none 0 0] 25))) := bX
          rw [hGx]
          clear bx zx lx bX hGx HSZ
          generalize wk8.alloc (.cells #[Value.int IntKind.i64 0, Value.bool false, Value.string ⟨#[]⟩, Value.slice none 0 0] 25) = wk9 at *
          obtain ⟨u0, u1, u2, u3, uf⟩ := cell4 H7.out.1
          have v0 := uf 0
          have v1 := uf 1
          have v2 := uf 2
          have v3 := uf 3
          clear uf
          refine wpAnyH_ready (rs := [6]) (by kernel_rfl) (by decide) (AllReadyH.cons rfl (fun K1 hK1 => ?_) AllReadyH.nil)
          rw [if_pos (by rfl)]
          go_simp
          have bX : Below w1.heap.size w1 (wk9.setCells Ga 0 [.int .i64 T.k, .bool T.e, .string T.t, .slice ya T.nms.length ca]) := belowE_setCells _ _ _ H7.out.2.1 HB.out
          have NX : (fun W : World => W.cell? ⟨GT, 0, none⟩ = some (.int .i64 k) ∧ W.cell? ⟨GT, 1, none⟩ = some (.bool e) ∧ W.cell? ⟨GT, 2, none⟩ = some (.string t) ∧ W.cell? ⟨GT, 3, none⟩ = some (.slice z n cz) ∧ W.cell? ⟨GU, 0, none⟩ = some (.int .i64 ku) ∧ W.cell? ⟨GU, 1, none⟩ = some (.bool eu) ∧ W.cell? ⟨GU, 2, none⟩ = some (.string tu) ∧ W.cell? ⟨GU, 3, none⟩ = some (.slice zu nu czu)) (wk9.setCells Ga 0 [.int .i64 T.k, .bool T.e, .string T.t, .slice ya T.nms.length ca]) := HS.out _ bX
          refine hK1.out _ _ NX (fun _ => ?_)
          clear hK1 K1
          try simp only [Act.put, List.setIfInBounds_toArray, List.set_cons_zero, List.set_cons_succ]
          have q7 := put4 H7.out.1 (.int .i64 T.k) (.bool T.e) (.string T.t) (.slice ya T.nms.length ca)
          have q8 := (heapE_setCells Ga [.int .i64 T.k, .bool T.e, .string T.t, .slice ya T.nms.length ca] 0 Gb (Ne.symm H78.out) wk9).trans H8.out.1
          have sX : wk9.heap.size ≤ (wk9.setCells Ga 0 [.int .i64 T.k, .bool T.e, .string T.t, .slice ya T.nms.length ca]).heap.size := by rw [sizeE_setCells]; exact Nat.le_refl _
          have kX : ∀ x, x ≠ Ga → (wk9.setCells Ga 0 [.int .i64 T.k, .bool T.e, .string T.t, .slice ya T.nms.length ca]).heap[x]? = wk9.heap[x]? := fun x hx => heapE_setCells Ga _ _ x hx _
          change wpAnyH _ _ _ _ _ _ _ _ (wk9.setCells Ga 0 [.int .i64 T.k, .bool T.e, .string T.t, .slice ya T.nms.length ca])
          have HX : Hid (Below w1.heap.size w1 (wk9.setCells Ga 0 [.int .i64 T.k, .bool T.e, .string T.t, .slice ya T.nms.length ca]) ∧ (wk9.setCells Ga 0 [.int .i64 T.k, .bool T.e, .string T.t, .slice ya T.nms.length ca]).heap[Ga]? = some (.cells #[Value.int IntKind.i64 T.k, Value.bool T.e, Value.string T.t, Value.slice ya T.nms.length ca] 25 (0, 0)) ∧ (wk9.setCells Ga 0 [.int .i64 T.k, .bool T.e, .string T.t, .slice ya T.nms.length ca]).heap[Gb]? = some (.cells #[Value.int IntKind.i64 0, Value.bool false, Value.string ⟨#[]⟩, Value.slice none 0 0] 25 (0, 0)) ∧ wk9.heap.size ≤ (wk9.setCells Ga 0 [.int .i64 T.k, .bool T.e, .string T.t, .slice ya T.nms.length ca]).heap.size ∧ ∀ x, x ≠ Ga → (wk9.setCells Ga 0 [.int .i64 T.k, .bool T.e, .string T.t, .slice ya T.nms.length ca]).heap[x]? = wk9.heap[x]?) := ⟨bX, q7, q8, sX, kX⟩
          clear bX NX q7 q8 sX kX u0 u1 u2 u3 v0 v1 v2 v3
          generalize wk9.setCells Ga 0 [.int .i64 T.k, .bool T.e, .string T.t, .slice ya T.nms.length ca] = wX at *
          obtain ⟨u0, u1, u2, u3, uf⟩ := cell4 HX.out.2.2.1
          have v0 := uf 0
          have v1 := uf 1
          have v2 := uf 2
          have v3 := uf 3
          clear uf
          refine wpAnyH_ready (rs := [7]) (by kernel_rfl) (by decide) (AllReadyH.cons rfl (fun K1 hK1 => ?_) AllReadyH.nil)
          rw [if_pos (by rfl)]
          go_simp
          have bY : Below w1.heap.size w1 (wX.setCells Gb 0 [.int .i64 U.k, .bool U.e, .string U.t, .slice yb U.nms.length cb]) := belowE_setCells _ _ _ H8.out.2.1 HX.out.1
          refine hK1.out _ _ (HS.out _ bY) (fun _ => ?_)
          clear hK1 K1
          refine wpAnyH_done (by kernel_rfl) ?_ _
          (try go_wp2_with fail)
          go_meet
          refine ⟨Ga, Gb, ya, ca, fa, yb, cb, fb, rfl, rfl, ?_⟩
          have sY : wX.heap.size = (wX.setCells Gb 0 [.int .i64 U.k, .bool U.e, .string U.t, .slice yb U.nms.length cb]).heap.size := by rw [sizeE_setCells]
          have kY : ∀ x, x ≠ Ga → x ≠ Gb → (wX.setCells Gb 0 [.int .i64 U.k, .bool U.e, .string U.t, .slice yb U.nms.length cb]).heap[x]? = wk9.heap[x]? := fun x hx hx' => (heapE_setCells Gb _ _ x hx' _).trans (HX.out.2.2.2.2 x hx)
          exact KF.made HA1.out HB1.out HAB1.out bY ((heapE_setCells Gb [.int .i64 U.k, .bool U.e, .string U.t, .slice yb U.nms.length cb] 0 Ga H78.out wX).trans HX.out.2.1) (put4 HX.out.2.2.1 _ _ _ _) H7.out.2 H8.out.2 kY (Nat.le_trans HX.out.2.2.2.1 (Nat.le_of_eq sY))
        · rw [if_pos (by rfl)]
          have bx : Below wk7.heap.size wk7 (wk7.alloc (.cells #[Value.int IntKind.i64 0, Value.bool false, Value.string ⟨#[]⟩, Value.slice none 0 0] 25)) := (Below.refl _ _).alloc (Nat.le_refl _) _
          have zx : (wk7.alloc (.cells #[Value.int IntKind.i64 0, Value.bool false, Value.string ⟨#[]⟩, Value.slice none 0 0] 25)).heap[wk7.heap.size]? = some (.cells #[Value.int IntKind.i64 0, Value.bool false, Value.string ⟨#[]⟩, Value.slice none 0 0] 25 (0, 0)) := heap_alloc_new _ _
          have lx : wk7.heap.size < (wk7.alloc (.cells #[Value.int IntKind.i64 0, Value.bool false, Value.string ⟨#[]⟩, Value.slice none 0 0] 25)).heap.size := by rw [World.size_alloc]; omega
          have bX : Below w1.heap.size w1 (wk7.alloc (.cells #[Value.int IntKind.i64 0, Value.bool false, Value.string ⟨#[]⟩, Value.slice none 0 0] 25)) := HB.out.trans (bx.mono HB.out.size)
          go_simp
          refine hK1.out _ _ (HS.out _ bX) (fun _ => ?_)
          clear hK1 K1
          try simp only [Act.put, List.setIfInBounds_toArray, List.set_cons_zero, List.set_cons_succ]
          obtain ⟨Gb, hGx⟩ : ∃ Gb, wk7.heap.size = Gb := ⟨_, rfl⟩
          have HSZ : Hid (wk7.heap.size = Gb) := hGx
          have H8 : Hid ((wk7.alloc (.cells #[Value.int IntKind.i64 0, Value.bool false, Value.string ⟨#[]⟩, Value.slice none 0 0] 25)).heap[Gb]? = some (.cells #[Value.int IntKind.i64 0, Value.bool false, Value.string ⟨#[]⟩, Value.slice none 0 0] 25 (0, 0)) ∧ w1.heap.size ≤ Gb ∧ Gb < (wk7.alloc (.cells #[Value.int IntKind.i64 0, Value.bool false, Value.string ⟨#[]⟩, Value.slice none 0 0] 25)).heap.size ∧ Gb ∉ fa) := ⟨by rw [← HSZ.out]; exact zx, by rw [← HSZ.out]; exact HB.out.size, by rw [← HSZ.out]; exact lx, fun hm => by have h2 := (TrV.lt _ _ _ HA1.out.1 _ hm).2; have h3 := HSZ.out; omega⟩
          have H78 : Hid (Ga ≠ Gb) := fun hh => by have h1 := H7.out.2.2.1; have h2 := HSZ.out; omega
          replace H7 : Hid ((wk7.alloc (.cells #[Value.int IntKind.i64 0, Value.bool false, Value.string ⟨#[]⟩, Value.slice none 0 0] 25)).heap[Ga]? = some (.cells #[Value.int IntKind.i64 0, Value.bool false, Value.string ⟨#[]⟩, Value.slice none 0 0] 25 (0, 0)) ∧ w1.heap.size ≤ Ga ∧ Ga < (wk7.alloc (.cells #[Value.int IntKind.i64 0, Value.bool false, Value.string ⟨#[]⟩, Value.slice none 0 0] 25)).heap.size ∧ Ga ∉ fa) := ⟨(bx.block _ H7.out.2.2.1).trans H7.out.1, H7.out.2.1, Nat.lt_of_lt_of_le H7.out.2.2.1 bx.size, H7.out.2.2.2⟩
          replace HA1 : Hid (TrV (wk7.alloc (.cells #[Value.int IntKind.i64 0, Value.bool false, Value.string ⟨#[]⟩, Value.slice none 0 0] 25)) w1.heap.size T (.slice ya T.nms.length ca) fa ∧ fa.Nodup) := ⟨TrV.same _ _ _ HA1.out.1 (fun b hb => bx.block b (TrV.lt _ _ _ HA1.out.1 b hb).2), HA1.out.2⟩
          replace HB : Hid (Below w1.heap.size w1 (wk7.alloc (.cells #[Value.int IntKind.i64 0, Value.bool false, Value.string ⟨#[]⟩, Value.slice none 0 0] 25))) := bX
          rw [hGx]
          clear bx zx lx bX hGx HSZ
          generalize wk7.alloc (.cells #[Value.int IntKind.i64 0, Value.bool false, Value.string ⟨#[]⟩, Value.slice none 0 0] 25) = wk10 at *
          refine wpAnyH_ready (rs := [3]) (by kernel_rfl) (by decide) (AllReadyH.cons rfl (fun K1 hK1 => ?_) AllReadyH.nil)
          rw [if_pos (by rfl)]
          go_simp
          refine (clone_any fu _ U wk10 (HH.out.2.2.2.1.below (HB0.out.trans (HB.out.mono HB0.out.size))) (lnB_ln (by decide) _ HH.out.2.2.2.2.2.2.2)).mono ?_
          rintro en wk11 ⟨⟨xx, fb, rfl, hVx, hNx⟩, bx⟩
          obtain ⟨yb, cb, rfl⟩ := hVx.shape
          have hlx := TrV.lt _ _ _ hVx
          have HB1 : Hid (TrV wk11 w1.heap.size U (.slice yb U.nms.length cb) fb ∧ fb.Nodup) := ⟨TrV.low HB.out.size _ _ _ hVx, hNx⟩
          have HAB1 : Hid (∀ b ∈ fb, b ∉ fa) := fun b hb ha => by
            have h1 := (hlx b hb).1
            have h2 := (TrV.lt _ _ _ HA1.out.1 b ha).2
            omega
          replace HA1 : Hid (TrV wk11 w1.heap.size T (.slice ya T.nms.length ca) fa ∧ fa.Nodup) := ⟨TrV.same _ _ _ HA1.out.1 (fun b hb => bx.block b (TrV.lt _ _ _ HA1.out.1 b hb).2), HA1.out.2⟩
          replace H7 : Hid (wk11.heap[Ga]? = some (.cells #[Value.int IntKind.i64 0, Value.bool false, Value.string ⟨#[]⟩, Value.slice none 0 0] 25 (0, 0)) ∧ w1.heap.size ≤ Ga ∧ Ga < wk11.heap.size ∧ Ga ∉ fa ∧ Ga ∉ fb) := ⟨(bx.block _ H7.out.2.2.1).trans H7.out.1, H7.out.2.1, Nat.lt_of_lt_of_le H7.out.2.2.1 bx.size, H7.out.2.2.2, fun hm => by have h1 := (hlx _ hm).1; have h2 := H7.out.2.2.1; omega⟩
          replace H8 : Hid (wk11.heap[Gb]? = some (.cells #[Value.int IntKind.i64 0, Value.bool false, Value.string ⟨#[]⟩, Value.slice none 0 0] 25 (0, 0)) ∧ w1.heap.size ≤ Gb ∧ Gb < wk11.heap.size ∧ Gb ∉ fa ∧ Gb ∉ fb) := ⟨(bx.block _ H8.out.2.2.1).trans H8.out.1, H8.out.2.1, Nat.lt_of_lt_of_le H8.out.2.2.1 bx.size, H8.out.2.2.2, fun hm => by have h1 := (hlx _ hm).1; have h2 := H8.out.2.2.1; omega⟩
          replace HB : Hid (Below w1.heap.size w1 wk11) := HB.out.trans (bx.mono HB.out.size)
          clear hVx hNx bx hlx
          go_wp2_with fail
          refine hK1.out _ _ (HS.out _ HB.out) (fun _ => ?_)
          clear hK1 K1
          try simp only [Act.put, List.setIfInBounds_toArray, List.set_cons_zero, List.set_cons_succ]
          obtain ⟨u0, u1, u2, u3, uf⟩ := cell4 H7.out.1
          have v0 := uf 0
          have v1 := uf 1
          have v2 := uf 2
          have v3 := uf 3
          clear uf
          refine wpAnyH_ready (rs := [6]) (by kernel_rfl) (by decide) (AllReadyH.cons rfl (fun K1 hK1 => ?_) AllReadyH.nil)
          rw [if_pos (by rfl)]
          go_simp
          have bX : Below w1.heap.size w1 (wk11.setCells Ga 0 [.int .i64 T.k, .bool T.e, .string T.t, .slice ya T.nms.length ca]) := belowE_setCells _ _ _ H7.out.2.1 HB.out
          have NX : (fun W : World => W.cell? ⟨GT, 0, none⟩ = some (.int .i64 k) ∧ W.cell? ⟨GT, 1, none⟩ = some (.bool e) ∧ W.cell? ⟨GT, 2, none⟩ = some (.string t) ∧ W.cell? ⟨GT, 3, none⟩ = some (.slice z n cz) ∧ W.cell? ⟨GU, 0, none⟩ = some (.int .i64 ku) ∧ W.cell? ⟨GU, 1, none⟩ = some (.bool eu) ∧ W.cell? ⟨GU, 2, none⟩ = some (.string tu) ∧ W.cell? ⟨GU, 3, none⟩ = some (.slice zu nu czu)) (wk11.setCells Ga 0 [.int .i64 T.k, .bool T.e, .string T.t, .slice ya T.nms.length ca]) := HS.out _ bX
          refine hK1.out _ _ NX (fun _ => ?_)
          clear hK1 K1
          try simp only [Act.put, List.setIfInBounds_toArray, List.set_cons_zero, List.set_cons_succ]
          have q7 := put4 H7.out.1 (.int .i64 T.k) (.bool T.e) (.string T.t) (.slice ya T.nms.length ca)
          have q8 := (heapE_setCells Ga [.int .i64 T.k, .bool T.e, .string T.t, .slice ya T.nms.length ca] 0 Gb (Ne.symm H78.out) wk11).trans H8.out.1
          have sX : wk11.heap.size ≤ (wk11.setCells Ga 0 [.int .i64 T.k, .bool T.e, .string T.t, .slice ya T.nms.length ca]).heap.size := by rw [sizeE_setCells]; exact Nat.le_refl _
          have kX : ∀ x, x ≠ Ga → (wk11.setCells Ga 0 [.int .i64 T.k, .bool T.e, .string T.t, .slice ya T.nms.length ca]).heap[x]? = wk11.heap[x]? := fun x hx => heapE_setCells Ga _ _ x hx _
          change wpAnyH _ _ _ _ _ _ _ _ (wk11.setCells Ga 0 [.int .i64 T.k, .bool T.e, .string T.t, .slice ya T.nms.length ca])
          have HX : Hid (Below w1.heap.size w1 (wk11.setCells Ga 0 [.int .i64 T.k, .bool T.e, .string T.t, .slice ya T.nms.length ca]) ∧ (wk11.setCells Ga 0 [.int .i64 T.k, .bool T.e, .string T.t, .slice ya T.nms.length ca]).heap[Ga]? = some (.cells #[Value.int IntKind.i64 T.k, Value.bool T.e, Value.string T.t, Value.slice ya T.nms.length ca] 25 (0, 0)) ∧ (wk11.setCells Ga 0 [.int .i64 T.k, .bool T.e, .string T.t, .slice ya T.nms.length ca]).heap[Gb]? = some (.cells #[Value.int IntKind.i64 0, Value.bool false, Value.string ⟨#[]⟩, Value.slice none 0 0] 25 (0, 0)) ∧ wk11.heap.size ≤ (wk11.setCells Ga 0 [.int .i64 T.k, .bool T.e, .string T.t, .slice ya T.nms.length ca]).heap.size ∧ ∀ x, x ≠ Ga → (wk11.setCells Ga 0 [.int .i64 T.k, .bool T.e, .string T.t, .slice ya T.nms.length ca]).heap[x]? = wk11.heap[x]?) := ⟨bX, q7, q8, sX, kX⟩
          clear bX NX q7 q8 sX kX u0 u1 u2 u3 v0 v1 v2 v3
          generalize wk11.setCells Ga 0 [.int .i64 T.k, .bool T.e, .string T.t, .slice ya T.nms.length ca] = wX at *
          obtain ⟨u0, u1, u2, u3, uf⟩ := cell4 HX.out.2.2.1
          have v0 := uf 0
          have v1 := uf 1
          have v2 := uf 2
          have v3 := uf 3
          clear uf
          refine wpAnyH_ready (rs := [7]) (by kernel_rfl) (by decide) (AllReadyH.cons rfl (fun K1 hK1 => ?_) AllReadyH.nil)
          rw [if_pos (by rfl)]
          go_simp
          have bY : Below w1.heap.size w1 (wX.setCells Gb 0 [.int .i64 U.k, .bool U.e, .string U.t, .slice yb U.nms.length cb]) := belowE_setCells _ _ _ H8.out.2.1 HX.out.1
          refine hK1.out _ _ (HS.out _ bY) (fun _ => ?_)
          clear hK1 K1
          refine wpAnyH_done (by kernel_rfl) ?_ _
          (try go_wp2_with fail)
          go_meet
          refine ⟨Ga, Gb, ya, ca, fa, yb, cb, fb, rfl, rfl, ?_⟩
          have sY : wX.heap.size = (wX.setCells Gb 0 [.int .i64 U.k, .bool U.e, .string U.t, .slice yb U.nms.length cb]).heap.size := by rw [sizeE_setCells]
          have kY : ∀ x, x ≠ Ga → x ≠ Gb → (wX.setCells Gb 0 [.int .i64 U.k, .bool U.e, .string U.t, .slice yb U.nms.length cb]).heap[x]? = wk11.heap[x]? := fun x hx hx' => (heapE_setCells Gb _ _ x hx' _).trans (HX.out.2.2.2.2 x hx)
          exact KF.made HA1.out HB1.out HAB1.out bY ((heapE_setCells Gb [.int .i64 U.k, .bool U.e, .string U.t, .slice yb U.nms.length cb] 0 Ga H78.out wX).trans HX.out.2.1) (put4 HX.out.2.2.1 _ _ _ _) H7.out.2 H8.out.2 kY (Nat.le_trans HX.out.2.2.2.1 (Nat.le_of_eq sY))
      · rw [if_pos (by rfl)]
        have bx : Below wk1.heap.size wk1 (wk1.alloc (.cells #[Value.int IntKind.i64 0, Value.bool false, Value.string ⟨#[]⟩, Value.slice none 0 0] 25)) := (Below.refl _ _).alloc (Nat.le_refl _) _
        have zx : (wk1.alloc (.cells #[Value.int IntKind.i64 0, Value.bool false, Value.string ⟨#[]⟩, Value.slice none 0 0] 25)).heap[wk1.heap.size]? = some (.cells #[Value.int IntKind.i64 0, Value.bool false, Value.string ⟨#[]⟩, Value.slice none 0 0] 25 (0, 0)) := heap_alloc_new _ _
        have lx : wk1.heap.size < (wk1.alloc (.cells #[Value.int IntKind.i64 0, Value.bool false, Value.string ⟨#[]⟩, Value.slice none 0 0] 25)).heap.size := by rw [World.size_alloc]; omega
        have bX : Below w1.heap.size w1 (wk1.alloc (.cells #[Value.int IntKind.i64 0, Value.bool false, Value.string ⟨#[]⟩, Value.slice none 0 0] 25)) := HB.out.trans (bx.mono HB.out.size)
        go_simp
        refine hK1.out _ _ (HS.out _ bX) (fun _ => ?_)
        clear hK1 K1
        try simp only [Act.put, List.setIfInBounds_toArray, List.set_cons_zero, List.set_cons_succ]
        obtain ⟨Gb, hGx⟩ : ∃ Gb, wk1.heap.size = Gb := ⟨_, rfl⟩
        have HSZ : Hid (wk1.heap.size = Gb) := hGx
        have H8 : Hid ((wk1.alloc (.cells #[Value.int IntKind.i64 0, Value.bool false, Value.string ⟨#[]⟩, Value.slice none 0 0] 25)).heap[Gb]? = some (.cells #[Value.int IntKind.i64 0, Value.bool false, Value.string ⟨#[]⟩, Value.slice none 0 0] 25 (0, 0)) ∧ w1.heap.size ≤ Gb ∧ Gb < (wk1.alloc (.cells #[Value.int IntKind.i64 0, Value.bool false, Value.string ⟨#[]⟩, Value.slice none 0 0] 25)).heap.size ∧ Gb ∉ fa) := ⟨by rw [← HSZ.out]; exact zx, by rw [← HSZ.out]; exact HB.out.size, by rw [← HSZ.out]; exact lx, fun hm => by have h2 := (TrV.lt _ _ _ HA1.out.1 _ hm).2; have h3 := HSZ.out; omega⟩
        replace HA1 : Hid (TrV (wk1.alloc (.cells #[Value.int IntKind.i64 0, Value.bool false, Value.string ⟨#[]⟩, Value.slice none 0 0] 25)) w1.heap.size T (.slice ya T.nms.length ca) fa ∧ fa.Nodup) := ⟨TrV.same _ _ _ HA1.out.1 (fun b hb => bx.block b (TrV.lt _ _ _ HA1.out.1 b hb).2), HA1.out.2⟩
        replace HB : Hid (Below w1.heap.size w1 (wk1.alloc (.cells #[Value.int IntKind.i64 0, Value.bool false, Value.string ⟨#[]⟩, Value.slice none 0 0] 25))) := bX
        rw [hGx]
        clear bx zx lx bX hGx HSZ
        generalize wk1.alloc (.cells #[Value.int IntKind.i64 0, Value.bool false, Value.string ⟨#[]⟩, Value.slice none 0 0] 25) = wk12 at *
        refine wpAnyH_ready (rs := [3, 4]) (by kernel_rfl) (by decide) (AllReadyH.cons rfl (fun K1 hK1 => ?_) (AllReadyH.cons rfl (fun K1 hK1 => ?_) AllReadyH.nil))
        · rw [if_pos (by rfl)]
          go_simp
          refine (clone_any fu _ U wk12 (HH.out.2.2.2.1.below (HB0.out.trans (HB.out.mono HB0.out.size))) (lnB_ln (by decide) _ HH.out.2.2.2.2.2.2.2)).mono ?_
          rintro en wk13 ⟨⟨xx, fb, rfl, hVx, hNx⟩, bx⟩
          obtain ⟨yb, cb, rfl⟩ := hVx.shape
          have hlx := TrV.lt _ _ _ hVx
          have HB1 : Hid (TrV wk13 w1.heap.size U (.slice yb U.nms.length cb) fb ∧ fb.Nodup) := ⟨TrV.low HB.out.size _ _ _ hVx, hNx⟩
          have HAB1 : Hid (∀ b ∈ fb, b ∉ fa) := fun b hb ha => by
            have h1 := (hlx b hb).1
            have h2 := (TrV.lt _ _ _ HA1.out.1 b ha).2
            omega
          replace HA1 : Hid (TrV wk13 w1.heap.size T (.slice ya T.nms.length ca) fa ∧ fa.Nodup) := ⟨TrV.same _ _ _ HA1.out.1 (fun b hb => bx.block b (TrV.lt _ _ _ HA1.out.1 b hb).2), HA1.out.2⟩
          replace H8 : Hid (wk13.heap[Gb]? = some (.cells #[Value.int IntKind.i64 0, Value.bool false, Value.string ⟨#[]⟩, Value.slice none 0 0] 25 (0, 0)) ∧ w1.heap.size ≤ Gb ∧ Gb < wk13.heap.size ∧ Gb ∉ fa ∧ Gb ∉ fb) := ⟨(bx.block _ H8.out.2.2.1).trans H8.out.1, H8.out.2.1, Nat.lt_of_lt_of_le H8.out.2.2.1 bx.size, H8.out.2.2.2, fun hm => by have h1 := (hlx _ hm).1; have h2 := H8.out.2.2.1; omega⟩
          replace HB : Hid (Below w1.heap.size w1 wk13) := HB.out.trans (bx.mono HB.out.size)
          clear hVx hNx bx hlx
          go_wp2_with fail
          refine hK1.out _ _ (HS.out _ HB.out) (fun _ => ?_)
          clear hK1 K1
          try simp only [Act.put, List.setIfInBounds_toArray, List.set_cons_zero, List.set_cons_succ]
          refine wpAnyH_ready (rs := [4]) (by kernel_rfl) (by decide) (AllReadyH.cons rfl (fun K1 hK1 => ?_) AllReadyH.nil)
          rw [if_pos (by rfl)]
          have bx : Below wk13.heap.size wk13 (wk13.alloc (.cells #[Value.int IntKind.i64 0, Value.bool false, Value.string ⟨#[]⟩, Value.slice none 0 0] 25)) := (Below.refl _ _).alloc (Nat.le_refl _) _
          have zx : (wk13.alloc (.cells #[Value.int IntKind.i64 0, Value.bool false, Value.string ⟨#[]⟩, Value.slice none 0 0] 25)).heap[wk13.heap.size]? = some (.cells #[Value.int IntKind.i64 0, Value.bool false, Value.string ⟨#[]⟩, Value.slice none 0 0] 25 (0, 0)) := heap_alloc_new _ _
          have lx : wk13.heap.size < (wk13.alloc (.cells #[Value.int IntKind.i64 0, Value.bool false, Value.string ⟨#[]⟩, Value.slice none 0 0] 25)).heap.size := by rw [World.size_alloc]; omega
          have bX : Below w1.heap.size w1 (wk13.alloc (.cells #[Value.int IntKind.i64 0, Value.bool false, Value.string ⟨#[]⟩, Value.slice none 0 0] 25)) := HB.out.trans (bx.mono HB.out.size)
          go_simp
          refine hK1.out _ _ (HS.out _ bX) (fun _ => ?_)
          clear hK1 K1
          try simp only [Act.put, List.setIfInBounds_toArray, List.set_cons_zero, List.set_cons_succ]
          obtain ⟨Ga, hGx⟩ : ∃ Ga, wk13.heap.size = Ga := ⟨_, rfl⟩
          have HSZ : Hid (wk13.heap.size = Ga) := hGx
          have H7 : Hid ((wk13.alloc (.cells #[Value.int IntKind.i64 0, Value.bool false, Value.string ⟨#[]⟩, Value.slice none 0 0] 25)).heap[Ga]? = some (.cells #[Value.int IntKind.i64 0, Value.bool false, Value.string ⟨#[]⟩, Value.slice none 0 0] 25 (0, 0)) ∧ w1.heap.size ≤ Ga ∧ Ga < (wk13.alloc (.cells #[Value.int IntKind.i64 0, Value.bool false, Value.string ⟨#[]⟩, Value.slice none 0 0] 25)).heap.size ∧ Ga ∉ fa ∧ Ga ∉ fb) := ⟨by rw [← HSZ.out]; exact zx, by rw [← HSZ.out]; exact HB.out.size, by rw [← HSZ.out]; exact lx, fun hm => by have h2 := (TrV.lt _ _ _ HA1.out.1 _ hm).2; have h3 := HSZ.out; omega, fun hm => by have h2 := (TrV.lt _ _ _ HB1.out.1 _ hm).2; have h3 := HSZ.out; omega⟩
          have H78 : Hid (Ga ≠ Gb) := fun hh => by have h1 := H8.out.2.2.1; have h2 := HSZ.out; omega
          replace H8 : Hid ((wk13.alloc (.cells #[Value.int IntKind.i64 0, Value.bool false, Value.string ⟨#[]⟩, Value.slice none 0 0] 25)).heap[Gb]? = some (.cells #[Value.int IntKind.i64 0, Value.bool false, Value.string ⟨#[]⟩, Value.slice none 0 0] 25 (0, 0)) ∧ w1.heap.size ≤ Gb ∧ Gb < (wk13.alloc (.cells #[Value.int IntKind.i64 0, Value.bool false, Value.string ⟨#[]⟩, Value.slice none 0 0] 25)).heap.size ∧ Gb ∉ fa ∧ Gb ∉ fb) := ⟨(bx.block _ H8.out.2.2.1).trans H8.out.1, H8.out.2.1, Nat.lt_of_lt_of_le H8.out.2.2.1 bx.size, H8.out.2.2.2⟩
          replace HA1 : Hid (TrV (wk13.alloc (.cells #[Value.int IntKind.i64 0, Value.bool false, Value.string ⟨#[]⟩, Value.slice none 0 0] 25)) w1.heap.size T (.slice ya T.nms.length ca) fa ∧ fa.Nodup) := ⟨TrV.same _ _ _ HA1.out.1 (fun b hb => bx.block b (TrV.lt _ _ _ HA1.out.1 b hb).2), HA1.out.2⟩
          replace HB1 : Hid (TrV (wk13.alloc (.cells #[Value.int IntKind.i64 0, Value.bool false, Value.string ⟨#[]⟩, Value.slice none 0 0] 25)) w1.heap.size U (.slice yb U.nms.length cb) fb ∧ fb.Nodup) := ⟨TrV.same _ _ _ HB1.out.1 (fun b hb => bx.block b (TrV.lt _ _ _ HB1.out.1 b hb).2), HB1.out.2⟩
          replace HB : Hid (Below w1.heap.size w1 (wk13.alloc (.cells #[Value.int IntKind.i64 0, Value.bool false, Value.string ⟨#[]⟩, Value.slice none 0 0] 25))) := bX
          rw [hGx]
          clear bx zx lx bX hGx HSZ
          generalize wk13.alloc (.cells #[Value.int IntKind.i64 0, Value.bool false, Value.string ⟨#[]⟩, Value.slice none 0 0] 25) = wk14 at *
          obtain ⟨u0, u1, u2, u3, uf⟩ := cell4 H7.out.1
          have v0 := uf 0
          have v1 := uf 1
          have v2 := uf 2
          have v3 := uf 3
          clear uf
          refine wpAnyH_ready (rs := [6]) (by kernel_rfl) (by decide) (AllReadyH.cons rfl (fun K1 hK1 => ?_) AllReadyH.nil)
          rw [if_pos (by rfl)]
          go_simp
          have bX : Below w1.heap.size w1 (wk14.setCells Ga 0 [.int .i64 T.k, .bool T.e, .string T.t, .slice ya T.nms.length ca]) := belowE_setCells _ _ _ H7.out.2.1 HB.out
          have NX : (fun W : World => W.cell? ⟨GT, 0, none⟩ = some (.int .i64 k) ∧ W.cell? ⟨GT, 1, none⟩ = some (.bool e) ∧ W.cell? ⟨GT, 2, none⟩ = some (.string t) ∧ W.cell? ⟨GT, 3, none⟩ = some (.slice z n cz) ∧ W.cell? ⟨GU, 0, none⟩ = some (.int .i64 ku) ∧ W.cell? ⟨GU, 1, none⟩ = some (.bool eu) ∧ W.cell? ⟨GU, 2, none⟩ = some (.string tu) ∧ W.cell? ⟨GU, 3, none⟩ = some (.slice zu nu czu)) (wk14.setCells Ga 0 [.int .i64 T.k, .bool T.e, .string T.t, .slice ya T.nms.length ca]) := HS.out _ bX
          refine hK1.out _ _ NX (fun _ => ?_)
          clear hK1 K1
          try simp only [Act.put, List.setIfInBounds_toArray, List.set_cons_zero, List.set_cons_succ]
          have q7 := put4 H7.out.1 (.int .i64 T.k) (.bool T.e) (.string T.t) (.slice ya T.nms.length ca)
          have q8 := (heapE_setCells Ga [.int .i64 T.k, .bool T.e, .string T.t, .slice ya T.nms.length ca] 0 Gb (Ne.symm H78.out) wk14).trans H8.out.1
          have sX : wk14.heap.size ≤ (wk14.setCells Ga 0 [.int .i64 T.k, .bool T.e, .string T.t, .slice ya T.nms.length ca]).heap.size := by rw [sizeE_setCells]; exact Nat.le_refl _
          have kX : ∀ x, x ≠ Ga → (wk14.setCells Ga 0 [.int .i64 T.k, .bool T.e, .string T.t, .slice ya T.nms.length ca]).heap[x]? = wk14.heap[x]? := fun x hx => heapE_setCells Ga _ _ x hx _
          change wpAnyH _ _ _ _ _ _ _ _ (wk14.setCells Ga 0 [.int .i64 T.k, .bool T.e, .string T.t, .slice ya T.nms.length ca])
          have HX : Hid (Below w1.heap.size w1 (wk14.setCells Ga 0 [.int .i64 T.k, .bool T.e, .string T.t, .slice ya T.nms.length ca]) ∧ (wk14.setCells Ga 0 [.int .i64 T.k, .bool T.e, .string T.t, .slice ya T.nms.length ca]).heap[Ga]? = some (.cells #[Value.int IntKind.i64 T.k, Value.bool T.e, Value.string T.t, Value.slice ya T.nms.length ca] 25 (0, 0)) ∧ (wk14.setCells Ga 0 [.int .i64 T.k, .bool T.e, .string T.t, .slice ya T.nms.length ca]).heap[Gb]? = some (.cells #[Value.int IntKind.i64 0, Value.bool false, Value.string ⟨#[]⟩, Value.slice none 0 0] 25 (0, 0)) ∧ wk14.heap.size ≤ (wk14.setCells Ga 0 [.int .i64 T.k, .bool T.e, .string T.t, .slice ya T.nms.length ca]).heap.size ∧ ∀ x, x ≠ Ga → (wk14.setCells Ga 0 [.int .i64 T.k, .bool T.e, .string T.t, .slice ya T.nms.length ca]).heap[x]? = wk14.heap[x]?) := ⟨bX, q7, q8, sX, kX⟩
          clear bX NX q7 q8 sX kX u0 u1 u2 u3 v0 v1 v2 v3
          generalize wk14.setCells Ga 0 [.int .i64 T.k, .bool T.e, .string T.t, .slice ya T.nms.length ca] = wX at *
          obtain ⟨u0, u1, u2, u3, uf⟩ := cell4 HX.out.2.2.1
          have v0 := uf 0
          have v1 := uf 1
          have v2 := uf 2
          have v3 := uf 3
          clear uf
          refine wpAnyH_ready (rs := [7]) (by kernel_rfl) (by decide) (AllReadyH.cons rfl (fun K1 hK1 => ?_) AllReadyH.nil)
          rw [if_pos (by rfl)]
          go_simp
          have bY : Below w1.heap.size w1 (wX.setCells Gb 0 [.int .i64 U.k, .bool U.e, .string U.t, .slice yb U.nms.length cb]) := belowE_setCells _ _ _ H8.out.2.1 HX.out.1
          refine hK1.out _ _ (HS.out _ bY) (fun _ => ?_)
          clear hK1 K1
          refine wpAnyH_done (by kernel_rfl) ?_ _
          (try go_wp2_with fail)
          go_meet
          refine ⟨Ga, Gb, ya, ca, fa, yb, cb, fb, rfl, rfl, ?_⟩
          have sY : wX.heap.size = (wX.setCells Gb 0 [.int .i64 U.k, .bool U.e, .string U.t, .slice yb U.nms.length cb]).heap.size := by rw [sizeE_setCells]
          have kY : ∀ x, x ≠ Ga → x ≠ Gb → (wX.setCells Gb 0 [.int .i64 U.k, .bool U.e, .string U.t, .slice yb U.nms.length cb]).heap[x]? = wk14.heap[x]? := fun x hx hx' => (heapE_setCells Gb _ _ x hx' _).trans (HX.out.2.2.2.2 x hx)
          exact KF.made HA1.out HB1.out HAB1.out bY ((heapE_setCells Gb [.int .i64 U.k, .bool U.e, .string U.t, .slice yb U.nms.length cb] 0 Ga H78.out wX).trans HX.out.2.1) (put4 HX.out.2.2.1 _ _ _ _) H7.out.2 H8.out.2 kY (Nat.le_trans HX.out.2.2.2.1 (Nat.le_of_eq sY))
        · rw [if_pos (by rfl)]
          have bx : Below wk12.heap.size wk12 (wk12.alloc (.cells #[Value.int IntKind.i64 0, Value.bool false, Value.string ⟨#[]⟩, Value.slice none 0 0] 25)) := (Below.refl _ _).alloc (Nat.le_refl _) _
          have zx : (wk12.alloc (.cells #[Value.int IntKind.i64 0, Value.bool false, Value.string ⟨#[]⟩, Value.slice none 0 0] 25)).heap[wk12.heap.size]? = some (.cells #[Value.int IntKind.i64 0, Value.bool false, Value.string ⟨#[]⟩, Value.slice none 0 0] 25 (0, 0)) := heap_alloc_new _ _
          have lx : wk12.heap.size < (wk12.alloc (.cells #[Value.int IntKind.i64 0, Value.bool false, Value.string ⟨#[]⟩, Value.slice none 0 0] 25)).heap.size := by rw [World.size_alloc]; omega
          have bX : Below w1.heap.size w1 (wk12.alloc (.cells #[Value.int IntKind.i64 0, Value.bool false, Value.string ⟨#[]⟩, Value.slice none 0 0] 25)) := HB.out.trans (bx.mono HB.out.size)
          go_simp
          refine hK1.out _ _ (HS.out _ bX) (fun _ => ?_)
          clear hK1 K1
          try simp only [Act.put, List.setIfInBounds_toArray, List.set_cons_zero, List.set_cons_succ]
          obtain ⟨Ga, hGx⟩ : ∃ Ga, wk12.heap.size = Ga := ⟨_, rfl⟩
          have HSZ : Hid (wk12.heap.size = Ga) := hGx
          have H7 : Hid ((wk12.alloc (.cells #[Value.int IntKind.i64 0, Value.bool false, Value.string ⟨#[]⟩, Value.slice none 0 0] 25)).heap[Ga]? = some (.cells #[Value.int IntKind.i64 0, Value.bool false, Value.string ⟨#[]⟩, Value.slice none 0 0] 25 (0, 0)) ∧ w1.heap.size ≤ Ga ∧ Ga < (wk12.alloc (.cells #[Value.int IntKind.i64 0, Value.bool false, Value.string ⟨#[]⟩, Value.slice none 0 0] 25)).heap.size ∧ Ga ∉ fa) := ⟨by rw [← HSZ.out]; exact zx, by rw [← HSZ.out]; exact HB.out.size, by rw [← HSZ.out]; exact lx, fun hm => by have h2 := (TrV.lt _ _ _ HA1.out.1 _ hm).2; have h3 := HSZ.out; omega⟩
          have H78 : Hid (Ga ≠ Gb) := fun hh => by have h1 := H8.out.2.2.1; have h2 := HSZ.out; omega
          replace H8 : Hid ((wk12.alloc (.cells #[Value.int IntKind.i64 0, Value.bool false, Value.string ⟨#[]⟩, Value.slice none 0 0] 25)).heap[Gb]? = some (.cells #[Value.int IntKind.i64 0, Value.bool false, Value.string ⟨#[]⟩, Value.slice none 0 0] 25 (0, 0)) ∧ w1.heap.size ≤ Gb ∧ Gb < (wk12.alloc (.cells #[Value.int IntKind.i64 0, Value.bool false, Value.string ⟨#[]⟩, Value.slice none 0 0] 25)).heap.size ∧ Gb ∉ fa) := ⟨(bx.block _ H8.out.2.2.1).trans H8.out.1, H8.out.2.1, Nat.lt_of_lt_of_le H8.out.2.2.1 bx.size, H8.out.2.2.2⟩
          replace HA1 : Hid (TrV (wk12.alloc (.cells #[Value.int IntKind.i64 0, Value.bool false, Value.string ⟨#[]⟩, Value.slice none 0 0] 25)) w1.heap.size T (.slice ya T.nms.length ca) fa ∧ fa.Nodup) := ⟨TrV.same _ _ _ HA1.out.1 (fun b hb => bx.block b (TrV.lt _ _ _ HA1.out.1 b hb).2), HA1.out.2⟩
          replace HB : Hid (Below w1.heap.size w1 (wk12.alloc (.cells #[Value.int IntKind.i64 0, Value.bool false, Value.string ⟨#[]⟩, Value.slice none 0 0] 25))) := bX
          rw [hGx]
          clear bx zx lx bX hGx HSZ
          generalize wk12.alloc (.cells #[Value.int IntKind.i64 0, Value.bool false, Value.string ⟨#[]⟩, Value.slice none 0 0] 25) = wk15 at *
          refine wpAnyH_ready (rs := [3]) (by kernel_rfl) (by decide) (AllReadyH.cons rfl (fun K1 hK1 => ?_) AllReadyH.nil)
          rw [if_pos (by rfl)]
          go_simp
          refine (clone_any fu _ U wk15 (HH.out.2.2.2.1.below (HB0.out.trans (HB.out.mono HB0.out.size))) (lnB_ln (by decide) _ HH.out.2.2.2.2.2.2.2)).mono ?_
          rintro en wk16 ⟨⟨xx, fb, rfl, hVx, hNx⟩, bx⟩
          obtain ⟨yb, cb, rfl⟩ := hVx.shape
          have hlx := TrV.lt _ _ _ hVx
          have HB1 : Hid (TrV wk16 w1.heap.size U (.slice yb U.nms.length cb) fb ∧ fb.Nodup) := ⟨TrV.low HB.out.size _ _ _ hVx, hNx⟩
          have HAB1 : Hid (∀ b ∈ fb, b ∉ fa) := fun b hb ha => by
            have h1 := (hlx b hb).1
            have h2 := (TrV.lt _ _ _ HA1.out.1 b ha).2
            omega
          replace HA1 : Hid (TrV wk16 w1.heap.size T (.slice ya T.nms.length ca) fa ∧ fa.Nodup) := ⟨TrV.same _ _ _ HA1.out.1 (fun b hb => bx.block b (TrV.lt _ _ _ HA1.out.1 b hb).2), HA1.out.2⟩
          replace H7 : Hid (wk16.heap[Ga]? = some (.cells #[Value.int IntKind.i64 0, Value.bool false, Value.string ⟨#[]⟩, Value.slice none 0 0] 25 (0, 0)) ∧ w1.heap.size ≤ Ga ∧ Ga < wk16.heap.size ∧ Ga ∉ fa ∧ Ga ∉ fb) := ⟨(bx.block _ H7.out.2.2.1).trans H7.out.1, H7.out.2.1, Nat.lt_of_lt_of_le H7.out.2.2.1 bx.size, H7.out.2.2.2, fun hm => by have h1 := (hlx _ hm).1; have h2 := H7.out.2.2.1; omega⟩
          replace H8 : Hid (wk16.heap[Gb]? = some (.cells #[Value.int IntKind.i64 0, Value.bool false, Value.string ⟨#[]⟩, Value.slice none 0 0] 25 (0, 0)) ∧ w1.heap.size ≤ Gb ∧ Gb < wk16.heap.size ∧ Gb ∉ fa ∧ Gb ∉ fb) := ⟨(bx.block _ H8.out.2.2.1).trans H8.out.1, H8.out.2.1, Nat.lt_of_lt_of_le H8.out.2.2.1 bx.size, H8.out.2.2.2, fun hm => by have h1 := (hlx _ hm).1; have h2 := H8.out.2.2.1; omega⟩
          replace HB : Hid (Below w1.heap.size w1 wk16) := HB.out.trans (bx.mono HB.out.size)
          clear hVx hNx bx hlx
          go_wp2_with fail
          refine hK1.out _ _ (HS.out _ HB.out) (fun _ => ?_)
          clear hK1 K1
          try simp only [Act.put, List.setIfInBounds_toArray, List.set_cons_zero, List.set_cons_succ]
          obtain ⟨u0, u1, u2, u3, uf⟩ := cell4 H7.out.1
          have v0 := uf 0
          have v1 := uf 1
          have v2 := uf 2
          have v3 := uf 3
          clear uf
          refine wpAnyH_ready (rs := [6]) (by kernel_rfl) (by decide) (AllReadyH.cons rfl (fun K1 hK1 => ?_) AllReadyH.nil)
          rw [if_pos (by rfl)]
          go_simp
          have bX : Below w1.heap.size w1 (wk16.setCells Ga 0 [.int .i64 T.k, .bool T.e, .string T.t, .slice ya T.nms.length ca]) := belowE_setCells _ _ _ H7.out.2.1 HB.out
          have NX : (fun W : World => W.cell? ⟨GT, 0, none⟩ = some (.int .i64 k) ∧ W.cell? ⟨GT, 1, none⟩ = some (.bool e) ∧ W.cell? ⟨GT, 2, none⟩ = some (.string t) ∧ W.cell? ⟨GT, 3, none⟩ = some (.slice z n cz) ∧ W.cell? ⟨GU, 0, none⟩ = some (.int .i64 ku) ∧ W.cell? ⟨GU, 1, none⟩ = some (.bool eu) ∧ W.cell? ⟨GU, 2, none⟩ = some (.string tu) ∧ W.cell? ⟨GU, 3, none⟩ = some (.slice zu nu czu)) (wk16.setCells Ga 0 [.int .i64 T.k, .bool T.e, .string T.t, .slice ya T.nms.length ca]) := HS.out _ bX
          refine hK1.out _ _ NX (fun _ => ?_)
          clear hK1 K1
          try simp only [Act.put, List.setIfInBounds_toArray, List.set_cons_zero, List.set_cons_succ]
          have q7 := put4 H7.out.1 (.int .i64 T.k) (.bool T.e) (.string T.t) (.slice ya T.nms.length ca)
          have q8 := (heapE_setCells Ga [.int .i64 T.k, .bool T.e, .string T.t, .slice ya T.nms.length ca] 0 Gb (Ne.symm H78.out) wk16).trans H8.out.1
          have sX : wk16.heap.size ≤ (wk16.setCells Ga 0 [.int .i64 T.k, .bool T.e, .string T.t, .slice ya T.nms.length ca]).heap.size := by rw [sizeE_setCells]; exact Nat.le_refl _
          have kX : ∀ x, x ≠ Ga → (wk16.setCells Ga 0 [.int .i64 T.k, .bool T.e, .string T.t, .slice ya T.nms.length ca]).heap[x]? = wk16.heap[x]? := fun x hx => heapE_setCells Ga _ _ x hx _
          change wpAnyH _ _ _ _ _ _ _ _ (wk16.setCells Ga 0 [.int .i64 T.k, .bool T.e, .string T.t, .slice ya T.nms.length ca])
          have HX : Hid (Below w1.heap.size w1 (wk16.setCells Ga 0 [.int .i64 T.k, .bool T.e, .string T.t, .slice ya T.nms.length ca]) ∧ (wk16.setCells Ga 0 [.int .i64 T.k, .bool T.e, .string T.t, .slice ya T.nms.length ca]).heap[Ga]? = some (.cells #[Value.int IntKind.i64 T.k, Value.bool T.e, Value.string T.t, Value.slice ya T.nms.length ca] 25 (0, 0)) ∧ (wk16.setCells Ga 0 [.int .i64 T.k, .bool T.e, .string T.t, .slice ya T.nms.length ca]).heap[Gb]? = some (.cells #[Value.int IntKind.i64 0, Value.bool false, Value.string ⟨#[]⟩, Value.slice none 0 0] 25 (0, 0)) ∧ wk16.heap.size ≤ (wk16.setCells Ga 0 [.int .i64 T.k, .bool T.e, .string T.t, .slice ya T.nms.length ca]).heap.size ∧ ∀ x, x ≠ Ga → (wk16.setCells Ga 0 [.int .i64 T.k, .bool T.e, .string T.t, .slice ya T.nms.length ca]).heap[x]? = wk16.heap[x]?) := ⟨bX, q7, q8, sX, kX⟩
          clear bX NX q7 q8 sX kX u0 u1 u2 u3 v0 v1 v2 v3
          generalize wk16.setCells Ga 0 [.int .i64 T.k, .bool T.e, .string T.t, .slice ya T.nms.length ca] = wX at *
          obtain ⟨u0, u1, u2, u3, uf⟩ := cell4 HX.out.2.2.1
          have v0 := uf 0
          have v1 := uf 1
          have v2 := uf 2
          have v3 := uf 3
          clear uf
          refine wpAnyH_ready (rs := [7]) (by kernel_rfl) (by decide) (AllReadyH.cons rfl (fun K1 hK1 => ?_) AllReadyH.nil)
          rw [if_pos (by rfl)]
          go_simp
          have bY : Below w1.heap.size w1 (wX.setCells Gb 0 [.int .i64 U.k, .bool U.e, .string U.t, .slice yb U.nms.length cb]) := belowE_setCells _ _ _ H8.out.2.1 HX.out.1
          refine hK1.out _ _ (HS.out _ bY) (fun _ => ?_)
          clear hK1 K1
          refine wpAnyH_done (by kernel_rfl) ?_ _
          (try go_wp2_with fail)
          go_meet
          refine ⟨Ga, Gb, ya, ca, fa, yb, cb, fb, rfl, rfl, ?_⟩
          have sY : wX.heap.size = (wX.setCells Gb 0 [.int .i64 U.k, .bool U.e, .string U.t, .slice yb U.nms.length cb]).heap.size := by rw [sizeE_setCells]
          have kY : ∀ x, x ≠ Ga → x ≠ Gb → (wX.setCells Gb 0 [.int .i64 U.k, .bool U.e, .string U.t, .slice yb U.nms.length cb]).heap[x]? = wk16.heap[x]? := fun x hx hx' => (heapE_setCells Gb _ _ x hx' _).trans (HX.out.2.2.2.2 x hx)
          exact KF.made HA1.out HB1.out HAB1.out bY ((heapE_setCells Gb [.int .i64 U.k, .bool U.e, .string U.t, .slice yb U.nms.length cb] 0 Ga H78.out wX).trans HX.out.2.1) (put4 HX.out.2.2.1 _ _ _ _) H7.out.2 H8.out.2 kY (Nat.le_trans HX.out.2.2.2.1 (Nat.le_of_eq sY))
    · rw [if_pos (by rfl)]
      have bx : Below wd.heap.size wd (wd.alloc (.cells #[Value.int IntKind.i64 0, Value.bool false, Value.string ⟨#[]⟩, Value.slice none 0 0] 25)) := (Below.refl _ _).alloc (Nat.le_refl _) _
      have zx : (wd.alloc (.cells #[Value.int IntKind.i64 0, Value.bool false, Value.string ⟨#[]⟩, Value.slice none 0 0] 25)).heap[wd.heap.size]? = some (.cells #[Value.int IntKind.i64 0, Value.bool false, Value.string ⟨#[]⟩, Value.slice none 0 0] 25 (0, 0)) := heap_alloc_new _ _
      have lx : wd.heap.size < (wd.alloc (.cells #[Value.int IntKind.i64 0, Value.bool false, Value.string ⟨#[]⟩, Value.slice none 0 0] 25)).heap.size := by rw [World.size_alloc]; omega
      have bX : Below w1.heap.size w1 (wd.alloc (.cells #[Value.int IntKind.i64 0, Value.bool false, Value.string ⟨#[]⟩, Value.slice none 0 0] 25)) := HB.out.trans (bx.mono HB.out.size)
      go_simp
      refine hK1.out _ _ (HS.out _ bX) (fun _ => ?_)
      clear hK1 K1
      try simp only [Act.put, List.setIfInBounds_toArray, List.set_cons_zero, List.set_cons_succ]
      obtain ⟨Ga, hGx⟩ : ∃ Ga, wd.heap.size = Ga := ⟨_, rfl⟩
      have HSZ : Hid (wd.heap.size = Ga) := hGx
      have H7 : Hid ((wd.alloc (.cells #[Value.int IntKind.i64 0, Value.bool false, Value.string ⟨#[]⟩, Value.slice none 0 0] 25)).heap[Ga]? = some (.cells #[Value.int IntKind.i64 0, Value.bool false, Value.string ⟨#[]⟩, Value.slice none 0 0] 25 (0, 0)) ∧ w1.heap.size ≤ Ga ∧ Ga < (wd.alloc (.cells #[Value.int IntKind.i64 0, Value.bool false, Value.string ⟨#[]⟩, Value.slice none 0 0] 25)).heap.size ) := ⟨by rw [← HSZ.out]; exact zx, by rw [← HSZ.out]; exact HB.out.size, by rw [← HSZ.out]; exact lx⟩
      replace HB : Hid (Below w1.heap.size w1 (wd.alloc (.cells #[Value.int IntKind.i64 0, Value.bool false, Value.string ⟨#[]⟩, Value.slice none 0 0] 25))) := bX
      rw [hGx]
      clear bx zx lx bX hGx HSZ
      generalize wd.alloc (.cells #[Value.int IntKind.i64 0, Value.bool false, Value.string ⟨#[]⟩, Value.slice none 0 0] 25) = wk17 at *
      refine wpAnyH_ready (rs := [1, 5]) (by kernel_rfl) (by decide) (AllReadyH.cons rfl (fun K1 hK1 => ?_) (AllReadyH.cons rfl (fun K1 hK1 => ?_) AllReadyH.nil))
      · rw [if_pos (by rfl)]
        go_simp
        refine (clone_any f _ T wk17 (HH.out.1.below (HB0.out.trans (HB.out.mono HB0.out.size))) (lnB_ln (by decide) _ HH.out.2.2.2.2.2.2.1)).mono ?_
        rintro en wk18 ⟨⟨xx, fa, rfl, hVx, hNx⟩, bx⟩
        obtain ⟨ya, ca, rfl⟩ := hVx.shape
        have hlx := TrV.lt _ _ _ hVx
        have HA1 : Hid (TrV wk18 w1.heap.size T (.slice ya T.nms.length ca) fa ∧ fa.Nodup) := ⟨TrV.low HB.out.size _ _ _ hVx, hNx⟩
        replace H7 : Hid (wk18.heap[Ga]? = some (.cells #[Value.int IntKind.i64 0, Value.bool false, Value.string ⟨#[]⟩, Value.slice none 0 0] 25 (0, 0)) ∧ w1.heap.size ≤ Ga ∧ Ga < wk18.heap.size  ∧ Ga ∉ fa) := ⟨(bx.block _ H7.out.2.2).trans H7.out.1, H7.out.2.1, Nat.lt_of_lt_of_le H7.out.2.2 bx.size, fun hm => by have h1 := (hlx _ hm).1; have h2 := H7.out.2.2; omega⟩
        replace HB : Hid (Below w1.heap.size w1 wk18) := HB.out.trans (bx.mono HB.out.size)
        clear hVx hNx bx hlx
        go_wp2_with fail
        refine hK1.out _ _ (HS.out _ HB.out) (fun _ => ?_)
        clear hK1 K1
        try simp only [Act.put, List.setIfInBounds_toArray, List.set_cons_zero, List.set_cons_succ]
        refine wpAnyH_ready (rs := [3, 5]) (by kernel_rfl) (by decide) (AllReadyH.cons rfl (fun K1 hK1 => ?_) (AllReadyH.cons rfl (fun K1 hK1 => ?_) AllReadyH.nil))
        · rw [if_pos (by rfl)]
          go_simp
          refine (clone_any fu _ U wk18 (HH.out.2.2.2.1.below (HB0.out.trans (HB.out.mono HB0.out.size))) (lnB_ln (by decide) _ HH.out.2.2.2.2.2.2.2)).mono ?_
          rintro en wk19 ⟨⟨xx, fb, rfl, hVx, hNx⟩, bx⟩
          obtain ⟨yb, cb, rfl⟩ := hVx.shape
          have hlx := TrV.lt _ _ _ hVx
          have HB1 : Hid (TrV wk19 w1.heap.size U (.slice yb U.nms.length cb) fb ∧ fb.Nodup) := ⟨TrV.low HB.out.size _ _ _ hVx, hNx⟩
          have HAB1 : Hid (∀ b ∈ fb, b ∉ fa) := fun b hb ha => by
            have h1 := (hlx b hb).1
            have h2 := (TrV.lt _ _ _ HA1.out.1 b ha).2
            omega
          replace HA1 : Hid (TrV wk19 w1.heap.size T (.slice ya T.nms.length ca) fa ∧ fa.Nodup) := ⟨TrV.same _ _ _ HA1.out.1 (fun b hb => bx.block b (TrV.lt _ _ _ HA1.out.1 b hb).2), HA1.out.2⟩
          replace H7 : Hid (wk19.heap[Ga]? = some (.cells #[Value.int IntKind.i64 0, Value.bool false, Value.string ⟨#[]⟩, Value.slice none 0 0] 25 (0, 0)) ∧ w1.heap.size ≤ Ga ∧ Ga < wk19.heap.size ∧ Ga ∉ fa ∧ Ga ∉ fb) := ⟨(bx.block _ H7.out.2.2.1).trans H7.out.1, H7.out.2.1, Nat.lt_of_lt_of_le H7.out.2.2.1 bx.size, H7.out.2.2.2, fun hm => by have h1 := (hlx _ hm).1; have h2 := H7.out.2.2.1; omega⟩
          replace HB : Hid (Below w1.heap.size w1 wk19) := HB.out.trans (bx.mono HB.out.size)
          clear hVx hNx bx hlx
          go_wp2_with fail
          refine hK1.out _ _ (HS.out _ HB.out) (fun _ => ?_)
          clear hK1 K1
          try simp only [Act.put, List.setIfInBounds_toArray, List.set_cons_zero, List.set_cons_succ]
          refine wpAnyH_ready (rs := [5]) (by kernel_rfl) (by decide) (AllReadyH.cons rfl (fun K1 hK1 => ?_) AllReadyH.nil)
          rw [if_pos (by rfl)]
          have bx : Below wk19.heap.size wk19 (wk19.alloc (.cells #[Value.int IntKind.i64 0, Value.bool false, Value.string ⟨#[]⟩, Value.slice none 0 0] 25)) := (Below.refl _ _).alloc (Nat.le_refl _) _
          have zx : (wk19.alloc (.cells #[Value.int IntKind.i64 0, Value.bool false, Value.string ⟨#[]⟩, Value.slice none 0 0] 25)).heap[wk19.heap.size]? = some (.cells #[Value.int IntKind.i64 0, Value.bool false, Value.string ⟨#[]⟩, Value.slice none 0 0] 25 (0, 0)) := heap_alloc_new _ _
          have lx : wk19.heap.size < (wk19.alloc (.cells #[Value.int IntKind.i64 0, Value.bool false, Value.string ⟨#[]⟩, Value.slice none 0 0] 25)).heap.size := by rw [World.size_alloc]; omega
          have bX : Below w1.heap.size w1 (wk19.alloc (.cells #[Value.int IntKind.i64 0, Value.bool false, Value.string ⟨#[]⟩, Value.slice none 0 0] 25)) := HB.out.trans (bx.mono HB.out.size)
          go_simp
          refine hK1.out _ _ (HS.out _ bX) (fun _ => ?_)
          clear hK1 K1
          try simp only [Act.put, List.setIfInBounds_toArray, List.set_cons_zero, List.set_cons_succ]
          obtain ⟨Gb, hGx⟩ : ∃ Gb, wk19.heap.size = Gb := ⟨_, rfl⟩
          have HSZ : Hid (wk19.heap.size = Gb) := hGx
          have H8 : Hid ((wk19.alloc (.cells #[Value.int IntKind.i64 0, Value.bool false, Value.string ⟨#[]⟩, Value.slice none 0 0] 25)).heap[Gb]? = some (.cells #[Value.int IntKind.i64 0, Value.bool false, Value.string ⟨#[]⟩, Value.slice none 0 0] 25 (0, 0)) ∧ w1.heap.size ≤ Gb ∧ Gb < (wk19.alloc (.cells #[Value.int IntKind.i64 0, Value.bool false, Value.string ⟨#[]⟩, Value.slice none 0 0] 25)).heap.size ∧ Gb ∉ fa ∧ Gb ∉ fb) := ⟨by rw [← HSZ.out]; exact zx, by rw [← HSZ.out]; exact HB.out.size, by rw [← HSZ.out]; exact lx, fun hm => by have h2 := (TrV.lt _ _ _ HA1.out.1 _ hm).2; have h3 := HSZ.out; omega, fun hm => by have h2 := (TrV.lt _ _ _ HB1.out.1 _ hm).2; have h3 := HSZ.out; omega⟩
          have H78 : Hid (Ga ≠ Gb) := fun hh => by have h1 := H7.out.2.2.1; have h2 := HSZ.out; omega
          replace H7 : Hid ((wk19.alloc (.cells #[Value.int IntKind.i64 0, Value.bool false, Value.string ⟨#[]⟩, Value.slice none 0 0] 25)).heap[Ga]? = some (.cells #[Value.int IntKind.i64 0, Value.bool false, Value.string ⟨#[]⟩, Value.slice none 0 0] 25 (0, 0)) ∧ w1.heap.size ≤ Ga ∧ Ga < (wk19.alloc (.cells #[Value.int IntKind.i64 0, Value.bool false, Value.string ⟨#[]⟩, Value.slice none 0 0] 25)).heap.size ∧ Ga ∉ fa ∧ Ga ∉ fb) := ⟨(bx.block _ H7.out.2.2.1).trans H7.out.1, H7.out.2.1, Nat.lt_of_lt_of_le H7.out.2.2.1 bx.size, H7.out.2.2.2⟩
          replace HA1 : Hid (TrV (wk19.alloc (.cells #[Value.int IntKind.i64 0, Value.bool false, Value.string ⟨#[]⟩, Value.slice none 0 0] 25)) w1.heap.size T (.slice ya T.nms.length ca) fa ∧ fa.Nodup) := ⟨TrV.same _ _ _ HA1.out.1 (fun b hb => bx.block b (TrV.lt _ _ _ HA1.out.1 b hb).2), HA1.out.2⟩
          replace HB1 : Hid (TrV (wk19.alloc (.cells #[Value.int IntKind.i64 0, Value.bool false, Value.string ⟨#[]⟩, Value.slice none 0 0] 25)) w1.heap.size U (.slice yb U.nms.length cb) fb ∧ fb.Nodup) := ⟨TrV.same _ _ _ HB1.out.1 (fun b hb => bx.block b (TrV.lt _ _ _ HB1.out.1 b hb).2), HB1.out.2⟩
          replace HB : Hid (Below w1.heap.size w1 (wk19.alloc (.cells #[Value.int IntKind.i64 0, Value.bool false, Value.string ⟨#[]⟩, Value.slice none 0 0] 25))) := bX
          rw [hGx]
          clear bx zx lx bX hGx HSZ
          generalize wk19.alloc (.cells #[Value.int IntKind.i64 0, Value.bool false, Value.string ⟨#[]⟩, Value.slice none 0 0] 25) = wk20 at *
          obtain ⟨u0, u1, u2, u3, uf⟩ := cell4 H7.out.1
          have v0 := uf 0
          have v1 := uf 1
          have v2 := uf 2
          have v3 := uf 3
          clear uf
          refine wpAnyH_ready (rs := [6]) (by kernel_rfl) (by decide) (AllReadyH.cons rfl (fun K1 hK1 => ?_) AllReadyH.nil)
          rw [if_pos (by rfl)]
          go_simp
          have bX : Below w1.heap.size w1 (wk20.setCells Ga 0 [.int .i64 T.k, .bool T.e, .string T.t, .slice ya T.nms.length ca]) := belowE_setCells _ _ _ H7.out.2.1 HB.out
          have NX : (fun W : World => W.cell? ⟨GT, 0, none⟩ = some (.int .i64 k) ∧ W.cell? ⟨GT, 1, none⟩ = some (.bool e) ∧ W.cell? ⟨GT, 2, none⟩ = some (.string t) ∧ W.cell? ⟨GT, 3, none⟩ = some (.slice z n cz) ∧ W.cell? ⟨GU, 0, none⟩ = some (.int .i64 ku) ∧ W.cell? ⟨GU, 1, none⟩ = some (.bool eu) ∧ W.cell? ⟨GU, 2, none⟩ = some (.string tu) ∧ W.cell? ⟨GU, 3, none⟩ = some (.slice zu nu czu)) (wk20.setCells Ga 0 [.int .i64 T.k, .bool T.e, .string T.t, .slice ya T.nms.length ca]) := HS.out _ bX
          refine hK1.out _ _ NX (fun _ => ?_)
          clear hK1 K1
          try simp only [Act.put, List.setIfInBounds_toArray, List.set_cons_zero, List.set_cons_succ]
          have q7 := put4 H7.out.1 (.int .i64 T.k) (.bool T.e) (.string T.t) (.slice ya T.nms.length ca)
          have q8 := (heapE_setCells Ga [.int .i64 T.k, .bool T.e, .string T.t, .slice ya T.nms.length ca] 0 Gb (Ne.symm H78.out) wk20).trans H8.out.1
          have sX : wk20.heap.size ≤ (wk20.setCells Ga 0 [.int .i64 T.k, .bool T.e, .string T.t, .slice ya T.nms.length ca]).heap.size := by rw [sizeE_setCells]; exact Nat.le_refl _
          have kX : ∀ x, x ≠ Ga → (wk20.setCells Ga 0 [.int .i64 T.k, .bool T.e, .string T.t, .slice ya T.nms.length ca]).heap[x]? = wk20.heap[x]? := fun x hx => heapE_setCells Ga _ _ x hx _
          change wpAnyH _ _ _ _ _ _ _ _ (wk20.setCells Ga 0 [.int .i64 T.k, .bool T.e, .string T.t, .slice ya T.nms.length ca])
          have HX : Hid (Below w1.heap.size w1 (wk20.setCells Ga 0 [.int .i64 T.k, .bool T.e, .string T.t, .slice ya T.nms.length ca]) ∧ (wk20.setCells Ga 0 [.int .i64 T.k, .bool T.e, .string T.t, .slice ya T.nms.length ca]).heap[Ga]? = some (.cells #[Value.int IntKind.i64 T.k, Value.bool T.e, Value.string T.t, Value.slice ya T.nms.length ca] 25 (0, 0)) ∧ (wk20.setCells Ga 0 [.int .i64 T.k, .bool T.e, .string T.t, .slice ya T.nms.length ca]).heap[Gb]? = some (.cells #[Value.int IntKind.i64 0, Value.bool false, Value.string ⟨#[]⟩, Value.slice none 0 0] 25 (0, 0)) ∧ wk20.heap.size ≤ (wk20.setCells Ga 0 [.int .i64 T.k, .bool T.e, .string T.t, .slice ya T.nms.length ca]).heap.size ∧ ∀ x, x ≠ Ga → (wk20.setCells Ga 0 [.int .i64 T.k, .bool T.e, .string T.t, .slice ya T.nms.length ca]).heap[x]? = wk20.heap[x]?) := ⟨bX, q7, q8, sX, kX⟩
          clear bX NX q7 q8 sX kX u0 u1 u2 u3 v0 v1 v2 v3
          generalize wk20.setCells Ga 0 [.int .i64 T.k, .bool T.e, .string T.t, .slice ya T.nms.length ca] = wX at *
          obtain ⟨u0, u1, u2, u3, uf⟩ := cell4 HX.out.2.2.1
          have v0 := uf 0
          have v1 := uf 1
          have v2 := uf 2
          have v3 := uf 3
          clear uf
          refine wpAnyH_ready (rs := [7]) (by kernel_rfl) (by decide) (AllReadyH.cons rfl (fun K1 hK1 => ?_) AllReadyH.nil)
          rw [if_pos (by rfl)]
          go_simp
          have bY : Below w1.heap.size w1 (wX.setCells Gb 0 [.int .i64 U.k, .bool U.e, .string U.t, .slice yb U.nms.length cb]) := belowE_setCells _ _ _ H8.out.2.1 HX.out.1
          refine hK1.out _ _ (HS.out _ bY) (fun _ => ?_)
          clear hK1 K1
          refine wpAnyH_done (by kernel_rfl) ?_ _
          (try go_wp2_with fail)
          go_meet
          refine ⟨Ga, Gb, ya, ca, fa, yb, cb, fb, rfl, rfl, ?_⟩
          have sY : wX.heap.size = (wX.setCells Gb 0 [.int .i64 U.k, .bool U.e, .string U.t, .slice yb U.nms.length cb]).heap.size := by rw [sizeE_setCells]
          have kY : ∀ x, x ≠ Ga → x ≠ Gb → (wX.setCells Gb 0 [.int .i64 U.k, .bool U.e, .string U.t, .slice yb U.nms.length cb]).heap[x]? = wk20.heap[x]? := fun x hx hx' => (heapE_setCells Gb _ _ x hx' _).trans (HX.out.2.2.2.2 x hx)
          exact KF.made HA1.out HB1.out HAB1.out bY ((heapE_setCells Gb [.int .i64 U.k, .bool U.e, .string U.t, .slice yb U.nms.length cb] 0 Ga H78.out wX).trans HX.out.2.1) (put4 HX.out.2.2.1 _ _ _ _) H7.out.2 H8.out.2 kY (Nat.le_trans HX.out.2.2.2.1 (Nat.le_of_eq sY))
        · rw [if_pos (by rfl)]
          have bx : Below wk18.heap.size wk18 (wk18.alloc (.cells #[Value.int IntKind.i64 0, Value.bool false, Value.string ⟨#[]⟩, Value.slice none 0 0] 25)) := (Below.refl _ _).alloc (Nat.le_refl _) _
          have zx : (wk18.alloc (.cells #[Value.int IntKind.i64 0, Value.bool false, Value.string ⟨#[]⟩, Value.slice none 0 0] 25)).heap[wk18.heap.size]? = some (.cells #[Value.int IntKind.i64 0, Value.bool false, Value.string ⟨#[]⟩, Value.slice none 0 0] 25 (0, 0)) := heap_alloc_new _ _
          have lx : wk18.heap.size < (wk18.alloc (.cells #[Value.int IntKind.i64 0, Value.bool false, Value.string ⟨#[]⟩, Value.slice none 0 0] 25)).heap.size := by rw [World.size_alloc]; omega
          have bX : Below w1.heap.size w1 (wk18.alloc (.cells #[Value.int IntKind.i64 0, Value.bool false, Value.string ⟨#[]⟩, Value.slice none 0 0] 25)) := HB.out.trans (bx.mono HB.out.size)
          go_simp
          refine hK1.out _ _ (HS.out _ bX) (fun _ => ?_)
          clear hK1 K1
          try simp only [Act.put, List.setIfInBounds_toArray, List.set_cons_zero, List.set_cons_succ]
          obtain ⟨Gb, hGx⟩ : ∃ Gb, wk18.heap.size = Gb := ⟨_, rfl⟩
          have HSZ : Hid (wk18.heap.size = Gb) := hGx
          have H8 : Hid ((wk18.alloc (.cells #[Value.int IntKind.i64 0, Value.bool false, Value.string ⟨#[]⟩, Value.slice none 0 0] 25)).heap[Gb]? = some (.cells #[Value.int IntKind.i64 0, Value.bool false, Value.string ⟨#[]⟩, Value.slice none 0 0] 25 (0, 0)) ∧ w1.heap.size ≤ Gb ∧ Gb < (wk18.alloc (.cells #[Value.int IntKind.i64 0, Value.bool false, Value.string ⟨#[]⟩, Value.slice none 0 0] 25)).heap.size ∧ Gb ∉ fa) := ⟨by rw [← HSZ.out]; exact zx, by rw [← HSZ.out]; exact HB.out.size, by rw [← HSZ.out]; exact lx, fun hm => by have h2 := (TrV.lt _ _ _ HA1.out.1 _ hm).2; have h3 := HSZ.out; omega⟩
          have H78 : Hid (Ga ≠ Gb) := fun hh => by have h1 := H7.out.2.2.1; have h2 := HSZ.out; omega
          replace H7 : Hid ((wk18.alloc (.cells #[Value.int IntKind.i64 0, Value.bool false, Value.string ⟨#[]⟩, Value.slice none 0 0] 25)).heap[Ga]? = some (.cells #[Value.int IntKind.i64 0, Value.bool false, Value.string ⟨#[]⟩, Value.slice none 0 0] 25 (0, 0)) ∧ w1.heap.size ≤ Ga ∧ Ga < (wk18.alloc (.cells #[Value.int IntKind.i64 0, Value.bool false, Value.string ⟨#[]⟩, Value.slice none 0 0] 25)).heap.size ∧ Ga ∉ fa) := ⟨(bx.block _ H7.out.2.2.1).trans H7.out.1, H7.out.2.1, Nat.lt_of_lt_of_le H7.out.2.2.1 bx.size, H7.out.2.2.2⟩
          replace HA1 : Hid (TrV (wk18.alloc (.cells #[Value.int IntKind.i64 0, Value.bool false, Value.string ⟨#[]⟩, Value.slice none 0 0] 25)) w1.heap.size T (.slice ya T.nms.length ca) fa ∧ fa.Nodup) := ⟨TrV.same _ _ _ HA1.out.1 (fun b hb => bx.block b (TrV.lt _ _ _ HA1.out.1 b hb).2), HA1.out.2⟩
          replace HB : Hid (Below w1.heap.size w1 (wk18.alloc (.cells #[Value.int IntKind.i64 0, Value.bool false, Value.string ⟨#[]⟩, Value.slice none 0 0] 25))) := bX
          rw [hGx]
          clear bx zx lx bX hGx HSZ
          generalize wk18.alloc (.cells #[Value.int IntKind.i64 0, Value.bool false, Value.string ⟨#[]⟩, Value.slice none 0 0] 25) = wk21 at *
          refine wpAnyH_ready (rs := [3]) (by kernel_rfl) (by decide) (AllReadyH.cons rfl (fun K1 hK1 => ?_) AllReadyH.nil)
          rw [if_pos (by rfl)]
          go_simp
          refine (clone_any fu _ U wk21 (HH.out.2.2.2.1.below (HB0.out.trans (HB.out.mono HB0.out.size))) (lnB_ln (by decide) _ HH.out.2.2.2.2.2.2.2)).mono ?_
          rintro en wk22 ⟨⟨xx, fb, rfl, hVx, hNx⟩, bx⟩
          obtain ⟨yb, cb, rfl⟩ := hVx.shape
          have hlx := TrV.lt _ _ _ hVx
          have HB1 : Hid (TrV wk22 w1.heap.size U (.slice yb U.nms.length cb) fb ∧ fb.Nodup) := ⟨TrV.low HB.out.size _ _ _ hVx, hNx⟩
          have HAB1 : Hid (∀ b ∈ fb, b ∉ fa) := fun b hb ha => by
            have h1 := (hlx b hb).1
            have h2 := (TrV.lt _ _ _ HA1.out.1 b ha).2
            omega
          replace HA1 : Hid (TrV wk22 w1.heap.size T (.slice ya T.nms.length ca) fa ∧ fa.Nodup) := ⟨TrV.same _ _ _ HA1.out.1 (fun b hb => bx.block b (TrV.lt _ _ _ HA1.out.1 b hb).2), HA1.out.2⟩
          replace H7 : Hid (wk22.heap[Ga]? = some (.cells #[Value.int IntKind.i64 0, Value.bool false, Value.string ⟨#[]⟩, Value.slice none 0 0] 25 (0, 0)) ∧ w1.heap.size ≤ Ga ∧ Ga < wk22.heap.size ∧ Ga ∉ fa ∧ Ga ∉ fb) := ⟨(bx.block _ H7.out.2.2.1).trans H7.out.1, H7.out.2.1, Nat.lt_of_lt_of_le H7.out.2.2.1 bx.size, H7.out.2.2.2, fun hm => by have h1 := (hlx _ hm).1; have h2 := H7.out.2.2.1; omega⟩
          replace H8 : Hid (wk22.heap[Gb]? = some (.cells #[Value.int IntKind.i64 0, Value.bool false, Value.string ⟨#[]⟩, Value.slice none 0 0] 25 (0, 0)) ∧ w1.heap.size ≤ Gb ∧ Gb < wk22.heap.size ∧ Gb ∉ fa ∧ Gb ∉ fb) := ⟨(bx.block _ H8.out.2.2.1).trans H8.out.1, H8.out.2.1, Nat.lt_of_lt_of_le H8.out.2.2.1 bx.size, H8.out.2.2.2, fun hm => by have h1 := (hlx _ hm).1; have h2 := H8.out.2.2.1; omega⟩
          replace HB : Hid (Below w1.heap.size w1 wk22) := HB.out.trans (bx.mono HB.out.size)
          clear hVx hNx bx hlx
          go_wp2_with fail
          refine hK1.out _ _ (HS.out _ HB.out) (fun _ => ?_)
          clear hK1 K1
          try simp only [Act.put, List.setIfInBounds_toArray, List.set_cons_zero, List.set_cons_succ]
          obtain ⟨u0, u1, u2, u3, uf⟩ := cell4 H7.out.1
          have v0 := uf 0
          have v1 := uf 1
          have v2 := uf 2
          have v3 := uf 3
          clear uf
          refine wpAnyH_ready (rs := [6]) (by kernel_rfl) (by decide) (AllReadyH.cons rfl (fun K1 hK1 => ?_) AllReadyH.nil)
          rw [if_pos (by rfl)]
          go_simp
          have bX : Below w1.heap.size w1 (wk22.setCells Ga 0 [.int .i64 T.k, .bool T.e, .string T.t, .slice ya T.nms.length ca]) := belowE_setCells _ _ _ H7.out.2.1 HB.out
          have NX : (fun W : World => W.cell? ⟨GT, 0, none⟩ = some (.int .i64 k) ∧ W.cell? ⟨GT, 1, none⟩ = some (.bool e) ∧ W.cell? ⟨GT, 2, none⟩ = some (.string t) ∧ W.cell? ⟨GT, 3, none⟩ = some (.slice z n cz) ∧ W.cell? ⟨GU, 0, none⟩ = some (.int .i64 ku) ∧ W.cell? ⟨GU, 1, none⟩ = some (.bool eu) ∧ W.cell? ⟨GU, 2, none⟩ = some (.string tu) ∧ W.cell? ⟨GU, 3, none⟩ = some (.slice zu nu czu)) (wk22.setCells Ga 0 [.int .i64 T.k, .bool T.e, .string T.t, .slice ya T.nms.length ca]) := HS.out _ bX
          refine hK1.out _ _ NX (fun _ => ?_)
          clear hK1 K1
          try simp only [Act.put, List.setIfInBounds_toArray, List.set_cons_zero, List.set_cons_succ]
          have q7 := put4 H7.out.1 (.int .i64 T.k) (.bool T.e) (.string T.t) (.slice ya T.nms.length ca)
          have q8 := (heapE_setCells Ga [.int .i64 T.k, .bool T.e, .string T.t, .slice ya T.nms.length ca] 0 Gb (Ne.symm H78.out) wk22).trans H8.out.1
          have sX : wk22.heap.size ≤ (wk22.setCells Ga 0 [.int .i64 T.k, .bool T.e, .string T.t, .slice ya T.nms.length ca]).heap.size := by rw [sizeE_setCells]; exact Nat.le_refl _
          have kX : ∀ x, x ≠ Ga → (wk22.setCells Ga 0 [.int .i64 T.k, .bool T.e, .string T.t, .slice ya T.nms.length ca]).heap[x]? = wk22.heap[x]? := fun x hx => heapE_setCells Ga _ _ x hx _
          change wpAnyH _ _ _ _ _ _ _ _ (wk22.setCells Ga 0 [.int .i64 T.k, .bool T.e, .string T.t, .slice ya T.nms.length ca])
          have HX : Hid (Below w1.heap.size w1 (wk22.setCells Ga 0 [.int .i64 T.k, .bool T.e, .string T.t, .slice ya T.nms.length ca]) ∧ (wk22.setCells Ga 0 [.int .i64 T.k, .bool T.e, .string T.t, .slice ya T.nms.length ca]).heap[Ga]? = some (.cells #[Value.int IntKind.i64 T.k, Value.bool T.e, Value.string T.t, Value.slice ya T.nms.length ca] 25 (0, 0)) ∧ (wk22.setCells Ga 0 [.int .i64 T.k, .bool T.e, .string T.t, .slice ya T.nms.length ca]).heap[Gb]? = some (.cells #[Value.int IntKind.i64 0, Value.bool false, Value.string ⟨#[]⟩, Value.slice none 0 0] 25 (0, 0)) ∧ wk22.heap.size ≤ (wk22.setCells Ga 0 [.int .i64 T.k, .bool T.e, .string T.t, .slice ya T.nms.length ca]).heap.size ∧ ∀ x, x ≠ Ga → (wk22.setCells Ga 0 [.int .i64 T.k, .bool T.e, .string T.t, .slice ya T.nms.length ca]).heap[x]? = wk22.heap[x]?) := ⟨bX, q7, q8, sX, kX⟩
          clear bX NX q7 q8 sX kX u0 u1 u2 u3 v0 v1 v2 v3
          generalize wk22.setCells Ga 0 [.int .i64 T.k, .bool T.e, .string T.t, .slice ya T.nms.length ca] = wX at *
          obtain ⟨u0, u1, u2, u3, uf⟩ := cell4 HX.out.2.2.1
          have v0 := uf 0
          have v1 := uf 1
          have v2 := uf 2
          have v3 := uf 3
          clear uf
          refine wpAnyH_ready (rs := [7]) (by kernel_rfl) (by decide) (AllReadyH.cons rfl (fun K1 hK1 => ?_) AllReadyH.nil)
          rw [if_pos (by rfl)]
          go_simp
          have bY : Below w1.heap.size w1 (wX.setCells Gb 0 [.int .i64 U.k, .bool U.e, .string U.t, .slice yb U.nms.length cb]) := belowE_setCells _ _ _ H8.out.2.1 HX.out.1
          refine hK1.out _ _ (HS.out _ bY) (fun _ => ?_)
          clear hK1 K1
          refine wpAnyH_done (by kernel_rfl) ?_ _
          (try go_wp2_with fail)
          go_meet
          refine ⟨Ga, Gb, ya, ca, fa, yb, cb, fb, rfl, rfl, ?_⟩
          have sY : wX.heap.size = (wX.setCells Gb 0 [.int .i64 U.k, .bool U.e, .string U.t, .slice yb U.nms.length cb]).heap.size := by rw [sizeE_setCells]
          have kY : ∀ x, x ≠ Ga → x ≠ Gb → (wX.setCells Gb 0 [.int .i64 U.k, .bool U.e, .string U.t, .slice yb U.nms.length cb]).heap[x]? = wk22.heap[x]? := fun x hx hx' => (heapE_setCells Gb _ _ x hx' _).trans (HX.out.2.2.2.2 x hx)
          exact KF.made HA1.out HB1.out HAB1.out bY ((heapE_setCells Gb [.int .i64 U.k, .bool U.e, .string U.t, .slice yb U.nms.length cb] 0 Ga H78.out wX).trans HX.out.2.1) (put4 HX.out.2.2.1 _ _ _ _) H7.out.2 H8.out.2 kY (Nat.le_trans HX.out.2.2.2.1 (Nat.le_of_eq sY))
      · rw [if_pos (by rfl)]
        have bx : Below wk17.heap.size wk17 (wk17.alloc (.cells #[Value.int IntKind.i64 0, Value.bool false, Value.string ⟨#[]⟩, Value.slice none 0 0] 25)) := (Below.refl _ _).alloc (Nat.le_refl _) _
        have zx : (wk17.alloc (.cells #[Value.int IntKind.i64 0, Value.bool false, Value.string ⟨#[]⟩, Value.slice none 0 0] 25)).heap[wk17.heap.size]? = some (.cells #[Value.int IntKind.i64 0, Value.bool false, Value.string ⟨#[]⟩, Value.slice none 0 0] 25 (0, 0)) := heap_alloc_new _ _
        have lx : wk17.heap.size < (wk17.alloc (.cells #[Value.int IntKind.i64 0, Value.bool false, Value.string ⟨#[]⟩, Value.slice none 0 0] 25)).heap.size := by rw [World.size_alloc]; omega
        have bX : Below w1.heap.size w1 (wk17.alloc (.cells #[Value.int IntKind.i64 0, Value.bool false, Value.string ⟨#[]⟩, Value.slice none 0 0] 25)) := HB.out.trans (bx.mono HB.out.size)
        go_simp
        refine hK1.out _ _ (HS.out _ bX) (fun _ => ?_)
        clear hK1 K1
        try simp only [Act.put, List.setIfInBounds_toArray, List.set_cons_zero, List.set_cons_succ]
        obtain ⟨Gb, hGx⟩ : ∃ Gb, wk17.heap.size = Gb := ⟨_, rfl⟩
        have HSZ : Hid (wk17.heap.size = Gb) := hGx
        have H8 : Hid ((wk17.alloc (.cells #[Value.int IntKind.i64 0, Value.bool false, Value.string ⟨#[]⟩, Value.slice none 0 0] 25)).heap[Gb]? = some (.cells #[Value.int IntKind.i64 0, Value.bool false, Value.string ⟨#[]⟩, Value.slice none 0 0] 25 (0, 0)) ∧ w1.heap.size ≤ Gb ∧ Gb < (wk17.alloc (.cells #[Value.int IntKind.i64 0, Value.bool false, Value.string ⟨#[]⟩, Value.slice none 0 0] 25)).heap.size ) := ⟨by rw [← HSZ.out]; exact zx, by rw [← HSZ.out]; exact HB.out.size, by rw [← HSZ.out]; exact lx⟩
        have H78 : Hid (Ga ≠ Gb) := fun hh => by have h1 := H7.out.2.2; have h2 := HSZ.out; omega
        replace H7 : Hid ((wk17.alloc (.cells #[Value.int IntKind.i64 0, Value.bool false, Value.string ⟨#[]⟩, Value.slice none 0 0] 25)).heap[Ga]? = some (.cells #[Value.int IntKind.i64 0, Value.bool false, Value.string ⟨#[]⟩, Value.slice none 0 0] 25 (0, 0)) ∧ w1.heap.size ≤ Ga ∧ Ga < (wk17.alloc (.cells #[Value.int IntKind.i64 0, Value.bool false, Value.string ⟨#[]⟩, Value.slice none 0 0] 25)).heap.size ) := ⟨(bx.block _ H7.out.2.2).trans H7.out.1, H7.out.2.1, Nat.lt_of_lt_of_le H7.out.2.2 bx.size⟩
        replace HB : Hid (Below w1.heap.size w1 (wk17.alloc (.cells #[Value.int IntKind.i64 0, Value.bool false, Value.string ⟨#[]⟩, Value.slice none 0 0] 25))) := bX
        rw [hGx]
        clear bx zx lx bX hGx HSZ
        generalize wk17.alloc (.cells #[Value.int IntKind.i64 0, Value.bool false, Value.string ⟨#[]⟩, Value.slice none 0 0] 25) = wk23 at *
        refine wpAnyH_ready (rs := [1]) (by kernel_rfl) (by decide) (AllReadyH.cons rfl (fun K1 hK1 => ?_) AllReadyH.nil)
        rw [if_pos (by rfl)]
        go_simp
        refine (clone_any f _ T wk23 (HH.out.1.below (HB0.out.trans (HB.out.mono HB0.out.size))) (lnB_ln (by decide) _ HH.out.2.2.2.2.2.2.1)).mono ?_
        rintro en wk24 ⟨⟨xx, fa, rfl, hVx, hNx⟩, bx⟩
        obtain ⟨ya, ca, rfl⟩ := hVx.shape
        have hlx := TrV.lt _ _ _ hVx
        have HA1 : Hid (TrV wk24 w1.heap.size T (.slice ya T.nms.length ca) fa ∧ fa.Nodup) := ⟨TrV.low HB.out.size _ _ _ hVx, hNx⟩
        replace H7 : Hid (wk24.heap[Ga]? = some (.cells #[Value.int IntKind.i64 0, Value.bool false, Value.string ⟨#[]⟩, Value.slice none 0 0] 25 (0, 0)) ∧ w1.heap.size ≤ Ga ∧ Ga < wk24.heap.size  ∧ Ga ∉ fa) := ⟨(bx.block _ H7.out.2.2).trans H7.out.1, H7.out.2.1, Nat.lt_of_lt_of_le H7.out.2.2 bx.size, fun hm => by have h1 := (hlx _ hm).1; have h2 := H7.out.2.2; omega⟩
        replace H8 : Hid (wk24.heap[Gb]? = some (.cells #[Value.int IntKind.i64 0, Value.bool false, Value.string ⟨#[]⟩, Value.slice none 0 0] 25 (0, 0)) ∧ w1.heap.size ≤ Gb ∧ Gb < wk24.heap.size  ∧ Gb ∉ fa) := ⟨(bx.block _ H8.out.2.2).trans H8.out.1, H8.out.2.1, Nat.lt_of_lt_of_le H8.out.2.2 bx.size, fun hm => by have h1 := (hlx _ hm).1; have h2 := H8.out.2.2; omega⟩
        replace HB : Hid (Below w1.heap.size w1 wk24) := HB.out.trans (bx.mono HB.out.size)
        clear hVx hNx bx hlx
        go_wp2_with fail
        refine hK1.out _ _ (HS.out _ HB.out) (fun _ => ?_)
        clear hK1 K1
        try simp only [Act.put, List.setIfInBounds_toArray, List.set_cons_zero, List.set_cons_succ]
        refine wpAnyH_ready (rs := [3]) (by kernel_rfl) (by decide) (AllReadyH.cons rfl (fun K1 hK1 => ?_) AllReadyH.nil)
        rw [if_pos (by rfl)]
        go_simp
        refine (clone_any fu _ U wk24 (HH.out.2.2.2.1.below (HB0.out.trans (HB.out.mono HB0.out.size))) (lnB_ln (by decide) _ HH.out.2.2.2.2.2.2.2)).mono ?_
        rintro en wk25 ⟨⟨xx, fb, rfl, hVx, hNx⟩, bx⟩
        obtain ⟨yb, cb, rfl⟩ := hVx.shape
        have hlx := TrV.lt _ _ _ hVx
        have HB1 : Hid (TrV wk25 w1.heap.size U (.slice yb U.nms.length cb) fb ∧ fb.Nodup) := ⟨TrV.low HB.out.size _ _ _ hVx, hNx⟩
        have HAB1 : Hid (∀ b ∈ fb, b ∉ fa) := fun b hb ha => by
          have h1 := (hlx b hb).1
          have h2 := (TrV.lt _ _ _ HA1.out.1 b ha).2
          omega
        replace HA1 : Hid (TrV wk25 w1.heap.size T (.slice ya T.nms.length ca) fa ∧ fa.Nodup) := ⟨TrV.same _ _ _ HA1.out.1 (fun b hb => bx.block b (TrV.lt _ _ _ HA1.out.1 b hb).2), HA1.out.2⟩
        replace H7 : Hid (wk25.heap[Ga]? = some (.cells #[Value.int IntKind.i64 0, Value.bool false, Value.string ⟨#[]⟩, Value.slice none 0 0] 25 (0, 0)) ∧ w1.heap.size ≤ Ga ∧ Ga < wk25.heap.size ∧ Ga ∉ fa ∧ Ga ∉ fb) := ⟨(bx.block _ H7.out.2.2.1).trans H7.out.1, H7.out.2.1, Nat.lt_of_lt_of_le H7.out.2.2.1 bx.size, H7.out.2.2.2, fun hm => by have h1 := (hlx _ hm).1; have h2 := H7.out.2.2.1; omega⟩
        replace H8 : Hid (wk25.heap[Gb]? = some (.cells #[Value.int IntKind.i64 0, Value.bool false, Value.string ⟨#[]⟩, Value.slice none 0 0] 25 (0, 0)) ∧ w1.heap.size ≤ Gb ∧ Gb < wk25.heap.size ∧ Gb ∉ fa ∧ Gb ∉ fb) := ⟨(bx.block _ H8.out.2.2.1).trans H8.out.1, H8.out.2.1, Nat.lt_of_lt_of_le H8.out.2.2.1 bx.size, H8.out.2.2.2, fun hm => by have h1 := (hlx _ hm).1; have h2 := H8.out.2.2.1; omega⟩
        replace HB : Hid (Below w1.heap.size w1 wk25) := HB.out.trans (bx.mono HB.out.size)
        clear hVx hNx bx hlx
        go_wp2_with fail
        refine hK1.out _ _ (HS.out _ HB.out) (fun _ => ?_)
        clear hK1 K1
        try simp only [Act.put, List.setIfInBounds_toArray, List.set_cons_zero, List.set_cons_succ]
        obtain ⟨u0, u1, u2, u3, uf⟩ := cell4 H7.out.1
        have v0 := uf 0
        have v1 := uf 1
        have v2 := uf 2
        have v3 := uf 3
        clear uf
        refine wpAnyH_ready (rs := [6]) (by kernel_rfl) (by decide) (AllReadyH.cons rfl (fun K1 hK1 => ?_) AllReadyH.nil)
        rw [if_pos (by rfl)]
        go_simp
        have bX : Below w1.heap.size w1 (wk25.setCells Ga 0 [.int .i64 T.k, .bool T.e, .string T.t, .slice ya T.nms.length ca]) := belowE_setCells _ _ _ H7.out.2.1 HB.out
        have NX : (fun W : World => W.cell? ⟨GT, 0, none⟩ = some (.int .i64 k) ∧ W.cell? ⟨GT, 1, none⟩ = some (.bool e) ∧ W.cell? ⟨GT, 2, none⟩ = some (.string t) ∧ W.cell? ⟨GT, 3, none⟩ = some (.slice z n cz) ∧ W.cell? ⟨GU, 0, none⟩ = some (.int .i64 ku) ∧ W.cell? ⟨GU, 1, none⟩ = some (.bool eu) ∧ W.cell? ⟨GU, 2, none⟩ = some (.string tu) ∧ W.cell? ⟨GU, 3, none⟩ = some (.slice zu nu czu)) (wk25.setCells Ga 0 [.int .i64 T.k, .bool T.e, .string T.t, .slice ya T.nms.length ca]) := HS.out _ bX
        refine hK1.out _ _ NX (fun _ => ?_)
        clear hK1 K1
        try simp only [Act.put, List.setIfInBounds_toArray, List.set_cons_zero, List.set_cons_succ]
        have q7 := put4 H7.out.1 (.int .i64 T.k) (.bool T.e) (.string T.t) (.slice ya T.nms.length ca)
        have q8 := (heapE_setCells Ga [.int .i64 T.k, .bool T.e, .string T.t, .slice ya T.nms.length ca] 0 Gb (Ne.symm H78.out) wk25).trans H8.out.1
        have sX : wk25.heap.size ≤ (wk25.setCells Ga 0 [.int .i64 T.k, .bool T.e, .string T.t, .slice ya T.nms.length ca]).heap.size := by rw [sizeE_setCells]; exact Nat.le_refl _
        have kX : ∀ x, x ≠ Ga → (wk25.setCells Ga 0 [.int .i64 T.k, .bool T.e, .string T.t, .slice ya T.nms.length ca]).heap[x]? = wk25.heap[x]? := fun x hx => heapE_setCells Ga _ _ x hx _
        change wpAnyH _ _ _ _ _ _ _ _ (wk25.setCells Ga 0 [.int .i64 T.k, .bool T.e, .string T.t, .slice ya T.nms.length ca])
        have HX : Hid (Below w1.heap.size w1 (wk25.setCells Ga 0 [.int .i64 T.k, .bool T.e, .string T.t, .slice ya T.nms.length ca]) ∧ (wk25.setCells Ga 0 [.int .i64 T.k, .bool T.e, .string T.t, .slice ya T.nms.length ca]).heap[Ga]? = some (.cells #[Value.int IntKind.i64 T.k, Value.bool T.e, Value.string T.t, Value.slice ya T.nms.length ca] 25 (0, 0)) ∧ (wk25.setCells Ga 0 [.int .i64 T.k, .bool T.e, .string T.t, .slice ya T.nms.length ca]).heap[Gb]? = some (.cells #[Value.int IntKind.i64 0, Value.bool false, Value.string ⟨#[]⟩, Value.slice none 0 0] 25 (0, 0)) ∧ wk25.heap.size ≤ (wk25.setCells Ga 0 [.int .i64 T.k, .bool T.e, .string T.t, .slice ya T.nms.length ca]).heap.size ∧ ∀ x, x ≠ Ga → (wk25.setCells Ga 0 [.int .i64 T.k, .bool T.e, .string T.t, .slice ya T.nms.length ca]).heap[x]? = wk25.heap[x]?) := ⟨bX, q7, q8, sX, kX⟩
        clear bX NX q7 q8 sX kX u0 u1 u2 u3 v0 v1 v2 v3
        generalize wk25.setCells Ga 0 [.int .i64 T.k, .bool T.e, .string T.t, .slice ya T.nms.length ca] = wX at *
        obtain ⟨u0, u1, u2, u3, uf⟩ := cell4 HX.out.2.2.1
        have v0 := uf 0
        have v1 := uf 1
        have v2 := uf 2
        have v3 := uf 3
        clear uf
        refine wpAnyH_ready (rs := [7]) (by kernel_rfl) (by decide) (AllReadyH.cons rfl (fun K1 hK1 => ?_) AllReadyH.nil)
        rw [if_pos (by rfl)]
        go_simp
        have bY : Below w1.heap.size w1 (wX.setCells Gb 0 [.int .i64 U.k, .bool U.e, .string U.t, .slice yb U.nms.length cb]) := belowE_setCells _ _ _ H8.out.2.1 HX.out.1
        refine hK1.out _ _ (HS.out _ bY) (fun _ => ?_)
        clear hK1 K1
        refine wpAnyH_done (by kernel_rfl) ?_ _
        (try go_wp2_with fail)
        go_meet
        refine ⟨Ga, Gb, ya, ca, fa, yb, cb, fb, rfl, rfl, ?_⟩
        have sY : wX.heap.size = (wX.setCells Gb 0 [.int .i64 U.k, .bool U.e, .string U.t, .slice yb U.nms.length cb]).heap.size := by rw [sizeE_setCells]
        have kY : ∀ x, x ≠ Ga → x ≠ Gb → (wX.setCells Gb 0 [.int .i64 U.k, .bool U.e, .string U.t, .slice yb U.nms.length cb]).heap[x]? = wk25.heap[x]? := fun x hx hx' => (heapE_setCells Gb _ _ x hx' _).trans (HX.out.2.2.2.2 x hx)
        exact KF.made HA1.out HB1.out HAB1.out bY ((heapE_setCells Gb [.int .i64 U.k, .bool U.e, .string U.t, .slice yb U.nms.length cb] 0 Ga H78.out wX).trans HX.out.2.1) (put4 HX.out.2.2.1 _ _ _ _) H7.out.2 H8.out.2 kY (Nat.le_trans HX.out.2.2.2.1 (Nat.le_of_eq sY))
    · rw [if_pos (by rfl)]
      have bx : Below wd.heap.size wd (wd.alloc (.cells #[Value.int IntKind.i64 0, Value.bool false, Value.string ⟨#[]⟩, Value.slice none 0 0] 25)) := (Below.refl _ _).alloc (Nat.le_refl _) _
      have zx : (wd.alloc (.cells #[Value.int IntKind.i64 0, Value.bool false, Value.string ⟨#[]⟩, Value.slice none 0 0] 25)).heap[wd.heap.size]? = some (.cells #[Value.int IntKind.i64 0, Value.bool false, Value.string ⟨#[]⟩, Value.slice none 0 0] 25 (0, 0)) := heap_alloc_new _ _
      have lx : wd.heap.size < (wd.alloc (.cells #[Value.int IntKind.i64 0, Value.bool false, Value.string ⟨#[]⟩, Value.slice none 0 0] 25)).heap.size := by rw [World.size_alloc]; omega
      have bX : Below w1.heap.size w1 (wd.alloc (.cells #[Value.int IntKind.i64 0, Value.bool false, Value.string ⟨#[]⟩, Value.slice none 0 0] 25)) := HB.out.trans (bx.mono HB.out.size)
      go_simp
      refine hK1.out _ _ (HS.out _ bX) (fun _ => ?_)
      clear hK1 K1
      try simp only [Act.put, List.setIfInBounds_toArray, List.set_cons_zero, List.set_cons_succ]
      obtain ⟨Gb, hGx⟩ : ∃ Gb, wd.heap.size = Gb := ⟨_, rfl⟩
      have HSZ : Hid (wd.heap.size = Gb) := hGx
      have H8 : Hid ((wd.alloc (.cells #[Value.int IntKind.i64 0, Value.bool false, Value.string ⟨#[]⟩, Value.slice none 0 0] 25)).heap[Gb]? = some (.cells #[Value.int IntKind.i64 0, Value.bool false, Value.string ⟨#[]⟩, Value.slice none 0 0] 25 (0, 0)) ∧ w1.heap.size ≤ Gb ∧ Gb < (wd.alloc (.cells #[Value.int IntKind.i64 0, Value.bool false, Value.string ⟨#[]⟩, Value.slice none 0 0] 25)).heap.size ) := ⟨by rw [← HSZ.out]; exact zx, by rw [← HSZ.out]; exact HB.out.size, by rw [← HSZ.out]; exact lx⟩
      replace HB : Hid (Below w1.heap.size w1 (wd.alloc (.cells #[Value.int IntKind.i64 0, Value.bool false, Value.string ⟨#[]⟩, Value.slice none 0 0] 25))) := bX
      rw [hGx]
      clear bx zx lx bX hGx HSZ
      generalize wd.alloc (.cells #[Value.int IntKind.i64 0, Value.bool false, Value.string ⟨#[]⟩, Value.slice none 0 0] 25) = wk26 at *
      refine wpAnyH_ready (rs := [1, 4]) (by kernel_rfl) (by decide) (AllReadyH.cons rfl (fun K1 hK1 => ?_) (AllReadyH.cons rfl (fun K1 hK1 => ?_) AllReadyH.nil))
      · rw [if_pos (by rfl)]
        go_simp
        refine (clone_any f _ T wk26 (HH.out.1.below (HB0.out.trans (HB.out.mono HB0.out.size))) (lnB_ln (by decide) _ HH.out.2.2.2.2.2.2.1)).mono ?_
        rintro en wk27 ⟨⟨xx, fa, rfl, hVx, hNx⟩, bx⟩
        obtain ⟨ya, ca, rfl⟩ := hVx.shape
        have hlx := TrV.lt _ _ _ hVx
        have HA1 : Hid (TrV wk27 w1.heap.size T (.slice ya T.nms.length ca) fa ∧ fa.Nodup) := ⟨TrV.low HB.out.size _ _ _ hVx, hNx⟩
        replace H8 : Hid (wk27.heap[Gb]? = some (.cells #[Value.int IntKind.i64 0, Value.bool false, Value.string ⟨#[]⟩, Value.slice none 0 0] 25 (0, 0)) ∧ w1.heap.size ≤ Gb ∧ Gb < wk27.heap.size  ∧ Gb ∉ fa) := ⟨(bx.block _ H8.out.2.2).trans H8.out.1, H8.out.2.1, Nat.lt_of_lt_of_le H8.out.2.2 bx.size, fun hm => by have h1 := (hlx _ hm).1; have h2 := H8.out.2.2; omega⟩
        replace HB : Hid (Below w1.heap.size w1 wk27) := HB.out.trans (bx.mono HB.out.size)
        clear hVx hNx bx hlx
        go_wp2_with fail
        refine hK1.out _ _ (HS.out _ HB.out) (fun _ => ?_)
        clear hK1 K1
        try simp only [Act.put, List.setIfInBounds_toArray, List.set_cons_zero, List.set_cons_succ]
        refine wpAnyH_ready (rs := [3, 4]) (by kernel_rfl) (by decide) (AllReadyH.cons rfl (fun K1 hK1 => ?_) (AllReadyH.cons rfl (fun K1 hK1 => ?_) AllReadyH.nil))
        · rw [if_pos (by rfl)]
          go_simp
          refine (clone_any fu _ U wk27 (HH.out.2.2.2.1.below (HB0.out.trans (HB.out.mono HB0.out.size))) (lnB_ln (by decide) _ HH.out.2.2.2.2.2.2.2)).mono ?_
          rintro en wk28 ⟨⟨xx, fb, rfl, hVx, hNx⟩, bx⟩
          obtain ⟨yb, cb, rfl⟩ := hVx.shape
          have hlx := TrV.lt _ _ _ hVx
          have HB1 : Hid (TrV wk28 w1.heap.size U (.slice yb U.nms.length cb) fb ∧ fb.Nodup) := ⟨TrV.low HB.out.size _ _ _ hVx, hNx⟩
          have HAB1 : Hid (∀ b ∈ fb, b ∉ fa) := fun b hb ha => by
            have h1 := (hlx b hb).1
            have h2 := (TrV.lt _ _ _ HA1.out.1 b ha).2
            omega
          replace HA1 : Hid (TrV wk28 w1.heap.size T (.slice ya T.nms.length ca) fa ∧ fa.Nodup) := ⟨TrV.same _ _ _ HA1.out.1 (fun b hb => bx.block b (TrV.lt _ _ _ HA1.out.1 b hb).2), HA1.out.2⟩
          replace H8 : Hid (wk28.heap[Gb]? = some (.cells #[Value.int IntKind.i64 0, Value.bool false, Value.string ⟨#[]⟩, Value.slice none 0 0] 25 (0, 0)) ∧ w1.heap.size ≤ Gb ∧ Gb < wk28.heap.size ∧ Gb ∉ fa ∧ Gb ∉ fb) := ⟨(bx.block _ H8.out.2.2.1).trans H8.out.1, H8.out.2.1, Nat.lt_of_lt_of_le H8.out.2.2.1 bx.size, H8.out.2.2.2, fun hm => by have h1 := (hlx _ hm).1; have h2 := H8.out.2.2.1; omega⟩
          replace HB : Hid (Below w1.heap.size w1 wk28) := HB.out.trans (bx.mono HB.out.size)
          clear hVx hNx bx hlx
          go_wp2_with fail
          refine hK1.out _ _ (HS.out _ HB.out) (fun _ => ?_)
          clear hK1 K1
          try simp only [Act.put, List.setIfInBounds_toArray, List.set_cons_zero, List.set_cons_succ]
          refine wpAnyH_ready (rs := [4]) (by kernel_rfl) (by decide) (AllReadyH.cons rfl (fun K1 hK1 => ?_) AllReadyH.nil)
          rw [if_pos (by rfl)]
          have bx : Below wk28.heap.size wk28 (wk28.alloc (.cells #[Value.int IntKind.i64 0, Value.bool false, Value.string ⟨#[]⟩, Value.slice none 0 0] 25)) := (Below.refl _ _).alloc (Nat.le_refl _) _
          have zx : (wk28.alloc (.cells #[Value.int IntKind.i64 0, Value.bool false, Value.string ⟨#[]⟩, Value.slice none 0 0] 25)).heap[wk28.heap.size]? = some (.cells #[Value.int IntKind.i64 0, Value.bool false, Value.string ⟨#[]⟩, Value.slice none 0 0] 25 (0, 0)) := heap_alloc_new _ _
          have lx : wk28.heap.size < (wk28.alloc (.cells #[Value.int IntKind.i64 0, Value.bool false, Value.string ⟨#[]⟩, Value.slice none 0 0] 25)).heap.size := by rw [World.size_alloc]; omega
          have bX : Below w1.heap.size w1 (wk28.alloc (.cells #[Value.int IntKind.i64 0, Value.bool false, Value.string ⟨#[]⟩, Value.slice none 0 0] 25)) := HB.out.trans (bx.mono HB.out.size)
          go_simp
          refine hK1.out _ _ (HS.out _ bX) (fun _ => ?_)
          clear hK1 K1
          try simp only [Act.put, List.setIfInBounds_toArray, List.set_cons_zero, List.set_cons_succ]
          obtain ⟨Ga, hGx⟩ : ∃ Ga, wk28.heap.size = Ga := ⟨_, rfl⟩
          have HSZ : Hid (wk28.heap.size = Ga) := hGx
          have H7 : Hid ((wk28.alloc (.cells #[Value.int IntKind.i64 0, Value.bool false, Value.string ⟨#[]⟩, Value.slice none 0 0] 25)).heap[Ga]? = some (.cells #[Value.int IntKind.i64 0, Value.bool false, Value.string ⟨#[]⟩, Value.slice none 0 0] 25 (0, 0)) ∧ w1.heap.size ≤ Ga ∧ Ga < (wk28.alloc (.cells #[Value.int IntKind.i64 0, Value.bool false, Value.string ⟨#[]⟩, Value.slice none 0 0] 25)).heap.size ∧ Ga ∉ fa ∧ Ga ∉ fb) := ⟨by rw [← HSZ.out]; exact zx, by rw [← HSZ.out]; exact HB.out.size, by rw [← HSZ.out]; exact lx, fun hm => by have h2 := (TrV.lt _ _ _ HA1.out.1 _ hm).2; have h3 := HSZ.out; omega, fun hm => by have h2 := (TrV.lt _ _ _ HB1.out.1 _ hm).2; have h3 := HSZ.out; omega⟩
          have H78 : Hid (Ga ≠ Gb) := fun hh => by have h1 := H8.out.2.2.1; have h2 := HSZ.out; omega
          replace H8 : Hid ((wk28.alloc (.cells #[Value.int IntKind.i64 0, Value.bool false, Value.string ⟨#[]⟩, Value.slice none 0 0] 25)).heap[Gb]? = some (.cells #[Value.int IntKind.i64 0, Value.bool false, Value.string ⟨#[]⟩, Value.slice none 0 0] 25 (0, 0)) ∧ w1.heap.size ≤ Gb ∧ Gb < (wk28.alloc (.cells #[Value.int IntKind.i64 0, Value.bool false, Value.string ⟨#[]⟩, Value.slice none 0 0] 25)).heap.size ∧ Gb ∉ fa ∧ Gb ∉ fb) := ⟨(bx.block _ H8.out.2.2.1).trans H8.out.1, H8.out.2.1, Nat.lt_of_lt_of_le H8.out.2.2.1 bx.size, H8.out.2.2.2⟩
          replace HA1 : Hid (TrV (wk28.alloc (.cells #[Value.int IntKind.i64 0, Value.bool false, Value.string ⟨#[]⟩, Value.slice none 0 0] 25)) w1.heap.size T (.slice ya T.nms.length ca) fa ∧ fa.Nodup) := ⟨TrV.same _ _ _ HA1.out.1 (fun b hb => bx.block b (TrV.lt _ _ _ HA1.out.1 b hb).2), HA1.out.2⟩
          replace HB1 : Hid (TrV (wk28.alloc (.cells #[Value.int IntKind.i64 0, Value.bool false, Value.string ⟨#[]⟩, Value.slice none 0 0] 25)) w1.heap.size U (.slice yb U.nms.length cb) fb ∧ fb.Nodup) := ⟨TrV.same _ _ _ HB1.out.1 (fun b hb => bx.block b (TrV.lt _ _ _ HB1.out.1 b hb).2), HB1.out.2⟩
          replace HB : Hid (Below w1.heap.size w1 (wk28.alloc (.cells #[Value.int IntKind.i64 0, Value.bool false, Value.string ⟨#[]⟩, Value.slice none 0 0] 25))) := bX
          rw [hGx]
          clear bx zx lx bX hGx HSZ
          generalize wk28.alloc (.cells #[Value.int IntKind.i64 0, Value.bool false, Value.string ⟨#[]⟩, Value.slice none 0 0] 25) = wk29 at *
          obtain ⟨u0, u1, u2, u3, uf⟩ := cell4 H7.out.1
          have v0 := uf 0
          have v1 := uf 1
          have v2 := uf 2
          have v3 := uf 3
          clear uf
          refine wpAnyH_ready (rs := [6]) (by kernel_rfl) (by decide) (AllReadyH.cons rfl (fun K1 hK1 => ?_) AllReadyH.nil)
          rw [if_pos (by rfl)]
          go_simp
          have bX : Below w1.heap.size w1 (wk29.setCells Ga 0 [.int .i64 T.k, .bool T.e, .string T.t, .slice ya T.nms.length ca]) := belowE_setCells _ _ _ H7.out.2.1 HB.out
          have NX : (fun W : World => W.cell? ⟨GT, 0, none⟩ = some (.int .i64 k) ∧ W.cell? ⟨GT, 1, none⟩ = some (.bool e) ∧ W.cell? ⟨GT, 2, none⟩ = some (.string t) ∧ W.cell? ⟨GT, 3, none⟩ = some (.slice z n cz) ∧ W.cell? ⟨GU, 0, none⟩ = some (.int .i64 ku) ∧ W.cell? ⟨GU, 1, none⟩ = some (.bool eu) ∧ W.cell? ⟨GU, 2, none⟩ = some (.string tu) ∧ W.cell? ⟨GU, 3, none⟩ = some (.slice zu nu czu)) (wk29.setCells Ga 0 [.int .i64 T.k, .bool T.e, .string T.t, .slice ya T.nms.length ca]) := HS.out _ bX
          refine hK1.out _ _ NX (fun _ => ?_)
          clear hK1 K1
          try simp only [Act.put, List.setIfInBounds_toArray, List.set_cons_zero, List.set_cons_succ]
          have q7 := put4 H7.out.1 (.int .i64 T.k) (.bool T.e) (.string T.t) (.slice ya T.nms.length ca)
          have q8 := (heapE_setCells Ga [.int .i64 T.k, .bool T.e, .string T.t, .slice ya T.nms.length ca] 0 Gb (Ne.symm H78.out) wk29).trans H8.out.1
          have sX : wk29.heap.size ≤ (wk29.setCells Ga 0 [.int .i64 T.k, .bool T.e, .string T.t, .slice ya T.nms.length ca]).heap.size := by rw [sizeE_setCells]; exact Nat.le_refl _
          have kX : ∀ x, x ≠ Ga → (wk29.setCells Ga 0 [.int .i64 T.k, .bool T.e, .string T.t, .slice ya T.nms.length ca]).heap[x]? = wk29.heap[x]? := fun x hx => heapE_setCells Ga _ _ x hx _
          change wpAnyH _ _ _ _ _ _ _ _ (wk29.setCells Ga 0 [.int .i64 T.k, .bool T.e, .string T.t, .slice ya T.nms.length ca])
          have HX : Hid (Below w1.heap.size w1 (wk29.setCells Ga 0 [.int .i64 T.k, .bool T.e, .string T.t, .slice ya T.nms.length ca]) ∧ (wk29.setCells Ga 0 [.int .i64 T.k, .bool T.e, .string T.t, .slice ya T.nms.length ca]).heap[Ga]? = some (.cells #[Value.int IntKind.i64 T.k, Value.bool T.e, Value.string T.t, Value.slice ya T.nms.length ca] 25 (0, 0)) ∧ (wk29.setCells Ga 0 [.int .i64 T.k, .bool T.e, .string T.t, .slice ya T.nms.length ca]).heap[Gb]? = some (.cells #[Value.int IntKind.i64 0, Value.bool false, Value.string ⟨#[]⟩, Value.slice none 0 0] 25 (0, 0)) ∧ wk29.heap.size ≤ (wk29.setCells Ga 0 [.int .i64 T.k, .bool T.e, .string T.t, .slice ya T.nms.length ca]).heap.size ∧ ∀ x, x ≠ Ga → (wk29.setCells Ga 0 [.int .i64 T.k, .bool T.e, .string T.t, .slice ya T.nms.length ca]).heap[x]? = wk29.heap[x]?) := ⟨bX, q7, q8, sX, kX⟩
          clear bX NX q7 q8 sX kX u0 u1 u2 u3 v0 v1 v2 v3
          generalize wk29.setCells Ga 0 [.int .i64 T.k, .bool T.e, .string T.t, .slice ya T.nms.length ca] = wX at *
          obtain ⟨u0, u1, u2, u3, uf⟩ := cell4 HX.out.2.2.1
          have v0 := uf 0
          have v1 := uf 1
          have v2 := uf 2
          have v3 := uf 3
          clear uf
          refine wpAnyH_ready (rs := [7]) (by kernel_rfl) (by decide) (AllReadyH.cons rfl (fun K1 hK1 => ?_) AllReadyH.nil)
          rw [if_pos (by rfl)]
          go_simp
          have bY : Below w1.heap.size w1 (wX.setCells Gb 0 [.int .i64 U.k, .bool U.e, .string U.t, .slice yb U.nms.length cb]) := belowE_setCells _ _ _ H8.out.2.1 HX.out.1
          refine hK1.out _ _ (HS.out _ bY) (fun _ => ?_)
          clear hK1 K1
          refine wpAnyH_done (by kernel_rfl) ?_ _
          (try go_wp2_with fail)
          go_meet
          refine ⟨Ga, Gb, ya, ca, fa, yb, cb, fb, rfl, rfl, ?_⟩
          have sY : wX.heap.size = (wX.setCells Gb 0 [.int .i64 U.k, .bool U.e, .string U.t, .slice yb U.nms.length cb]).heap.size := by rw [sizeE_setCells]
          have kY : ∀ x, x ≠ Ga → x ≠ Gb → (wX.setCells Gb 0 [.int .i64 U.k, .bool U.e, .string U.t, .slice yb U.nms.length cb]).heap[x]? = wk29.heap[x]? := fun x hx hx' => (heapE_setCells Gb _ _ x hx' _).trans (HX.out.2.2.2.2 x hx)
          exact KF.made HA1.out HB1.out HAB1.out bY ((heapE_setCells Gb [.int .i64 U.k, .bool U.e, .string U.t, .slice yb U.nms.length cb] 0 Ga H78.out wX).trans HX.out.2.1) (put4 HX.out.2.2.1 _ _ _ _) H7.out.2 H8.out.2 kY (Nat.le_trans HX.out.2.2.2.1 (Nat.le_of_eq sY))
        · rw [if_pos (by rfl)]
          have bx : Below wk27.heap.size wk27 (wk27.alloc (.cells #[Value.int IntKind.i64 0, Value.bool false, Value.string ⟨#[]⟩, Value.slice none 0 0] 25)) := (Below.refl _ _).alloc (Nat.le_refl _) _
          have zx : (wk27.alloc (.cells #[Value.int IntKind.i64 0, Value.bool false, Value.string ⟨#[]⟩, Value.slice none 0 0] 25)).heap[wk27.heap.size]? = some (.cells #[Value.int IntKind.i64 0, Value.bool false, Value.string ⟨#[]⟩, Value.slice none 0 0] 25 (0, 0)) := heap_alloc_new _ _
          have lx : wk27.heap.size < (wk27.alloc (.cells #[Value.int IntKind.i64 0, Value.bool false, Value.string ⟨#[]⟩, Value.slice none 0 0] 25)).heap.size := by rw [World.size_alloc]; omega
          have bX : Below w1.heap.size w1 (wk27.alloc (.cells #[Value.int IntKind.i64 0, Value.bool false, Value.string ⟨#[]⟩, Value.slice none 0 0] 25)) := HB.out.trans (bx.mono HB.out.size)
          go_simp
          refine hK1.out _ _ (HS.out _ bX) (fun _ => ?_)
          clear hK1 K1
          try simp only [Act.put, List.setIfInBounds_toArray, List.set_cons_zero, List.set_cons_succ]
          obtain ⟨Ga, hGx⟩ : ∃ Ga, wk27.heap.size = Ga := ⟨_, rfl⟩
          have HSZ : Hid (wk27.heap.size = Ga) := hGx
          have H7 : Hid ((wk27.alloc (.cells #[Value.int IntKind.i64 0, Value.bool false, Value.string ⟨#[]⟩, Value.slice none 0 0] 25)).heap[Ga]? = some (.cells #[Value.int IntKind.i64 0, Value.bool false, Value.string ⟨#[]⟩, Value.slice none 0 0] 25 (0, 0)) ∧ w1.heap.size ≤ Ga ∧ Ga < (wk27.alloc (.cells #[Value.int IntKind.i64 0, Value.bool false, Value.string ⟨#[]⟩, Value.slice none 0 0] 25)).heap.size ∧ Ga ∉ fa) := ⟨by rw [← HSZ.out]; exact zx, by rw [← HSZ.out]; exact HB.out.size, by rw [← HSZ.out]; exact lx, fun hm => by have h2 := (TrV.lt _ _ _ HA1.out.1 _ hm).2; have h3 := HSZ.out; omega⟩
          have H78 : Hid (Ga ≠ Gb) := fun hh => by have h1 := H8.out.2.2.1; have h2 := HSZ.out; omega
          replace H8 : Hid ((wk27.alloc (.cells #[Value.int IntKind.i64 0, Value.bool false, Value.string ⟨#[]⟩, Value.slice none 0 0] 25)).heap[Gb]? = some (.cells #[Value.int IntKind.i64 0, Value.bool false, Value.string ⟨#[]⟩, Value.slice none 0 0] 25 (0, 0)) ∧ w1.heap.size ≤ Gb ∧ Gb < (wk27.alloc (.cells #[Value.int IntKind.i64 0, Value.bool false, Value.string ⟨#[]⟩, Value.slice none 0 0] 25)).heap.size ∧ Gb ∉ fa) := ⟨(bx.block _ H8.out.2.2.1).trans H8.out.1, H8.out.2.1, Nat.lt_of_lt_of_le H8.out.2.2.1 bx.size, H8.out.2.2.2⟩
          replace HA1 : Hid (TrV (wk27.alloc (.cells #[Value.int IntKind.i64 0, Value.bool false, Value.string ⟨#[]⟩, Value.slice none 0 0] 25)) w1.heap.size T (.slice ya T.nms.length ca) fa ∧ fa.Nodup) := ⟨TrV.same _ _ _ HA1.out.1 (fun b hb => bx.block b (TrV.lt _ _ _ HA1.out.1 b hb).2), HA1.out.2⟩
          replace HB : Hid (Below w1.heap.size w1 (wk27.alloc (.cells #[Value.int IntKind.i64 0, Value.bool false, Value.string ⟨#[]⟩, Value.slice none 0 0] 25))) := bX
          rw [hGx]
          clear bx zx lx bX hGx HSZ
          generalize wk27.alloc (.cells #[Value.int IntKind.i64 0, Value.bool false, Value.string ⟨#[]⟩, Value.slice none 0 0] 25) = wk30 at *
          refine wpAnyH_ready (rs := [3]) (by kernel_rfl) (by decide) (AllReadyH.cons rfl (fun K1 hK1 => ?_) AllReadyH.nil)
          rw [if_pos (by rfl)]
          go_simp
          refine (clone_any fu _ U wk30 (HH.out.2.2.2.1.below (HB0.out.trans (HB.out.mono HB0.out.size))) (lnB_ln (by decide) _ HH.out.2.2.2.2.2.2.2)).mono ?_
          rintro en wk31 ⟨⟨xx, fb, rfl, hVx, hNx⟩, bx⟩
          obtain ⟨yb, cb, rfl⟩ := hVx.shape
          have hlx := TrV.lt _ _ _ hVx
          have HB1 : Hid (TrV wk31 w1.heap.size U (.slice yb U.nms.length cb) fb ∧ fb.Nodup) := ⟨TrV.low HB.out.size _ _ _ hVx, hNx⟩
          have HAB1 : Hid (∀ b ∈ fb, b ∉ fa) := fun b hb ha => by
            have h1 := (hlx b hb).1
            have h2 := (TrV.lt _ _ _ HA1.out.1 b ha).2
            omega
          replace HA1 : Hid (TrV wk31 w1.heap.size T (.slice ya T.nms.length ca) fa ∧ fa.Nodup) := ⟨TrV.same _ _ _ HA1.out.1 (fun b hb => bx.block b (TrV.lt _ _ _ HA1.out.1 b hb).2), HA1.out.2⟩
          replace H7 : Hid (wk31.heap[Ga]? = some (.cells #[Value.int IntKind.i64 0, Value.bool false, Value.string ⟨#[]⟩, Value.slice none 0 0] 25 (0, 0)) ∧ w1.heap.size ≤ Ga ∧ Ga < wk31.heap.size ∧ Ga ∉ fa ∧ Ga ∉ fb) := ⟨(bx.block _ H7.out.2.2.1).trans H7.out.1, H7.out.2.1, Nat.lt_of_lt_of_le H7.out.2.2.1 bx.size, H7.out.2.2.2, fun hm => by have h1 := (hlx _ hm).1; have h2 := H7.out.2.2.1; omega⟩
          replace H8 : Hid (wk31.heap[Gb]? = some (.cells #[Value.int IntKind.i64 0, Value.bool false, Value.string ⟨#[]⟩, Value.slice none 0 0] 25 (0, 0)) ∧ w1.heap.size ≤ Gb ∧ Gb < wk31.heap.size ∧ Gb ∉ fa ∧ Gb ∉ fb) := ⟨(bx.block _ H8.out.2.2.1).trans H8.out.1, H8.out.2.1, Nat.lt_of_lt_of_le H8.out.2.2.1 bx.size, H8.out.2.2.2, fun hm => by have h1 := (hlx _ hm).1; have h2 := H8.out.2.2.1; omega⟩
          replace HB : Hid (Below w1.heap.size w1 wk31) := HB.out.trans (bx.mono HB.out.size)
          clear hVx hNx bx hlx
          go_wp2_with fail
          refine hK1.out _ _ (HS.out _ HB.out) (fun _ => ?_)
          clear hK1 K1
          try simp only [Act.put, List.setIfInBounds_toArray, List.set_cons_zero, List.set_cons_succ]
          obtain ⟨u0, u1, u2, u3, uf⟩ := cell4 H7.out.1
          have v0 := uf 0
          have v1 := uf 1
          have v2 := uf 2
          have v3 := uf 3
          clear uf
          refine wpAnyH_ready (rs := [6]) (by kernel_rfl) (by decide) (AllReadyH.cons rfl (fun K1 hK1 => ?_) AllReadyH.nil)
          rw [if_pos (by rfl)]
          go_simp
          have bX : Below w1.heap.size w1 (wk31.setCells Ga 0 [.int .i64 T.k, .bool T.e, .string T.t, .slice ya T.nms.length ca]) := belowE_setCells _ _ _ H7.out.2.1 HB.out
          have NX : (fun W : World => W.cell? ⟨GT, 0, none⟩ = some (.int .i64 k) ∧ W.cell? ⟨GT, 1, none⟩ = some (.bool e) ∧ W.cell? ⟨GT, 2, none⟩ = some (.string t) ∧ W.cell? ⟨GT, 3, none⟩ = some (.slice z n cz) ∧ W.cell? ⟨GU, 0, none⟩ = some (.int .i64 ku) ∧ W.cell? ⟨GU, 1, none⟩ = some (.bool eu) ∧ W.cell? ⟨GU, 2, none⟩ = some (.string tu) ∧ W.cell? ⟨GU, 3, none⟩ = some (.slice zu nu czu)) (wk31.setCells Ga 0 [.int .i64 T.k, .bool T.e, .string T.t, .slice ya T.nms.length ca]) := HS.out _ bX
          refine hK1.out _ _ NX (fun _ => ?_)
          clear hK1 K1
          try simp only [Act.put, List.setIfInBounds_toArray, List.set_cons_zero, List.set_cons_succ]
          have q7 := put4 H7.out.1 (.int .i64 T.k) (.bool T.e) (.string T.t) (.slice ya T.nms.length ca)
          have q8 := (heapE_setCells Ga [.int .i64 T.k, .bool T.e, .string T.t, .slice ya T.nms.length ca] 0 Gb (Ne.symm H78.out) wk31).trans H8.out.1
          have sX : wk31.heap.size ≤ (wk31.setCells Ga 0 [.int .i64 T.k, .bool T.e, .string T.t, .slice ya T.nms.length ca]).heap.size := by rw [sizeE_setCells]; exact Nat.le_refl _
          have kX : ∀ x, x ≠ Ga → (wk31.setCells Ga 0 [.int .i64 T.k, .bool T.e, .string T.t, .slice ya T.nms.length ca]).heap[x]? = wk31.heap[x]? := fun x hx => heapE_setCells Ga _ _ x hx _
          change wpAnyH _ _ _ _ _ _ _ _ (wk31.setCells Ga 0 [.int .i64 T.k, .bool T.e, .string T.t, .slice ya T.nms.length ca])
          have HX : Hid (Below w1.heap.size w1 (wk31.setCells Ga 0 [.int .i64 T.k, .bool T.e, .string T.t, .slice ya T.nms.length ca]) ∧ (wk31.setCells Ga 0 [.int .i64 T.k, .bool T.e, .string T.t, .slice ya T.nms.length ca]).heap[Ga]? = some (.cells #[Value.int IntKind.i64 T.k, Value.bool T.e, Value.string T.t, Value.slice ya T.nms.length ca] 25 (0, 0)) ∧ (wk31.setCells Ga 0 [.int .i64 T.k, .bool T.e, .string T.t, .slice ya T.nms.length ca]).heap[Gb]? = some (.cells #[Value.int IntKind.i64 0, Value.bool false, Value.string ⟨#[]⟩, Value.slice none 0 0] 25 (0, 0)) ∧ wk31.heap.size ≤ (wk31.setCells Ga 0 [.int .i64 T.k, .bool T.e, .string T.t, .slice ya T.nms.length ca]).heap.size ∧ ∀ x, x ≠ Ga → (wk31.setCells Ga 0 [.int .i64 T.k, .bool T.e, .string T.t, .slice ya T.nms.length ca]).heap[x]? = wk31.heap[x]?) := ⟨bX, q7, q8, sX, kX⟩
          clear bX NX q7 q8 sX kX u0 u1 u2 u3 v0 v1 v2 v3
          generalize wk31.setCells Ga 0 [.int .i64 T.k, .bool T.e, .string T.t, .slice ya T.nms.length ca] = wX at *
          obtain ⟨u0, u1, u2, u3, uf⟩ := cell4 HX.out.2.2.1
          have v0 := uf 0
          have v1 := uf 1
          have v2 := uf 2
          have v3 := uf 3
          clear uf
          refine wpAnyH_ready (rs := [7]) (by kernel_rfl) (by decide) (AllReadyH.cons rfl (fun K1 hK1 => ?_) AllReadyH.nil)
          rw [if_pos (by rfl)]
          go_simp
          have bY : Below w1.heap.size w1 (wX.setCells Gb 0 [.int .i64 U.k, .bool U.e, .string U.t, .slice yb U.nms.length cb]) := belowE_setCells _ _ _ H8.out.2.1 HX.out.1
          refine hK1.out _ _ (HS.out _ bY) (fun _ => ?_)
          clear hK1 K1
          refine wpAnyH_done (by kernel_rfl) ?_ _
          (try go_wp2_with fail)
          go_meet
          refine ⟨Ga, Gb, ya, ca, fa, yb, cb, fb, rfl, rfl, ?_⟩
          have sY : wX.heap.size = (wX.setCells Gb 0 [.int .i64 U.k, .bool U.e, .string U.t, .slice yb U.nms.length cb]).heap.size := by rw [sizeE_setCells]
          have kY : ∀ x, x ≠ Ga → x ≠ Gb → (wX.setCells Gb 0 [.int .i64 U.k, .bool U.e, .string U.t, .slice yb U.nms.length cb]).heap[x]? = wk31.heap[x]? := fun x hx hx' => (heapE_setCells Gb _ _ x hx' _).trans (HX.out.2.2.2.2 x hx)
          exact KF.made HA1.out HB1.out HAB1.out bY ((heapE_setCells Gb [.int .i64 U.k, .bool U.e, .string U.t, .slice yb U.nms.length cb] 0 Ga H78.out wX).trans HX.out.2.1) (put4 HX.out.2.2.1 _ _ _ _) H7.out.2 H8.out.2 kY (Nat.le_trans HX.out.2.2.2.1 (Nat.le_of_eq sY))
      · rw [if_pos (by rfl)]
        have bx : Below wk26.heap.size wk26 (wk26.alloc (.cells #[Value.int IntKind.i64 0, Value.bool false, Value.string ⟨#[]⟩, Value.slice none 0 0] 25)) := (Below.refl _ _).alloc (Nat.le_refl _) _
        have zx : (wk26.alloc (.cells #[Value.int IntKind.i64 0, Value.bool false, Value.string ⟨#[]⟩, Value.slice none 0 0] 25)).heap[wk26.heap.size]? = some (.cells #[Value.int IntKind.i64 0, Value.bool false, Value.string ⟨#[]⟩, Value.slice none 0 0] 25 (0, 0)) := heap_alloc_new _ _
        have lx : wk26.heap.size < (wk26.alloc (.cells #[Value.int IntKind.i64 0, Value.bool false, Value.string ⟨#[]⟩, Value.slice none 0 0] 25)).heap.size := by rw [World.size_alloc]; omega
        have bX : Below w1.heap.size w1 (wk26.alloc (.cells #[Value.int IntKind.i64 0, Value.bool false, Value.string ⟨#[]⟩, Value.slice none 0 0] 25)) := HB.out.trans (bx.mono HB.out.size)
        go_simp
        refine hK1.out _ _ (HS.out _ bX) (fun _ => ?_)
        clear hK1 K1
        try simp only [Act.put, List.setIfInBounds_toArray, List.set_cons_zero, List.set_cons_succ]
        obtain ⟨Ga, hGx⟩ : ∃ Ga, wk26.heap.size = Ga := ⟨_, rfl⟩
        have HSZ : Hid (wk26.heap.size = Ga) := hGx
        have H7 : Hid ((wk26.alloc (.cells #[Value.int IntKind.i64 0, Value.bool false, Value.string ⟨#[]⟩, Value.slice none 0 0] 25)).heap[Ga]? = some (.cells #[Value.int IntKind.i64 0, Value.bool false, Value.string ⟨#[]⟩, Value.slice none 0 0] 25 (0, 0)) ∧ w1.heap.size ≤ Ga ∧ Ga < (wk26.alloc (.cells #[Value.int IntKind.i64 0, Value.bool false, Value.string ⟨#[]⟩, Value.slice none 0 0] 25)).heap.size ) := ⟨by rw [← HSZ.out]; exact zx, by rw [← HSZ.out]; exact HB.out.size, by rw [← HSZ.out]; exact lx⟩
        have H78 : Hid (Ga ≠ Gb) := fun hh => by have h1 := H8.out.2.2; have h2 := HSZ.out; omega
        replace H8 : Hid ((wk26.alloc (.cells #[Value.int IntKind.i64 0, Value.bool false, Value.string ⟨#[]⟩, Value.slice none 0 0] 25)).heap[Gb]? = some (.cells #[Value.int IntKind.i64 0, Value.bool false, Value.string ⟨#[]⟩, Value.slice none 0 0] 25 (0, 0)) ∧ w1.heap.size ≤ Gb ∧ Gb < (wk26.alloc (.cells #[Value.int IntKind.i64 0, Value.bool false, Value.string ⟨#[]⟩, Value.slice none 0 0] 25)).heap.size ) := ⟨(bx.block _ H8.out.2.2).trans H8.out.1, H8.out.2.1, Nat.lt_of_lt_of_le H8.out.2.2 bx.size⟩
        replace HB : Hid (Below w1.heap.size w1 (wk26.alloc (.cells #[Value.int IntKind.i64 0, Value.bool false, Value.string ⟨#[]⟩, Value.slice none 0 0] 25))) := bX
        rw [hGx]
        clear bx zx lx bX hGx HSZ
        generalize wk26.alloc (.cells #[Value.int IntKind.i64 0, Value.bool false, Value.string ⟨#[]⟩, Value.slice none 0 0] 25) = wk32 at *
        refine wpAnyH_ready (rs := [1]) (by kernel_rfl) (by decide) (AllReadyH.cons rfl (fun K1 hK1 => ?_) AllReadyH.nil)
        rw [if_pos (by rfl)]
        go_simp
        refine (clone_any f _ T wk32 (HH.out.1.below (HB0.out.trans (HB.out.mono HB0.out.size))) (lnB_ln (by decide) _ HH.out.2.2.2.2.2.2.1)).mono ?_
        rintro en wk33 ⟨⟨xx, fa, rfl, hVx, hNx⟩, bx⟩
        obtain ⟨ya, ca, rfl⟩ := hVx.shape
        have hlx := TrV.lt _ _ _ hVx
        have HA1 : Hid (TrV wk33 w1.heap.size T (.slice ya T.nms.length ca) fa ∧ fa.Nodup) := ⟨TrV.low HB.out.size _ _ _ hVx, hNx⟩
        replace H7 : Hid (wk33.heap[Ga]? = some (.cells #[Value.int IntKind.i64 0, Value.bool false, Value.string ⟨#[]⟩, Value.slice none 0 0] 25 (0, 0)) ∧ w1.heap.size ≤ Ga ∧ Ga < wk33.heap.size  ∧ Ga ∉ fa) := ⟨(bx.block _ H7.out.2.2).trans H7.out.1, H7.out.2.1, Nat.lt_of_lt_of_le H7.out.2.2 bx.size, fun hm => by have h1 := (hlx _ hm).1; have h2 := H7.out.2.2; omega⟩
        replace H8 : Hid (wk33.heap[Gb]? = some (.cells #[Value.int IntKind.i64 0, Value.bool false, Value.string ⟨#[]⟩, Value.slice none 0 0] 25 (0, 0)) ∧ w1.heap.size ≤ Gb ∧ Gb < wk33.heap.size  ∧ Gb ∉ fa) := ⟨(bx.block _ H8.out.2.2).trans H8.out.1, H8.out.2.1, Nat.lt_of_lt_of_le H8.out.2.2 bx.size, fun hm => by have h1 := (hlx _ hm).1; have h2 := H8.out.2.2; omega⟩
        replace HB : Hid (Below w1.heap.size w1 wk33) := HB.out.trans (bx.mono HB.out.size)
        clear hVx hNx bx hlx
        go_wp2_with fail
        refine hK1.out _ _ (HS.out _ HB.out) (fun _ => ?_)
        clear hK1 K1
        try simp only [Act.put, List.setIfInBounds_toArray, List.set_cons_zero, List.set_cons_succ]
        refine wpAnyH_ready (rs := [3]) (by kernel_rfl) (by decide) (AllReadyH.cons rfl (fun K1 hK1 => ?_) AllReadyH.nil)
        rw [if_pos (by rfl)]
        go_simp
        refine (clone_any fu _ U wk33 (HH.out.2.2.2.1.below (HB0.out.trans (HB.out.mono HB0.out.size))) (lnB_ln (by decide) _ HH.out.2.2.2.2.2.2.2)).mono ?_
        rintro en wk34 ⟨⟨xx, fb, rfl, hVx, hNx⟩, bx⟩
        obtain ⟨yb, cb, rfl⟩ := hVx.shape
        have hlx := TrV.lt _ _ _ hVx
        have HB1 : Hid (TrV wk34 w1.heap.size U (.slice yb U.nms.length cb) fb ∧ fb.Nodup) := ⟨TrV.low HB.out.size _ _ _ hVx, hNx⟩
        have HAB1 : Hid (∀ b ∈ fb, b ∉ fa) := fun b hb ha => by
          have h1 := (hlx b hb).1
          have h2 := (TrV.lt _ _ _ HA1.out.1 b ha).2
          omega
        replace HA1 : Hid (TrV wk34 w1.heap.size T (.slice ya T.nms.length ca) fa ∧ fa.Nodup) := ⟨TrV.same _ _ _ HA1.out.1 (fun b hb => bx.block b (TrV.lt _ _ _ HA1.out.1 b hb).2), HA1.out.2⟩
        replace H7 : Hid (wk34.heap[Ga]? = some (.cells #[Value.int IntKind.i64 0, Value.bool false, Value.string ⟨#[]⟩, Value.slice none 0 0] 25 (0, 0)) ∧ w1.heap.size ≤ Ga ∧ Ga < wk34.heap.size ∧ Ga ∉ fa ∧ Ga ∉ fb) := ⟨(bx.block _ H7.out.2.2.1).trans H7.out.1, H7.out.2.1, Nat.lt_of_lt_of_le H7.out.2.2.1 bx.size, H7.out.2.2.2, fun hm => by have h1 := (hlx _ hm).1; have h2 := H7.out.2.2.1; omega⟩
        replace H8 : Hid (wk34.heap[Gb]? = some (.cells #[Value.int IntKind.i64 0, Value.bool false, Value.string ⟨#[]⟩, Value.slice none 0 0] 25 (0, 0)) ∧ w1.heap.size ≤ Gb ∧ Gb < wk34.heap.size ∧ Gb ∉ fa ∧ Gb ∉ fb) := ⟨(bx.block _ H8.out.2.2.1).trans H8.out.1, H8.out.2.1, Nat.lt_of_lt_of_le H8.out.2.2.1 bx.size, H8.out.2.2.2, fun hm => by have h1 := (hlx _ hm).1; have h2 := H8.out.2.2.1; omega⟩
        replace HB : Hid (Below w1.heap.size w1 wk34) := HB.out.trans (bx.mono HB.out.size)
        clear hVx hNx bx hlx
        go_wp2_with fail
        refine hK1.out _ _ (HS.out _ HB.out) (fun _ => ?_)
        clear hK1 K1
        try simp only [Act.put, List.setIfInBounds_toArray, List.set_cons_zero, List.set_cons_succ]
        obtain ⟨u0, u1, u2, u3, uf⟩ := cell4 H7.out.1
        have v0 := uf 0
        have v1 := uf 1
        have v2 := uf 2
        have v3 := uf 3
        clear uf
        refine wpAnyH_ready (rs := [6]) (by kernel_rfl) (by decide) (AllReadyH.cons rfl (fun K1 hK1 => ?_) AllReadyH.nil)
        rw [if_pos (by rfl)]
        go_simp
        have bX : Below w1.heap.size w1 (wk34.setCells Ga 0 [.int .i64 T.k, .bool T.e, .string T.t, .slice ya T.nms.length ca]) := belowE_setCells _ _ _ H7.out.2.1 HB.out
        have NX : (fun W : World => W.cell? ⟨GT, 0, none⟩ = some (.int .i64 k) ∧ W.cell? ⟨GT, 1, none⟩ = some (.bool e) ∧ W.cell? ⟨GT, 2, none⟩ = some (.string t) ∧ W.cell? ⟨GT, 3, none⟩ = some (.slice z n cz) ∧ W.cell? ⟨GU, 0, none⟩ = some (.int .i64 ku) ∧ W.cell? ⟨GU, 1, none⟩ = some (.bool eu) ∧ W.cell? ⟨GU, 2, none⟩ = some (.string tu) ∧ W.cell? ⟨GU, 3, none⟩ = some (.slice zu nu czu)) (wk34.setCells Ga 0 [.int .i64 T.k, .bool T.e, .string T.t, .slice ya T.nms.length ca]) := HS.out _ bX
        refine hK1.out _ _ NX (fun _ => ?_)
        clear hK1 K1
        try simp only [Act.put, List.setIfInBounds_toArray, List.set_cons_zero, List.set_cons_succ]
        have q7 := put4 H7.out.1 (.int .i64 T.k) (.bool T.e) (.string T.t) (.slice ya T.nms.length ca)
        have q8 := (heapE_setCells Ga [.int .i64 T.k, .bool T.e, .string T.t, .slice ya T.nms.length ca] 0 Gb (Ne.symm H78.out) wk34).trans H8.out.1
        have sX : wk34.heap.size ≤ (wk34.setCells Ga 0 [.int .i64 T.k, .bool T.e, .string T.t, .slice ya T.nms.length ca]).heap.size := by rw [sizeE_setCells]; exact Nat.le_refl _
        have kX : ∀ x, x ≠ Ga → (wk34.setCells Ga 0 [.int .i64 T.k, .bool T.e, .string T.t, .slice ya T.nms.length ca]).heap[x]? = wk34.heap[x]? := fun x hx => heapE_setCells Ga _ _ x hx _
        change wpAnyH _ _ _ _ _ _ _ _ (wk34.setCells Ga 0 [.int .i64 T.k, .bool T.e, .string T.t, .slice ya T.nms.length ca])
        have HX : Hid (Below w1.heap.size w1 (wk34.setCells Ga 0 [.int .i64 T.k, .bool T.e, .string T.t, .slice ya T.nms.length ca]) ∧ (wk34.setCells Ga 0 [.int .i64 T.k, .bool T.e, .string T.t, .slice ya T.nms.length ca]).heap[Ga]? = some (.cells #[Value.int IntKind.i64 T.k, Value.bool T.e, Value.string T.t, Value.slice ya T.nms.length ca] 25 (0, 0)) ∧ (wk34.setCells Ga 0 [.int .i64 T.k, .bool T.e, .string T.t, .slice ya T.nms.length ca]).heap[Gb]? = some (.cells #[Value.int IntKind.i64 0, Value.bool false, Value.string ⟨#[]⟩, Value.slice none 0 0] 25 (0, 0)) ∧ wk34.heap.size ≤ (wk34.setCells Ga 0 [.int .i64 T.k, .bool T.e, .string T.t, .slice ya T.nms.length ca]).heap.size ∧ ∀ x, x ≠ Ga → (wk34.setCells Ga 0 [.int .i64 T.k, .bool T.e, .string T.t, .slice ya T.nms.length ca]).heap[x]? = wk34.heap[x]?) := ⟨bX, q7, q8, sX, kX⟩
        clear bX NX q7 q8 sX kX u0 u1 u2 u3 v0 v1 v2 v3
        generalize wk34.setCells Ga 0 [.int .i64 T.k, .bool T.e, .string T.t, .slice ya T.nms.length ca] = wX at *
        obtain ⟨u0, u1, u2, u3, uf⟩ := cell4 HX.out.2.2.1
        have v0 := uf 0
        have v1 := uf 1
        have v2 := uf 2
        have v3 := uf 3
        clear uf
        refine wpAnyH_ready (rs := [7]) (by kernel_rfl) (by decide) (AllReadyH.cons rfl (fun K1 hK1 => ?_) AllReadyH.nil)
        rw [if_pos (by rfl)]
        go_simp
        have bY : Below w1.heap.size w1 (wX.setCells Gb 0 [.int .i64 U.k, .bool U.e, .string U.t, .slice yb U.nms.length cb]) := belowE_setCells _ _ _ H8.out.2.1 HX.out.1
        refine hK1.out _ _ (HS.out _ bY) (fun _ => ?_)
        clear hK1 K1
        refine wpAnyH_done (by kernel_rfl) ?_ _
        (try go_wp2_with fail)
        go_meet
        refine ⟨Ga, Gb, ya, ca, fa, yb, cb, fb, rfl, rfl, ?_⟩
        have sY : wX.heap.size = (wX.setCells Gb 0 [.int .i64 U.k, .bool U.e, .string U.t, .slice yb U.nms.length cb]).heap.size := by rw [sizeE_setCells]
        have kY : ∀ x, x ≠ Ga → x ≠ Gb → (wX.setCells Gb 0 [.int .i64 U.k, .bool U.e, .string U.t, .slice yb U.nms.length cb]).heap[x]? = wk34.heap[x]? := fun x hx hx' => (heapE_setCells Gb _ _ x hx' _).trans (HX.out.2.2.2.2 x hx)
        exact KF.made HA1.out HB1.out HAB1.out bY ((heapE_setCells Gb [.int .i64 U.k, .bool U.e, .string U.t, .slice yb U.nms.length cb] 0 Ga H78.out wX).trans HX.out.2.1) (put4 HX.out.2.2.1 _ _ _ _) H7.out.2 H8.out.2 kY (Nat.le_trans HX.out.2.2.2.1 (Nat.le_of_eq sY))
  case rest =>
    obtain ⟨Ga, Gb, ya, ca, fa, yb, cb, fb, rfl, rfl, hKF⟩ := hcut
    obtain ⟨H0, hH0⟩ : ∃ H0, wc.heap.size = H0 := ⟨_, rfl⟩
    obtain ⟨K0, hK0⟩ : ∃ K0, w1.heap.size = K0 := ⟨_, rfl⟩
    have HK0 : Hid (w1.heap.size = K0) := hK0
    have HB : Hid (Below w1.heap.size w1 wc) := hKF.out.bel
    have Ha : Hid (ND wc K0 H0 Ga T ya ca fa) := ⟨hKF.out.ba, by rw [← hK0]; exact hKF.out.ta.1, hKF.out.ta.2, by rw [← hK0, ← hH0]; exact TrV.lt _ _ _ hKF.out.ta.1⟩
    have Hb : Hid (ND wc K0 H0 Gb U yb cb fb) := ⟨hKF.out.bb, by rw [← hK0]; exact hKF.out.tb.1, hKF.out.tb.2, by rw [← hK0, ← hH0]; exact TrV.lt _ _ _ hKF.out.tb.1⟩
    have HAB : Hid ((∀ b ∈ fb, b ∉ fa) ∧ Ga ∉ fa ∧ Ga ∉ fb ∧ Gb ∉ fa ∧ Gb ∉ fb ∧ Ga < H0 ∧ Gb < H0) := ⟨hKF.out.ab, hKF.out.ga.2.2.1, hKF.out.ga.2.2.2, hKF.out.gb.2.2.1, hKF.out.gb.2.2.2, by rw [← hH0]; exact hKF.out.ga.2.1, by rw [← hH0]; exact hKF.out.gb.2.1⟩
    have HW : Hid (H0 ≤ wc.heap.size) := Nat.le_of_eq hH0.symm
    have HKH : Hid (K0 ≤ H0) := by
      show K0 ≤ H0
      rw [← hK0, ← hH0]; exact hKF.out.bel.size
    clear hKF hH0 hK0 HB2
    obtain ⟨aa0, aa1, aa2, aa3, _⟩ := cell4 Ha.out.1
    obtain ⟨ea, hAa⟩ := Ha.out.at (lnB_ln (by decide) _ HH.out.2.2.2.2.2.2.1)
    have HAa : Hid (At wc ea (.agg #[.int .i64 T.k, .bool T.e, .string T.t, .slice ya T.nms.length ca]) T) := hAa
    clear hAa
    obtain ⟨ab0, ab1, ab2, ab3, _⟩ := cell4 Hb.out.1
    obtain ⟨eb, hAb⟩ := Hb.out.at (lnB_ln (by decide) _ HH.out.2.2.2.2.2.2.2)
    have HAb : Hid (At wc eb (.agg #[.int .i64 U.k, .bool U.e, .string U.t, .slice yb U.nms.length cb]) U) := hAb
    clear hAb
    obtain ⟨ce, P, hP⟩ : ∃ c M, putT T p U = (c, M) := ⟨_, _, rfl⟩
    have HP : Hid (putT T p U = (ce, P) ∧ lnB 1048577 P ∧ (ce = 0 → P.k ≠ 0)) := ⟨hP, by have h0 := putT_lnB p HH.out.2.2.2.2.2.2.1 HH.out.2.2.2.2.2.2.2; rw [hP] at h0; exact h0, fun h => by have h0 := putT_k (T := T) (U := U) (p := p) (by rw [hP]; exact h); rw [hP] at h0; exact h0⟩
    clear hP
    obtain ⟨cg, R, hR⟩ : ∃ c M, getT T p = (c, M) := ⟨_, _, rfl⟩
    have HR : Hid (getT T p = (cg, R) ∧ lnB 1048576 R ∧ (cg = 0 → R.k ≠ 0)) := ⟨hR, by have h0 := getT_lnB p HH.out.2.2.2.2.2.2.1; rw [hR] at h0; exact h0, fun h => by have h0 := getT_k (T := T) (p := p) (by rw [hR]; exact h); rw [hR] at h0; exact h0⟩
    clear hR
    obtain ⟨cu', Q, hQ⟩ : ∃ c M, cutT T p = (c, M) := ⟨_, _, rfl⟩
    have HQ : Hid (cutT T p = (cu', Q) ∧ lnB 1048576 Q ∧ (cu' = 0 → Q.k = 3)) := ⟨hQ, by have h0 := cutT_lnB p HH.out.2.2.2.2.2.2.1; rw [hQ] at h0; exact h0, fun h => by have h0 := cutT_k (T := T) (p := p) (by rw [hQ]; exact h); rw [hQ] at h0; exact h0⟩
    clear hQ
    go_wp2_with fail
    have C1 := put_any ea eb _ _ _ _ _ _ T p _ _ _ _ _ _ U wc hp HAa.out HH.out.2.1 HAb.out HH.out.2.2.2.2.1
    rw [HP.out.1] at C1
    refine C1.mono ?_
    clear C1
    rintro en wa1 hN1
    obtain ⟨yput, cput, fput, rfl, hV1, hn1, b1⟩ := hN1.out2
    clear hN1
    clear aa0 aa1 aa2 aa3 HAa ab0 ab1 ab2 ab3 HAb
    obtain ⟨Lput, hLput⟩ : ∃ L, wc.heap.size = L := ⟨_, rfl⟩
    have HLput : Hid (H0 ≤ Lput ∧ Lput ≤ wa1.heap.size) := by rw [← hLput]; exact ⟨HW.out, b1.size⟩
    have HV1 : Hid (TrV wa1 Lput P (.slice yput P.nms.length cput) fput ∧ fput.Nodup) := by rw [← hLput]; exact ⟨hV1, hn1⟩
    replace Ha : Hid (ND wa1 K0 H0 Ga T ya ca fa) := Ha.out.on b1
    replace Hb : Hid (ND wa1 K0 H0 Gb U yb cb fb) := Hb.out.on b1
    replace HB : Hid (Below w1.heap.size w1 wa1) := HB.out.trans ((b1).mono HB.out.size)
    replace HW : Hid (H0 ≤ wa1.heap.size) := Nat.le_trans HW.out (b1).size
    clear b1 hV1 hn1 hLput
    go_upto_region 5 with fail
    have b1 : Below wa1.heap.size wa1 (wa1.alloc (Obj.cells #[Value.int IntKind.i64 P.k, Value.bool P.e, Value.string P.t, Value.slice yput P.nms.length cput] 25)) := (Below.refl _ _).alloc (Nat.le_refl _) _
    have s1 : wa1.heap.size < (wa1.alloc (Obj.cells #[Value.int IntKind.i64 P.k, Value.bool P.e, Value.string P.t, Value.slice yput P.nms.length cput] 25)).heap.size := by rw [World.size_alloc]; omega
    have Hput : Hid (ND (wa1.alloc (Obj.cells #[Value.int IntKind.i64 P.k, Value.bool P.e, Value.string P.t, Value.slice yput P.nms.length cput] 25)) Lput wa1.heap.size wa1.heap.size P yput cput fput) := ND.new HV1.out.1 HV1.out.2
    replace Ha : Hid (ND (wa1.alloc (Obj.cells #[Value.int IntKind.i64 P.k, Value.bool P.e, Value.string P.t, Value.slice yput P.nms.length cput] 25)) K0 H0 Ga T ya ca fa) := Ha.out.on b1
    replace Hb : Hid (ND (wa1.alloc (Obj.cells #[Value.int IntKind.i64 P.k, Value.bool P.e, Value.string P.t, Value.slice yput P.nms.length cput] 25)) K0 H0 Gb U yb cb fb) := Hb.out.on b1
    replace HB : Hid (Below w1.heap.size w1 (wa1.alloc (Obj.cells #[Value.int IntKind.i64 P.k, Value.bool P.e, Value.string P.t, Value.slice yput P.nms.length cput] 25))) := HB.out.trans ((b1).mono HB.out.size)
    replace HW : Hid (H0 ≤ (wa1.alloc (Obj.cells #[Value.int IntKind.i64 P.k, Value.bool P.e, Value.string P.t, Value.slice yput P.nms.length cput] 25)).heap.size) := Nat.le_trans HW.out (b1).size
    obtain ⟨Gput, hGput⟩ : ∃ G, wa1.heap.size = G := ⟨_, rfl⟩
    replace HW : Hid (Gput + 1 ≤ (wa1.alloc (Obj.cells #[Value.int IntKind.i64 P.k, Value.bool P.e, Value.string P.t, Value.slice yput P.nms.length cput] 25)).heap.size) := by rw [← hGput]; exact s1
    rw [hGput] at Hput HLput ⊢
    clear b1 s1 HV1 hGput
    generalize wa1.alloc (Obj.cells #[Value.int IntKind.i64 P.k, Value.bool P.e, Value.string P.t, Value.slice yput P.nms.length cput] 25) = wb1 at *
    obtain ⟨aa0, aa1, aa2, aa3, _⟩ := cell4 Ha.out.1
    obtain ⟨ea, hAa⟩ := Ha.out.at (lnB_ln (by decide) _ HH.out.2.2.2.2.2.2.1)
    have HAa : Hid (At wb1 ea (.agg #[.int .i64 T.k, .bool T.e, .string T.t, .slice ya T.nms.length ca]) T) := hAa
    clear hAa
    go_wp2_with fail
    have C2 := get_any ea _ _ _ _ _ _ T p wb1 hp HAa.out HH.out.2.1
    rw [HR.out.1] at C2
    refine C2.mono ?_
    clear C2
    rintro en wa2 hN2
    obtain ⟨ygot, cgot, fgot, rfl, hV2, hn2, b2⟩ := hN2.out2
    clear hN2
    clear aa0 aa1 aa2 aa3 HAa
    obtain ⟨Lgot, hLgot⟩ : ∃ L, wb1.heap.size = L := ⟨_, rfl⟩
    have HLgot : Hid (Gput + 1 ≤ Lgot ∧ Lgot ≤ wa2.heap.size) := by rw [← hLgot]; exact ⟨HW.out, b2.size⟩
    have HV2 : Hid (TrV wa2 Lgot R (.slice ygot R.nms.length cgot) fgot ∧ fgot.Nodup) := by rw [← hLgot]; exact ⟨hV2, hn2⟩
    replace Ha : Hid (ND wa2 K0 H0 Ga T ya ca fa) := Ha.out.on b2
    replace Hb : Hid (ND wa2 K0 H0 Gb U yb cb fb) := Hb.out.on b2
    replace Hput : Hid (ND wa2 Lput Gput Gput P yput cput fput) := Hput.out.on b2
    replace HB : Hid (Below w1.heap.size w1 wa2) := HB.out.trans ((b2).mono HB.out.size)
    replace HW : Hid (Gput + 1 ≤ wa2.heap.size) := Nat.le_trans HW.out (b2).size
    clear b2 hV2 hn2 hLgot
    go_upto_region 6 with fail
    have b2 : Below wa2.heap.size wa2 (wa2.alloc (Obj.cells #[Value.int IntKind.i64 R.k, Value.bool R.e, Value.string R.t, Value.slice ygot R.nms.length cgot] 25)) := (Below.refl _ _).alloc (Nat.le_refl _) _
    have s2 : wa2.heap.size < (wa2.alloc (Obj.cells #[Value.int IntKind.i64 R.k, Value.bool R.e, Value.string R.t, Value.slice ygot R.nms.length cgot] 25)).heap.size := by rw [World.size_alloc]; omega
    have Hgot : Hid (ND (wa2.alloc (Obj.cells #[Value.int IntKind.i64 R.k, Value.bool R.e, Value.string R.t, Value.slice ygot R.nms.length cgot] 25)) Lgot wa2.heap.size wa2.heap.size R ygot cgot fgot) := ND.new HV2.out.1 HV2.out.2
    replace Ha : Hid (ND (wa2.alloc (Obj.cells #[Value.int IntKind.i64 R.k, Value.bool R.e, Value.string R.t, Value.slice ygot R.nms.length cgot] 25)) K0 H0 Ga T ya ca fa) := Ha.out.on b2
    replace Hb : Hid (ND (wa2.alloc (Obj.cells #[Value.int IntKind.i64 R.k, Value.bool R.e, Value.string R.t, Value.slice ygot R.nms.length cgot] 25)) K0 H0 Gb U yb cb fb) := Hb.out.on b2
    replace Hput : Hid (ND (wa2.alloc (Obj.cells #[Value.int IntKind.i64 R.k, Value.bool R.e, Value.string R.t, Value.slice ygot R.nms.length cgot] 25)) Lput Gput Gput P yput cput fput) := Hput.out.on b2
    replace HB : Hid (Below w1.heap.size w1 (wa2.alloc (Obj.cells #[Value.int IntKind.i64 R.k, Value.bool R.e, Value.string R.t, Value.slice ygot R.nms.length cgot] 25))) := HB.out.trans ((b2).mono HB.out.size)
    replace HW : Hid (Gput + 1 ≤ (wa2.alloc (Obj.cells #[Value.int IntKind.i64 R.k, Value.bool R.e, Value.string R.t, Value.slice ygot R.nms.length cgot] 25)).heap.size) := Nat.le_trans HW.out (b2).size
    obtain ⟨Ggot, hGgot⟩ : ∃ G, wa2.heap.size = G := ⟨_, rfl⟩
    replace HW : Hid (Ggot + 1 ≤ (wa2.alloc (Obj.cells #[Value.int IntKind.i64 R.k, Value.bool R.e, Value.string R.t, Value.slice ygot R.nms.length cgot] 25)).heap.size) := by rw [← hGgot]; exact s2
    rw [hGgot] at Hgot HLgot ⊢
    clear b2 s2 HV2 hGgot
    generalize wa2.alloc (Obj.cells #[Value.int IntKind.i64 R.k, Value.bool R.e, Value.string R.t, Value.slice ygot R.nms.length cgot] 25) = wb2 at *
    obtain ⟨aa0, aa1, aa2, aa3, _⟩ := cell4 Ha.out.1
    obtain ⟨ea, hAa⟩ := Ha.out.at (lnB_ln (by decide) _ HH.out.2.2.2.2.2.2.1)
    have HAa : Hid (At wb2 ea (.agg #[.int .i64 T.k, .bool T.e, .string T.t, .slice ya T.nms.length ca]) T) := hAa
    clear hAa
    go_wp2_with fail
    have C3 := get_any ea _ _ _ _ _ _ T p wb2 hp HAa.out HH.out.2.1
    rw [HR.out.1] at C3
    refine C3.mono ?_
    clear C3
    rintro en wa3 hN3
    obtain ⟨yaga, caga, faga, rfl, hV3, hn3, b3⟩ := hN3.out2
    clear hN3
    clear aa0 aa1 aa2 aa3 HAa
    obtain ⟨Laga, hLaga⟩ : ∃ L, wb2.heap.size = L := ⟨_, rfl⟩
    have HLaga : Hid (Ggot + 1 ≤ Laga ∧ Laga ≤ wa3.heap.size) := by rw [← hLaga]; exact ⟨HW.out, b3.size⟩
    have HV3 : Hid (TrV wa3 Laga R (.slice yaga R.nms.length caga) faga ∧ faga.Nodup) := by rw [← hLaga]; exact ⟨hV3, hn3⟩
    replace Ha : Hid (ND wa3 K0 H0 Ga T ya ca fa) := Ha.out.on b3
    replace Hb : Hid (ND wa3 K0 H0 Gb U yb cb fb) := Hb.out.on b3
    replace Hput : Hid (ND wa3 Lput Gput Gput P yput cput fput) := Hput.out.on b3
    replace Hgot : Hid (ND wa3 Lgot Ggot Ggot R ygot cgot fgot) := Hgot.out.on b3
    replace HB : Hid (Below w1.heap.size w1 wa3) := HB.out.trans ((b3).mono HB.out.size)
    replace HW : Hid (Ggot + 1 ≤ wa3.heap.size) := Nat.le_trans HW.out (b3).size
    clear b3 hV3 hn3 hLaga
    go_upto_region 7 with fail
    have b3 : Below wa3.heap.size wa3 (wa3.alloc (Obj.cells #[Value.int IntKind.i64 R.k, Value.bool R.e, Value.string R.t, Value.slice yaga R.nms.length caga] 25)) := (Below.refl _ _).alloc (Nat.le_refl _) _
    have s3 : wa3.heap.size < (wa3.alloc (Obj.cells #[Value.int IntKind.i64 R.k, Value.bool R.e, Value.string R.t, Value.slice yaga R.nms.length caga] 25)).heap.size := by rw [World.size_alloc]; omega
    have Haga : Hid (ND (wa3.alloc (Obj.cells #[Value.int IntKind.i64 R.k, Value.bool R.e, Value.string R.t, Value.slice yaga R.nms.length caga] 25)) Laga wa3.heap.size wa3.heap.size R yaga caga faga) := ND.new HV3.out.1 HV3.out.2
    replace Ha : Hid (ND (wa3.alloc (Obj.cells #[Value.int IntKind.i64 R.k, Value.bool R.e, Value.string R.t, Value.slice yaga R.nms.length caga] 25)) K0 H0 Ga T ya ca fa) := Ha.out.on b3
    replace Hb : Hid (ND (wa3.alloc (Obj.cells #[Value.int IntKind.i64 R.k, Value.bool R.e, Value.string R.t, Value.slice yaga R.nms.length caga] 25)) K0 H0 Gb U yb cb fb) := Hb.out.on b3
    replace Hput : Hid (ND (wa3.alloc (Obj.cells #[Value.int IntKind.i64 R.k, Value.bool R.e, Value.string R.t, Value.slice yaga R.nms.length caga] 25)) Lput Gput Gput P yput cput fput) := Hput.out.on b3
    replace Hgot : Hid (ND (wa3.alloc (Obj.cells #[Value.int IntKind.i64 R.k, Value.bool R.e, Value.string R.t, Value.slice yaga R.nms.length caga] 25)) Lgot Ggot Ggot R ygot cgot fgot) := Hgot.out.on b3
    replace HB : Hid (Below w1.heap.size w1 (wa3.alloc (Obj.cells #[Value.int IntKind.i64 R.k, Value.bool R.e, Value.string R.t, Value.slice yaga R.nms.length caga] 25))) := HB.out.trans ((b3).mono HB.out.size)
    replace HW : Hid (Ggot + 1 ≤ (wa3.alloc (Obj.cells #[Value.int IntKind.i64 R.k, Value.bool R.e, Value.string R.t, Value.slice yaga R.nms.length caga] 25)).heap.size) := Nat.le_trans HW.out (b3).size
    obtain ⟨Gaga, hGaga⟩ : ∃ G, wa3.heap.size = G := ⟨_, rfl⟩
    replace HW : Hid (Gaga + 1 ≤ (wa3.alloc (Obj.cells #[Value.int IntKind.i64 R.k, Value.bool R.e, Value.string R.t, Value.slice yaga R.nms.length caga] 25)).heap.size) := by rw [← hGaga]; exact s3
    rw [hGaga] at Haga HLaga ⊢
    clear b3 s3 HV3 hGaga
    generalize wa3.alloc (Obj.cells #[Value.int IntKind.i64 R.k, Value.bool R.e, Value.string R.t, Value.slice yaga R.nms.length caga] 25) = wb3 at *
    obtain ⟨aa0, aa1, aa2, aa3, _⟩ := cell4 Ha.out.1
    obtain ⟨ea, hAa⟩ := Ha.out.at (lnB_ln (by decide) _ HH.out.2.2.2.2.2.2.1)
    have HAa : Hid (At wb3 ea (.agg #[.int .i64 T.k, .bool T.e, .string T.t, .slice ya T.nms.length ca]) T) := hAa
    clear hAa
    go_wp2_with fail
    have C4 := cut_any ea _ _ _ _ _ _ T p wb3 hp HAa.out HH.out.2.1
    rw [HQ.out.1] at C4
    refine C4.mono ?_
    clear C4
    rintro en wa4 hN4
    obtain ⟨ycut, ccut, fcut, rfl, hV4, hn4, b4⟩ := hN4.out2
    clear hN4
    clear aa0 aa1 aa2 aa3 HAa
    obtain ⟨Lcut, hLcut⟩ : ∃ L, wb3.heap.size = L := ⟨_, rfl⟩
    have HLcut : Hid (Gaga + 1 ≤ Lcut ∧ Lcut ≤ wa4.heap.size) := by rw [← hLcut]; exact ⟨HW.out, b4.size⟩
    have HV4 : Hid (TrV wa4 Lcut Q (.slice ycut Q.nms.length ccut) fcut ∧ fcut.Nodup) := by rw [← hLcut]; exact ⟨hV4, hn4⟩
    replace Ha : Hid (ND wa4 K0 H0 Ga T ya ca fa) := Ha.out.on b4
    replace Hb : Hid (ND wa4 K0 H0 Gb U yb cb fb) := Hb.out.on b4
    replace Hput : Hid (ND wa4 Lput Gput Gput P yput cput fput) := Hput.out.on b4
    replace Hgot : Hid (ND wa4 Lgot Ggot Ggot R ygot cgot fgot) := Hgot.out.on b4
    replace Haga : Hid (ND wa4 Laga Gaga Gaga R yaga caga faga) := Haga.out.on b4
    replace HB : Hid (Below w1.heap.size w1 wa4) := HB.out.trans ((b4).mono HB.out.size)
    replace HW : Hid (Gaga + 1 ≤ wa4.heap.size) := Nat.le_trans HW.out (b4).size
    clear b4 hV4 hn4 hLcut
    go_upto_region 8 with fail
    have b4 : Below wa4.heap.size wa4 (wa4.alloc (Obj.cells #[Value.int IntKind.i64 Q.k, Value.bool Q.e, Value.string Q.t, Value.slice ycut Q.nms.length ccut] 25)) := (Below.refl _ _).alloc (Nat.le_refl _) _
    have s4 : wa4.heap.size < (wa4.alloc (Obj.cells #[Value.int IntKind.i64 Q.k, Value.bool Q.e, Value.string Q.t, Value.slice ycut Q.nms.length ccut] 25)).heap.size := by rw [World.size_alloc]; omega
    have Hcut : Hid (ND (wa4.alloc (Obj.cells #[Value.int IntKind.i64 Q.k, Value.bool Q.e, Value.string Q.t, Value.slice ycut Q.nms.length ccut] 25)) Lcut wa4.heap.size wa4.heap.size Q ycut ccut fcut) := ND.new HV4.out.1 HV4.out.2
    replace Ha : Hid (ND (wa4.alloc (Obj.cells #[Value.int IntKind.i64 Q.k, Value.bool Q.e, Value.string Q.t, Value.slice ycut Q.nms.length ccut] 25)) K0 H0 Ga T ya ca fa) := Ha.out.on b4
    replace Hb : Hid (ND (wa4.alloc (Obj.cells #[Value.int IntKind.i64 Q.k, Value.bool Q.e, Value.string Q.t, Value.slice ycut Q.nms.length ccut] 25)) K0 H0 Gb U yb cb fb) := Hb.out.on b4
    replace Hput : Hid (ND (wa4.alloc (Obj.cells #[Value.int IntKind.i64 Q.k, Value.bool Q.e, Value.string Q.t, Value.slice ycut Q.nms.length ccut] 25)) Lput Gput Gput P yput cput fput) := Hput.out.on b4
    replace Hgot : Hid (ND (wa4.alloc (Obj.cells #[Value.int IntKind.i64 Q.k, Value.bool Q.e, Value.string Q.t, Value.slice ycut Q.nms.length ccut] 25)) Lgot Ggot Ggot R ygot cgot fgot) := Hgot.out.on b4
    replace Haga : Hid (ND (wa4.alloc (Obj.cells #[Value.int IntKind.i64 Q.k, Value.bool Q.e, Value.string Q.t, Value.slice ycut Q.nms.length ccut] 25)) Laga Gaga Gaga R yaga caga faga) := Haga.out.on b4
    replace HB : Hid (Below w1.heap.size w1 (wa4.alloc (Obj.cells #[Value.int IntKind.i64 Q.k, Value.bool Q.e, Value.string Q.t, Value.slice ycut Q.nms.length ccut] 25))) := HB.out.trans ((b4).mono HB.out.size)
    replace HW : Hid (Gaga + 1 ≤ (wa4.alloc (Obj.cells #[Value.int IntKind.i64 Q.k, Value.bool Q.e, Value.string Q.t, Value.slice ycut Q.nms.length ccut] 25)).heap.size) := Nat.le_trans HW.out (b4).size
    obtain ⟨Gcut, hGcut⟩ : ∃ G, wa4.heap.size = G := ⟨_, rfl⟩
    replace HW : Hid (Gcut + 1 ≤ (wa4.alloc (Obj.cells #[Value.int IntKind.i64 Q.k, Value.bool Q.e, Value.string Q.t, Value.slice ycut Q.nms.length ccut] 25)).heap.size) := by rw [← hGcut]; exact s4
    rw [hGcut] at Hcut HLcut ⊢
    clear b4 s4 HV4 hGcut
    generalize wa4.alloc (Obj.cells #[Value.int IntKind.i64 Q.k, Value.bool Q.e, Value.string Q.t, Value.slice ycut Q.nms.length ccut] 25) = wb4 at *
    obtain ⟨aa0, aa1, aa2, aa3, _⟩ := cell4 Ha.out.1
    obtain ⟨ea, hAa⟩ := Ha.out.at (lnB_ln (by decide) _ HH.out.2.2.2.2.2.2.1)
    have HAa : Hid (At wb4 ea (.agg #[.int .i64 T.k, .bool T.e, .string T.t, .slice ya T.nms.length ca]) T) := hAa
    clear hAa
    go_wp2_with fail
    have C5 := copyV_any ea _ T wb4 HAa.out
    refine C5.mono ?_
    clear C5
    rintro en wa5 hN5
    obtain ⟨ysam, csam, fsam, rfl, hV5, hn5, b5⟩ := hN5.out2
    clear hN5
    clear aa0 aa1 aa2 aa3 HAa
    obtain ⟨Lsam, hLsam⟩ : ∃ L, wb4.heap.size = L := ⟨_, rfl⟩
    have HLsam : Hid (Gcut + 1 ≤ Lsam ∧ Lsam ≤ wa5.heap.size) := by rw [← hLsam]; exact ⟨HW.out, b5.size⟩
    have HV5 : Hid (TrV wa5 Lsam T (.slice ysam T.nms.length csam) fsam ∧ fsam.Nodup) := by rw [← hLsam]; exact ⟨hV5, hn5⟩
    replace Ha : Hid (ND wa5 K0 H0 Ga T ya ca fa) := Ha.out.on b5
    replace Hb : Hid (ND wa5 K0 H0 Gb U yb cb fb) := Hb.out.on b5
    replace Hput : Hid (ND wa5 Lput Gput Gput P yput cput fput) := Hput.out.on b5
    replace Hgot : Hid (ND wa5 Lgot Ggot Ggot R ygot cgot fgot) := Hgot.out.on b5
    replace Haga : Hid (ND wa5 Laga Gaga Gaga R yaga caga faga) := Haga.out.on b5
    replace Hcut : Hid (ND wa5 Lcut Gcut Gcut Q ycut ccut fcut) := Hcut.out.on b5
    replace HB : Hid (Below w1.heap.size w1 wa5) := HB.out.trans ((b5).mono HB.out.size)
    replace HW : Hid (Gcut + 1 ≤ wa5.heap.size) := Nat.le_trans HW.out (b5).size
    clear b5 hV5 hn5 hLsam
    go_upto_region 9 with fail
    have b5 : Below wa5.heap.size wa5 (wa5.alloc (Obj.cells #[Value.int IntKind.i64 T.k, Value.bool T.e, Value.string T.t, Value.slice ysam T.nms.length csam] 25)) := (Below.refl _ _).alloc (Nat.le_refl _) _
    have s5 : wa5.heap.size < (wa5.alloc (Obj.cells #[Value.int IntKind.i64 T.k, Value.bool T.e, Value.string T.t, Value.slice ysam T.nms.length csam] 25)).heap.size := by rw [World.size_alloc]; omega
    have Hsam : Hid (ND (wa5.alloc (Obj.cells #[Value.int IntKind.i64 T.k, Value.bool T.e, Value.string T.t, Value.slice ysam T.nms.length csam] 25)) Lsam wa5.heap.size wa5.heap.size T ysam csam fsam) := ND.new HV5.out.1 HV5.out.2
    replace Ha : Hid (ND (wa5.alloc (Obj.cells #[Value.int IntKind.i64 T.k, Value.bool T.e, Value.string T.t, Value.slice ysam T.nms.length csam] 25)) K0 H0 Ga T ya ca fa) := Ha.out.on b5
    replace Hb : Hid (ND (wa5.alloc (Obj.cells #[Value.int IntKind.i64 T.k, Value.bool T.e, Value.string T.t, Value.slice ysam T.nms.length csam] 25)) K0 H0 Gb U yb cb fb) := Hb.out.on b5
    replace Hput : Hid (ND (wa5.alloc (Obj.cells #[Value.int IntKind.i64 T.k, Value.bool T.e, Value.string T.t, Value.slice ysam T.nms.length csam] 25)) Lput Gput Gput P yput cput fput) := Hput.out.on b5
    replace Hgot : Hid (ND (wa5.alloc (Obj.cells #[Value.int IntKind.i64 T.k, Value.bool T.e, Value.string T.t, Value.slice ysam T.nms.length csam] 25)) Lgot Ggot Ggot R ygot cgot fgot) := Hgot.out.on b5
    replace Haga : Hid (ND (wa5.alloc (Obj.cells #[Value.int IntKind.i64 T.k, Value.bool T.e, Value.string T.t, Value.slice ysam T.nms.length csam] 25)) Laga Gaga Gaga R yaga caga faga) := Haga.out.on b5
    replace Hcut : Hid (ND (wa5.alloc (Obj.cells #[Value.int IntKind.i64 T.k, Value.bool T.e, Value.string T.t, Value.slice ysam T.nms.length csam] 25)) Lcut Gcut Gcut Q ycut ccut fcut) := Hcut.out.on b5
    replace HB : Hid (Below w1.heap.size w1 (wa5.alloc (Obj.cells #[Value.int IntKind.i64 T.k, Value.bool T.e, Value.string T.t, Value.slice ysam T.nms.length csam] 25))) := HB.out.trans ((b5).mono HB.out.size)
    replace HW : Hid (Gcut + 1 ≤ (wa5.alloc (Obj.cells #[Value.int IntKind.i64 T.k, Value.bool T.e, Value.string T.t, Value.slice ysam T.nms.length csam] 25)).heap.size) := Nat.le_trans HW.out (b5).size
    obtain ⟨Gsam, hGsam⟩ : ∃ G, wa5.heap.size = G := ⟨_, rfl⟩
    replace HW : Hid (Gsam + 1 ≤ (wa5.alloc (Obj.cells #[Value.int IntKind.i64 T.k, Value.bool T.e, Value.string T.t, Value.slice ysam T.nms.length csam] 25)).heap.size) := by rw [← hGsam]; exact s5
    rw [hGsam] at Hsam HLsam ⊢
    clear b5 s5 HV5 hGsam
    generalize wa5.alloc (Obj.cells #[Value.int IntKind.i64 T.k, Value.bool T.e, Value.string T.t, Value.slice ysam T.nms.length csam] 25) = wb5 at *
    obtain ⟨aa0, aa1, aa2, aa3, _⟩ := cell4 Ha.out.1
    obtain ⟨ea, hAa⟩ := Ha.out.at (lnB_ln (by decide) _ HH.out.2.2.2.2.2.2.1)
    have HAa : Hid (At wb5 ea (.agg #[.int .i64 T.k, .bool T.e, .string T.t, .slice ya T.nms.length ca]) T) := hAa
    clear hAa
    obtain ⟨aN0, aN1, aN2, aN3, aS0, aS1, aS2, aS3⟩ := HS.out wb5 HB.out
    have HAN : Hid (At wb5 f (.agg #[Value.int IntKind.i64 k, Value.bool e, Value.string t, Value.slice z n cz]) T) := HH.out.1.below (HB0.out.trans (HB.out.mono HB0.out.size))
    have HAS : Hid (At wb5 fu (.agg #[Value.int IntKind.i64 ku, Value.bool eu, Value.string tu, Value.slice zu nu czu]) U) := HH.out.2.2.2.1.below (HB0.out.trans (HB.out.mono HB0.out.size))
    go_wp2_with fail
    refine (requal_any (ea + f) _ _ _ _ wb5 (HAa.out.upto (by omega)) (HAN.out.upto (by omega))).mono ?_
    rintro en we6 ⟨⟨r6, rfl, hr6⟩, b6⟩
    obtain rfl : r6 = true := hr6.2 rfl
    clear hr6
    clear aa0 aa1 aa2 aa3 HAa aN0 aN1 aN2 aN3 aS0 aS1 aS2 aS3 HAN HAS
    replace Ha : Hid (ND we6 K0 H0 Ga T ya ca fa) := Ha.out.on b6
    replace Hb : Hid (ND we6 K0 H0 Gb U yb cb fb) := Hb.out.on b6
    replace Hput : Hid (ND we6 Lput Gput Gput P yput cput fput) := Hput.out.on b6
    replace Hgot : Hid (ND we6 Lgot Ggot Ggot R ygot cgot fgot) := Hgot.out.on b6
    replace Haga : Hid (ND we6 Laga Gaga Gaga R yaga caga faga) := Haga.out.on b6
    replace Hcut : Hid (ND we6 Lcut Gcut Gcut Q ycut ccut fcut) := Hcut.out.on b6
    replace Hsam : Hid (ND we6 Lsam Gsam Gsam T ysam csam fsam) := Hsam.out.on b6
    replace HB : Hid (Below w1.heap.size w1 we6) := HB.out.trans ((b6).mono HB.out.size)
    replace HW : Hid (Gsam + 1 ≤ we6.heap.size) := Nat.le_trans HW.out (b6).size
    clear b6
    obtain ⟨ab0, ab1, ab2, ab3, _⟩ := cell4 Hb.out.1
    obtain ⟨eb, hAb⟩ := Hb.out.at (lnB_ln (by decide) _ HH.out.2.2.2.2.2.2.2)
    have HAb : Hid (At we6 eb (.agg #[.int .i64 U.k, .bool U.e, .string U.t, .slice yb U.nms.length cb]) U) := hAb
    clear hAb
    obtain ⟨aN0, aN1, aN2, aN3, aS0, aS1, aS2, aS3⟩ := HS.out we6 HB.out
    have HAN : Hid (At we6 f (.agg #[Value.int IntKind.i64 k, Value.bool e, Value.string t, Value.slice z n cz]) T) := HH.out.1.below (HB0.out.trans (HB.out.mono HB0.out.size))
    have HAS : Hid (At we6 fu (.agg #[Value.int IntKind.i64 ku, Value.bool eu, Value.string tu, Value.slice zu nu czu]) U) := HH.out.2.2.2.1.below (HB0.out.trans (HB.out.mono HB0.out.size))
    go_wp2_with fail
    refine (requal_any (eb + fu) _ _ _ _ we6 (HAb.out.upto (by omega)) (HAS.out.upto (by omega))).mono ?_
    rintro en we7 ⟨⟨r7, rfl, hr7⟩, b7⟩
    obtain rfl : r7 = true := hr7.2 rfl
    clear hr7
    clear ab0 ab1 ab2 ab3 HAb aN0 aN1 aN2 aN3 aS0 aS1 aS2 aS3 HAN HAS
    replace Ha : Hid (ND we7 K0 H0 Ga T ya ca fa) := Ha.out.on b7
    replace Hb : Hid (ND we7 K0 H0 Gb U yb cb fb) := Hb.out.on b7
    replace Hput : Hid (ND we7 Lput Gput Gput P yput cput fput) := Hput.out.on b7
    replace Hgot : Hid (ND we7 Lgot Ggot Ggot R ygot cgot fgot) := Hgot.out.on b7
    replace Haga : Hid (ND we7 Laga Gaga Gaga R yaga caga faga) := Haga.out.on b7
    replace Hcut : Hid (ND we7 Lcut Gcut Gcut Q ycut ccut fcut) := Hcut.out.on b7
    replace Hsam : Hid (ND we7 Lsam Gsam Gsam T ysam csam fsam) := Hsam.out.on b7
    replace HB : Hid (Below w1.heap.size w1 we7) := HB.out.trans ((b7).mono HB.out.size)
    replace HW : Hid (Gsam + 1 ≤ we7.heap.size) := Nat.le_trans HW.out (b7).size
    clear b7
    obtain ⟨aput0, aput1, aput2, aput3, _⟩ := cell4 Hput.out.1
    obtain ⟨eput, hAput⟩ := Hput.out.at (lnB_ln (by decide) _ HP.out.2.1)
    have HAput : Hid (At we7 eput (.agg #[.int .i64 P.k, .bool P.e, .string P.t, .slice yput P.nms.length cput]) P) := hAput
    clear hAput
    go_wp2_with fail
    have C8 := clone_any eput _ P we7 HAput.out (lnB_ln (by decide) _ HP.out.2.1)
    refine C8.mono ?_
    clear C8
    rintro en wa8 hN8
    obtain ⟨ywan, cwan, fwan, rfl, hV8, hn8, b8⟩ := hN8.out2
    clear hN8
    clear aput0 aput1 aput2 aput3 HAput
    obtain ⟨Lwan, hLwan⟩ : ∃ L, we7.heap.size = L := ⟨_, rfl⟩
    have HLwan : Hid (Gsam + 1 ≤ Lwan ∧ Lwan ≤ wa8.heap.size) := by rw [← hLwan]; exact ⟨HW.out, b8.size⟩
    have HV8 : Hid (TrV wa8 Lwan P (.slice ywan P.nms.length cwan) fwan ∧ fwan.Nodup) := by rw [← hLwan]; exact ⟨hV8, hn8⟩
    replace Ha : Hid (ND wa8 K0 H0 Ga T ya ca fa) := Ha.out.on b8
    replace Hb : Hid (ND wa8 K0 H0 Gb U yb cb fb) := Hb.out.on b8
    replace Hput : Hid (ND wa8 Lput Gput Gput P yput cput fput) := Hput.out.on b8
    replace Hgot : Hid (ND wa8 Lgot Ggot Ggot R ygot cgot fgot) := Hgot.out.on b8
    replace Haga : Hid (ND wa8 Laga Gaga Gaga R yaga caga faga) := Haga.out.on b8
    replace Hcut : Hid (ND wa8 Lcut Gcut Gcut Q ycut ccut fcut) := Hcut.out.on b8
    replace Hsam : Hid (ND wa8 Lsam Gsam Gsam T ysam csam fsam) := Hsam.out.on b8
    replace HB : Hid (Below w1.heap.size w1 wa8) := HB.out.trans ((b8).mono HB.out.size)
    replace HW : Hid (Gsam + 1 ≤ wa8.heap.size) := Nat.le_trans HW.out (b8).size
    clear b8 hV8 hn8 hLwan
    go_upto_region 12 with fail
    have b8 : Below wa8.heap.size wa8 (wa8.alloc (Obj.cells #[Value.int IntKind.i64 P.k, Value.bool P.e, Value.string P.t, Value.slice ywan P.nms.length cwan] 25)) := (Below.refl _ _).alloc (Nat.le_refl _) _
    have s8 : wa8.heap.size < (wa8.alloc (Obj.cells #[Value.int IntKind.i64 P.k, Value.bool P.e, Value.string P.t, Value.slice ywan P.nms.length cwan] 25)).heap.size := by rw [World.size_alloc]; omega
    have Hwan : Hid (ND (wa8.alloc (Obj.cells #[Value.int IntKind.i64 P.k, Value.bool P.e, Value.string P.t, Value.slice ywan P.nms.length cwan] 25)) Lwan wa8.heap.size wa8.heap.size P ywan cwan fwan) := ND.new HV8.out.1 HV8.out.2
    replace Ha : Hid (ND (wa8.alloc (Obj.cells #[Value.int IntKind.i64 P.k, Value.bool P.e, Value.string P.t, Value.slice ywan P.nms.length cwan] 25)) K0 H0 Ga T ya ca fa) := Ha.out.on b8
    replace Hb : Hid (ND (wa8.alloc (Obj.cells #[Value.int IntKind.i64 P.k, Value.bool P.e, Value.string P.t, Value.slice ywan P.nms.length cwan] 25)) K0 H0 Gb U yb cb fb) := Hb.out.on b8
    replace Hput : Hid (ND (wa8.alloc (Obj.cells #[Value.int IntKind.i64 P.k, Value.bool P.e, Value.string P.t, Value.slice ywan P.nms.length cwan] 25)) Lput Gput Gput P yput cput fput) := Hput.out.on b8
    replace Hgot : Hid (ND (wa8.alloc (Obj.cells #[Value.int IntKind.i64 P.k, Value.bool P.e, Value.string P.t, Value.slice ywan P.nms.length cwan] 25)) Lgot Ggot Ggot R ygot cgot fgot) := Hgot.out.on b8
    replace Haga : Hid (ND (wa8.alloc (Obj.cells #[Value.int IntKind.i64 P.k, Value.bool P.e, Value.string P.t, Value.slice ywan P.nms.length cwan] 25)) Laga Gaga Gaga R yaga caga faga) := Haga.out.on b8
    replace Hcut : Hid (ND (wa8.alloc (Obj.cells #[Value.int IntKind.i64 P.k, Value.bool P.e, Value.string P.t, Value.slice ywan P.nms.length cwan] 25)) Lcut Gcut Gcut Q ycut ccut fcut) := Hcut.out.on b8
    replace Hsam : Hid (ND (wa8.alloc (Obj.cells #[Value.int IntKind.i64 P.k, Value.bool P.e, Value.string P.t, Value.slice ywan P.nms.length cwan] 25)) Lsam Gsam Gsam T ysam csam fsam) := Hsam.out.on b8
    replace HB : Hid (Below w1.heap.size w1 (wa8.alloc (Obj.cells #[Value.int IntKind.i64 P.k, Value.bool P.e, Value.string P.t, Value.slice ywan P.nms.length cwan] 25))) := HB.out.trans ((b8).mono HB.out.size)
    replace HW : Hid (Gsam + 1 ≤ (wa8.alloc (Obj.cells #[Value.int IntKind.i64 P.k, Value.bool P.e, Value.string P.t, Value.slice ywan P.nms.length cwan] 25)).heap.size) := Nat.le_trans HW.out (b8).size
    obtain ⟨Gwan, hGwan⟩ : ∃ G, wa8.heap.size = G := ⟨_, rfl⟩
    replace HW : Hid (Gwan + 1 ≤ (wa8.alloc (Obj.cells #[Value.int IntKind.i64 P.k, Value.bool P.e, Value.string P.t, Value.slice ywan P.nms.length cwan] 25)).heap.size) := by rw [← hGwan]; exact s8
    rw [hGwan] at Hwan HLwan ⊢
    clear b8 s8 HV8 hGwan
    generalize wa8.alloc (Obj.cells #[Value.int IntKind.i64 P.k, Value.bool P.e, Value.string P.t, Value.slice ywan P.nms.length cwan] 25) = wb8 at *
    obtain ⟨acut0, acut1, acut2, acut3, _⟩ := cell4 Hcut.out.1
    obtain ⟨ecut, hAcut⟩ := Hcut.out.at (lnB_ln (by decide) _ HQ.out.2.1)
    have HAcut : Hid (At wb8 ecut (.agg #[.int .i64 Q.k, .bool Q.e, .string Q.t, .slice ycut Q.nms.length ccut]) Q) := hAcut
    clear hAcut
    go_wp2_with fail
    have C9 := clone_any ecut _ Q wb8 HAcut.out (lnB_ln (by decide) _ HQ.out.2.1)
    refine C9.mono ?_
    clear C9
    rintro en wa9 hN9
    obtain ⟨yles, cles, fles, rfl, hV9, hn9, b9⟩ := hN9.out2
    clear hN9
    clear acut0 acut1 acut2 acut3 HAcut
    obtain ⟨Lles, hLles⟩ : ∃ L, wb8.heap.size = L := ⟨_, rfl⟩
    have HLles : Hid (Gwan + 1 ≤ Lles ∧ Lles ≤ wa9.heap.size) := by rw [← hLles]; exact ⟨HW.out, b9.size⟩
    have HV9 : Hid (TrV wa9 Lles Q (.slice yles Q.nms.length cles) fles ∧ fles.Nodup) := by rw [← hLles]; exact ⟨hV9, hn9⟩
    replace Ha : Hid (ND wa9 K0 H0 Ga T ya ca fa) := Ha.out.on b9
    replace Hb : Hid (ND wa9 K0 H0 Gb U yb cb fb) := Hb.out.on b9
    replace Hput : Hid (ND wa9 Lput Gput Gput P yput cput fput) := Hput.out.on b9
    replace Hgot : Hid (ND wa9 Lgot Ggot Ggot R ygot cgot fgot) := Hgot.out.on b9
    replace Haga : Hid (ND wa9 Laga Gaga Gaga R yaga caga faga) := Haga.out.on b9
    replace Hcut : Hid (ND wa9 Lcut Gcut Gcut Q ycut ccut fcut) := Hcut.out.on b9
    replace Hsam : Hid (ND wa9 Lsam Gsam Gsam T ysam csam fsam) := Hsam.out.on b9
    replace Hwan : Hid (ND wa9 Lwan Gwan Gwan P ywan cwan fwan) := Hwan.out.on b9
    replace HB : Hid (Below w1.heap.size w1 wa9) := HB.out.trans ((b9).mono HB.out.size)
    replace HW : Hid (Gwan + 1 ≤ wa9.heap.size) := Nat.le_trans HW.out (b9).size
    clear b9 hV9 hn9 hLles
    go_upto_region 13 with fail
    have b9 : Below wa9.heap.size wa9 (wa9.alloc (Obj.cells #[Value.int IntKind.i64 Q.k, Value.bool Q.e, Value.string Q.t, Value.slice yles Q.nms.length cles] 25)) := (Below.refl _ _).alloc (Nat.le_refl _) _
    have s9 : wa9.heap.size < (wa9.alloc (Obj.cells #[Value.int IntKind.i64 Q.k, Value.bool Q.e, Value.string Q.t, Value.slice yles Q.nms.length cles] 25)).heap.size := by rw [World.size_alloc]; omega
    have Hles : Hid (ND (wa9.alloc (Obj.cells #[Value.int IntKind.i64 Q.k, Value.bool Q.e, Value.string Q.t, Value.slice yles Q.nms.length cles] 25)) Lles wa9.heap.size wa9.heap.size Q yles cles fles) := ND.new HV9.out.1 HV9.out.2
    replace Ha : Hid (ND (wa9.alloc (Obj.cells #[Value.int IntKind.i64 Q.k, Value.bool Q.e, Value.string Q.t, Value.slice yles Q.nms.length cles] 25)) K0 H0 Ga T ya ca fa) := Ha.out.on b9
    replace Hb : Hid (ND (wa9.alloc (Obj.cells #[Value.int IntKind.i64 Q.k, Value.bool Q.e, Value.string Q.t, Value.slice yles Q.nms.length cles] 25)) K0 H0 Gb U yb cb fb) := Hb.out.on b9
    replace Hput : Hid (ND (wa9.alloc (Obj.cells #[Value.int IntKind.i64 Q.k, Value.bool Q.e, Value.string Q.t, Value.slice yles Q.nms.length cles] 25)) Lput Gput Gput P yput cput fput) := Hput.out.on b9
    replace Hgot : Hid (ND (wa9.alloc (Obj.cells #[Value.int IntKind.i64 Q.k, Value.bool Q.e, Value.string Q.t, Value.slice yles Q.nms.length cles] 25)) Lgot Ggot Ggot R ygot cgot fgot) := Hgot.out.on b9
    replace Haga : Hid (ND (wa9.alloc (Obj.cells #[Value.int IntKind.i64 Q.k, Value.bool Q.e, Value.string Q.t, Value.slice yles Q.nms.length cles] 25)) Laga Gaga Gaga R yaga caga faga) := Haga.out.on b9
    replace Hcut : Hid (ND (wa9.alloc (Obj.cells #[Value.int IntKind.i64 Q.k, Value.bool Q.e, Value.string Q.t, Value.slice yles Q.nms.length cles] 25)) Lcut Gcut Gcut Q ycut ccut fcut) := Hcut.out.on b9
    replace Hsam : Hid (ND (wa9.alloc (Obj.cells #[Value.int IntKind.i64 Q.k, Value.bool Q.e, Value.string Q.t, Value.slice yles Q.nms.length cles] 25)) Lsam Gsam Gsam T ysam csam fsam) := Hsam.out.on b9
    replace Hwan : Hid (ND (wa9.alloc (Obj.cells #[Value.int IntKind.i64 Q.k, Value.bool Q.e, Value.string Q.t, Value.slice yles Q.nms.length cles] 25)) Lwan Gwan Gwan P ywan cwan fwan) := Hwan.out.on b9
    replace HB : Hid (Below w1.heap.size w1 (wa9.alloc (Obj.cells #[Value.int IntKind.i64 Q.k, Value.bool Q.e, Value.string Q.t, Value.slice yles Q.nms.length cles] 25))) := HB.out.trans ((b9).mono HB.out.size)
    replace HW : Hid (Gwan + 1 ≤ (wa9.alloc (Obj.cells #[Value.int IntKind.i64 Q.k, Value.bool Q.e, Value.string Q.t, Value.slice yles Q.nms.length cles] 25)).heap.size) := Nat.le_trans HW.out (b9).size
    obtain ⟨Gles, hGles⟩ : ∃ G, wa9.heap.size = G := ⟨_, rfl⟩
    replace HW : Hid (Gles + 1 ≤ (wa9.alloc (Obj.cells #[Value.int IntKind.i64 Q.k, Value.bool Q.e, Value.string Q.t, Value.slice yles Q.nms.length cles] 25)).heap.size) := by rw [← hGles]; exact s9
    rw [hGles] at Hles HLles ⊢
    clear b9 s9 HV9 hGles
    generalize wa9.alloc (Obj.cells #[Value.int IntKind.i64 Q.k, Value.bool Q.e, Value.string Q.t, Value.slice yles Q.nms.length cles] 25) = wb9 at *
    obtain ⟨agot0, agot1, agot2, agot3, _⟩ := cell4 Hgot.out.1
    obtain ⟨egot, hAgot⟩ := Hgot.out.at (lnB_ln (by decide) _ HR.out.2.1)
    have HAgot : Hid (At wb9 egot (.agg #[.int .i64 R.k, .bool R.e, .string R.t, .slice ygot R.nms.length cgot]) R) := hAgot
    clear hAgot
    go_wp2_with fail
    have C10 := clone_any egot _ R wb9 HAgot.out (lnB_ln (by decide) _ HR.out.2.1)
    refine C10.mono ?_
    clear C10
    rintro en wa10 hN10
    obtain ⟨yhad, chad, fhad, rfl, hV10, hn10, b10⟩ := hN10.out2
    clear hN10
    clear agot0 agot1 agot2 agot3 HAgot
    obtain ⟨Lhad, hLhad⟩ : ∃ L, wb9.heap.size = L := ⟨_, rfl⟩
    have HLhad : Hid (Gles + 1 ≤ Lhad ∧ Lhad ≤ wa10.heap.size) := by rw [← hLhad]; exact ⟨HW.out, b10.size⟩
    have HV10 : Hid (TrV wa10 Lhad R (.slice yhad R.nms.length chad) fhad ∧ fhad.Nodup) := by rw [← hLhad]; exact ⟨hV10, hn10⟩
    replace Ha : Hid (ND wa10 K0 H0 Ga T ya ca fa) := Ha.out.on b10
    replace Hb : Hid (ND wa10 K0 H0 Gb U yb cb fb) := Hb.out.on b10
    replace Hput : Hid (ND wa10 Lput Gput Gput P yput cput fput) := Hput.out.on b10
    replace Hgot : Hid (ND wa10 Lgot Ggot Ggot R ygot cgot fgot) := Hgot.out.on b10
    replace Haga : Hid (ND wa10 Laga Gaga Gaga R yaga caga faga) := Haga.out.on b10
    replace Hcut : Hid (ND wa10 Lcut Gcut Gcut Q ycut ccut fcut) := Hcut.out.on b10
    replace Hsam : Hid (ND wa10 Lsam Gsam Gsam T ysam csam fsam) := Hsam.out.on b10
    replace Hwan : Hid (ND wa10 Lwan Gwan Gwan P ywan cwan fwan) := Hwan.out.on b10
    replace Hles : Hid (ND wa10 Lles Gles Gles Q yles cles fles) := Hles.out.on b10
    replace HB : Hid (Below w1.heap.size w1 wa10) := HB.out.trans ((b10).mono HB.out.size)
    replace HW : Hid (Gles + 1 ≤ wa10.heap.size) := Nat.le_trans HW.out (b10).size
    clear b10 hV10 hn10 hLhad
    go_upto_region 14 with fail
    have b10 : Below wa10.heap.size wa10 (wa10.alloc (Obj.cells #[Value.int IntKind.i64 R.k, Value.bool R.e, Value.string R.t, Value.slice yhad R.nms.length chad] 25)) := (Below.refl _ _).alloc (Nat.le_refl _) _
    have s10 : wa10.heap.size < (wa10.alloc (Obj.cells #[Value.int IntKind.i64 R.k, Value.bool R.e, Value.string R.t, Value.slice yhad R.nms.length chad] 25)).heap.size := by rw [World.size_alloc]; omega
    have Hhad : Hid (ND (wa10.alloc (Obj.cells #[Value.int IntKind.i64 R.k, Value.bool R.e, Value.string R.t, Value.slice yhad R.nms.length chad] 25)) Lhad wa10.heap.size wa10.heap.size R yhad chad fhad) := ND.new HV10.out.1 HV10.out.2
    replace Ha : Hid (ND (wa10.alloc (Obj.cells #[Value.int IntKind.i64 R.k, Value.bool R.e, Value.string R.t, Value.slice yhad R.nms.length chad] 25)) K0 H0 Ga T ya ca fa) := Ha.out.on b10
    replace Hb : Hid (ND (wa10.alloc (Obj.cells #[Value.int IntKind.i64 R.k, Value.bool R.e, Value.string R.t, Value.slice yhad R.nms.length chad] 25)) K0 H0 Gb U yb cb fb) := Hb.out.on b10
    replace Hput : Hid (ND (wa10.alloc (Obj.cells #[Value.int IntKind.i64 R.k, Value.bool R.e, Value.string R.t, Value.slice yhad R.nms.length chad] 25)) Lput Gput Gput P yput cput fput) := Hput.out.on b10
    replace Hgot : Hid (ND (wa10.alloc (Obj.cells #[Value.int IntKind.i64 R.k, Value.bool R.e, Value.string R.t, Value.slice yhad R.nms.length chad] 25)) Lgot Ggot Ggot R ygot cgot fgot) := Hgot.out.on b10
    replace Haga : Hid (ND (wa10.alloc (Obj.cells #[Value.int IntKind.i64 R.k, Value.bool R.e, Value.string R.t, Value.slice yhad R.nms.length chad] 25)) Laga Gaga Gaga R yaga caga faga) := Haga.out.on b10
    replace Hcut : Hid (ND (wa10.alloc (Obj.cells #[Value.int IntKind.i64 R.k, Value.bool R.e, Value.string R.t, Value.slice yhad R.nms.length chad] 25)) Lcut Gcut Gcut Q ycut ccut fcut) := Hcut.out.on b10
    replace Hsam : Hid (ND (wa10.alloc (Obj.cells #[Value.int IntKind.i64 R.k, Value.bool R.e, Value.string R.t, Value.slice yhad R.nms.length chad] 25)) Lsam Gsam Gsam T ysam csam fsam) := Hsam.out.on b10
    replace Hwan : Hid (ND (wa10.alloc (Obj.cells #[Value.int IntKind.i64 R.k, Value.bool R.e, Value.string R.t, Value.slice yhad R.nms.length chad] 25)) Lwan Gwan Gwan P ywan cwan fwan) := Hwan.out.on b10
    replace Hles : Hid (ND (wa10.alloc (Obj.cells #[Value.int IntKind.i64 R.k, Value.bool R.e, Value.string R.t, Value.slice yhad R.nms.length chad] 25)) Lles Gles Gles Q yles cles fles) := Hles.out.on b10
    replace HB : Hid (Below w1.heap.size w1 (wa10.alloc (Obj.cells #[Value.int IntKind.i64 R.k, Value.bool R.e, Value.string R.t, Value.slice yhad R.nms.length chad] 25))) := HB.out.trans ((b10).mono HB.out.size)
    replace HW : Hid (Gles + 1 ≤ (wa10.alloc (Obj.cells #[Value.int IntKind.i64 R.k, Value.bool R.e, Value.string R.t, Value.slice yhad R.nms.length chad] 25)).heap.size) := Nat.le_trans HW.out (b10).size
    obtain ⟨Ghad, hGhad⟩ : ∃ G, wa10.heap.size = G := ⟨_, rfl⟩
    replace HW : Hid (Ghad + 1 ≤ (wa10.alloc (Obj.cells #[Value.int IntKind.i64 R.k, Value.bool R.e, Value.string R.t, Value.slice yhad R.nms.length chad] 25)).heap.size) := by rw [← hGhad]; exact s10
    rw [hGhad] at Hhad HLhad ⊢
    clear b10 s10 HV10 hGhad
    generalize wa10.alloc (Obj.cells #[Value.int IntKind.i64 R.k, Value.bool R.e, Value.string R.t, Value.slice yhad R.nms.length chad] 25) = wb10 at *
    obtain ⟨aa0, aa1, aa2, aa3, _⟩ := cell4 Ha.out.1
    obtain ⟨ea, hAa⟩ := Ha.out.at (lnB_ln (by decide) _ HH.out.2.2.2.2.2.2.1)
    have HAa : Hid (At wb10 ea (.agg #[.int .i64 T.k, .bool T.e, .string T.t, .slice ya T.nms.length ca]) T) := hAa
    clear hAa
    go_wp2_with fail
    refine (spoil_any (SizeOf.sizeOf T) T (Nat.le_refl _) K0 ya _ ca fa wb10 Ha.out.2.1 Ha.out.2.2.1 HH.out.2.2.2.2.2.2.1 (by have h0 := HW.out; have cput := HLput.out; have cgot := HLgot.out; have caga := HLaga.out; have ccut := HLcut.out; have csam := HLsam.out; have cwan := HLwan.out; have cles := HLles.out; have chad := HLhad.out; have cH := HKH.out; have cA := HAB.out.2.2.2.2.2; omega)).mono ?_
    rintro en ws11 ⟨rfl, hsp11⟩
    clear aa0 aa1 aa2 aa3 HAa
    have Hbn : Hid (ND ws11 K0 H0 Gb U yb cb fb) := Hb.out.sp hsp11 HAB.out.1 HAB.out.2.2.2.1
    have Hputn : Hid (ND ws11 Lput Gput Gput P yput cput fput) := Hput.out.sp hsp11 (fun b hb hc => by have h1 := Hput.out.2.2.2 b hb; have h2 := Ha.out.2.2.2 b hc; have cput := HLput.out; have cgot := HLgot.out; have caga := HLaga.out; have ccut := HLcut.out; have csam := HLsam.out; have cwan := HLwan.out; have cles := HLles.out; have chad := HLhad.out; have cH := HKH.out; have cA := HAB.out.2.2.2.2.2; omega) (fun hc => by have h2 := Ha.out.2.2.2 _ hc; have cput := HLput.out; have cgot := HLgot.out; have caga := HLaga.out; have ccut := HLcut.out; have csam := HLsam.out; have cwan := HLwan.out; have cles := HLles.out; have chad := HLhad.out; have cH := HKH.out; have cA := HAB.out.2.2.2.2.2; omega)
    have Hgotn : Hid (ND ws11 Lgot Ggot Ggot R ygot cgot fgot) := Hgot.out.sp hsp11 (fun b hb hc => by have h1 := Hgot.out.2.2.2 b hb; have h2 := Ha.out.2.2.2 b hc; have cput := HLput.out; have cgot := HLgot.out; have caga := HLaga.out; have ccut := HLcut.out; have csam := HLsam.out; have cwan := HLwan.out; have cles := HLles.out; have chad := HLhad.out; have cH := HKH.out; have cA := HAB.out.2.2.2.2.2; omega) (fun hc => by have h2 := Ha.out.2.2.2 _ hc; have cput := HLput.out; have cgot := HLgot.out; have caga := HLaga.out; have ccut := HLcut.out; have csam := HLsam.out; have cwan := HLwan.out; have cles := HLles.out; have chad := HLhad.out; have cH := HKH.out; have cA := HAB.out.2.2.2.2.2; omega)
    have Hagan : Hid (ND ws11 Laga Gaga Gaga R yaga caga faga) := Haga.out.sp hsp11 (fun b hb hc => by have h1 := Haga.out.2.2.2 b hb; have h2 := Ha.out.2.2.2 b hc; have cput := HLput.out; have cgot := HLgot.out; have caga := HLaga.out; have ccut := HLcut.out; have csam := HLsam.out; have cwan := HLwan.out; have cles := HLles.out; have chad := HLhad.out; have cH := HKH.out; have cA := HAB.out.2.2.2.2.2; omega) (fun hc => by have h2 := Ha.out.2.2.2 _ hc; have cput := HLput.out; have cgot := HLgot.out; have caga := HLaga.out; have ccut := HLcut.out; have csam := HLsam.out; have cwan := HLwan.out; have cles := HLles.out; have chad := HLhad.out; have cH := HKH.out; have cA := HAB.out.2.2.2.2.2; omega)
    have Hcutn : Hid (ND ws11 Lcut Gcut Gcut Q ycut ccut fcut) := Hcut.out.sp hsp11 (fun b hb hc => by have h1 := Hcut.out.2.2.2 b hb; have h2 := Ha.out.2.2.2 b hc; have cput := HLput.out; have cgot := HLgot.out; have caga := HLaga.out; have ccut := HLcut.out; have csam := HLsam.out; have cwan := HLwan.out; have cles := HLles.out; have chad := HLhad.out; have cH := HKH.out; have cA := HAB.out.2.2.2.2.2; omega) (fun hc => by have h2 := Ha.out.2.2.2 _ hc; have cput := HLput.out; have cgot := HLgot.out; have caga := HLaga.out; have ccut := HLcut.out; have csam := HLsam.out; have cwan := HLwan.out; have cles := HLles.out; have chad := HLhad.out; have cH := HKH.out; have cA := HAB.out.2.2.2.2.2; omega)
    have Hsamn : Hid (ND ws11 Lsam Gsam Gsam T ysam csam fsam) := Hsam.out.sp hsp11 (fun b hb hc => by have h1 := Hsam.out.2.2.2 b hb; have h2 := Ha.out.2.2.2 b hc; have cput := HLput.out; have cgot := HLgot.out; have caga := HLaga.out; have ccut := HLcut.out; have csam := HLsam.out; have cwan := HLwan.out; have cles := HLles.out; have chad := HLhad.out; have cH := HKH.out; have cA := HAB.out.2.2.2.2.2; omega) (fun hc => by have h2 := Ha.out.2.2.2 _ hc; have cput := HLput.out; have cgot := HLgot.out; have caga := HLaga.out; have ccut := HLcut.out; have csam := HLsam.out; have cwan := HLwan.out; have cles := HLles.out; have chad := HLhad.out; have cH := HKH.out; have cA := HAB.out.2.2.2.2.2; omega)
    have Hwann : Hid (ND ws11 Lwan Gwan Gwan P ywan cwan fwan) := Hwan.out.sp hsp11 (fun b hb hc => by have h1 := Hwan.out.2.2.2 b hb; have h2 := Ha.out.2.2.2 b hc; have cput := HLput.out; have cgot := HLgot.out; have caga := HLaga.out; have ccut := HLcut.out; have csam := HLsam.out; have cwan := HLwan.out; have cles := HLles.out; have chad := HLhad.out; have cH := HKH.out; have cA := HAB.out.2.2.2.2.2; omega) (fun hc => by have h2 := Ha.out.2.2.2 _ hc; have cput := HLput.out; have cgot := HLgot.out; have caga := HLaga.out; have ccut := HLcut.out; have csam := HLsam.out; have cwan := HLwan.out; have cles := HLles.out; have chad := HLhad.out; have cH := HKH.out; have cA := HAB.out.2.2.2.2.2; omega)
    have Hlesn : Hid (ND ws11 Lles Gles Gles Q yles cles fles) := Hles.out.sp hsp11 (fun b hb hc => by have h1 := Hles.out.2.2.2 b hb; have h2 := Ha.out.2.2.2 b hc; have cput := HLput.out; have cgot := HLgot.out; have caga := HLaga.out; have ccut := HLcut.out; have csam := HLsam.out; have cwan := HLwan.out; have cles := HLles.out; have chad := HLhad.out; have cH := HKH.out; have cA := HAB.out.2.2.2.2.2; omega) (fun hc => by have h2 := Ha.out.2.2.2 _ hc; have cput := HLput.out; have cgot := HLgot.out; have caga := HLaga.out; have ccut := HLcut.out; have csam := HLsam.out; have cwan := HLwan.out; have cles := HLles.out; have chad := HLhad.out; have cH := HKH.out; have cA := HAB.out.2.2.2.2.2; omega)
    have Hhadn : Hid (ND ws11 Lhad Ghad Ghad R yhad chad fhad) := Hhad.out.sp hsp11 (fun b hb hc => by have h1 := Hhad.out.2.2.2 b hb; have h2 := Ha.out.2.2.2 b hc; have cput := HLput.out; have cgot := HLgot.out; have caga := HLaga.out; have ccut := HLcut.out; have csam := HLsam.out; have cwan := HLwan.out; have cles := HLles.out; have chad := HLhad.out; have cH := HKH.out; have cA := HAB.out.2.2.2.2.2; omega) (fun hc => by have h2 := Ha.out.2.2.2 _ hc; have cput := HLput.out; have cgot := HLgot.out; have caga := HLaga.out; have ccut := HLcut.out; have csam := HLsam.out; have cwan := HLwan.out; have cles := HLles.out; have chad := HLhad.out; have cH := HKH.out; have cA := HAB.out.2.2.2.2.2; omega)
    have bs11 : Below w1.heap.size wb10 ws11 := hsp11.below (by rw [HK0.out]; intro b hb; have h2 := Ha.out.2.2.2 b hb; have cput := HLput.out; have cgot := HLgot.out; have caga := HLaga.out; have ccut := HLcut.out; have csam := HLsam.out; have cwan := HLwan.out; have cles := HLles.out; have chad := HLhad.out; have cH := HKH.out; have cA := HAB.out.2.2.2.2.2; omega) HB.out.size
    replace HB : Hid (Below w1.heap.size w1 ws11) := HB.out.trans bs11
    replace HW : Hid (Ghad + 1 ≤ ws11.heap.size) := Nat.le_trans HW.out hsp11.size
    clear Ha hsp11 bs11 Hb Hput Hgot Haga Hcut Hsam Hwan Hles Hhad
    have Hb := Hbn
    clear Hbn
    have Hput := Hputn
    clear Hputn
    have Hgot := Hgotn
    clear Hgotn
    have Haga := Hagan
    clear Hagan
    have Hcut := Hcutn
    clear Hcutn
    have Hsam := Hsamn
    clear Hsamn
    have Hwan := Hwann
    clear Hwann
    have Hles := Hlesn
    clear Hlesn
    have Hhad := Hhadn
    clear Hhadn
    obtain ⟨ab0, ab1, ab2, ab3, _⟩ := cell4 Hb.out.1
    obtain ⟨eb, hAb⟩ := Hb.out.at (lnB_ln (by decide) _ HH.out.2.2.2.2.2.2.2)
    have HAb : Hid (At ws11 eb (.agg #[.int .i64 U.k, .bool U.e, .string U.t, .slice yb U.nms.length cb]) U) := hAb
    clear hAb
    go_wp2_with fail
    refine (spoil_any (SizeOf.sizeOf U) U (Nat.le_refl _) K0 yb _ cb fb ws11 Hb.out.2.1 Hb.out.2.2.1 HH.out.2.2.2.2.2.2.2 (by have h0 := HW.out; have cput := HLput.out; have cgot := HLgot.out; have caga := HLaga.out; have ccut := HLcut.out; have csam := HLsam.out; have cwan := HLwan.out; have cles := HLles.out; have chad := HLhad.out; have cH := HKH.out; have cA := HAB.out.2.2.2.2.2; omega)).mono ?_
    rintro en ws12 ⟨rfl, hsp12⟩
    clear ab0 ab1 ab2 ab3 HAb
    have Hputn : Hid (ND ws12 Lput Gput Gput P yput cput fput) := Hput.out.sp hsp12 (fun b hb hc => by have h1 := Hput.out.2.2.2 b hb; have h2 := Hb.out.2.2.2 b hc; have cput := HLput.out; have cgot := HLgot.out; have caga := HLaga.out; have ccut := HLcut.out; have csam := HLsam.out; have cwan := HLwan.out; have cles := HLles.out; have chad := HLhad.out; have cH := HKH.out; have cA := HAB.out.2.2.2.2.2; omega) (fun hc => by have h2 := Hb.out.2.2.2 _ hc; have cput := HLput.out; have cgot := HLgot.out; have caga := HLaga.out; have ccut := HLcut.out; have csam := HLsam.out; have cwan := HLwan.out; have cles := HLles.out; have chad := HLhad.out; have cH := HKH.out; have cA := HAB.out.2.2.2.2.2; omega)
    have Hgotn : Hid (ND ws12 Lgot Ggot Ggot R ygot cgot fgot) := Hgot.out.sp hsp12 (fun b hb hc => by have h1 := Hgot.out.2.2.2 b hb; have h2 := Hb.out.2.2.2 b hc; have cput := HLput.out; have cgot := HLgot.out; have caga := HLaga.out; have ccut := HLcut.out; have csam := HLsam.out; have cwan := HLwan.out; have cles := HLles.out; have chad := HLhad.out; have cH := HKH.out; have cA := HAB.out.2.2.2.2.2; omega) (fun hc => by have h2 := Hb.out.2.2.2 _ hc; have cput := HLput.out; have cgot := HLgot.out; have caga := HLaga.out; have ccut := HLcut.out; have csam := HLsam.out; have cwan := HLwan.out; have cles := HLles.out; have chad := HLhad.out; have cH := HKH.out; have cA := HAB.out.2.2.2.2.2; omega)
    have Hagan : Hid (ND ws12 Laga Gaga Gaga R yaga caga faga) := Haga.out.sp hsp12 (fun b hb hc => by have h1 := Haga.out.2.2.2 b hb; have h2 := Hb.out.2.2.2 b hc; have cput := HLput.out; have cgot := HLgot.out; have caga := HLaga.out; have ccut := HLcut.out; have csam := HLsam.out; have cwan := HLwan.out; have cles := HLles.out; have chad := HLhad.out; have cH := HKH.out; have cA := HAB.out.2.2.2.2.2; omega) (fun hc => by have h2 := Hb.out.2.2.2 _ hc; have cput := HLput.out; have cgot := HLgot.out; have caga := HLaga.out; have ccut := HLcut.out; have csam := HLsam.out; have cwan := HLwan.out; have cles := HLles.out; have chad := HLhad.out; have cH := HKH.out; have cA := HAB.out.2.2.2.2.2; omega)
    have Hcutn : Hid (ND ws12 Lcut Gcut Gcut Q ycut ccut fcut) := Hcut.out.sp hsp12 (fun b hb hc => by have h1 := Hcut.out.2.2.2 b hb; have h2 := Hb.out.2.2.2 b hc; have cput := HLput.out; have cgot := HLgot.out; have caga := HLaga.out; have ccut := HLcut.out; have csam := HLsam.out; have cwan := HLwan.out; have cles := HLles.out; have chad := HLhad.out; have cH := HKH.out; have cA := HAB.out.2.2.2.2.2; omega) (fun hc => by have h2 := Hb.out.2.2.2 _ hc; have cput := HLput.out; have cgot := HLgot.out; have caga := HLaga.out; have ccut := HLcut.out; have csam := HLsam.out; have cwan := HLwan.out; have cles := HLles.out; have chad := HLhad.out; have cH := HKH.out; have cA := HAB.out.2.2.2.2.2; omega)
    have Hsamn : Hid (ND ws12 Lsam Gsam Gsam T ysam csam fsam) := Hsam.out.sp hsp12 (fun b hb hc => by have h1 := Hsam.out.2.2.2 b hb; have h2 := Hb.out.2.2.2 b hc; have cput := HLput.out; have cgot := HLgot.out; have caga := HLaga.out; have ccut := HLcut.out; have csam := HLsam.out; have cwan := HLwan.out; have cles := HLles.out; have chad := HLhad.out; have cH := HKH.out; have cA := HAB.out.2.2.2.2.2; omega) (fun hc => by have h2 := Hb.out.2.2.2 _ hc; have cput := HLput.out; have cgot := HLgot.out; have caga := HLaga.out; have ccut := HLcut.out; have csam := HLsam.out; have cwan := HLwan.out; have cles := HLles.out; have chad := HLhad.out; have cH := HKH.out; have cA := HAB.out.2.2.2.2.2; omega)
    have Hwann : Hid (ND ws12 Lwan Gwan Gwan P ywan cwan fwan) := Hwan.out.sp hsp12 (fun b hb hc => by have h1 := Hwan.out.2.2.2 b hb; have h2 := Hb.out.2.2.2 b hc; have cput := HLput.out; have cgot := HLgot.out; have caga := HLaga.out; have ccut := HLcut.out; have csam := HLsam.out; have cwan := HLwan.out; have cles := HLles.out; have chad := HLhad.out; have cH := HKH.out; have cA := HAB.out.2.2.2.2.2; omega) (fun hc => by have h2 := Hb.out.2.2.2 _ hc; have cput := HLput.out; have cgot := HLgot.out; have caga := HLaga.out; have ccut := HLcut.out; have csam := HLsam.out; have cwan := HLwan.out; have cles := HLles.out; have chad := HLhad.out; have cH := HKH.out; have cA := HAB.out.2.2.2.2.2; omega)
    have Hlesn : Hid (ND ws12 Lles Gles Gles Q yles cles fles) := Hles.out.sp hsp12 (fun b hb hc => by have h1 := Hles.out.2.2.2 b hb; have h2 := Hb.out.2.2.2 b hc; have cput := HLput.out; have cgot := HLgot.out; have caga := HLaga.out; have ccut := HLcut.out; have csam := HLsam.out; have cwan := HLwan.out; have cles := HLles.out; have chad := HLhad.out; have cH := HKH.out; have cA := HAB.out.2.2.2.2.2; omega) (fun hc => by have h2 := Hb.out.2.2.2 _ hc; have cput := HLput.out; have cgot := HLgot.out; have caga := HLaga.out; have ccut := HLcut.out; have csam := HLsam.out; have cwan := HLwan.out; have cles := HLles.out; have chad := HLhad.out; have cH := HKH.out; have cA := HAB.out.2.2.2.2.2; omega)
    have Hhadn : Hid (ND ws12 Lhad Ghad Ghad R yhad chad fhad) := Hhad.out.sp hsp12 (fun b hb hc => by have h1 := Hhad.out.2.2.2 b hb; have h2 := Hb.out.2.2.2 b hc; have cput := HLput.out; have cgot := HLgot.out; have caga := HLaga.out; have ccut := HLcut.out; have csam := HLsam.out; have cwan := HLwan.out; have cles := HLles.out; have chad := HLhad.out; have cH := HKH.out; have cA := HAB.out.2.2.2.2.2; omega) (fun hc => by have h2 := Hb.out.2.2.2 _ hc; have cput := HLput.out; have cgot := HLgot.out; have caga := HLaga.out; have ccut := HLcut.out; have csam := HLsam.out; have cwan := HLwan.out; have cles := HLles.out; have chad := HLhad.out; have cH := HKH.out; have cA := HAB.out.2.2.2.2.2; omega)
    have bs12 : Below w1.heap.size ws11 ws12 := hsp12.below (by rw [HK0.out]; intro b hb; have h2 := Hb.out.2.2.2 b hb; have cput := HLput.out; have cgot := HLgot.out; have caga := HLaga.out; have ccut := HLcut.out; have csam := HLsam.out; have cwan := HLwan.out; have cles := HLles.out; have chad := HLhad.out; have cH := HKH.out; have cA := HAB.out.2.2.2.2.2; omega) HB.out.size
    replace HB : Hid (Below w1.heap.size w1 ws12) := HB.out.trans bs12
    replace HW : Hid (Ghad + 1 ≤ ws12.heap.size) := Nat.le_trans HW.out hsp12.size
    clear Hb hsp12 bs12 Hput Hgot Haga Hcut Hsam Hwan Hles Hhad
    have Hput := Hputn
    clear Hputn
    have Hgot := Hgotn
    clear Hgotn
    have Haga := Hagan
    clear Hagan
    have Hcut := Hcutn
    clear Hcutn
    have Hsam := Hsamn
    clear Hsamn
    have Hwan := Hwann
    clear Hwann
    have Hles := Hlesn
    clear Hlesn
    have Hhad := Hhadn
    clear Hhadn
    obtain ⟨aaga0, aaga1, aaga2, aaga3, _⟩ := cell4 Haga.out.1
    obtain ⟨eaga, hAaga⟩ := Haga.out.at (lnB_ln (by decide) _ HR.out.2.1)
    have HAaga : Hid (At ws12 eaga (.agg #[.int .i64 R.k, .bool R.e, .string R.t, .slice yaga R.nms.length caga]) R) := hAaga
    clear hAaga
    go_wp2_with fail
    refine (spoil_any (SizeOf.sizeOf R) R (Nat.le_refl _) Laga yaga _ caga faga ws12 Haga.out.2.1 Haga.out.2.2.1 HR.out.2.1 (by have h0 := HW.out; have cput := HLput.out; have cgot := HLgot.out; have caga := HLaga.out; have ccut := HLcut.out; have csam := HLsam.out; have cwan := HLwan.out; have cles := HLles.out; have chad := HLhad.out; have cH := HKH.out; have cA := HAB.out.2.2.2.2.2; omega)).mono ?_
    rintro en ws13 ⟨rfl, hsp13⟩
    clear aaga0 aaga1 aaga2 aaga3 HAaga
    have Hputn : Hid (ND ws13 Lput Gput Gput P yput cput fput) := Hput.out.sp hsp13 (fun b hb hc => by have h1 := Hput.out.2.2.2 b hb; have h2 := Haga.out.2.2.2 b hc; have cput := HLput.out; have cgot := HLgot.out; have caga := HLaga.out; have ccut := HLcut.out; have csam := HLsam.out; have cwan := HLwan.out; have cles := HLles.out; have chad := HLhad.out; have cH := HKH.out; have cA := HAB.out.2.2.2.2.2; omega) (fun hc => by have h2 := Haga.out.2.2.2 _ hc; have cput := HLput.out; have cgot := HLgot.out; have caga := HLaga.out; have ccut := HLcut.out; have csam := HLsam.out; have cwan := HLwan.out; have cles := HLles.out; have chad := HLhad.out; have cH := HKH.out; have cA := HAB.out.2.2.2.2.2; omega)
    have Hgotn : Hid (ND ws13 Lgot Ggot Ggot R ygot cgot fgot) := Hgot.out.sp hsp13 (fun b hb hc => by have h1 := Hgot.out.2.2.2 b hb; have h2 := Haga.out.2.2.2 b hc; have cput := HLput.out; have cgot := HLgot.out; have caga := HLaga.out; have ccut := HLcut.out; have csam := HLsam.out; have cwan := HLwan.out; have cles := HLles.out; have chad := HLhad.out; have cH := HKH.out; have cA := HAB.out.2.2.2.2.2; omega) (fun hc => by have h2 := Haga.out.2.2.2 _ hc; have cput := HLput.out; have cgot := HLgot.out; have caga := HLaga.out; have ccut := HLcut.out; have csam := HLsam.out; have cwan := HLwan.out; have cles := HLles.out; have chad := HLhad.out; have cH := HKH.out; have cA := HAB.out.2.2.2.2.2; omega)
    have Hcutn : Hid (ND ws13 Lcut Gcut Gcut Q ycut ccut fcut) := Hcut.out.sp hsp13 (fun b hb hc => by have h1 := Hcut.out.2.2.2 b hb; have h2 := Haga.out.2.2.2 b hc; have cput := HLput.out; have cgot := HLgot.out; have caga := HLaga.out; have ccut := HLcut.out; have csam := HLsam.out; have cwan := HLwan.out; have cles := HLles.out; have chad := HLhad.out; have cH := HKH.out; have cA := HAB.out.2.2.2.2.2; omega) (fun hc => by have h2 := Haga.out.2.2.2 _ hc; have cput := HLput.out; have cgot := HLgot.out; have caga := HLaga.out; have ccut := HLcut.out; have csam := HLsam.out; have cwan := HLwan.out; have cles := HLles.out; have chad := HLhad.out; have cH := HKH.out; have cA := HAB.out.2.2.2.2.2; omega)
    have Hsamn : Hid (ND ws13 Lsam Gsam Gsam T ysam csam fsam) := Hsam.out.sp hsp13 (fun b hb hc => by have h1 := Hsam.out.2.2.2 b hb; have h2 := Haga.out.2.2.2 b hc; have cput := HLput.out; have cgot := HLgot.out; have caga := HLaga.out; have ccut := HLcut.out; have csam := HLsam.out; have cwan := HLwan.out; have cles := HLles.out; have chad := HLhad.out; have cH := HKH.out; have cA := HAB.out.2.2.2.2.2; omega) (fun hc => by have h2 := Haga.out.2.2.2 _ hc; have cput := HLput.out; have cgot := HLgot.out; have caga := HLaga.out; have ccut := HLcut.out; have csam := HLsam.out; have cwan := HLwan.out; have cles := HLles.out; have chad := HLhad.out; have cH := HKH.out; have cA := HAB.out.2.2.2.2.2; omega)
    have Hwann : Hid (ND ws13 Lwan Gwan Gwan P ywan cwan fwan) := Hwan.out.sp hsp13 (fun b hb hc => by have h1 := Hwan.out.2.2.2 b hb; have h2 := Haga.out.2.2.2 b hc; have cput := HLput.out; have cgot := HLgot.out; have caga := HLaga.out; have ccut := HLcut.out; have csam := HLsam.out; have cwan := HLwan.out; have cles := HLles.out; have chad := HLhad.out; have cH := HKH.out; have cA := HAB.out.2.2.2.2.2; omega) (fun hc => by have h2 := Haga.out.2.2.2 _ hc; have cput := HLput.out; have cgot := HLgot.out; have caga := HLaga.out; have ccut := HLcut.out; have csam := HLsam.out; have cwan := HLwan.out; have cles := HLles.out; have chad := HLhad.out; have cH := HKH.out; have cA := HAB.out.2.2.2.2.2; omega)
    have Hlesn : Hid (ND ws13 Lles Gles Gles Q yles cles fles) := Hles.out.sp hsp13 (fun b hb hc => by have h1 := Hles.out.2.2.2 b hb; have h2 := Haga.out.2.2.2 b hc; have cput := HLput.out; have cgot := HLgot.out; have caga := HLaga.out; have ccut := HLcut.out; have csam := HLsam.out; have cwan := HLwan.out; have cles := HLles.out; have chad := HLhad.out; have cH := HKH.out; have cA := HAB.out.2.2.2.2.2; omega) (fun hc => by have h2 := Haga.out.2.2.2 _ hc; have cput := HLput.out; have cgot := HLgot.out; have caga := HLaga.out; have ccut := HLcut.out; have csam := HLsam.out; have cwan := HLwan.out; have cles := HLles.out; have chad := HLhad.out; have cH := HKH.out; have cA := HAB.out.2.2.2.2.2; omega)
    have Hhadn : Hid (ND ws13 Lhad Ghad Ghad R yhad chad fhad) := Hhad.out.sp hsp13 (fun b hb hc => by have h1 := Hhad.out.2.2.2 b hb; have h2 := Haga.out.2.2.2 b hc; have cput := HLput.out; have cgot := HLgot.out; have caga := HLaga.out; have ccut := HLcut.out; have csam := HLsam.out; have cwan := HLwan.out; have cles := HLles.out; have chad := HLhad.out; have cH := HKH.out; have cA := HAB.out.2.2.2.2.2; omega) (fun hc => by have h2 := Haga.out.2.2.2 _ hc; have cput := HLput.out; have cgot := HLgot.out; have caga := HLaga.out; have ccut := HLcut.out; have csam := HLsam.out; have cwan := HLwan.out; have cles := HLles.out; have chad := HLhad.out; have cH := HKH.out; have cA := HAB.out.2.2.2.2.2; omega)
    have bs13 : Below w1.heap.size ws12 ws13 := hsp13.below (by rw [HK0.out]; intro b hb; have h2 := Haga.out.2.2.2 b hb; have cput := HLput.out; have cgot := HLgot.out; have caga := HLaga.out; have ccut := HLcut.out; have csam := HLsam.out; have cwan := HLwan.out; have cles := HLles.out; have chad := HLhad.out; have cH := HKH.out; have cA := HAB.out.2.2.2.2.2; omega) HB.out.size
    replace HB : Hid (Below w1.heap.size w1 ws13) := HB.out.trans bs13
    replace HW : Hid (Ghad + 1 ≤ ws13.heap.size) := Nat.le_trans HW.out hsp13.size
    clear Haga hsp13 bs13 Hput Hgot Hcut Hsam Hwan Hles Hhad
    have Hput := Hputn
    clear Hputn
    have Hgot := Hgotn
    clear Hgotn
    have Hcut := Hcutn
    clear Hcutn
    have Hsam := Hsamn
    clear Hsamn
    have Hwan := Hwann
    clear Hwann
    have Hles := Hlesn
    clear Hlesn
    have Hhad := Hhadn
    clear Hhadn
    obtain ⟨aput0, aput1, aput2, aput3, _⟩ := cell4 Hput.out.1
    obtain ⟨eput, hAput⟩ := Hput.out.at (lnB_ln (by decide) _ HP.out.2.1)
    have HAput : Hid (At ws13 eput (.agg #[.int .i64 P.k, .bool P.e, .string P.t, .slice yput P.nms.length cput]) P) := hAput
    clear hAput
    obtain ⟨awan0, awan1, awan2, awan3, _⟩ := cell4 Hwan.out.1
    obtain ⟨ewan, hAwan⟩ := Hwan.out.at (lnB_ln (by decide) _ HP.out.2.1)
    have HAwan : Hid (At ws13 ewan (.agg #[.int .i64 P.k, .bool P.e, .string P.t, .slice ywan P.nms.length cwan]) P) := hAwan
    clear hAwan
    go_wp2_with fail
    refine (requal_any (eput + ewan) _ _ _ _ ws13 (HAput.out.upto (by omega)) (HAwan.out.upto (by omega))).mono ?_
    rintro en we14 ⟨⟨r14, rfl, hr14⟩, b14⟩
    obtain rfl : r14 = true := hr14.2 rfl
    clear hr14
    clear aput0 aput1 aput2 aput3 HAput awan0 awan1 awan2 awan3 HAwan
    replace Hput : Hid (ND we14 Lput Gput Gput P yput cput fput) := Hput.out.on b14
    replace Hgot : Hid (ND we14 Lgot Ggot Ggot R ygot cgot fgot) := Hgot.out.on b14
    replace Hcut : Hid (ND we14 Lcut Gcut Gcut Q ycut ccut fcut) := Hcut.out.on b14
    replace Hsam : Hid (ND we14 Lsam Gsam Gsam T ysam csam fsam) := Hsam.out.on b14
    replace Hwan : Hid (ND we14 Lwan Gwan Gwan P ywan cwan fwan) := Hwan.out.on b14
    replace Hles : Hid (ND we14 Lles Gles Gles Q yles cles fles) := Hles.out.on b14
    replace Hhad : Hid (ND we14 Lhad Ghad Ghad R yhad chad fhad) := Hhad.out.on b14
    replace HB : Hid (Below w1.heap.size w1 we14) := HB.out.trans ((b14).mono HB.out.size)
    replace HW : Hid (Ghad + 1 ≤ we14.heap.size) := Nat.le_trans HW.out (b14).size
    clear b14
    obtain ⟨acut0, acut1, acut2, acut3, _⟩ := cell4 Hcut.out.1
    obtain ⟨ecut, hAcut⟩ := Hcut.out.at (lnB_ln (by decide) _ HQ.out.2.1)
    have HAcut : Hid (At we14 ecut (.agg #[.int .i64 Q.k, .bool Q.e, .string Q.t, .slice ycut Q.nms.length ccut]) Q) := hAcut
    clear hAcut
    obtain ⟨ales0, ales1, ales2, ales3, _⟩ := cell4 Hles.out.1
    obtain ⟨eles, hAles⟩ := Hles.out.at (lnB_ln (by decide) _ HQ.out.2.1)
    have HAles : Hid (At we14 eles (.agg #[.int .i64 Q.k, .bool Q.e, .string Q.t, .slice yles Q.nms.length cles]) Q) := hAles
    clear hAles
    go_wp2_with fail
    refine (requal_any (ecut + eles) _ _ _ _ we14 (HAcut.out.upto (by omega)) (HAles.out.upto (by omega))).mono ?_
    rintro en we15 ⟨⟨r15, rfl, hr15⟩, b15⟩
    obtain rfl : r15 = true := hr15.2 rfl
    clear hr15
    clear acut0 acut1 acut2 acut3 HAcut ales0 ales1 ales2 ales3 HAles
    replace Hput : Hid (ND we15 Lput Gput Gput P yput cput fput) := Hput.out.on b15
    replace Hgot : Hid (ND we15 Lgot Ggot Ggot R ygot cgot fgot) := Hgot.out.on b15
    replace Hcut : Hid (ND we15 Lcut Gcut Gcut Q ycut ccut fcut) := Hcut.out.on b15
    replace Hsam : Hid (ND we15 Lsam Gsam Gsam T ysam csam fsam) := Hsam.out.on b15
    replace Hwan : Hid (ND we15 Lwan Gwan Gwan P ywan cwan fwan) := Hwan.out.on b15
    replace Hles : Hid (ND we15 Lles Gles Gles Q yles cles fles) := Hles.out.on b15
    replace Hhad : Hid (ND we15 Lhad Ghad Ghad R yhad chad fhad) := Hhad.out.on b15
    replace HB : Hid (Below w1.heap.size w1 we15) := HB.out.trans ((b15).mono HB.out.size)
    replace HW : Hid (Ghad + 1 ≤ we15.heap.size) := Nat.le_trans HW.out (b15).size
    clear b15
    obtain ⟨agot0, agot1, agot2, agot3, _⟩ := cell4 Hgot.out.1
    obtain ⟨egot, hAgot⟩ := Hgot.out.at (lnB_ln (by decide) _ HR.out.2.1)
    have HAgot : Hid (At we15 egot (.agg #[.int .i64 R.k, .bool R.e, .string R.t, .slice ygot R.nms.length cgot]) R) := hAgot
    clear hAgot
    obtain ⟨ahad0, ahad1, ahad2, ahad3, _⟩ := cell4 Hhad.out.1
    obtain ⟨ehad, hAhad⟩ := Hhad.out.at (lnB_ln (by decide) _ HR.out.2.1)
    have HAhad : Hid (At we15 ehad (.agg #[.int .i64 R.k, .bool R.e, .string R.t, .slice yhad R.nms.length chad]) R) := hAhad
    clear hAhad
    go_wp2_with fail
    refine (requal_any (egot + ehad) _ _ _ _ we15 (HAgot.out.upto (by omega)) (HAhad.out.upto (by omega))).mono ?_
    rintro en we16 ⟨⟨r16, rfl, hr16⟩, b16⟩
    obtain rfl : r16 = true := hr16.2 rfl
    clear hr16
    clear agot0 agot1 agot2 agot3 HAgot ahad0 ahad1 ahad2 ahad3 HAhad
    replace Hput : Hid (ND we16 Lput Gput Gput P yput cput fput) := Hput.out.on b16
    replace Hgot : Hid (ND we16 Lgot Ggot Ggot R ygot cgot fgot) := Hgot.out.on b16
    replace Hcut : Hid (ND we16 Lcut Gcut Gcut Q ycut ccut fcut) := Hcut.out.on b16
    replace Hsam : Hid (ND we16 Lsam Gsam Gsam T ysam csam fsam) := Hsam.out.on b16
    replace Hwan : Hid (ND we16 Lwan Gwan Gwan P ywan cwan fwan) := Hwan.out.on b16
    replace Hles : Hid (ND we16 Lles Gles Gles Q yles cles fles) := Hles.out.on b16
    replace Hhad : Hid (ND we16 Lhad Ghad Ghad R yhad chad fhad) := Hhad.out.on b16
    replace HB : Hid (Below w1.heap.size w1 we16) := HB.out.trans ((b16).mono HB.out.size)
    replace HW : Hid (Ghad + 1 ≤ we16.heap.size) := Nat.le_trans HW.out (b16).size
    clear b16
    obtain ⟨asam0, asam1, asam2, asam3, _⟩ := cell4 Hsam.out.1
    obtain ⟨esam, hAsam⟩ := Hsam.out.at (lnB_ln (by decide) _ HH.out.2.2.2.2.2.2.1)
    have HAsam : Hid (At we16 esam (.agg #[.int .i64 T.k, .bool T.e, .string T.t, .slice ysam T.nms.length csam]) T) := hAsam
    clear hAsam
    obtain ⟨aN0, aN1, aN2, aN3, aS0, aS1, aS2, aS3⟩ := HS.out we16 HB.out
    have HAN : Hid (At we16 f (.agg #[Value.int IntKind.i64 k, Value.bool e, Value.string t, Value.slice z n cz]) T) := HH.out.1.below (HB0.out.trans (HB.out.mono HB0.out.size))
    have HAS : Hid (At we16 fu (.agg #[Value.int IntKind.i64 ku, Value.bool eu, Value.string tu, Value.slice zu nu czu]) U) := HH.out.2.2.2.1.below (HB0.out.trans (HB.out.mono HB0.out.size))
    go_wp2_with fail
    refine (requal_any (esam + f) _ _ _ _ we16 (HAsam.out.upto (by omega)) (HAN.out.upto (by omega))).mono ?_
    rintro en we17 ⟨⟨r17, rfl, hr17⟩, b17⟩
    obtain rfl : r17 = true := hr17.2 rfl
    clear hr17
    clear asam0 asam1 asam2 asam3 HAsam aN0 aN1 aN2 aN3 aS0 aS1 aS2 aS3 HAN HAS
    replace Hput : Hid (ND we17 Lput Gput Gput P yput cput fput) := Hput.out.on b17
    replace Hgot : Hid (ND we17 Lgot Ggot Ggot R ygot cgot fgot) := Hgot.out.on b17
    replace Hcut : Hid (ND we17 Lcut Gcut Gcut Q ycut ccut fcut) := Hcut.out.on b17
    replace Hsam : Hid (ND we17 Lsam Gsam Gsam T ysam csam fsam) := Hsam.out.on b17
    replace Hwan : Hid (ND we17 Lwan Gwan Gwan P ywan cwan fwan) := Hwan.out.on b17
    replace Hles : Hid (ND we17 Lles Gles Gles Q yles cles fles) := Hles.out.on b17
    replace Hhad : Hid (ND we17 Lhad Ghad Ghad R yhad chad fhad) := Hhad.out.on b17
    replace HB : Hid (Below w1.heap.size w1 we17) := HB.out.trans ((b17).mono HB.out.size)
    replace HW : Hid (Ghad + 1 ≤ we17.heap.size) := Nat.le_trans HW.out (b17).size
    clear b17
    obtain ⟨agot0, agot1, agot2, agot3, _⟩ := cell4 Hgot.out.1
    obtain ⟨egot, hAgot⟩ := Hgot.out.at (lnB_ln (by decide) _ HR.out.2.1)
    have HAgot : Hid (At we17 egot (.agg #[.int .i64 R.k, .bool R.e, .string R.t, .slice ygot R.nms.length cgot]) R) := hAgot
    clear hAgot
    go_wp2_with fail
    refine (spoil_any (SizeOf.sizeOf R) R (Nat.le_refl _) Lgot ygot _ cgot fgot we17 Hgot.out.2.1 Hgot.out.2.2.1 HR.out.2.1 (by have h0 := HW.out; have cput := HLput.out; have cgot := HLgot.out; have caga := HLaga.out; have ccut := HLcut.out; have csam := HLsam.out; have cwan := HLwan.out; have cles := HLles.out; have chad := HLhad.out; have cH := HKH.out; have cA := HAB.out.2.2.2.2.2; omega)).mono ?_
    rintro en ws18 ⟨rfl, hsp18⟩
    clear agot0 agot1 agot2 agot3 HAgot
    have Hputn : Hid (ND ws18 Lput Gput Gput P yput cput fput) := Hput.out.sp hsp18 (fun b hb hc => by have h1 := Hput.out.2.2.2 b hb; have h2 := Hgot.out.2.2.2 b hc; have cput := HLput.out; have cgot := HLgot.out; have caga := HLaga.out; have ccut := HLcut.out; have csam := HLsam.out; have cwan := HLwan.out; have cles := HLles.out; have chad := HLhad.out; have cH := HKH.out; have cA := HAB.out.2.2.2.2.2; omega) (fun hc => by have h2 := Hgot.out.2.2.2 _ hc; have cput := HLput.out; have cgot := HLgot.out; have caga := HLaga.out; have ccut := HLcut.out; have csam := HLsam.out; have cwan := HLwan.out; have cles := HLles.out; have chad := HLhad.out; have cH := HKH.out; have cA := HAB.out.2.2.2.2.2; omega)
    have Hcutn : Hid (ND ws18 Lcut Gcut Gcut Q ycut ccut fcut) := Hcut.out.sp hsp18 (fun b hb hc => by have h1 := Hcut.out.2.2.2 b hb; have h2 := Hgot.out.2.2.2 b hc; have cput := HLput.out; have cgot := HLgot.out; have caga := HLaga.out; have ccut := HLcut.out; have csam := HLsam.out; have cwan := HLwan.out; have cles := HLles.out; have chad := HLhad.out; have cH := HKH.out; have cA := HAB.out.2.2.2.2.2; omega) (fun hc => by have h2 := Hgot.out.2.2.2 _ hc; have cput := HLput.out; have cgot := HLgot.out; have caga := HLaga.out; have ccut := HLcut.out; have csam := HLsam.out; have cwan := HLwan.out; have cles := HLles.out; have chad := HLhad.out; have cH := HKH.out; have cA := HAB.out.2.2.2.2.2; omega)
    have Hsamn : Hid (ND ws18 Lsam Gsam Gsam T ysam csam fsam) := Hsam.out.sp hsp18 (fun b hb hc => by have h1 := Hsam.out.2.2.2 b hb; have h2 := Hgot.out.2.2.2 b hc; have cput := HLput.out; have cgot := HLgot.out; have caga := HLaga.out; have ccut := HLcut.out; have csam := HLsam.out; have cwan := HLwan.out; have cles := HLles.out; have chad := HLhad.out; have cH := HKH.out; have cA := HAB.out.2.2.2.2.2; omega) (fun hc => by have h2 := Hgot.out.2.2.2 _ hc; have cput := HLput.out; have cgot := HLgot.out; have caga := HLaga.out; have ccut := HLcut.out; have csam := HLsam.out; have cwan := HLwan.out; have cles := HLles.out; have chad := HLhad.out; have cH := HKH.out; have cA := HAB.out.2.2.2.2.2; omega)
    have Hwann : Hid (ND ws18 Lwan Gwan Gwan P ywan cwan fwan) := Hwan.out.sp hsp18 (fun b hb hc => by have h1 := Hwan.out.2.2.2 b hb; have h2 := Hgot.out.2.2.2 b hc; have cput := HLput.out; have cgot := HLgot.out; have caga := HLaga.out; have ccut := HLcut.out; have csam := HLsam.out; have cwan := HLwan.out; have cles := HLles.out; have chad := HLhad.out; have cH := HKH.out; have cA := HAB.out.2.2.2.2.2; omega) (fun hc => by have h2 := Hgot.out.2.2.2 _ hc; have cput := HLput.out; have cgot := HLgot.out; have caga := HLaga.out; have ccut := HLcut.out; have csam := HLsam.out; have cwan := HLwan.out; have cles := HLles.out; have chad := HLhad.out; have cH := HKH.out; have cA := HAB.out.2.2.2.2.2; omega)
    have Hlesn : Hid (ND ws18 Lles Gles Gles Q yles cles fles) := Hles.out.sp hsp18 (fun b hb hc => by have h1 := Hles.out.2.2.2 b hb; have h2 := Hgot.out.2.2.2 b hc; have cput := HLput.out; have cgot := HLgot.out; have caga := HLaga.out; have ccut := HLcut.out; have csam := HLsam.out; have cwan := HLwan.out; have cles := HLles.out; have chad := HLhad.out; have cH := HKH.out; have cA := HAB.out.2.2.2.2.2; omega) (fun hc => by have h2 := Hgot.out.2.2.2 _ hc; have cput := HLput.out; have cgot := HLgot.out; have caga := HLaga.out; have ccut := HLcut.out; have csam := HLsam.out; have cwan := HLwan.out; have cles := HLles.out; have chad := HLhad.out; have cH := HKH.out; have cA := HAB.out.2.2.2.2.2; omega)
    have Hhadn : Hid (ND ws18 Lhad Ghad Ghad R yhad chad fhad) := Hhad.out.sp hsp18 (fun b hb hc => by have h1 := Hhad.out.2.2.2 b hb; have h2 := Hgot.out.2.2.2 b hc; have cput := HLput.out; have cgot := HLgot.out; have caga := HLaga.out; have ccut := HLcut.out; have csam := HLsam.out; have cwan := HLwan.out; have cles := HLles.out; have chad := HLhad.out; have cH := HKH.out; have cA := HAB.out.2.2.2.2.2; omega) (fun hc => by have h2 := Hgot.out.2.2.2 _ hc; have cput := HLput.out; have cgot := HLgot.out; have caga := HLaga.out; have ccut := HLcut.out; have csam := HLsam.out; have cwan := HLwan.out; have cles := HLles.out; have chad := HLhad.out; have cH := HKH.out; have cA := HAB.out.2.2.2.2.2; omega)
    have bs18 : Below w1.heap.size we17 ws18 := hsp18.below (by rw [HK0.out]; intro b hb; have h2 := Hgot.out.2.2.2 b hb; have cput := HLput.out; have cgot := HLgot.out; have caga := HLaga.out; have ccut := HLcut.out; have csam := HLsam.out; have cwan := HLwan.out; have cles := HLles.out; have chad := HLhad.out; have cH := HKH.out; have cA := HAB.out.2.2.2.2.2; omega) HB.out.size
    replace HB : Hid (Below w1.heap.size w1 ws18) := HB.out.trans bs18
    replace HW : Hid (Ghad + 1 ≤ ws18.heap.size) := Nat.le_trans HW.out hsp18.size
    clear Hgot hsp18 bs18 Hput Hcut Hsam Hwan Hles Hhad
    have Hput := Hputn
    clear Hputn
    have Hcut := Hcutn
    clear Hcutn
    have Hsam := Hsamn
    clear Hsamn
    have Hwan := Hwann
    clear Hwann
    have Hles := Hlesn
    clear Hlesn
    have Hhad := Hhadn
    clear Hhadn
    obtain ⟨asam0, asam1, asam2, asam3, _⟩ := cell4 Hsam.out.1
    obtain ⟨esam, hAsam⟩ := Hsam.out.at (lnB_ln (by decide) _ HH.out.2.2.2.2.2.2.1)
    have HAsam : Hid (At ws18 esam (.agg #[.int .i64 T.k, .bool T.e, .string T.t, .slice ysam T.nms.length csam]) T) := hAsam
    clear hAsam
    go_wp2_with fail
    refine (spoil_any (SizeOf.sizeOf T) T (Nat.le_refl _) Lsam ysam _ csam fsam ws18 Hsam.out.2.1 Hsam.out.2.2.1 HH.out.2.2.2.2.2.2.1 (by have h0 := HW.out; have cput := HLput.out; have cgot := HLgot.out; have caga := HLaga.out; have ccut := HLcut.out; have csam := HLsam.out; have cwan := HLwan.out; have cles := HLles.out; have chad := HLhad.out; have cH := HKH.out; have cA := HAB.out.2.2.2.2.2; omega)).mono ?_
    rintro en ws19 ⟨rfl, hsp19⟩
    clear asam0 asam1 asam2 asam3 HAsam
    have Hputn : Hid (ND ws19 Lput Gput Gput P yput cput fput) := Hput.out.sp hsp19 (fun b hb hc => by have h1 := Hput.out.2.2.2 b hb; have h2 := Hsam.out.2.2.2 b hc; have cput := HLput.out; have cgot := HLgot.out; have caga := HLaga.out; have ccut := HLcut.out; have csam := HLsam.out; have cwan := HLwan.out; have cles := HLles.out; have chad := HLhad.out; have cH := HKH.out; have cA := HAB.out.2.2.2.2.2; omega) (fun hc => by have h2 := Hsam.out.2.2.2 _ hc; have cput := HLput.out; have cgot := HLgot.out; have caga := HLaga.out; have ccut := HLcut.out; have csam := HLsam.out; have cwan := HLwan.out; have cles := HLles.out; have chad := HLhad.out; have cH := HKH.out; have cA := HAB.out.2.2.2.2.2; omega)
    have Hcutn : Hid (ND ws19 Lcut Gcut Gcut Q ycut ccut fcut) := Hcut.out.sp hsp19 (fun b hb hc => by have h1 := Hcut.out.2.2.2 b hb; have h2 := Hsam.out.2.2.2 b hc; have cput := HLput.out; have cgot := HLgot.out; have caga := HLaga.out; have ccut := HLcut.out; have csam := HLsam.out; have cwan := HLwan.out; have cles := HLles.out; have chad := HLhad.out; have cH := HKH.out; have cA := HAB.out.2.2.2.2.2; omega) (fun hc => by have h2 := Hsam.out.2.2.2 _ hc; have cput := HLput.out; have cgot := HLgot.out; have caga := HLaga.out; have ccut := HLcut.out; have csam := HLsam.out; have cwan := HLwan.out; have cles := HLles.out; have chad := HLhad.out; have cH := HKH.out; have cA := HAB.out.2.2.2.2.2; omega)
    have Hwann : Hid (ND ws19 Lwan Gwan Gwan P ywan cwan fwan) := Hwan.out.sp hsp19 (fun b hb hc => by have h1 := Hwan.out.2.2.2 b hb; have h2 := Hsam.out.2.2.2 b hc; have cput := HLput.out; have cgot := HLgot.out; have caga := HLaga.out; have ccut := HLcut.out; have csam := HLsam.out; have cwan := HLwan.out; have cles := HLles.out; have chad := HLhad.out; have cH := HKH.out; have cA := HAB.out.2.2.2.2.2; omega) (fun hc => by have h2 := Hsam.out.2.2.2 _ hc; have cput := HLput.out; have cgot := HLgot.out; have caga := HLaga.out; have ccut := HLcut.out; have csam := HLsam.out; have cwan := HLwan.out; have cles := HLles.out; have chad := HLhad.out; have cH := HKH.out; have cA := HAB.out.2.2.2.2.2; omega)
    have Hlesn : Hid (ND ws19 Lles Gles Gles Q yles cles fles) := Hles.out.sp hsp19 (fun b hb hc => by have h1 := Hles.out.2.2.2 b hb; have h2 := Hsam.out.2.2.2 b hc; have cput := HLput.out; have cgot := HLgot.out; have caga := HLaga.out; have ccut := HLcut.out; have csam := HLsam.out; have cwan := HLwan.out; have cles := HLles.out; have chad := HLhad.out; have cH := HKH.out; have cA := HAB.out.2.2.2.2.2; omega) (fun hc => by have h2 := Hsam.out.2.2.2 _ hc; have cput := HLput.out; have cgot := HLgot.out; have caga := HLaga.out; have ccut := HLcut.out; have csam := HLsam.out; have cwan := HLwan.out; have cles := HLles.out; have chad := HLhad.out; have cH := HKH.out; have cA := HAB.out.2.2.2.2.2; omega)
    have Hhadn : Hid (ND ws19 Lhad Ghad Ghad R yhad chad fhad) := Hhad.out.sp hsp19 (fun b hb hc => by have h1 := Hhad.out.2.2.2 b hb; have h2 := Hsam.out.2.2.2 b hc; have cput := HLput.out; have cgot := HLgot.out; have caga := HLaga.out; have ccut := HLcut.out; have csam := HLsam.out; have cwan := HLwan.out; have cles := HLles.out; have chad := HLhad.out; have cH := HKH.out; have cA := HAB.out.2.2.2.2.2; omega) (fun hc => by have h2 := Hsam.out.2.2.2 _ hc; have cput := HLput.out; have cgot := HLgot.out; have caga := HLaga.out; have ccut := HLcut.out; have csam := HLsam.out; have cwan := HLwan.out; have cles := HLles.out; have chad := HLhad.out; have cH := HKH.out; have cA := HAB.out.2.2.2.2.2; omega)
    have bs19 : Below w1.heap.size ws18 ws19 := hsp19.below (by rw [HK0.out]; intro b hb; have h2 := Hsam.out.2.2.2 b hb; have cput := HLput.out; have cgot := HLgot.out; have caga := HLaga.out; have ccut := HLcut.out; have csam := HLsam.out; have cwan := HLwan.out; have cles := HLles.out; have chad := HLhad.out; have cH := HKH.out; have cA := HAB.out.2.2.2.2.2; omega) HB.out.size
    replace HB : Hid (Below w1.heap.size w1 ws19) := HB.out.trans bs19
    replace HW : Hid (Ghad + 1 ≤ ws19.heap.size) := Nat.le_trans HW.out hsp19.size
    clear Hsam hsp19 bs19 Hput Hcut Hwan Hles Hhad
    have Hput := Hputn
    clear Hputn
    have Hcut := Hcutn
    clear Hcutn
    have Hwan := Hwann
    clear Hwann
    have Hles := Hlesn
    clear Hlesn
    have Hhad := Hhadn
    clear Hhadn
    obtain ⟨aput0, aput1, aput2, aput3, _⟩ := cell4 Hput.out.1
    obtain ⟨eput, hAput⟩ := Hput.out.at (lnB_ln (by decide) _ HP.out.2.1)
    have HAput : Hid (At ws19 eput (.agg #[.int .i64 P.k, .bool P.e, .string P.t, .slice yput P.nms.length cput]) P) := hAput
    clear hAput
    obtain ⟨awan0, awan1, awan2, awan3, _⟩ := cell4 Hwan.out.1
    obtain ⟨ewan, hAwan⟩ := Hwan.out.at (lnB_ln (by decide) _ HP.out.2.1)
    have HAwan : Hid (At ws19 ewan (.agg #[.int .i64 P.k, .bool P.e, .string P.t, .slice ywan P.nms.length cwan]) P) := hAwan
    clear hAwan
    go_wp2_with fail
    refine (requal_any (eput + ewan) _ _ _ _ ws19 (HAput.out.upto (by omega)) (HAwan.out.upto (by omega))).mono ?_
    rintro en we20 ⟨⟨r20, rfl, hr20⟩, b20⟩
    obtain rfl : r20 = true := hr20.2 rfl
    clear hr20
    clear aput0 aput1 aput2 aput3 HAput awan0 awan1 awan2 awan3 HAwan
    replace Hput : Hid (ND we20 Lput Gput Gput P yput cput fput) := Hput.out.on b20
    replace Hcut : Hid (ND we20 Lcut Gcut Gcut Q ycut ccut fcut) := Hcut.out.on b20
    replace Hwan : Hid (ND we20 Lwan Gwan Gwan P ywan cwan fwan) := Hwan.out.on b20
    replace Hles : Hid (ND we20 Lles Gles Gles Q yles cles fles) := Hles.out.on b20
    replace Hhad : Hid (ND we20 Lhad Ghad Ghad R yhad chad fhad) := Hhad.out.on b20
    replace HB : Hid (Below w1.heap.size w1 we20) := HB.out.trans ((b20).mono HB.out.size)
    replace HW : Hid (Ghad + 1 ≤ we20.heap.size) := Nat.le_trans HW.out (b20).size
    clear b20
    obtain ⟨acut0, acut1, acut2, acut3, _⟩ := cell4 Hcut.out.1
    obtain ⟨ecut, hAcut⟩ := Hcut.out.at (lnB_ln (by decide) _ HQ.out.2.1)
    have HAcut : Hid (At we20 ecut (.agg #[.int .i64 Q.k, .bool Q.e, .string Q.t, .slice ycut Q.nms.length ccut]) Q) := hAcut
    clear hAcut
    obtain ⟨ales0, ales1, ales2, ales3, _⟩ := cell4 Hles.out.1
    obtain ⟨eles, hAles⟩ := Hles.out.at (lnB_ln (by decide) _ HQ.out.2.1)
    have HAles : Hid (At we20 eles (.agg #[.int .i64 Q.k, .bool Q.e, .string Q.t, .slice yles Q.nms.length cles]) Q) := hAles
    clear hAles
    go_wp2_with fail
    refine (requal_any (ecut + eles) _ _ _ _ we20 (HAcut.out.upto (by omega)) (HAles.out.upto (by omega))).mono ?_
    rintro en we21 ⟨⟨r21, rfl, hr21⟩, b21⟩
    obtain rfl : r21 = true := hr21.2 rfl
    clear hr21
    clear acut0 acut1 acut2 acut3 HAcut ales0 ales1 ales2 ales3 HAles
    replace Hput : Hid (ND we21 Lput Gput Gput P yput cput fput) := Hput.out.on b21
    replace Hcut : Hid (ND we21 Lcut Gcut Gcut Q ycut ccut fcut) := Hcut.out.on b21
    replace Hwan : Hid (ND we21 Lwan Gwan Gwan P ywan cwan fwan) := Hwan.out.on b21
    replace Hles : Hid (ND we21 Lles Gles Gles Q yles cles fles) := Hles.out.on b21
    replace Hhad : Hid (ND we21 Lhad Ghad Ghad R yhad chad fhad) := Hhad.out.on b21
    replace HB : Hid (Below w1.heap.size w1 we21) := HB.out.trans ((b21).mono HB.out.size)
    replace HW : Hid (Ghad + 1 ≤ we21.heap.size) := Nat.le_trans HW.out (b21).size
    clear b21
    obtain ⟨ap0, _, _, _, _⟩ := cell4 Hput.out.1
    obtain ⟨ah0, _, _, _, _⟩ := cell4 Hhad.out.1
    obtain ⟨ac0, _, _, _, _⟩ := cell4 Hcut.out.1
    have hk1 := HP.out.2.2
    have hk2 := HR.out.2.2
    have hk3 := HQ.out.2.2
    generalize P.k = pk at ap0 hk1
    generalize R.k = rk at ah0 hk2
    generalize Q.k = qk at ac0 hk3
    by_cases h1 : ce = 0 <;> by_cases h2 : cg = 0 <;> by_cases h3 : cu' = 0
    all_goals
      first
        | (have b1 : (ce == 0) = false := by simpa using h1)
        | (have h1' := hk1 h1
           have b1 : (pk == 0) = false := by simpa using h1'
           subst h1)
      first
        | (have b2 : (cg == 0) = false := by simpa using h2)
        | (have h2' := hk2 h2
           have b2 : (rk == 0) = false := by simpa using h2'
           subst h2)
      first
        | (have b3 : (cu' == 0) = false := by simpa using h3)
        | (have h3' := hk3 h3
           subst h3 h3')
      clear hk1 hk2 hk3
      go_wp2
      go_ret
      refine ⟨?_, HB0.out.trans (HB.out.mono HB0.out.size)⟩
      first
        | rfl
        | simp [*]

set_option maxHeartbeats 2000000 in
theorem open_nodeC {H : Type} {enc : TypeId × Value → H} {w : World} {sp : Nat → Bool} {held : Bool} (fuel : Nat) : ∀ (cs : List Value) (x : DataW H × List MemPlace), DataW.trod enc Tryd.prog w 0 sp held fuel 25 cs = some x → Rows.uptoBulk x.1 ≤ 1048576 →
    ∃ k e t z n c T, cs = [.int .i64 k, .bool e, .string t, .slice z n c] ∧ At w fuel (.agg #[.int .i64 k, .bool e, .string t, .slice z n c]) T ∧ smT T ∧ lnB 1048576 T := by
  induction fuel using Nat.strongRecOn with
  | ind fuel IH =>
    intro cs x h hw
    obtain ⟨xs, n1, rfl, rfl, hl, hlen, hfs⟩ := DataW.trod_struct Tryd.underlying25 h
    rw [nc25] at hl
    have g0 : DataW.trod enc Tryd.prog w 0 sp held n1 22 ((cs.drop 0).take (Tryd.prog.cellsOf 22)) = xs[0]? := hfs 0 _ rfl
    rw [nc22] at g0
    have g1 : DataW.trod enc Tryd.prog w 0 sp held n1 4 ((cs.drop 1).take (Tryd.prog.cellsOf 4)) = xs[1]? := hfs 1 _ rfl
    rw [nc4] at g1
    have g2 : DataW.trod enc Tryd.prog w 0 sp held n1 9 ((cs.drop 2).take (Tryd.prog.cellsOf 9)) = xs[2]? := hfs 2 _ rfl
    rw [nc9] at g2
    have g3 : DataW.trod enc Tryd.prog w 0 sp held n1 23 ((cs.drop 3).take (Tryd.prog.cellsOf 23)) = xs[3]? := hfs 3 _ rfl
    rw [nc23] at g3
    have hlen : xs.length = 4 := hlen
    clear hfs h
    match cs, hl, xs, hlen with
    | [u0, u1, u2, u3], _, [y0, y1, y2, y3], _ =>
      obtain ⟨k, hk, yk, _⟩ := DataW.trod_int Tryd.underlying22 (x := y0) g0
      obtain ⟨e, he, ye⟩ := DataW.trod_bool Tryd.underlying4 (x := y1) g1
      obtain ⟨t, ht, yt, _⟩ := DataW.trod_string Tryd.underlying9 (x := y2) g2
      have hw : Rows.uptoBulk y0.1 + (Rows.uptoBulk y1.1 + (Rows.uptoBulk y2.1 + (Rows.uptoBulk y3.1 + 0))) + 1 ≤ 1048576 := hw
      have htz : t.size ≤ 1048576 := by
        have e9 : Rows.uptoBulk y2.1 = t.data.toList.length + 1 := by rw [yt]; rfl
        have e8 : t.data.toList.length = t.size := by rw [Array.length_toList]; rfl
        omega
      have hw3 : Rows.uptoBulk y3.1 ≤ 1048576 := by omega
      simp at hk he ht
      subst hk he ht
      rcases DataW.trod_slice Tryd.underlying23 (x := y3) g3 with ⟨hc, _⟩ | ⟨a, len, cap, elems, rest, n2, rfl, hc, hx, _, hlc, _, hel, hE, _, _⟩
      · simp at hc
        subst hc
        exact ⟨k, e, t, none, 0, 0, .mk k e t [] [], rfl, ⟨none, 0, 0, rfl, rfl, rfl, Nat.le_refl _, by omega, Or.inl rfl⟩, by rw [smT]; exact ⟨htz, by rw [smL] <;> simp⟩, by rw [lnB, lnBL]; exact ⟨by simp, trivial⟩⟩
      · simp at hc
        subst hc
        rw [hx] at hw3
        have hw4 : Rows.uptoBulkAll (elems.map Prod.fst) + Rows.uptoBulkAll (rest.map Prod.fst) + 1 ≤ 1048576 := hw3
        have hb6 : len ≤ 1048576 := by
          have := bulk_len (elems.map Prod.fst)
          rw [List.length_map] at this
          omega
        have hb : len ≤ 1954687338211 := by
          have := bulk_len (elems.map Prod.fst)
          rw [List.length_map] at this
          omega
        have each : ∀ i, i < len → ∃ (s : ByteArray) (T : Tr) (k' : Int) (e' : Bool) (t' : ByteArray) (z : Option Addr) (p q : Nat), w.cell? ((a.add (i * 5)).add 0) = some (.string s) ∧ w.cell? ((a.add (i * 5)).add 1) = some (.int .i64 k') ∧ w.cell? ((a.add (i * 5)).add 2) = some (.bool e') ∧ w.cell? ((a.add (i * 5)).add 3) = some (.string t') ∧ w.cell? ((a.add (i * 5)).add 4) = some (.slice z p q) ∧ At w (n2 + 1) (.agg #[.int .i64 k', .bool e', .string t', .slice z p q]) T ∧ s.size ≤ 1048576 ∧ smT T ∧ lnB 1048576 T := by
          intro i hi
          have hi' := hE i hi
          rw [ncET] at hi'
          obtain ⟨zi, hz⟩ : ∃ zi, elems[i]? = some zi := ⟨_, List.getElem?_eq_getElem (by omega)⟩
          rw [hz, Option.bind_eq_some_iff] at hi'
          obtain ⟨l, hl5, htr⟩ := hi'
          obtain ⟨v0, v1, v2, v3, v4, rfl, c0, c1, c2, c3, c4⟩ := five_cells hl5
          obtain ⟨ys, n3, rfl, rfl, _, hyl, hys⟩ := DataW.trod_struct Tryd.underlying54 htr
          have r0 : DataW.trod enc Tryd.prog w 0 sp held n3 9 (([v0, v1, v2, v3, v4].drop 0).take (Tryd.prog.cellsOf 9)) = ys[0]? := hys 0 _ rfl
          rw [nc9] at r0
          have r1 : DataW.trod enc Tryd.prog w 0 sp held n3 25 (([v0, v1, v2, v3, v4].drop 1).take (Tryd.prog.cellsOf 25)) = ys[1]? := hys 1 _ rfl
          rw [nc25] at r1
          have hyl : ys.length = 2 := hyl
          match ys, hyl with
          | [w0, w1], _ =>
            obtain ⟨s, hs, ys, _⟩ := DataW.trod_string Tryd.underlying9 (x := w0) r0
            have hw5 : Rows.uptoBulk (DataW.agg [w0.1, w1.1]) ≤ Rows.uptoBulkAll (elems.map Prod.fst) := bulk_part (List.mem_map.2 ⟨_, List.mem_of_getElem? hz, by simp⟩)
            have hw6 : Rows.uptoBulk w0.1 + (Rows.uptoBulk w1.1 + 0) + 1 ≤ Rows.uptoBulkAll (elems.map Prod.fst) := hw5
            have hsz : s.size ≤ 1048576 := by
              have e9 : Rows.uptoBulk w0.1 = s.data.toList.length + 1 := by rw [ys]; rfl
              have e8 : s.data.toList.length = s.size := by rw [Array.length_toList]; rfl
              omega
            obtain ⟨k', e', t', z, p, q, T, hcs, hA, hsT⟩ := IH n3 (by omega) _ w1 r1 (by omega)
            simp at hs hcs
            obtain ⟨rfl, rfl, rfl, rfl⟩ := hcs
            subst hs
            exact ⟨s, T, k', e', t', z, p, q, c0, c1, c2, c3, c4, hA.upto (by omega), hsz, hsT⟩
        by_cases h0 : len = 0
        · subst h0
          exact ⟨k, e, t, some a, 0, cap, .mk k e t [] [], rfl, ⟨some a, 0, cap, rfl, rfl, rfl, hlc, by omega, Or.inl rfl⟩, by rw [smT]; exact ⟨htz, by rw [smL] <;> simp⟩, by rw [lnB, lnBL]; exact ⟨by simp, trivial⟩⟩
        · have hsp : a.spot = none := by
            obtain ⟨_, _, _, _, _, _, _, _, c0, _⟩ := each 0 (by omega)
            have : (a.add (0 * 5)).add 0 = a := by simp [Addr.add]
            rw [this] at c0
            exact spotN c0
          have hadd : ∀ i j, (a.add (i * 5)).add j = ⟨a.block, a.off + i * 5 + j, none⟩ := fun i j => by
            obtain ⟨g, o, s⟩ := a
            simp only at hsp
            subst hsp
            rw [Addr.add_lit, Addr.add_lit]
          have hblk : a.block < w.heap.size := by
            obtain ⟨_, _, _, _, _, _, _, _, c0, _⟩ := each 0 (by omega)
            rw [hadd] at c0
            have := World.block_lt_of_cell? (w := w) ⟨a.block, a.off + 0 * 5 + 0, none⟩ c0; exact this
          have ha : a = ⟨a.block, a.off, none⟩ := by obtain ⟨g, o, s⟩ := a; simp only at hsp; subst hsp; rfl
          let fs : Nat → ByteArray := fun i => if hi : i < len then (each i hi).choose else ByteArray.empty
          let ft : Nat → Tr := fun i => if hi : i < len then (each i hi).choose_spec.choose else .mk 0 false ByteArray.empty [] []
          refine ⟨k, e, t, some a, len, cap, .mk k e t ((List.range len).map fs) ((List.range len).map ft), rfl, ⟨some a, len, cap, rfl, by simp, by simp, hlc, hb, Or.inr ⟨a.block, a.off, by rw [← ha], hblk, fun j s T hs hT => ?_⟩⟩, by
            rw [smT]
            refine ⟨htz, smL_of _ _ (fun j s T hs hT => ?_)⟩
            have hj : j < len := by have := (List.getElem?_eq_some_iff.1 hs).1; simpa using this
            have es : s = (each j hj).choose := by simp [hj] at hs; rw [← hs]; simp [fs, hj]
            have eT : T = (each j hj).choose_spec.choose := by simp [hj] at hT; rw [← hT]; simp [ft, hj]
            obtain ⟨k', e', t', z, p, q, c0, c1, c2, c3, c4, hA, h8, h9⟩ := (each j hj).choose_spec.choose_spec
            rw [es, eT]
            exact ⟨h8, h9.1⟩, by
            rw [lnB]
            refine ⟨by simp; omega, lnBL_iff.2 (fun T hT => ?_)⟩
            obtain ⟨j, hj, rfl⟩ := List.mem_map.1 hT
            have hj : j < len := by simpa using hj
            have eT : ft j = (each j hj).choose_spec.choose := by simp [ft, hj]
            obtain ⟨k', e', t', z, p, q, c0, c1, c2, c3, c4, hA, h8, h9⟩ := (each j hj).choose_spec.choose_spec
            rw [eT]
            exact h9.2⟩
          have hj : j < len := by have := (List.getElem?_eq_some_iff.1 hs).1; simpa using this
          have es : s = (each j hj).choose := by simp [hj] at hs; rw [← hs]; simp [fs, hj]
          have eT : T = (each j hj).choose_spec.choose := by simp [hj] at hT; rw [← hT]; simp [ft, hj]
          obtain ⟨k', e', t', z, p, q, c0, c1, c2, c3, c4, hA, -, -⟩ := (each j hj).choose_spec.choose_spec
          refine ⟨k', e', t', z, p, q, (congrArg w.cell? (hadd j 0)).symm.trans (c0.trans (by rw [es])), (congrArg w.cell? (hadd j 1)).symm.trans c1, (congrArg w.cell? (hadd j 2)).symm.trans c2, (congrArg w.cell? (hadd j 3)).symm.trans c3, (congrArg w.cell? (hadd j 4)).symm.trans c4, ?_⟩
          rw [eT]; exact hA


theorem keeps_walkC (f : Nat) (k : Int) (e : Bool) (t : ByteArray) (z : Option Addr) (n cz : Nat) (T : Tr) (p : ByteArray) (fu : Nat) (ku : Int) (eu : Bool) (tu : ByteArray) (zu : Option Addr) (nu czu : Nat) (U : Tr) (w : World) (hA : At w f (.agg #[.int .i64 k, .bool e, .string t, .slice z n cz]) T) (hS : smT T) (hL : lnB 1048576 T) (hp : p.size ≤ 1048576) (hU : At w fu (.agg #[.int .i64 ku, .bool eu, .string tu, .slice zu nu czu]) U) (hSU : smT U) (hLU : lnB 1048576 U) :
    Calls Tryd.prog 6 #[.agg #[.int .i64 k, .bool e, .string t, .slice z n cz], .string p, .agg #[.int .i64 ku, .bool eu, .string tu, .slice zu nu czu]] w fun en w' => en = .returned (.bool true) ∧ Below w.heap.size w w' := keeps_walk f fu k e t z n cz T p ku eu tu zu nu czu U w hA hS hL hp hU hSU hLU

def firstCells : Array Value := (Go.Pinned.utf8FirstZ.map fun (n : Nat) => Value.int .u8 (n : Int)).toArray
def rangeCells : Array Value := (([128, 191, 160, 191, 128, 159, 144, 191, 128, 143] ++ List.replicate 22 0).map fun (n : Nat) => Value.int .u8 (n : Int)).toArray
end Go.Proofs.YtmknnblogfpifaaDoor
