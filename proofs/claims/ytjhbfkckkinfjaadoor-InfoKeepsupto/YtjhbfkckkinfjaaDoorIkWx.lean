/- The law InfoKeeps, walked (own text of the verifier). -/
import Derived.Test.YtjhbfkckkinfjaaDoorXB
import Derived.Test.YtjhbfkckkinfjaaDoorXD
import Derived.Test.YtjhbfkckkinfjaaDoorInV
import Derived.Test.YtjhbfkckkinfjaaDoorIoF
import Derived.Test.YtjhbfkckkinfjaaDoorIoD
import Derived.Test.YtjhbfkckkinfjaaDoorInO
import Derived.Deep.CutRange
import Derived.Deep.RegionHeld
namespace Go.Proofs.YtjhbfkckkinfjaaDoor
open Go.RowKit Go.Shelf

/-- What the law's region of tests keeps. -/
structure Ke9 (w : World) (P : ByteArray) (D : Nat → Int) (z : Int) (F : ByteArray) (vr vs : Value) (g g3 ga4 nr capa4 : Nat) (fr : Nat → ByteArray) (ga5 ns capa5 : Nat) (fs : Nat → ByteArray) (W : World) : Prop where
  i1 : Inf W g P D z vr F vs
  i3 : Inf W g3 P D z (.slice (some ⟨ga4, 0, none⟩) nr capa4) F (.slice (some ⟨ga5, 0, none⟩) ns capa5)
  r4 : OwnS W w.heap.size (.slice (some ⟨ga4, 0, none⟩) (nr + 1) capa4) (txL fr nr ++ [gapB])
  r5 : OwnS W w.heap.size (.slice (some ⟨ga5, 0, none⟩) (ns + 1) capa5) (txL fs ns ++ [gapB])
  c4 : W.cell? ⟨ga4, nr, none⟩ = some (.string ⟨#[103, 97, 112]⟩)
  c5 : W.cell? ⟨ga5, ns, none⟩ = some (.string ⟨#[103, 97, 112]⟩)
  bel : Below w.heap.size w W
theorem Ke9.next {w : World} {P : ByteArray} {D : Nat → Int} {z : Int} {F : ByteArray} {vr vs : Value} {g g3 ga4 nr capa4 : Nat} {fr : Nat → ByteArray} {ga5 ns capa5 : Nat} {fs : Nat → ByteArray} {W W' : World} (h : Ke9 w P D z F vr vs g g3 ga4 nr capa4 fr ga5 ns capa5 fs W) (c : Below W.heap.size W W') : Ke9 w P D z F vr vs g g3 ga4 nr capa4 fr ga5 ns capa5 fs W' := by
  have r4 := h.r4.same (fun g h' => c.block g (h.r4.ge h').2)
  have r5 := h.r5.same (fun g h' => c.block g (h.r5.ge h').2)
  exact ⟨h.i1.below c h.i1.lt, h.i3.below c h.i3.lt, r4, r5, (gap_row r4).2.1, (gap_row r5).2.1, h.bel.trans (c.mono h.bel.size)⟩

set_option maxRecDepth 100000 in
set_option maxHeartbeats 8000000 in
theorem ikeep_walk (P : ByteArray) (D : Nat → Int) (z : Int) (F : ByteArray) (xr : Option Addr) (nr cr : Nat) (fr : Nat → ByteArray) (xs : Option Addr) (ns cz : Nat) (fs : Nat → ByteArray) (w : World)
    (hr : SIs w xr nr fr) (hs : SIs w xs ns fs) (hnc : nr ≤ cr ∧ ns ≤ cz) (hm : nr ≤ 1048576 ∧ ns ≤ 1048576) (hsz : ∀ i, i < ns → (fs i).size ≤ 1048576) (_hrz : ∀ i, i < nr → (fr i).size ≤ 1048576) (hD : ∀ j, 0 ≤ D j ∧ D j < 256) (_hPz : P.size ≤ 1048576) (_hFz : F.size ≤ 1048576) (hT : PT w) :
    Calls Tryd.prog 3 #[.agg (infC P D z (.slice xr nr cr) F (.slice xs ns cz))] w fun e w' => e = .returned (.bool true) ∧ Below w.heap.size w w' := by
  have I0 : Inf (w.alloc (.cells (infC P D z (.slice xr nr cr) F (.slice xs ns cz)) 26)) w.heap.size P D z (.slice xr nr cr) F (.slice xs ns cz) := Inf.box _ _ _ _ _ _ _ _
  have B0 : Below w.heap.size w (w.alloc (.cells (infC P D z (.slice xr nr cr) F (.slice xs ns cz)) 26)) := (Below.refl _ _).alloc (Nat.le_refl _) _
  have CA := fun W (b : Below w.heap.size w W) => iaw_any W (hT.below b)
  have HH : Hid (SIs w xr nr fr ∧ SIs w xs ns fs ∧ (nr ≤ cr ∧ ns ≤ cz) ∧ (nr ≤ 1048576 ∧ ns ≤ 1048576) ∧ (∀ i, i < ns → (fs i).size ≤ 1048576) ∧ (∀ j, 0 ≤ D j ∧ D j < 256) ∧ PT w) := ⟨hr, hs, hnc, hm, hsz, hD, hT⟩
  clear hr hs hnc hm hsz hD hT _hrz _hPz _hFz
  go_enter Tryd.func3, Tryd.ntmps3
  go_wp2_with fail
  generalize w.alloc (.cells (infC P D z (.slice xr nr cr) F (.slice xs ns cz)) 26) = w0 at I0 B0 ⊢
  refine (CA w0 B0).mono ?_
  rintro e w1 ⟨rfl, b1⟩
  have I1 := I0.below b1 I0.lt
  have B1 : Hid (Below w.heap.size w w1) := B0.trans (b1.mono B0.size)
  have hl1 : Hid (w.heap.size < w1.heap.size) := I1.lt
  have K1 : Inf (w1.alloc (.cells (infC ⟨#[]⟩ (fun _ => 0) 0 (.slice none 0 0) ⟨#[]⟩ (.slice none 0 0)) 26)) w1.heap.size ⟨#[]⟩ (fun _ => 0) 0 (.slice none 0 0) ⟨#[]⟩ (.slice none 0 0) := Inf.box _ _ _ _ _ _ _ _
  clear I0 B0 b1 CA
  go_wp2_with (first | (refine wpList_load_infG (by rfl) (.tmp 1) (by rfl) (by rfl) I1 ?_) | (refine wpList_store_infI (by rfl) (.tmp 3) (.tmp 15) (by rfl) (by rfl) (by rfl) K1 rfl rfl (by rfl) ?_; intro W3 K3 U3; refine Hid.out ?_))
  unfold Hid
  have I3 : Inf W3 w.heap.size P D z (.slice xr nr cr) F (.slice xs ns cz) := I1.same ((U3.block _ (by rw [World.size_alloc]; have := hl1.out; omega) (by have := hl1.out; omega)).trans (Below.heap_alloc _ _ _ I1.lt))
  have B3 : Below w.heap.size w W3 := U3.below (B1.out.alloc B1.out.size _) (by have := hl1.out; omega) (by rw [World.size_alloc]; have := hl1.out; omega)
  have HS3 : Hid (KeW w P D z F (.slice xr nr cr) (.slice xs ns cz) w.heap.size W3) := ⟨I3, B3⟩
  obtain ⟨g3, hg3⟩ : ∃ g3, w1.heap.size = g3 := ⟨_, rfl⟩
  rw [hg3] at K3 hl1 ⊢
  have HM3 : Hid (Inf W3 g3 P D z (.slice xr nr cr) F (.slice xs ns cz)) := K3
  have HG3 : Hid (w.heap.size < g3) := hl1.out
  clear I3 B3 K3 U3 I1 B1 hl1 K1 hg3
  go_upto_region 4 with fail
  -- @4
  go_cut [] from 16 to 26 (fun wx => ∃ ga4 capa4, nr + 1 ≤ capa4 ∧ Hid (KeW w P D z F (.slice xr nr cr) (.slice xs ns cz) w.heap.size wx ∧ Inf wx g3 P D z (.slice (some ⟨ga4, 0, none⟩) nr capa4) F (.slice xs ns cz) ∧ OwnS wx w.heap.size (.slice (some ⟨ga4, 0, none⟩) (nr + 1) capa4) (txL fr nr ++ [gapB]) ∧ W3.heap.size ≤ ga4 ∧ (∀ b, b < W3.heap.size → b ≠ g3 → wx.heap[b]? = W3.heap[b]?) ∧ W3.heap.size ≤ wx.heap.size))
  case first =>
    refine wp_region_held_drew (S := KeW w P D z F (.slice xr nr cr) (.slice xs ns cz) w.heap.size) (by kernel_rfl) ⟨HS3.out.inf.same rfl, HS3.out.bel.drew⟩ (fun hS => ?_)
    have HS0 : Hid (KeW w P D z F (.slice xr nr cr) (.slice xs ns cz) w.heap.size W3.drew) := hS
    have HM : Hid (Inf W3.drew g3 P D z (.slice xr nr cr) F (.slice xs ns cz)) := HM3.out.same rfl
    have HK : Hid (Below W3.drew.heap.size W3.drew W3.drew) := Below.refl _ _
    have HWD : Hid (W3.drew.heap = W3.heap) := rfl
    generalize W3.drew = wd at *
    refine wpAnyH_take (i := 1) (oi := { dst := some 17, op := Op.fieldAddr 26 (Operand.tmp 1) 3, type := 0, pos := "law.go:173", after := #[], guard := none }) (v := .pointer (some ⟨w.heap.size, 34, none⟩)) rfl (by kernel_rfl) (by kernel_rfl) (by kernel_rfl) (fun _ _ _ h => h) (Or.inl ⟨by rfl, by intro w _; go_simp⟩) hS ?_
    try simp only [Act.put, List.setIfInBounds_toArray, List.set_cons_zero, List.set_cons_succ]
    refine wpAnyH_take (i := 2) (oi := { dst := some 18, op := Op.load 24 (Operand.tmp 17), type := 24, pos := "law.go:173", after := #[{ on := 1, ground := Ground.data }], guard := none }) (v := .slice xr nr cr) rfl (by kernel_rfl) (by kernel_rfl) (by kernel_rfl) (fun _ _ _ h => h) (Or.inl ⟨by rfl, by intro w' s'; have c9 := s'.inf.refs; go_simp⟩) hS ?_
    try simp only [Act.put, List.setIfInBounds_toArray, List.set_cons_zero, List.set_cons_succ]
    refine wpAnyH_take (i := 6) (oi := { dst := some 22, op := Op.fieldAddr 26 (Operand.tmp 1) 3, type := 0, pos := "law.go:173", after := #[], guard := none }) (v := .pointer (some ⟨w.heap.size, 34, none⟩)) rfl (by kernel_rfl) (by kernel_rfl) (by kernel_rfl) (fun _ _ _ h => h) (Or.inl ⟨by rfl, by intro w _; go_simp⟩) hS ?_
    try simp only [Act.put, List.setIfInBounds_toArray, List.set_cons_zero, List.set_cons_succ]
    refine wpAnyH_take (i := 7) (oi := { dst := some 23, op := Op.load 24 (Operand.tmp 22), type := 24, pos := "law.go:173", after := #[{ on := 6, ground := Ground.data }], guard := none }) (v := .slice xr nr cr) rfl (by kernel_rfl) (by kernel_rfl) (by kernel_rfl) (fun _ _ _ h => h) (Or.inl ⟨by rfl, by intro w' s'; have c9 := s'.inf.refs; go_simp⟩) hS ?_
    try simp only [Act.put, List.setIfInBounds_toArray, List.set_cons_zero, List.set_cons_succ]
    refine wpAnyH_take (i := 8) (oi := { dst := some 24, op := Op.call { callee := Callee.builtin Builtin.len, args := #[Operand.tmp 23], argTypes := #[24] }, type := 3, pos := "law.go:173", after := #[{ on := 7, ground := Ground.data }], guard := none }) (v := .int .i64 nr) rfl (by kernel_rfl) (by kernel_rfl) (by kernel_rfl) (fun _ _ _ h => h) (Or.inl ⟨by rfl, by intro w _; go_simp⟩) hS ?_
    try simp only [Act.put, List.setIfInBounds_toArray, List.set_cons_zero, List.set_cons_succ]
    refine wpAnyH_ready (rs := [0, 4]) (by kernel_rfl) (by decide) (AllReadyH.cons rfl (fun K1 hK1 => ?_) (AllReadyH.cons rfl (fun K1 hK1 => ?_) AllReadyH.nil))
    · have bx : Below wd.heap.size wd (wd.alloc (.cells #[] 9)) := (Below.refl _ _).alloc (Nat.le_refl _) _
      have zx : (wd.alloc (.cells #[] 9)).heap[wd.heap.size]? = some (.cells #[] 9 (0, 0)) := heap_alloc_new _ _
      have hz := HK.out.size
      rw [if_pos (by rfl)]
      go_simp
      clear hS
      have HKn : Hid (Below wd.heap.size wd (wd.alloc (.cells #[] 9))) := HK.out.trans (bx.mono HK.out.size)
      have hS : KeW w P D z F (.slice xr nr cr) (.slice xs ns cz) w.heap.size (wd.alloc (.cells #[] 9)) := ⟨HS0.out.inf.below HKn.out HS0.out.inf.lt, HS0.out.bel.trans (HKn.out.mono HS0.out.bel.size)⟩
      refine hK1.out _ _ hS (fun _ => ?_)
      clear hK1 K1
      try simp only [Act.put, List.setIfInBounds_toArray, List.set_cons_zero, List.set_cons_succ]
      obtain ⟨g0, hgx⟩ : ∃ g, wd.heap.size = g := ⟨_, rfl⟩
      rw [hgx]
      have H0 : Hid (OwnS (wd.alloc (.cells #[] 9)) w.heap.size (.slice (some ⟨g0, 0, none⟩) 0 0) [] ∧ wd.heap.size ≤ g0) := by
        rw [← hgx]
        exact ⟨⟨rfl, .inr ⟨_, 0, #[], rfl, Nat.le_trans HS0.out.bel.size hz, zx, Nat.le_refl _, Nat.zero_le _, rfl, rfl⟩⟩, hz⟩
      have HG0 : Hid (g0 < (wd.alloc (.cells #[] 9)).heap.size) := by
        show g0 < (wd.alloc (.cells #[] 9)).heap.size
        rw [World.size_alloc, hgx]; omega
      clear HK
      have HK := HKn
      clear HKn bx zx hz hgx
      generalize wd.alloc (.cells #[] 9) = wq1 at *
      refine wpAnyH_ready (rs := [3, 4]) (by kernel_rfl) (by decide) (AllReadyH.cons rfl (fun K1 hK1 => ?_) (AllReadyH.cons rfl (fun K1 hK1 => ?_) AllReadyH.nil))
      · obtain ⟨v1, wq2, hr3, hO3, hg3, hat3⟩ := OwnS.all H0.out.1 xr nr cr fr (HH.out.1.below (HS0.out.bel.trans (HK.out.mono HS0.out.bel.size)) (Nat.le_refl _)) (by have := HH.out.2.2.2.1; omega) (Nat.le_trans HS0.out.bel.size HK.out.size)
        refine step_append_runI rfl (.tmp 16) (.tmp 18) 24 24 rfl _ _ (by simp [Act.eval]) (by simp [Act.eval]) hr3 ?_
        clear hS
        have H3 : Hid (OwnS wq2 w.heap.size v1 (txL fr nr) ∧ (∀ k, v1.ownBlock = some k → wd.heap.size ≤ k)) := ⟨hO3, fun k hk => by
          rcases hat3 with h | h
          · rw [h] at hk; injection hk with hk; rw [← hk]; exact H0.out.2
          · rw [h] at hk; injection hk with hk; rw [← hk]; exact HK.out.size⟩
        replace HK : Hid (Below wd.heap.size wd wq2) := grown_belowZ HK.out hg3 (fun k hk => by injection hk with hk; rw [← hk]; exact H0.out.2)
        have hS : KeW w P D z F (.slice xr nr cr) (.slice xs ns cz) w.heap.size wq2 := ⟨HS0.out.inf.below HK.out HS0.out.inf.lt, HS0.out.bel.trans (HK.out.mono HS0.out.bel.size)⟩
        refine hK1.out _ _ hS (fun _ => ?_)
        clear hK1 K1 hr3 hO3 hg3 hat3 H0 HG0
        try simp only [Act.put, List.setIfInBounds_toArray]
        refine wpAnyH_ready (rs := [4]) (by kernel_rfl) (by decide) (AllReadyH.cons rfl (fun K1 hK1 => ?_) AllReadyH.nil)
        have bx : Below wq2.heap.size wq2 (wq2.alloc (.cells #[.string ⟨#[103, 97, 112]⟩] 9)) := (Below.refl _ _).alloc (Nat.le_refl _) _
        have zx : (wq2.alloc (.cells #[.string ⟨#[103, 97, 112]⟩] 9)).heap[wq2.heap.size]? = some (.cells #[.string ⟨#[103, 97, 112]⟩] 9 (0, 0)) := heap_alloc_new _ _
        have hz := HK.out.size
        rw [if_pos (by rfl)]
        go_simp
        clear hS
        have HKn : Hid (Below wd.heap.size wd (wq2.alloc (.cells #[.string ⟨#[103, 97, 112]⟩] 9))) := HK.out.trans (bx.mono HK.out.size)
        have hS : KeW w P D z F (.slice xr nr cr) (.slice xs ns cz) w.heap.size (wq2.alloc (.cells #[.string ⟨#[103, 97, 112]⟩] 9)) := ⟨HS0.out.inf.below HKn.out HS0.out.inf.lt, HS0.out.bel.trans (HKn.out.mono HS0.out.bel.size)⟩
        refine hK1.out _ _ hS (fun _ => ?_)
        clear hK1 K1
        try simp only [Act.put, List.setIfInBounds_toArray, List.set_cons_zero, List.set_cons_succ]
        obtain ⟨gq, hgx⟩ : ∃ g, wq2.heap.size = g := ⟨_, rfl⟩
        rw [hgx]
        have H4 : Hid ((wq2.alloc (.cells #[.string ⟨#[103, 97, 112]⟩] 9)).heap[gq]? = some (.cells #[.string ⟨#[103, 97, 112]⟩] 9 (0, 0)) ∧ wd.heap.size ≤ gq) := ⟨by rw [← hgx]; exact zx, by rw [← hgx]; exact hz⟩
        replace H3 : Hid (OwnS (wq2.alloc (.cells #[.string ⟨#[103, 97, 112]⟩] 9)) w.heap.size v1 (txL fr nr) ∧ (∀ k, v1.ownBlock = some k → wd.heap.size ≤ k)) := ⟨H3.out.1.alloc _, H3.out.2⟩
        clear HK
        have HK := HKn
        clear HKn bx zx hz hgx
        generalize wq2.alloc (.cells #[.string ⟨#[103, 97, 112]⟩] 9) = wq3 at *
        obtain ⟨ga4, capa4, wq4, hr5, hO5, hg5, hat5⟩ := OwnS.more H3.out.1 gq 1 gapB (by rw [Lib.cell_of_heap H4.out.1]; rfl) (by rw [txL_len]; have := HH.out.2.2.2.1; omega) (Nat.le_trans HS0.out.bel.size HK.out.size)
        rw [txL_len] at hr5 hO5
        have hga : wd.heap.size ≤ ga4 := by
          rcases hat5 with h | h
          · exact H3.out.2 ga4 h
          · rw [h]; exact HK.out.size
        refine wpAnyH_ready (rs := [5]) (by kernel_rfl) (by decide) (AllReadyH.cons rfl (fun K1 hK1 => ?_) AllReadyH.nil)
        refine step_append_runI rfl (.tmp 19) (.tmp 20) 24 24 rfl _ _ (by simp [Act.eval]) (by simp [Act.eval]) hr5 ?_
        clear hS
        replace HK : Hid (Below wd.heap.size wd wq4) := grown_belowZ HK.out hg5 (fun k hk => H3.out.2 k hk)
        have hS : KeW w P D z F (.slice xr nr cr) (.slice xs ns cz) w.heap.size wq4 := ⟨HS0.out.inf.below HK.out HS0.out.inf.lt, HS0.out.bel.trans (HK.out.mono HS0.out.bel.size)⟩
        refine hK1.out _ _ hS (fun _ => ?_)
        clear hK1 K1
        try simp only [Act.put, List.setIfInBounds_toArray]
        have HO5 : Hid (OwnS wq4 w.heap.size (.slice (some ⟨ga4, 0, none⟩) (nr + 1) capa4) (txL fr nr ++ [gapB]) ∧ wd.heap.size ≤ ga4) := ⟨hO5, hga⟩
        have hca : nr + 1 ≤ capa4 := by
          rcases hO5.2 with ⟨h, _⟩ | ⟨_, _, _, h, _, _, h2, _⟩
          · cases h
          · injection h with _ h1 h3; rw [h3]; simpa [txL_len] using h2
        have hcn : ¬ capa4 < nr := by omega
        have hcm : nr ≤ capa4 := by omega
        have hca2 : capa4 ≤ 9223372036854775807 := by
          rcases hO5.2 with ⟨h, _⟩ | ⟨_, _, _, h, _, _, _, h2, _⟩
          · cases h
          · injection h with _ h1 h3; rw [h3]; exact h2
        clear hO5 hr5 hg5 hat5 H3 H4 hga
        refine wpAnyH_take (i := 9) (oi := { dst := some 25, op := Op.slice 24 (Operand.tmp 21) none (some (Operand.tmp 24)) none, type := 24, pos := "law.go:173", after := #[{ on := 5, ground := Ground.data }, { on := 8, ground := Ground.data }], guard := none }) (v := .slice (some ⟨ga4, 0, none⟩) nr capa4) rfl (by kernel_rfl) (by kernel_rfl) (by kernel_rfl) (fun _ _ _ h => h) (Or.inl ⟨by rfl, by intro w _; go_simp⟩) hS ?_
        try simp only [Act.put]
        refine wpAnyH_take (i := 10) (oi := { dst := some 26, op := Op.fieldAddr 26 (Operand.tmp 3) 3, type := 0, pos := "law.go:173", after := #[{ on := 0, ground := Ground.phase }, { on := 1, ground := Ground.phase }, { on := 2, ground := Ground.phase }, { on := 3, ground := Ground.phase }, { on := 4, ground := Ground.phase }, { on := 5, ground := Ground.phase }, { on := 6, ground := Ground.phase }, { on := 7, ground := Ground.phase }, { on := 8, ground := Ground.phase }, { on := 9, ground := Ground.phase }], guard := none }) (v := .pointer (some ⟨g3, 34, none⟩)) rfl (by kernel_rfl) (by kernel_rfl) (by kernel_rfl) (fun _ _ _ h => h) (Or.inl ⟨by rfl, by intro w _; go_simp⟩) hS ?_
        try simp only [Act.put]
        have M5 : Inf wq4 g3 P D z (.slice xr nr cr) F (.slice xs ns cz) := HM.out.below HK.out HM.out.lt
        have c5 := M5.refs
        have f5 := M5.free 34 (by omega)
        refine wpAnyH_ready (rs := [11]) (by kernel_rfl) (by decide) (AllReadyH.cons rfl (fun K1 hK1 => ?_) AllReadyH.nil)
        rw [if_pos (by rfl)]
        go_simp
        have hS9 : KeW w P D z F (.slice xr nr cr) (.slice xs ns cz) w.heap.size (wq4.setCell ⟨g3, 34, none⟩ (.slice (some ⟨ga4, 0, none⟩) nr capa4)) := ⟨hS.inf.same (Below.heap_setCell _ ⟨g3, 34, none⟩ _ _ (by show w.heap.size ≠ g3; have := HG3.out; omega)), hS.bel.setCell (by show w.heap.size ≤ g3; have := HG3.out; omega) _⟩
        refine hK1.out _ _ hS9 (fun _ => ?_)
        clear hK1 K1
        refine wpAnyH_done (by kernel_rfl) ?_ _
        (try go_wp2_with fail)
        go_meet
        exact ⟨ga4, capa4, hca, ⟨hS9, M5.setRefs _, HO5.out.1.same (fun g h => Below.heap_setCell _ ⟨g3, 34, none⟩ _ g (by have h' : some ga4 = some g := h; injection h' with h'; show g ≠ g3; have := HO5.out.2; have := HM.out.lt; omega)), by rw [← HWD.out]; exact HO5.out.2, fun b hb hne => by rw [← HWD.out] at hb ⊢; exact (Below.heap_setCell _ ⟨g3, 34, none⟩ _ b hne).trans (HK.out.block b hb), by rw [← HWD.out, World.size_setCell]; exact HK.out.size⟩⟩
      · have bx : Below wq1.heap.size wq1 (wq1.alloc (.cells #[.string ⟨#[103, 97, 112]⟩] 9)) := (Below.refl _ _).alloc (Nat.le_refl _) _
        have zx : (wq1.alloc (.cells #[.string ⟨#[103, 97, 112]⟩] 9)).heap[wq1.heap.size]? = some (.cells #[.string ⟨#[103, 97, 112]⟩] 9 (0, 0)) := heap_alloc_new _ _
        have hz := HK.out.size
        rw [if_pos (by rfl)]
        go_simp
        clear hS
        have HKn : Hid (Below wd.heap.size wd (wq1.alloc (.cells #[.string ⟨#[103, 97, 112]⟩] 9))) := HK.out.trans (bx.mono HK.out.size)
        have hS : KeW w P D z F (.slice xr nr cr) (.slice xs ns cz) w.heap.size (wq1.alloc (.cells #[.string ⟨#[103, 97, 112]⟩] 9)) := ⟨HS0.out.inf.below HKn.out HS0.out.inf.lt, HS0.out.bel.trans (HKn.out.mono HS0.out.bel.size)⟩
        refine hK1.out _ _ hS (fun _ => ?_)
        clear hK1 K1
        try simp only [Act.put, List.setIfInBounds_toArray, List.set_cons_zero, List.set_cons_succ]
        obtain ⟨gq, hgx⟩ : ∃ g, wq1.heap.size = g := ⟨_, rfl⟩
        rw [hgx]
        have H4 : Hid ((wq1.alloc (.cells #[.string ⟨#[103, 97, 112]⟩] 9)).heap[gq]? = some (.cells #[.string ⟨#[103, 97, 112]⟩] 9 (0, 0)) ∧ wd.heap.size ≤ gq ∧ gq ≠ g0) := ⟨by rw [← hgx]; exact zx, by rw [← hgx]; exact hz, by have h0 := HG0.out; omega⟩
        replace H0 : Hid (OwnS (wq1.alloc (.cells #[.string ⟨#[103, 97, 112]⟩] 9)) w.heap.size (.slice (some ⟨g0, 0, none⟩) 0 0) [] ∧ wd.heap.size ≤ g0) := ⟨H0.out.1.alloc _, H0.out.2⟩
        clear HK
        have HK := HKn
        clear HKn bx zx hz hgx
        generalize wq1.alloc (.cells #[.string ⟨#[103, 97, 112]⟩] 9) = wq5 at *
        refine wpAnyH_ready (rs := [3]) (by kernel_rfl) (by decide) (AllReadyH.cons rfl (fun K1 hK1 => ?_) AllReadyH.nil)
        obtain ⟨v1, wq6, hr3, hO3, hg3, hat3⟩ := OwnS.all H0.out.1 xr nr cr fr (HH.out.1.below (HS0.out.bel.trans (HK.out.mono HS0.out.bel.size)) (Nat.le_refl _)) (by have := HH.out.2.2.2.1; omega) (Nat.le_trans HS0.out.bel.size HK.out.size)
        refine step_append_runI rfl (.tmp 16) (.tmp 18) 24 24 rfl _ _ (by simp [Act.eval]) (by simp [Act.eval]) hr3 ?_
        clear hS
        have H3 : Hid (OwnS wq6 w.heap.size v1 (txL fr nr) ∧ (∀ k, v1.ownBlock = some k → wd.heap.size ≤ k)) := ⟨hO3, fun k hk => by
          rcases hat3 with h | h
          · rw [h] at hk; injection hk with hk; rw [← hk]; exact H0.out.2
          · rw [h] at hk; injection hk with hk; rw [← hk]; exact HK.out.size⟩
        replace H4 : Hid (wq6.heap[gq]? = some (.cells #[.string ⟨#[103, 97, 112]⟩] 9 (0, 0)) ∧ wd.heap.size ≤ gq) := ⟨(hg3.block gq (heap_lt H4.out.1) (fun h => by injection h with h; exact H4.out.2.2 h)).trans H4.out.1, H4.out.2.1⟩
        replace HK : Hid (Below wd.heap.size wd wq6) := grown_belowZ HK.out hg3 (fun k hk => by injection hk with hk; rw [← hk]; exact H0.out.2)
        have hS : KeW w P D z F (.slice xr nr cr) (.slice xs ns cz) w.heap.size wq6 := ⟨HS0.out.inf.below HK.out HS0.out.inf.lt, HS0.out.bel.trans (HK.out.mono HS0.out.bel.size)⟩
        refine hK1.out _ _ hS (fun _ => ?_)
        clear hK1 K1 hr3 hO3 hg3 hat3 H0 HG0
        try simp only [Act.put, List.setIfInBounds_toArray]
        obtain ⟨ga4, capa4, wq7, hr5, hO5, hg5, hat5⟩ := OwnS.more H3.out.1 gq 1 gapB (by rw [Lib.cell_of_heap H4.out.1]; rfl) (by rw [txL_len]; have := HH.out.2.2.2.1; omega) (Nat.le_trans HS0.out.bel.size HK.out.size)
        rw [txL_len] at hr5 hO5
        have hga : wd.heap.size ≤ ga4 := by
          rcases hat5 with h | h
          · exact H3.out.2 ga4 h
          · rw [h]; exact HK.out.size
        refine wpAnyH_ready (rs := [5]) (by kernel_rfl) (by decide) (AllReadyH.cons rfl (fun K1 hK1 => ?_) AllReadyH.nil)
        refine step_append_runI rfl (.tmp 19) (.tmp 20) 24 24 rfl _ _ (by simp [Act.eval]) (by simp [Act.eval]) hr5 ?_
        clear hS
        replace HK : Hid (Below wd.heap.size wd wq7) := grown_belowZ HK.out hg5 (fun k hk => H3.out.2 k hk)
        have hS : KeW w P D z F (.slice xr nr cr) (.slice xs ns cz) w.heap.size wq7 := ⟨HS0.out.inf.below HK.out HS0.out.inf.lt, HS0.out.bel.trans (HK.out.mono HS0.out.bel.size)⟩
        refine hK1.out _ _ hS (fun _ => ?_)
        clear hK1 K1
        try simp only [Act.put]
        have HO5 : Hid (OwnS wq7 w.heap.size (.slice (some ⟨ga4, 0, none⟩) (nr + 1) capa4) (txL fr nr ++ [gapB]) ∧ wd.heap.size ≤ ga4) := ⟨hO5, hga⟩
        have hca : nr + 1 ≤ capa4 := by
          rcases hO5.2 with ⟨h, _⟩ | ⟨_, _, _, h, _, _, h2, _⟩
          · cases h
          · injection h with _ h1 h3; rw [h3]; simpa [txL_len] using h2
        have hcn : ¬ capa4 < nr := by omega
        have hcm : nr ≤ capa4 := by omega
        have hca2 : capa4 ≤ 9223372036854775807 := by
          rcases hO5.2 with ⟨h, _⟩ | ⟨_, _, _, h, _, _, _, h2, _⟩
          · cases h
          · injection h with _ h1 h3; rw [h3]; exact h2
        clear hO5 hr5 hg5 hat5 H3 H4 hga
        refine wpAnyH_take (i := 9) (oi := { dst := some 25, op := Op.slice 24 (Operand.tmp 21) none (some (Operand.tmp 24)) none, type := 24, pos := "law.go:173", after := #[{ on := 5, ground := Ground.data }, { on := 8, ground := Ground.data }], guard := none }) (v := .slice (some ⟨ga4, 0, none⟩) nr capa4) rfl (by kernel_rfl) (by kernel_rfl) (by kernel_rfl) (fun _ _ _ h => h) (Or.inl ⟨by rfl, by intro w _; go_simp⟩) hS ?_
        try simp only [Act.put]
        refine wpAnyH_take (i := 10) (oi := { dst := some 26, op := Op.fieldAddr 26 (Operand.tmp 3) 3, type := 0, pos := "law.go:173", after := #[{ on := 0, ground := Ground.phase }, { on := 1, ground := Ground.phase }, { on := 2, ground := Ground.phase }, { on := 3, ground := Ground.phase }, { on := 4, ground := Ground.phase }, { on := 5, ground := Ground.phase }, { on := 6, ground := Ground.phase }, { on := 7, ground := Ground.phase }, { on := 8, ground := Ground.phase }, { on := 9, ground := Ground.phase }], guard := none }) (v := .pointer (some ⟨g3, 34, none⟩)) rfl (by kernel_rfl) (by kernel_rfl) (by kernel_rfl) (fun _ _ _ h => h) (Or.inl ⟨by rfl, by intro w _; go_simp⟩) hS ?_
        try simp only [Act.put]
        have M5 : Inf wq7 g3 P D z (.slice xr nr cr) F (.slice xs ns cz) := HM.out.below HK.out HM.out.lt
        have c5 := M5.refs
        have f5 := M5.free 34 (by omega)
        refine wpAnyH_ready (rs := [11]) (by kernel_rfl) (by decide) (AllReadyH.cons rfl (fun K1 hK1 => ?_) AllReadyH.nil)
        rw [if_pos (by rfl)]
        go_simp
        have hS9 : KeW w P D z F (.slice xr nr cr) (.slice xs ns cz) w.heap.size (wq7.setCell ⟨g3, 34, none⟩ (.slice (some ⟨ga4, 0, none⟩) nr capa4)) := ⟨hS.inf.same (Below.heap_setCell _ ⟨g3, 34, none⟩ _ _ (by show w.heap.size ≠ g3; have := HG3.out; omega)), hS.bel.setCell (by show w.heap.size ≤ g3; have := HG3.out; omega) _⟩
        refine hK1.out _ _ hS9 (fun _ => ?_)
        clear hK1 K1
        refine wpAnyH_done (by kernel_rfl) ?_ _
        (try go_wp2_with fail)
        go_meet
        exact ⟨ga4, capa4, hca, ⟨hS9, M5.setRefs _, HO5.out.1.same (fun g h => Below.heap_setCell _ ⟨g3, 34, none⟩ _ g (by have h' : some ga4 = some g := h; injection h' with h'; show g ≠ g3; have := HO5.out.2; have := HM.out.lt; omega)), by rw [← HWD.out]; exact HO5.out.2, fun b hb hne => by rw [← HWD.out] at hb ⊢; exact (Below.heap_setCell _ ⟨g3, 34, none⟩ _ b hne).trans (HK.out.block b hb), by rw [← HWD.out, World.size_setCell]; exact HK.out.size⟩⟩
    · have bx : Below wd.heap.size wd (wd.alloc (.cells #[.string ⟨#[103, 97, 112]⟩] 9)) := (Below.refl _ _).alloc (Nat.le_refl _) _
      have zx : (wd.alloc (.cells #[.string ⟨#[103, 97, 112]⟩] 9)).heap[wd.heap.size]? = some (.cells #[.string ⟨#[103, 97, 112]⟩] 9 (0, 0)) := heap_alloc_new _ _
      have hz := HK.out.size
      rw [if_pos (by rfl)]
      go_simp
      clear hS
      have HKn : Hid (Below wd.heap.size wd (wd.alloc (.cells #[.string ⟨#[103, 97, 112]⟩] 9))) := HK.out.trans (bx.mono HK.out.size)
      have hS : KeW w P D z F (.slice xr nr cr) (.slice xs ns cz) w.heap.size (wd.alloc (.cells #[.string ⟨#[103, 97, 112]⟩] 9)) := ⟨HS0.out.inf.below HKn.out HS0.out.inf.lt, HS0.out.bel.trans (HKn.out.mono HS0.out.bel.size)⟩
      refine hK1.out _ _ hS (fun _ => ?_)
      clear hK1 K1
      try simp only [Act.put, List.setIfInBounds_toArray, List.set_cons_zero, List.set_cons_succ]
      obtain ⟨gq, hgx⟩ : ∃ g, wd.heap.size = g := ⟨_, rfl⟩
      rw [hgx]
      have H4 : Hid ((wd.alloc (.cells #[.string ⟨#[103, 97, 112]⟩] 9)).heap[gq]? = some (.cells #[.string ⟨#[103, 97, 112]⟩] 9 (0, 0)) ∧ wd.heap.size ≤ gq) := ⟨by rw [← hgx]; exact zx, by rw [← hgx]; exact hz⟩
      clear HK
      have HK := HKn
      clear HKn bx zx hz hgx
      generalize wd.alloc (.cells #[.string ⟨#[103, 97, 112]⟩] 9) = wq8 at *
      refine wpAnyH_ready (rs := [0]) (by kernel_rfl) (by decide) (AllReadyH.cons rfl (fun K1 hK1 => ?_) AllReadyH.nil)
      have bx : Below wq8.heap.size wq8 (wq8.alloc (.cells #[] 9)) := (Below.refl _ _).alloc (Nat.le_refl _) _
      have zx : (wq8.alloc (.cells #[] 9)).heap[wq8.heap.size]? = some (.cells #[] 9 (0, 0)) := heap_alloc_new _ _
      have hz := HK.out.size
      rw [if_pos (by rfl)]
      go_simp
      clear hS
      have HKn : Hid (Below wd.heap.size wd (wq8.alloc (.cells #[] 9))) := HK.out.trans (bx.mono HK.out.size)
      have hS : KeW w P D z F (.slice xr nr cr) (.slice xs ns cz) w.heap.size (wq8.alloc (.cells #[] 9)) := ⟨HS0.out.inf.below HKn.out HS0.out.inf.lt, HS0.out.bel.trans (HKn.out.mono HS0.out.bel.size)⟩
      refine hK1.out _ _ hS (fun _ => ?_)
      clear hK1 K1
      try simp only [Act.put, List.setIfInBounds_toArray, List.set_cons_zero, List.set_cons_succ]
      obtain ⟨g0, hgx⟩ : ∃ g, wq8.heap.size = g := ⟨_, rfl⟩
      rw [hgx]
      have H0 : Hid (OwnS (wq8.alloc (.cells #[] 9)) w.heap.size (.slice (some ⟨g0, 0, none⟩) 0 0) [] ∧ wd.heap.size ≤ g0) := by
        rw [← hgx]
        exact ⟨⟨rfl, .inr ⟨_, 0, #[], rfl, Nat.le_trans HS0.out.bel.size hz, zx, Nat.le_refl _, Nat.zero_le _, rfl, rfl⟩⟩, hz⟩
      have HG0 : Hid (g0 < (wq8.alloc (.cells #[] 9)).heap.size) := by
        show g0 < (wq8.alloc (.cells #[] 9)).heap.size
        rw [World.size_alloc, hgx]; omega
      replace H4 : Hid ((wq8.alloc (.cells #[] 9)).heap[gq]? = some (.cells #[.string ⟨#[103, 97, 112]⟩] 9 (0, 0)) ∧ wd.heap.size ≤ gq ∧ gq ≠ g0) := ⟨(bx.block _ (heap_lt H4.out.1)).trans H4.out.1, H4.out.2, by have := heap_lt H4.out.1; omega⟩
      clear HK
      have HK := HKn
      clear HKn bx zx hz hgx
      generalize wq8.alloc (.cells #[] 9) = wq9 at *
      refine wpAnyH_ready (rs := [3]) (by kernel_rfl) (by decide) (AllReadyH.cons rfl (fun K1 hK1 => ?_) AllReadyH.nil)
      obtain ⟨v1, wq10, hr3, hO3, hg3, hat3⟩ := OwnS.all H0.out.1 xr nr cr fr (HH.out.1.below (HS0.out.bel.trans (HK.out.mono HS0.out.bel.size)) (Nat.le_refl _)) (by have := HH.out.2.2.2.1; omega) (Nat.le_trans HS0.out.bel.size HK.out.size)
      refine step_append_runI rfl (.tmp 16) (.tmp 18) 24 24 rfl _ _ (by simp [Act.eval]) (by simp [Act.eval]) hr3 ?_
      clear hS
      have H3 : Hid (OwnS wq10 w.heap.size v1 (txL fr nr) ∧ (∀ k, v1.ownBlock = some k → wd.heap.size ≤ k)) := ⟨hO3, fun k hk => by
        rcases hat3 with h | h
        · rw [h] at hk; injection hk with hk; rw [← hk]; exact H0.out.2
        · rw [h] at hk; injection hk with hk; rw [← hk]; exact HK.out.size⟩
      replace H4 : Hid (wq10.heap[gq]? = some (.cells #[.string ⟨#[103, 97, 112]⟩] 9 (0, 0)) ∧ wd.heap.size ≤ gq) := ⟨(hg3.block gq (heap_lt H4.out.1) (fun h => by injection h with h; exact H4.out.2.2 h)).trans H4.out.1, H4.out.2.1⟩
      replace HK : Hid (Below wd.heap.size wd wq10) := grown_belowZ HK.out hg3 (fun k hk => by injection hk with hk; rw [← hk]; exact H0.out.2)
      have hS : KeW w P D z F (.slice xr nr cr) (.slice xs ns cz) w.heap.size wq10 := ⟨HS0.out.inf.below HK.out HS0.out.inf.lt, HS0.out.bel.trans (HK.out.mono HS0.out.bel.size)⟩
      refine hK1.out _ _ hS (fun _ => ?_)
      clear hK1 K1 hr3 hO3 hg3 hat3 H0 HG0
      try simp only [Act.put, List.setIfInBounds_toArray]
      obtain ⟨ga4, capa4, wq11, hr5, hO5, hg5, hat5⟩ := OwnS.more H3.out.1 gq 1 gapB (by rw [Lib.cell_of_heap H4.out.1]; rfl) (by rw [txL_len]; have := HH.out.2.2.2.1; omega) (Nat.le_trans HS0.out.bel.size HK.out.size)
      rw [txL_len] at hr5 hO5
      have hga : wd.heap.size ≤ ga4 := by
        rcases hat5 with h | h
        · exact H3.out.2 ga4 h
        · rw [h]; exact HK.out.size
      refine wpAnyH_ready (rs := [5]) (by kernel_rfl) (by decide) (AllReadyH.cons rfl (fun K1 hK1 => ?_) AllReadyH.nil)
      refine step_append_runI rfl (.tmp 19) (.tmp 20) 24 24 rfl _ _ (by simp [Act.eval]) (by simp [Act.eval]) hr5 ?_
      clear hS
      replace HK : Hid (Below wd.heap.size wd wq11) := grown_belowZ HK.out hg5 (fun k hk => H3.out.2 k hk)
      have hS : KeW w P D z F (.slice xr nr cr) (.slice xs ns cz) w.heap.size wq11 := ⟨HS0.out.inf.below HK.out HS0.out.inf.lt, HS0.out.bel.trans (HK.out.mono HS0.out.bel.size)⟩
      refine hK1.out _ _ hS (fun _ => ?_)
      clear hK1 K1
      try simp only [Act.put]
      have HO5 : Hid (OwnS wq11 w.heap.size (.slice (some ⟨ga4, 0, none⟩) (nr + 1) capa4) (txL fr nr ++ [gapB]) ∧ wd.heap.size ≤ ga4) := ⟨hO5, hga⟩
      have hca : nr + 1 ≤ capa4 := by
        rcases hO5.2 with ⟨h, _⟩ | ⟨_, _, _, h, _, _, h2, _⟩
        · cases h
        · injection h with _ h1 h3; rw [h3]; simpa [txL_len] using h2
      have hcn : ¬ capa4 < nr := by omega
      have hcm : nr ≤ capa4 := by omega
      have hca2 : capa4 ≤ 9223372036854775807 := by
        rcases hO5.2 with ⟨h, _⟩ | ⟨_, _, _, h, _, _, _, h2, _⟩
        · cases h
        · injection h with _ h1 h3; rw [h3]; exact h2
      clear hO5 hr5 hg5 hat5 H3 H4 hga
      refine wpAnyH_take (i := 9) (oi := { dst := some 25, op := Op.slice 24 (Operand.tmp 21) none (some (Operand.tmp 24)) none, type := 24, pos := "law.go:173", after := #[{ on := 5, ground := Ground.data }, { on := 8, ground := Ground.data }], guard := none }) (v := .slice (some ⟨ga4, 0, none⟩) nr capa4) rfl (by kernel_rfl) (by kernel_rfl) (by kernel_rfl) (fun _ _ _ h => h) (Or.inl ⟨by rfl, by intro w _; go_simp⟩) hS ?_
      try simp only [Act.put]
      refine wpAnyH_take (i := 10) (oi := { dst := some 26, op := Op.fieldAddr 26 (Operand.tmp 3) 3, type := 0, pos := "law.go:173", after := #[{ on := 0, ground := Ground.phase }, { on := 1, ground := Ground.phase }, { on := 2, ground := Ground.phase }, { on := 3, ground := Ground.phase }, { on := 4, ground := Ground.phase }, { on := 5, ground := Ground.phase }, { on := 6, ground := Ground.phase }, { on := 7, ground := Ground.phase }, { on := 8, ground := Ground.phase }, { on := 9, ground := Ground.phase }], guard := none }) (v := .pointer (some ⟨g3, 34, none⟩)) rfl (by kernel_rfl) (by kernel_rfl) (by kernel_rfl) (fun _ _ _ h => h) (Or.inl ⟨by rfl, by intro w _; go_simp⟩) hS ?_
      try simp only [Act.put]
      have M5 : Inf wq11 g3 P D z (.slice xr nr cr) F (.slice xs ns cz) := HM.out.below HK.out HM.out.lt
      have c5 := M5.refs
      have f5 := M5.free 34 (by omega)
      refine wpAnyH_ready (rs := [11]) (by kernel_rfl) (by decide) (AllReadyH.cons rfl (fun K1 hK1 => ?_) AllReadyH.nil)
      rw [if_pos (by rfl)]
      go_simp
      have hS9 : KeW w P D z F (.slice xr nr cr) (.slice xs ns cz) w.heap.size (wq11.setCell ⟨g3, 34, none⟩ (.slice (some ⟨ga4, 0, none⟩) nr capa4)) := ⟨hS.inf.same (Below.heap_setCell _ ⟨g3, 34, none⟩ _ _ (by show w.heap.size ≠ g3; have := HG3.out; omega)), hS.bel.setCell (by show w.heap.size ≤ g3; have := HG3.out; omega) _⟩
      refine hK1.out _ _ hS9 (fun _ => ?_)
      clear hK1 K1
      refine wpAnyH_done (by kernel_rfl) ?_ _
      (try go_wp2_with fail)
      go_meet
      exact ⟨ga4, capa4, hca, ⟨hS9, M5.setRefs _, HO5.out.1.same (fun g h => Below.heap_setCell _ ⟨g3, 34, none⟩ _ g (by have h' : some ga4 = some g := h; injection h' with h'; show g ≠ g3; have := HO5.out.2; have := HM.out.lt; omega)), by rw [← HWD.out]; exact HO5.out.2, fun b hb hne => by rw [← HWD.out] at hb ⊢; exact (Below.heap_setCell _ ⟨g3, 34, none⟩ _ b hne).trans (HK.out.block b hb), by rw [← HWD.out, World.size_setCell]; exact HK.out.size⟩⟩
  case rest =>
    obtain ⟨ga4, capa4, hca4, h4⟩ := hcut
    have HS4 : Hid (KeW w P D z F (.slice xr nr cr) (.slice xs ns cz) w.heap.size wc) := h4.out.1
    have HM4 : Hid (Inf wc g3 P D z (.slice (some ⟨ga4, 0, none⟩) nr capa4) F (.slice xs ns cz)) := h4.out.2.1
    have HR4 : Hid (OwnS wc w.heap.size (.slice (some ⟨ga4, 0, none⟩) (nr + 1) capa4) (txL fr nr ++ [gapB]) ∧ ga4 ≠ g3) := ⟨h4.out.2.2.1, by have := h4.out.2.2.2.1; have := HM3.out.lt; omega⟩
    clear h4 HS3 HM3
    go_upto_region 5 with fail
    -- @5
    go_cut [] from 27 to 37 (fun wx => ∃ ga5 capa5, ns + 1 ≤ capa5 ∧ Hid (KeW w P D z F (.slice xr nr cr) (.slice xs ns cz) w.heap.size wx ∧ Inf wx g3 P D z (.slice (some ⟨ga4, 0, none⟩) nr capa4) F (.slice (some ⟨ga5, 0, none⟩) ns capa5) ∧ OwnS wx w.heap.size (.slice (some ⟨ga5, 0, none⟩) (ns + 1) capa5) (txL fs ns ++ [gapB]) ∧ wc.heap.size ≤ ga5 ∧ (∀ b, b < wc.heap.size → b ≠ g3 → wx.heap[b]? = wc.heap[b]?) ∧ wc.heap.size ≤ wx.heap.size))
    case first =>
      refine wp_region_held_drew (S := KeW w P D z F (.slice xr nr cr) (.slice xs ns cz) w.heap.size) (by kernel_rfl) ⟨HS4.out.inf.same rfl, HS4.out.bel.drew⟩ (fun hS => ?_)
      have HS0 : Hid (KeW w P D z F (.slice xr nr cr) (.slice xs ns cz) w.heap.size wc.drew) := hS
      have HM : Hid (Inf wc.drew g3 P D z (.slice (some ⟨ga4, 0, none⟩) nr capa4) F (.slice xs ns cz)) := HM4.out.same rfl
      have HK : Hid (Below wc.drew.heap.size wc.drew wc.drew) := Below.refl _ _
      have HWD : Hid (wc.drew.heap = wc.heap) := rfl
      generalize wc.drew = wd at *
      refine wpAnyH_take (i := 1) (oi := { dst := some 28, op := Op.fieldAddr 26 (Operand.tmp 1) 5, type := 0, pos := "law.go:174", after := #[], guard := none }) (v := .pointer (some ⟨w.heap.size, 36, none⟩)) rfl (by kernel_rfl) (by kernel_rfl) (by kernel_rfl) (fun _ _ _ h => h) (Or.inl ⟨by rfl, by intro w _; go_simp⟩) hS ?_
      try simp only [Act.put, List.setIfInBounds_toArray, List.set_cons_zero, List.set_cons_succ]
      refine wpAnyH_take (i := 2) (oi := { dst := some 29, op := Op.load 24 (Operand.tmp 28), type := 24, pos := "law.go:174", after := #[{ on := 1, ground := Ground.data }], guard := none }) (v := .slice xs ns cz) rfl (by kernel_rfl) (by kernel_rfl) (by kernel_rfl) (fun _ _ _ h => h) (Or.inl ⟨by rfl, by intro w' s'; have c9 := s'.inf.signs; go_simp⟩) hS ?_
      try simp only [Act.put, List.setIfInBounds_toArray, List.set_cons_zero, List.set_cons_succ]
      refine wpAnyH_take (i := 6) (oi := { dst := some 33, op := Op.fieldAddr 26 (Operand.tmp 1) 5, type := 0, pos := "law.go:174", after := #[], guard := none }) (v := .pointer (some ⟨w.heap.size, 36, none⟩)) rfl (by kernel_rfl) (by kernel_rfl) (by kernel_rfl) (fun _ _ _ h => h) (Or.inl ⟨by rfl, by intro w _; go_simp⟩) hS ?_
      try simp only [Act.put, List.setIfInBounds_toArray, List.set_cons_zero, List.set_cons_succ]
      refine wpAnyH_take (i := 7) (oi := { dst := some 34, op := Op.load 24 (Operand.tmp 33), type := 24, pos := "law.go:174", after := #[{ on := 6, ground := Ground.data }], guard := none }) (v := .slice xs ns cz) rfl (by kernel_rfl) (by kernel_rfl) (by kernel_rfl) (fun _ _ _ h => h) (Or.inl ⟨by rfl, by intro w' s'; have c9 := s'.inf.signs; go_simp⟩) hS ?_
      try simp only [Act.put, List.setIfInBounds_toArray, List.set_cons_zero, List.set_cons_succ]
      refine wpAnyH_take (i := 8) (oi := { dst := some 35, op := Op.call { callee := Callee.builtin Builtin.len, args := #[Operand.tmp 34], argTypes := #[24] }, type := 3, pos := "law.go:174", after := #[{ on := 7, ground := Ground.data }], guard := none }) (v := .int .i64 ns) rfl (by kernel_rfl) (by kernel_rfl) (by kernel_rfl) (fun _ _ _ h => h) (Or.inl ⟨by rfl, by intro w _; go_simp⟩) hS ?_
      try simp only [Act.put, List.setIfInBounds_toArray, List.set_cons_zero, List.set_cons_succ]
      refine wpAnyH_ready (rs := [0, 4]) (by kernel_rfl) (by decide) (AllReadyH.cons rfl (fun K1 hK1 => ?_) (AllReadyH.cons rfl (fun K1 hK1 => ?_) AllReadyH.nil))
      · have bx : Below wd.heap.size wd (wd.alloc (.cells #[] 9)) := (Below.refl _ _).alloc (Nat.le_refl _) _
        have zx : (wd.alloc (.cells #[] 9)).heap[wd.heap.size]? = some (.cells #[] 9 (0, 0)) := heap_alloc_new _ _
        have hz := HK.out.size
        rw [if_pos (by rfl)]
        go_simp
        clear hS
        have HKn : Hid (Below wd.heap.size wd (wd.alloc (.cells #[] 9))) := HK.out.trans (bx.mono HK.out.size)
        have hS : KeW w P D z F (.slice xr nr cr) (.slice xs ns cz) w.heap.size (wd.alloc (.cells #[] 9)) := ⟨HS0.out.inf.below HKn.out HS0.out.inf.lt, HS0.out.bel.trans (HKn.out.mono HS0.out.bel.size)⟩
        refine hK1.out _ _ hS (fun _ => ?_)
        clear hK1 K1
        try simp only [Act.put, List.setIfInBounds_toArray, List.set_cons_zero, List.set_cons_succ]
        obtain ⟨g0, hgx⟩ : ∃ g, wd.heap.size = g := ⟨_, rfl⟩
        rw [hgx]
        have H0 : Hid (OwnS (wd.alloc (.cells #[] 9)) w.heap.size (.slice (some ⟨g0, 0, none⟩) 0 0) [] ∧ wd.heap.size ≤ g0) := by
          rw [← hgx]
          exact ⟨⟨rfl, .inr ⟨_, 0, #[], rfl, Nat.le_trans HS0.out.bel.size hz, zx, Nat.le_refl _, Nat.zero_le _, rfl, rfl⟩⟩, hz⟩
        have HG0 : Hid (g0 < (wd.alloc (.cells #[] 9)).heap.size) := by
          show g0 < (wd.alloc (.cells #[] 9)).heap.size
          rw [World.size_alloc, hgx]; omega
        clear HK
        have HK := HKn
        clear HKn bx zx hz hgx
        generalize wd.alloc (.cells #[] 9) = wq1 at *
        refine wpAnyH_ready (rs := [3, 4]) (by kernel_rfl) (by decide) (AllReadyH.cons rfl (fun K1 hK1 => ?_) (AllReadyH.cons rfl (fun K1 hK1 => ?_) AllReadyH.nil))
        · obtain ⟨v1, wq2, hr3, hO3, hg3, hat3⟩ := OwnS.all H0.out.1 xs ns cz fs (HH.out.2.1.below (HS0.out.bel.trans (HK.out.mono HS0.out.bel.size)) (Nat.le_refl _)) (by have := HH.out.2.2.2.1; omega) (Nat.le_trans HS0.out.bel.size HK.out.size)
          refine step_append_runI rfl (.tmp 27) (.tmp 29) 24 24 rfl _ _ (by simp [Act.eval]) (by simp [Act.eval]) hr3 ?_
          clear hS
          have H3 : Hid (OwnS wq2 w.heap.size v1 (txL fs ns) ∧ (∀ k, v1.ownBlock = some k → wd.heap.size ≤ k)) := ⟨hO3, fun k hk => by
            rcases hat3 with h | h
            · rw [h] at hk; injection hk with hk; rw [← hk]; exact H0.out.2
            · rw [h] at hk; injection hk with hk; rw [← hk]; exact HK.out.size⟩
          replace HK : Hid (Below wd.heap.size wd wq2) := grown_belowZ HK.out hg3 (fun k hk => by injection hk with hk; rw [← hk]; exact H0.out.2)
          have hS : KeW w P D z F (.slice xr nr cr) (.slice xs ns cz) w.heap.size wq2 := ⟨HS0.out.inf.below HK.out HS0.out.inf.lt, HS0.out.bel.trans (HK.out.mono HS0.out.bel.size)⟩
          refine hK1.out _ _ hS (fun _ => ?_)
          clear hK1 K1 hr3 hO3 hg3 hat3 H0 HG0
          try simp only [Act.put, List.setIfInBounds_toArray]
          refine wpAnyH_ready (rs := [4]) (by kernel_rfl) (by decide) (AllReadyH.cons rfl (fun K1 hK1 => ?_) AllReadyH.nil)
          have bx : Below wq2.heap.size wq2 (wq2.alloc (.cells #[.string ⟨#[103, 97, 112]⟩] 9)) := (Below.refl _ _).alloc (Nat.le_refl _) _
          have zx : (wq2.alloc (.cells #[.string ⟨#[103, 97, 112]⟩] 9)).heap[wq2.heap.size]? = some (.cells #[.string ⟨#[103, 97, 112]⟩] 9 (0, 0)) := heap_alloc_new _ _
          have hz := HK.out.size
          rw [if_pos (by rfl)]
          go_simp
          clear hS
          have HKn : Hid (Below wd.heap.size wd (wq2.alloc (.cells #[.string ⟨#[103, 97, 112]⟩] 9))) := HK.out.trans (bx.mono HK.out.size)
          have hS : KeW w P D z F (.slice xr nr cr) (.slice xs ns cz) w.heap.size (wq2.alloc (.cells #[.string ⟨#[103, 97, 112]⟩] 9)) := ⟨HS0.out.inf.below HKn.out HS0.out.inf.lt, HS0.out.bel.trans (HKn.out.mono HS0.out.bel.size)⟩
          refine hK1.out _ _ hS (fun _ => ?_)
          clear hK1 K1
          try simp only [Act.put, List.setIfInBounds_toArray, List.set_cons_zero, List.set_cons_succ]
          obtain ⟨gq, hgx⟩ : ∃ g, wq2.heap.size = g := ⟨_, rfl⟩
          rw [hgx]
          have H4 : Hid ((wq2.alloc (.cells #[.string ⟨#[103, 97, 112]⟩] 9)).heap[gq]? = some (.cells #[.string ⟨#[103, 97, 112]⟩] 9 (0, 0)) ∧ wd.heap.size ≤ gq) := ⟨by rw [← hgx]; exact zx, by rw [← hgx]; exact hz⟩
          replace H3 : Hid (OwnS (wq2.alloc (.cells #[.string ⟨#[103, 97, 112]⟩] 9)) w.heap.size v1 (txL fs ns) ∧ (∀ k, v1.ownBlock = some k → wd.heap.size ≤ k)) := ⟨H3.out.1.alloc _, H3.out.2⟩
          clear HK
          have HK := HKn
          clear HKn bx zx hz hgx
          generalize wq2.alloc (.cells #[.string ⟨#[103, 97, 112]⟩] 9) = wq3 at *
          obtain ⟨ga5, capa5, wq4, hr5, hO5, hg5, hat5⟩ := OwnS.more H3.out.1 gq 1 gapB (by rw [Lib.cell_of_heap H4.out.1]; rfl) (by rw [txL_len]; have := HH.out.2.2.2.1; omega) (Nat.le_trans HS0.out.bel.size HK.out.size)
          rw [txL_len] at hr5 hO5
          have hga : wd.heap.size ≤ ga5 := by
            rcases hat5 with h | h
            · exact H3.out.2 ga5 h
            · rw [h]; exact HK.out.size
          refine wpAnyH_ready (rs := [5]) (by kernel_rfl) (by decide) (AllReadyH.cons rfl (fun K1 hK1 => ?_) AllReadyH.nil)
          refine step_append_runI rfl (.tmp 30) (.tmp 31) 24 24 rfl _ _ (by simp [Act.eval]) (by simp [Act.eval]) hr5 ?_
          clear hS
          replace HK : Hid (Below wd.heap.size wd wq4) := grown_belowZ HK.out hg5 (fun k hk => H3.out.2 k hk)
          have hS : KeW w P D z F (.slice xr nr cr) (.slice xs ns cz) w.heap.size wq4 := ⟨HS0.out.inf.below HK.out HS0.out.inf.lt, HS0.out.bel.trans (HK.out.mono HS0.out.bel.size)⟩
          refine hK1.out _ _ hS (fun _ => ?_)
          clear hK1 K1
          try simp only [Act.put, List.setIfInBounds_toArray]
          have HO5 : Hid (OwnS wq4 w.heap.size (.slice (some ⟨ga5, 0, none⟩) (ns + 1) capa5) (txL fs ns ++ [gapB]) ∧ wd.heap.size ≤ ga5) := ⟨hO5, hga⟩
          have hca : ns + 1 ≤ capa5 := by
            rcases hO5.2 with ⟨h, _⟩ | ⟨_, _, _, h, _, _, h2, _⟩
            · cases h
            · injection h with _ h1 h3; rw [h3]; simpa [txL_len] using h2
          have hcn : ¬ capa5 < ns := by omega
          have hcm : ns ≤ capa5 := by omega
          have hca2 : capa5 ≤ 9223372036854775807 := by
            rcases hO5.2 with ⟨h, _⟩ | ⟨_, _, _, h, _, _, _, h2, _⟩
            · cases h
            · injection h with _ h1 h3; rw [h3]; exact h2
          clear hO5 hr5 hg5 hat5 H3 H4 hga
          refine wpAnyH_take (i := 9) (oi := { dst := some 36, op := Op.slice 24 (Operand.tmp 32) none (some (Operand.tmp 35)) none, type := 24, pos := "law.go:174", after := #[{ on := 5, ground := Ground.data }, { on := 8, ground := Ground.data }], guard := none }) (v := .slice (some ⟨ga5, 0, none⟩) ns capa5) rfl (by kernel_rfl) (by kernel_rfl) (by kernel_rfl) (fun _ _ _ h => h) (Or.inl ⟨by rfl, by intro w _; go_simp⟩) hS ?_
          try simp only [Act.put]
          refine wpAnyH_take (i := 10) (oi := { dst := some 37, op := Op.fieldAddr 26 (Operand.tmp 3) 5, type := 0, pos := "law.go:174", after := #[{ on := 0, ground := Ground.phase }, { on := 1, ground := Ground.phase }, { on := 2, ground := Ground.phase }, { on := 3, ground := Ground.phase }, { on := 4, ground := Ground.phase }, { on := 5, ground := Ground.phase }, { on := 6, ground := Ground.phase }, { on := 7, ground := Ground.phase }, { on := 8, ground := Ground.phase }, { on := 9, ground := Ground.phase }], guard := none }) (v := .pointer (some ⟨g3, 36, none⟩)) rfl (by kernel_rfl) (by kernel_rfl) (by kernel_rfl) (fun _ _ _ h => h) (Or.inl ⟨by rfl, by intro w _; go_simp⟩) hS ?_
          try simp only [Act.put]
          have M5 : Inf wq4 g3 P D z (.slice (some ⟨ga4, 0, none⟩) nr capa4) F (.slice xs ns cz) := HM.out.below HK.out HM.out.lt
          have c5 := M5.signs
          have f5 := M5.free 36 (by omega)
          refine wpAnyH_ready (rs := [11]) (by kernel_rfl) (by decide) (AllReadyH.cons rfl (fun K1 hK1 => ?_) AllReadyH.nil)
          rw [if_pos (by rfl)]
          go_simp
          have hS9 : KeW w P D z F (.slice xr nr cr) (.slice xs ns cz) w.heap.size (wq4.setCell ⟨g3, 36, none⟩ (.slice (some ⟨ga5, 0, none⟩) ns capa5)) := ⟨hS.inf.same (Below.heap_setCell _ ⟨g3, 36, none⟩ _ _ (by show w.heap.size ≠ g3; have := HG3.out; omega)), hS.bel.setCell (by show w.heap.size ≤ g3; have := HG3.out; omega) _⟩
          refine hK1.out _ _ hS9 (fun _ => ?_)
          clear hK1 K1
          refine wpAnyH_done (by kernel_rfl) ?_ _
          (try go_wp2_with fail)
          go_meet
          exact ⟨ga5, capa5, hca, ⟨hS9, M5.setSigns _, HO5.out.1.same (fun g h => Below.heap_setCell _ ⟨g3, 36, none⟩ _ g (by have h' : some ga5 = some g := h; injection h' with h'; show g ≠ g3; have := HO5.out.2; have := HM.out.lt; omega)), by rw [← HWD.out]; exact HO5.out.2, fun b hb hne => by rw [← HWD.out] at hb ⊢; exact (Below.heap_setCell _ ⟨g3, 36, none⟩ _ b hne).trans (HK.out.block b hb), by rw [← HWD.out, World.size_setCell]; exact HK.out.size⟩⟩
        · have bx : Below wq1.heap.size wq1 (wq1.alloc (.cells #[.string ⟨#[103, 97, 112]⟩] 9)) := (Below.refl _ _).alloc (Nat.le_refl _) _
          have zx : (wq1.alloc (.cells #[.string ⟨#[103, 97, 112]⟩] 9)).heap[wq1.heap.size]? = some (.cells #[.string ⟨#[103, 97, 112]⟩] 9 (0, 0)) := heap_alloc_new _ _
          have hz := HK.out.size
          rw [if_pos (by rfl)]
          go_simp
          clear hS
          have HKn : Hid (Below wd.heap.size wd (wq1.alloc (.cells #[.string ⟨#[103, 97, 112]⟩] 9))) := HK.out.trans (bx.mono HK.out.size)
          have hS : KeW w P D z F (.slice xr nr cr) (.slice xs ns cz) w.heap.size (wq1.alloc (.cells #[.string ⟨#[103, 97, 112]⟩] 9)) := ⟨HS0.out.inf.below HKn.out HS0.out.inf.lt, HS0.out.bel.trans (HKn.out.mono HS0.out.bel.size)⟩
          refine hK1.out _ _ hS (fun _ => ?_)
          clear hK1 K1
          try simp only [Act.put, List.setIfInBounds_toArray, List.set_cons_zero, List.set_cons_succ]
          obtain ⟨gq, hgx⟩ : ∃ g, wq1.heap.size = g := ⟨_, rfl⟩
          rw [hgx]
          have H4 : Hid ((wq1.alloc (.cells #[.string ⟨#[103, 97, 112]⟩] 9)).heap[gq]? = some (.cells #[.string ⟨#[103, 97, 112]⟩] 9 (0, 0)) ∧ wd.heap.size ≤ gq ∧ gq ≠ g0) := ⟨by rw [← hgx]; exact zx, by rw [← hgx]; exact hz, by have h0 := HG0.out; omega⟩
          replace H0 : Hid (OwnS (wq1.alloc (.cells #[.string ⟨#[103, 97, 112]⟩] 9)) w.heap.size (.slice (some ⟨g0, 0, none⟩) 0 0) [] ∧ wd.heap.size ≤ g0) := ⟨H0.out.1.alloc _, H0.out.2⟩
          clear HK
          have HK := HKn
          clear HKn bx zx hz hgx
          generalize wq1.alloc (.cells #[.string ⟨#[103, 97, 112]⟩] 9) = wq5 at *
          refine wpAnyH_ready (rs := [3]) (by kernel_rfl) (by decide) (AllReadyH.cons rfl (fun K1 hK1 => ?_) AllReadyH.nil)
          obtain ⟨v1, wq6, hr3, hO3, hg3, hat3⟩ := OwnS.all H0.out.1 xs ns cz fs (HH.out.2.1.below (HS0.out.bel.trans (HK.out.mono HS0.out.bel.size)) (Nat.le_refl _)) (by have := HH.out.2.2.2.1; omega) (Nat.le_trans HS0.out.bel.size HK.out.size)
          refine step_append_runI rfl (.tmp 27) (.tmp 29) 24 24 rfl _ _ (by simp [Act.eval]) (by simp [Act.eval]) hr3 ?_
          clear hS
          have H3 : Hid (OwnS wq6 w.heap.size v1 (txL fs ns) ∧ (∀ k, v1.ownBlock = some k → wd.heap.size ≤ k)) := ⟨hO3, fun k hk => by
            rcases hat3 with h | h
            · rw [h] at hk; injection hk with hk; rw [← hk]; exact H0.out.2
            · rw [h] at hk; injection hk with hk; rw [← hk]; exact HK.out.size⟩
          replace H4 : Hid (wq6.heap[gq]? = some (.cells #[.string ⟨#[103, 97, 112]⟩] 9 (0, 0)) ∧ wd.heap.size ≤ gq) := ⟨(hg3.block gq (heap_lt H4.out.1) (fun h => by injection h with h; exact H4.out.2.2 h)).trans H4.out.1, H4.out.2.1⟩
          replace HK : Hid (Below wd.heap.size wd wq6) := grown_belowZ HK.out hg3 (fun k hk => by injection hk with hk; rw [← hk]; exact H0.out.2)
          have hS : KeW w P D z F (.slice xr nr cr) (.slice xs ns cz) w.heap.size wq6 := ⟨HS0.out.inf.below HK.out HS0.out.inf.lt, HS0.out.bel.trans (HK.out.mono HS0.out.bel.size)⟩
          refine hK1.out _ _ hS (fun _ => ?_)
          clear hK1 K1 hr3 hO3 hg3 hat3 H0 HG0
          try simp only [Act.put, List.setIfInBounds_toArray]
          obtain ⟨ga5, capa5, wq7, hr5, hO5, hg5, hat5⟩ := OwnS.more H3.out.1 gq 1 gapB (by rw [Lib.cell_of_heap H4.out.1]; rfl) (by rw [txL_len]; have := HH.out.2.2.2.1; omega) (Nat.le_trans HS0.out.bel.size HK.out.size)
          rw [txL_len] at hr5 hO5
          have hga : wd.heap.size ≤ ga5 := by
            rcases hat5 with h | h
            · exact H3.out.2 ga5 h
            · rw [h]; exact HK.out.size
          refine wpAnyH_ready (rs := [5]) (by kernel_rfl) (by decide) (AllReadyH.cons rfl (fun K1 hK1 => ?_) AllReadyH.nil)
          refine step_append_runI rfl (.tmp 30) (.tmp 31) 24 24 rfl _ _ (by simp [Act.eval]) (by simp [Act.eval]) hr5 ?_
          clear hS
          replace HK : Hid (Below wd.heap.size wd wq7) := grown_belowZ HK.out hg5 (fun k hk => H3.out.2 k hk)
          have hS : KeW w P D z F (.slice xr nr cr) (.slice xs ns cz) w.heap.size wq7 := ⟨HS0.out.inf.below HK.out HS0.out.inf.lt, HS0.out.bel.trans (HK.out.mono HS0.out.bel.size)⟩
          refine hK1.out _ _ hS (fun _ => ?_)
          clear hK1 K1
          try simp only [Act.put]
          have HO5 : Hid (OwnS wq7 w.heap.size (.slice (some ⟨ga5, 0, none⟩) (ns + 1) capa5) (txL fs ns ++ [gapB]) ∧ wd.heap.size ≤ ga5) := ⟨hO5, hga⟩
          have hca : ns + 1 ≤ capa5 := by
            rcases hO5.2 with ⟨h, _⟩ | ⟨_, _, _, h, _, _, h2, _⟩
            · cases h
            · injection h with _ h1 h3; rw [h3]; simpa [txL_len] using h2
          have hcn : ¬ capa5 < ns := by omega
          have hcm : ns ≤ capa5 := by omega
          have hca2 : capa5 ≤ 9223372036854775807 := by
            rcases hO5.2 with ⟨h, _⟩ | ⟨_, _, _, h, _, _, _, h2, _⟩
            · cases h
            · injection h with _ h1 h3; rw [h3]; exact h2
          clear hO5 hr5 hg5 hat5 H3 H4 hga
          refine wpAnyH_take (i := 9) (oi := { dst := some 36, op := Op.slice 24 (Operand.tmp 32) none (some (Operand.tmp 35)) none, type := 24, pos := "law.go:174", after := #[{ on := 5, ground := Ground.data }, { on := 8, ground := Ground.data }], guard := none }) (v := .slice (some ⟨ga5, 0, none⟩) ns capa5) rfl (by kernel_rfl) (by kernel_rfl) (by kernel_rfl) (fun _ _ _ h => h) (Or.inl ⟨by rfl, by intro w _; go_simp⟩) hS ?_
          try simp only [Act.put]
          refine wpAnyH_take (i := 10) (oi := { dst := some 37, op := Op.fieldAddr 26 (Operand.tmp 3) 5, type := 0, pos := "law.go:174", after := #[{ on := 0, ground := Ground.phase }, { on := 1, ground := Ground.phase }, { on := 2, ground := Ground.phase }, { on := 3, ground := Ground.phase }, { on := 4, ground := Ground.phase }, { on := 5, ground := Ground.phase }, { on := 6, ground := Ground.phase }, { on := 7, ground := Ground.phase }, { on := 8, ground := Ground.phase }, { on := 9, ground := Ground.phase }], guard := none }) (v := .pointer (some ⟨g3, 36, none⟩)) rfl (by kernel_rfl) (by kernel_rfl) (by kernel_rfl) (fun _ _ _ h => h) (Or.inl ⟨by rfl, by intro w _; go_simp⟩) hS ?_
          try simp only [Act.put]
          have M5 : Inf wq7 g3 P D z (.slice (some ⟨ga4, 0, none⟩) nr capa4) F (.slice xs ns cz) := HM.out.below HK.out HM.out.lt
          have c5 := M5.signs
          have f5 := M5.free 36 (by omega)
          refine wpAnyH_ready (rs := [11]) (by kernel_rfl) (by decide) (AllReadyH.cons rfl (fun K1 hK1 => ?_) AllReadyH.nil)
          rw [if_pos (by rfl)]
          go_simp
          have hS9 : KeW w P D z F (.slice xr nr cr) (.slice xs ns cz) w.heap.size (wq7.setCell ⟨g3, 36, none⟩ (.slice (some ⟨ga5, 0, none⟩) ns capa5)) := ⟨hS.inf.same (Below.heap_setCell _ ⟨g3, 36, none⟩ _ _ (by show w.heap.size ≠ g3; have := HG3.out; omega)), hS.bel.setCell (by show w.heap.size ≤ g3; have := HG3.out; omega) _⟩
          refine hK1.out _ _ hS9 (fun _ => ?_)
          clear hK1 K1
          refine wpAnyH_done (by kernel_rfl) ?_ _
          (try go_wp2_with fail)
          go_meet
          exact ⟨ga5, capa5, hca, ⟨hS9, M5.setSigns _, HO5.out.1.same (fun g h => Below.heap_setCell _ ⟨g3, 36, none⟩ _ g (by have h' : some ga5 = some g := h; injection h' with h'; show g ≠ g3; have := HO5.out.2; have := HM.out.lt; omega)), by rw [← HWD.out]; exact HO5.out.2, fun b hb hne => by rw [← HWD.out] at hb ⊢; exact (Below.heap_setCell _ ⟨g3, 36, none⟩ _ b hne).trans (HK.out.block b hb), by rw [← HWD.out, World.size_setCell]; exact HK.out.size⟩⟩
      · have bx : Below wd.heap.size wd (wd.alloc (.cells #[.string ⟨#[103, 97, 112]⟩] 9)) := (Below.refl _ _).alloc (Nat.le_refl _) _
        have zx : (wd.alloc (.cells #[.string ⟨#[103, 97, 112]⟩] 9)).heap[wd.heap.size]? = some (.cells #[.string ⟨#[103, 97, 112]⟩] 9 (0, 0)) := heap_alloc_new _ _
        have hz := HK.out.size
        rw [if_pos (by rfl)]
        go_simp
        clear hS
        have HKn : Hid (Below wd.heap.size wd (wd.alloc (.cells #[.string ⟨#[103, 97, 112]⟩] 9))) := HK.out.trans (bx.mono HK.out.size)
        have hS : KeW w P D z F (.slice xr nr cr) (.slice xs ns cz) w.heap.size (wd.alloc (.cells #[.string ⟨#[103, 97, 112]⟩] 9)) := ⟨HS0.out.inf.below HKn.out HS0.out.inf.lt, HS0.out.bel.trans (HKn.out.mono HS0.out.bel.size)⟩
        refine hK1.out _ _ hS (fun _ => ?_)
        clear hK1 K1
        try simp only [Act.put, List.setIfInBounds_toArray, List.set_cons_zero, List.set_cons_succ]
        obtain ⟨gq, hgx⟩ : ∃ g, wd.heap.size = g := ⟨_, rfl⟩
        rw [hgx]
        have H4 : Hid ((wd.alloc (.cells #[.string ⟨#[103, 97, 112]⟩] 9)).heap[gq]? = some (.cells #[.string ⟨#[103, 97, 112]⟩] 9 (0, 0)) ∧ wd.heap.size ≤ gq) := ⟨by rw [← hgx]; exact zx, by rw [← hgx]; exact hz⟩
        clear HK
        have HK := HKn
        clear HKn bx zx hz hgx
        generalize wd.alloc (.cells #[.string ⟨#[103, 97, 112]⟩] 9) = wq8 at *
        refine wpAnyH_ready (rs := [0]) (by kernel_rfl) (by decide) (AllReadyH.cons rfl (fun K1 hK1 => ?_) AllReadyH.nil)
        have bx : Below wq8.heap.size wq8 (wq8.alloc (.cells #[] 9)) := (Below.refl _ _).alloc (Nat.le_refl _) _
        have zx : (wq8.alloc (.cells #[] 9)).heap[wq8.heap.size]? = some (.cells #[] 9 (0, 0)) := heap_alloc_new _ _
        have hz := HK.out.size
        rw [if_pos (by rfl)]
        go_simp
        clear hS
        have HKn : Hid (Below wd.heap.size wd (wq8.alloc (.cells #[] 9))) := HK.out.trans (bx.mono HK.out.size)
        have hS : KeW w P D z F (.slice xr nr cr) (.slice xs ns cz) w.heap.size (wq8.alloc (.cells #[] 9)) := ⟨HS0.out.inf.below HKn.out HS0.out.inf.lt, HS0.out.bel.trans (HKn.out.mono HS0.out.bel.size)⟩
        refine hK1.out _ _ hS (fun _ => ?_)
        clear hK1 K1
        try simp only [Act.put, List.setIfInBounds_toArray, List.set_cons_zero, List.set_cons_succ]
        obtain ⟨g0, hgx⟩ : ∃ g, wq8.heap.size = g := ⟨_, rfl⟩
        rw [hgx]
        have H0 : Hid (OwnS (wq8.alloc (.cells #[] 9)) w.heap.size (.slice (some ⟨g0, 0, none⟩) 0 0) [] ∧ wd.heap.size ≤ g0) := by
          rw [← hgx]
          exact ⟨⟨rfl, .inr ⟨_, 0, #[], rfl, Nat.le_trans HS0.out.bel.size hz, zx, Nat.le_refl _, Nat.zero_le _, rfl, rfl⟩⟩, hz⟩
        have HG0 : Hid (g0 < (wq8.alloc (.cells #[] 9)).heap.size) := by
          show g0 < (wq8.alloc (.cells #[] 9)).heap.size
          rw [World.size_alloc, hgx]; omega
        replace H4 : Hid ((wq8.alloc (.cells #[] 9)).heap[gq]? = some (.cells #[.string ⟨#[103, 97, 112]⟩] 9 (0, 0)) ∧ wd.heap.size ≤ gq ∧ gq ≠ g0) := ⟨(bx.block _ (heap_lt H4.out.1)).trans H4.out.1, H4.out.2, by have := heap_lt H4.out.1; omega⟩
        clear HK
        have HK := HKn
        clear HKn bx zx hz hgx
        generalize wq8.alloc (.cells #[] 9) = wq9 at *
        refine wpAnyH_ready (rs := [3]) (by kernel_rfl) (by decide) (AllReadyH.cons rfl (fun K1 hK1 => ?_) AllReadyH.nil)
        obtain ⟨v1, wq10, hr3, hO3, hg3, hat3⟩ := OwnS.all H0.out.1 xs ns cz fs (HH.out.2.1.below (HS0.out.bel.trans (HK.out.mono HS0.out.bel.size)) (Nat.le_refl _)) (by have := HH.out.2.2.2.1; omega) (Nat.le_trans HS0.out.bel.size HK.out.size)
        refine step_append_runI rfl (.tmp 27) (.tmp 29) 24 24 rfl _ _ (by simp [Act.eval]) (by simp [Act.eval]) hr3 ?_
        clear hS
        have H3 : Hid (OwnS wq10 w.heap.size v1 (txL fs ns) ∧ (∀ k, v1.ownBlock = some k → wd.heap.size ≤ k)) := ⟨hO3, fun k hk => by
          rcases hat3 with h | h
          · rw [h] at hk; injection hk with hk; rw [← hk]; exact H0.out.2
          · rw [h] at hk; injection hk with hk; rw [← hk]; exact HK.out.size⟩
        replace H4 : Hid (wq10.heap[gq]? = some (.cells #[.string ⟨#[103, 97, 112]⟩] 9 (0, 0)) ∧ wd.heap.size ≤ gq) := ⟨(hg3.block gq (heap_lt H4.out.1) (fun h => by injection h with h; exact H4.out.2.2 h)).trans H4.out.1, H4.out.2.1⟩
        replace HK : Hid (Below wd.heap.size wd wq10) := grown_belowZ HK.out hg3 (fun k hk => by injection hk with hk; rw [← hk]; exact H0.out.2)
        have hS : KeW w P D z F (.slice xr nr cr) (.slice xs ns cz) w.heap.size wq10 := ⟨HS0.out.inf.below HK.out HS0.out.inf.lt, HS0.out.bel.trans (HK.out.mono HS0.out.bel.size)⟩
        refine hK1.out _ _ hS (fun _ => ?_)
        clear hK1 K1 hr3 hO3 hg3 hat3 H0 HG0
        try simp only [Act.put, List.setIfInBounds_toArray]
        obtain ⟨ga5, capa5, wq11, hr5, hO5, hg5, hat5⟩ := OwnS.more H3.out.1 gq 1 gapB (by rw [Lib.cell_of_heap H4.out.1]; rfl) (by rw [txL_len]; have := HH.out.2.2.2.1; omega) (Nat.le_trans HS0.out.bel.size HK.out.size)
        rw [txL_len] at hr5 hO5
        have hga : wd.heap.size ≤ ga5 := by
          rcases hat5 with h | h
          · exact H3.out.2 ga5 h
          · rw [h]; exact HK.out.size
        refine wpAnyH_ready (rs := [5]) (by kernel_rfl) (by decide) (AllReadyH.cons rfl (fun K1 hK1 => ?_) AllReadyH.nil)
        refine step_append_runI rfl (.tmp 30) (.tmp 31) 24 24 rfl _ _ (by simp [Act.eval]) (by simp [Act.eval]) hr5 ?_
        clear hS
        replace HK : Hid (Below wd.heap.size wd wq11) := grown_belowZ HK.out hg5 (fun k hk => H3.out.2 k hk)
        have hS : KeW w P D z F (.slice xr nr cr) (.slice xs ns cz) w.heap.size wq11 := ⟨HS0.out.inf.below HK.out HS0.out.inf.lt, HS0.out.bel.trans (HK.out.mono HS0.out.bel.size)⟩
        refine hK1.out _ _ hS (fun _ => ?_)
        clear hK1 K1
        try simp only [Act.put]
        have HO5 : Hid (OwnS wq11 w.heap.size (.slice (some ⟨ga5, 0, none⟩) (ns + 1) capa5) (txL fs ns ++ [gapB]) ∧ wd.heap.size ≤ ga5) := ⟨hO5, hga⟩
        have hca : ns + 1 ≤ capa5 := by
          rcases hO5.2 with ⟨h, _⟩ | ⟨_, _, _, h, _, _, h2, _⟩
          · cases h
          · injection h with _ h1 h3; rw [h3]; simpa [txL_len] using h2
        have hcn : ¬ capa5 < ns := by omega
        have hcm : ns ≤ capa5 := by omega
        have hca2 : capa5 ≤ 9223372036854775807 := by
          rcases hO5.2 with ⟨h, _⟩ | ⟨_, _, _, h, _, _, _, h2, _⟩
          · cases h
          · injection h with _ h1 h3; rw [h3]; exact h2
        clear hO5 hr5 hg5 hat5 H3 H4 hga
        refine wpAnyH_take (i := 9) (oi := { dst := some 36, op := Op.slice 24 (Operand.tmp 32) none (some (Operand.tmp 35)) none, type := 24, pos := "law.go:174", after := #[{ on := 5, ground := Ground.data }, { on := 8, ground := Ground.data }], guard := none }) (v := .slice (some ⟨ga5, 0, none⟩) ns capa5) rfl (by kernel_rfl) (by kernel_rfl) (by kernel_rfl) (fun _ _ _ h => h) (Or.inl ⟨by rfl, by intro w _; go_simp⟩) hS ?_
        try simp only [Act.put]
        refine wpAnyH_take (i := 10) (oi := { dst := some 37, op := Op.fieldAddr 26 (Operand.tmp 3) 5, type := 0, pos := "law.go:174", after := #[{ on := 0, ground := Ground.phase }, { on := 1, ground := Ground.phase }, { on := 2, ground := Ground.phase }, { on := 3, ground := Ground.phase }, { on := 4, ground := Ground.phase }, { on := 5, ground := Ground.phase }, { on := 6, ground := Ground.phase }, { on := 7, ground := Ground.phase }, { on := 8, ground := Ground.phase }, { on := 9, ground := Ground.phase }], guard := none }) (v := .pointer (some ⟨g3, 36, none⟩)) rfl (by kernel_rfl) (by kernel_rfl) (by kernel_rfl) (fun _ _ _ h => h) (Or.inl ⟨by rfl, by intro w _; go_simp⟩) hS ?_
        try simp only [Act.put]
        have M5 : Inf wq11 g3 P D z (.slice (some ⟨ga4, 0, none⟩) nr capa4) F (.slice xs ns cz) := HM.out.below HK.out HM.out.lt
        have c5 := M5.signs
        have f5 := M5.free 36 (by omega)
        refine wpAnyH_ready (rs := [11]) (by kernel_rfl) (by decide) (AllReadyH.cons rfl (fun K1 hK1 => ?_) AllReadyH.nil)
        rw [if_pos (by rfl)]
        go_simp
        have hS9 : KeW w P D z F (.slice xr nr cr) (.slice xs ns cz) w.heap.size (wq11.setCell ⟨g3, 36, none⟩ (.slice (some ⟨ga5, 0, none⟩) ns capa5)) := ⟨hS.inf.same (Below.heap_setCell _ ⟨g3, 36, none⟩ _ _ (by show w.heap.size ≠ g3; have := HG3.out; omega)), hS.bel.setCell (by show w.heap.size ≤ g3; have := HG3.out; omega) _⟩
        refine hK1.out _ _ hS9 (fun _ => ?_)
        clear hK1 K1
        refine wpAnyH_done (by kernel_rfl) ?_ _
        (try go_wp2_with fail)
        go_meet
        exact ⟨ga5, capa5, hca, ⟨hS9, M5.setSigns _, HO5.out.1.same (fun g h => Below.heap_setCell _ ⟨g3, 36, none⟩ _ g (by have h' : some ga5 = some g := h; injection h' with h'; show g ≠ g3; have := HO5.out.2; have := HM.out.lt; omega)), by rw [← HWD.out]; exact HO5.out.2, fun b hb hne => by rw [← HWD.out] at hb ⊢; exact (Below.heap_setCell _ ⟨g3, 36, none⟩ _ b hne).trans (HK.out.block b hb), by rw [← HWD.out, World.size_setCell]; exact HK.out.size⟩⟩
    case rest =>
      obtain ⟨ga5, capa5, hca5, h5⟩ := hcut
      have HS5 : Hid (KeW w P D z F (.slice xr nr cr) (.slice xs ns cz) w.heap.size wc) := h5.out.1
      have HM5 : Hid (Inf wc g3 P D z (.slice (some ⟨ga4, 0, none⟩) nr capa4) F (.slice (some ⟨ga5, 0, none⟩) ns capa5)) := h5.out.2.1
      have HR5 : Hid (OwnS wc w.heap.size (.slice (some ⟨ga5, 0, none⟩) (ns + 1) capa5) (txL fs ns ++ [gapB])) := h5.out.2.2.1
      have HRR : Hid (OwnS wc w.heap.size (.slice (some ⟨ga4, 0, none⟩) (nr + 1) capa4) (txL fr nr ++ [gapB])) := HR4.out.1.same (fun g h => h5.out.2.2.2.2.1 g (HR4.out.1.ge h).2 (by have h' : some ga4 = some g := h; injection h' with h'; rw [← h']; exact HR4.out.2))
      clear h5 HS4 HM4 HR4
      have HT : Hid (PT w) := HH.out.2.2.2.2.2.2
      have CR := print_any P D z F (some ⟨ga4, 0, none⟩) nr capa4 fr (some ⟨ga5, 0, none⟩) ns capa5 fs wc (gap_row HRR.out).1 (gap_row HR5.out).1 (by omega) (by have := HH.out.2.2.2.1; omega) (fun i hi => by have := HH.out.2.2.2.2.1 i hi; omega) (HT.out.below HS5.out.bel)
      obtain ⟨ck, hck⟩ : ∃ ck, ckC P z fr nr F fs ns = ck := ⟨_, rfl⟩
      obtain ⟨tx, htx⟩ : ∃ tx, prT P D z fr nr F fs ns = tx := ⟨_, rfl⟩
      have HCK : Hid (ckC P z fr nr F fs ns = ck ∧ prT P D z fr nr F fs ns = tx) := ⟨hck, htx⟩
      rw [hck, htx] at CR
      clear hck htx
      have M5 := HM5.out
      go_wp2_with (refine wpList_load_infG (by rfl) (.tmp 3) (by rfl) (by rfl) M5 ?_)
      refine CR.mono ?_
      rintro e w6 ⟨rfl, b6⟩
      clear CR M5
      have HS6 : Hid (KeW w P D z F (.slice xr nr cr) (.slice xs ns cz) w.heap.size w6) := ⟨HS5.out.inf.below b6 HS5.out.inf.lt, HS5.out.bel.trans (b6.mono HS5.out.bel.size)⟩
      have HM6 : Hid (Inf w6 g3 P D z (.slice (some ⟨ga4, 0, none⟩) nr capa4) F (.slice (some ⟨ga5, 0, none⟩) ns capa5)) := HM5.out.below b6 HM5.out.lt
      have HR6 : Hid (OwnS w6 w.heap.size (.slice (some ⟨ga4, 0, none⟩) (nr + 1) capa4) (txL fr nr ++ [gapB]) ∧ OwnS w6 w.heap.size (.slice (some ⟨ga5, 0, none⟩) (ns + 1) capa5) (txL fs ns ++ [gapB])) := ⟨HRR.out.same (fun g h => b6.block g (HRR.out.ge h).2), HR5.out.same (fun g h => b6.block g (HR5.out.ge h).2)⟩
      clear b6 HS5 HM5 HR5 HRR
      have M6 := HM6.out
      have CF := fing_any P D z F (some ⟨ga4, 0, none⟩) nr capa4 fr (some ⟨ga5, 0, none⟩) ns capa5 w6 (gap_row HR6.out.1).1 (by omega) (HT.out.below HS6.out.bel)
      go_wp2_with (refine wpList_load_infG (by rfl) (.tmp 3) (by rfl) (by rfl) M6 ?_)
      refine CF.mono ?_
      rintro e w7 ⟨rfl, b7⟩
      clear CF M6
      have HS7 : Hid (KeW w P D z F (.slice xr nr cr) (.slice xs ns cz) w.heap.size w7) := ⟨HS6.out.inf.below b7 HS6.out.inf.lt, HS6.out.bel.trans (b7.mono HS6.out.bel.size)⟩
      have HM7 : Hid (Inf w7 g3 P D z (.slice (some ⟨ga4, 0, none⟩) nr capa4) F (.slice (some ⟨ga5, 0, none⟩) ns capa5)) := HM6.out.below b7 HM6.out.lt
      have HR7 : Hid (OwnS w7 w.heap.size (.slice (some ⟨ga4, 0, none⟩) (nr + 1) capa4) (txL fr nr ++ [gapB]) ∧ OwnS w7 w.heap.size (.slice (some ⟨ga5, 0, none⟩) (ns + 1) capa5) (txL fs ns ++ [gapB])) := ⟨HR6.out.1.same (fun g h => b7.block g (HR6.out.1.ge h).2), HR6.out.2.same (fun g h => b7.block g (HR6.out.2.ge h).2)⟩
      clear b7 HS6 HM6 HR6
      have M7 := HM7.out
      have CC := ick_any P D z F (some ⟨ga4, 0, none⟩) nr capa4 fr (some ⟨ga5, 0, none⟩) ns capa5 fs w7 (gap_row HR7.out.1).1 (gap_row HR7.out.2).1 (by omega) (by have := HH.out.2.2.2.1; omega) (fun i hi => by have := HH.out.2.2.2.2.1 i hi; omega)
      generalize prS (fpC P z fr nr F) (fpT P D z fr nr) = fpx at *
      generalize fpC P z fr nr F = fpc at *
      go_wp2_with (refine wpList_load_infG (by rfl) (.tmp 3) (by rfl) (by rfl) M7 ?_)
      refine CC.mono ?_
      rintro e w8 ⟨rfl, b8⟩
      clear CC M7
      have HS8 : Hid (KeW w P D z F (.slice xr nr cr) (.slice xs ns cz) w.heap.size w8) := ⟨HS7.out.inf.below b8 HS7.out.inf.lt, HS7.out.bel.trans (b8.mono HS7.out.bel.size)⟩
      have HM8 : Hid (Inf w8 g3 P D z (.slice (some ⟨ga4, 0, none⟩) nr capa4) F (.slice (some ⟨ga5, 0, none⟩) ns capa5)) := HM7.out.below b8 HM7.out.lt
      have HR8 : Hid (OwnS w8 w.heap.size (.slice (some ⟨ga4, 0, none⟩) (nr + 1) capa4) (txL fr nr ++ [gapB]) ∧ OwnS w8 w.heap.size (.slice (some ⟨ga5, 0, none⟩) (ns + 1) capa5) (txL fs ns ++ [gapB])) := ⟨HR7.out.1.same (fun g h => b8.block g (HR7.out.1.ge h).2), HR7.out.2.same (fun g h => b8.block g (HR7.out.2.ge h).2)⟩
      clear b8 HS7 HM7 HR7
      go_upto_region 9 with fail
      have HM48 : nr ≤ 1048576 ∧ ns ≤ 1048576 := HH.out.2.2.2.1
      obtain ⟨hm1, hm2⟩ := HM48
      have CS9 := fun W (q : Ke9 w P D z F (.slice xr nr cr) (.slice xs ns cz) w.heap.size g3 ga4 nr capa4 fr ga5 ns capa5 fs W) => same_any P D z F (some ⟨ga4, 0, none⟩) nr capa4 fr (some ⟨ga5, 0, none⟩) ns capa5 fs P D z F xr nr cr fr xs ns cz fs W (gap_row q.r4).1 (gap_row q.r5).1 (HH.out.1.below q.bel (Nat.le_refl _)) (HH.out.2.1.below q.bel (Nat.le_refl _)) (by omega) (by omega) (by omega) (by omega)
      rw [sm_refl] at CS9
      have a1 : IntKind.i64.wrap ((nr : Int) + 1) = (nr : Int) + 1 := by rw [IntKind.wrap_i64]; omega
      have a2 : IntKind.i64.wrap ((ns : Int) + 1) = (ns : Int) + 1 := by rw [IntKind.wrap_i64]; omega
      have a3 : ¬ ((nr : Int) + 1 < 0) := by omega
      have a4 : ¬ ((ns : Int) + 1 < 0) := by omega
      have a5 : ((nr : Int) + 1).toNat = nr + 1 := by omega
      have a6 : ((ns : Int) + 1).toNat = ns + 1 := by omega
      have a7 : ¬ ((nr : Int) + 1 ≤ (nr : Int)) := by omega
      have a8 : ¬ ((ns : Int) + 1 ≤ (ns : Int)) := by omega
      have q1 : ¬ capa4 < nr + 1 := by omega
      have q2 : ¬ capa5 < ns + 1 := by omega
      have q3 : (nr : Int) + 1 ≤ (capa4 : Int) := by omega
      have q4 : (ns : Int) + 1 ≤ (capa5 : Int) := by omega
      refine wp_region_held_drew (S := Ke9 w P D z F (.slice xr nr cr) (.slice xs ns cz) w.heap.size g3 ga4 nr capa4 fr ga5 ns capa5 fs) (by kernel_rfl) ⟨HS8.out.inf.same rfl, HM8.out.same rfl, HR8.out.1.same (fun _ _ => rfl), HR8.out.2.same (fun _ _ => rfl), (gap_row HR8.out.1).2.1, (gap_row HR8.out.2).2.1, HS8.out.bel.drew⟩ (fun hH => ?_)
      generalize w8.drew = wd9 at *
      refine wpAnyH_take (i := 0) (oi := { dst := some 47, op := Op.load 26 (Operand.tmp 3), type := 26, pos := "law.go:178", after := #[], guard := none }) rfl (by kernel_rfl) (by kernel_rfl) (by kernel_rfl) (fun _ _ _ h => h) (yieldsIf_inf (by rfl) (.tmp 3) rfl rfl (fun w' s => s.i3)) hH ?_
      simp only [Act.put, List.setIfInBounds_toArray, List.set_cons_zero, List.set_cons_succ]
      refine wpAnyH_take (i := 1) (oi := { dst := some 48, op := Op.load 26 (Operand.tmp 1), type := 26, pos := "law.go:178", after := #[], guard := none }) rfl (by kernel_rfl) (by kernel_rfl) (by kernel_rfl) (fun _ _ _ h => h) (yieldsIf_inf (by rfl) (.tmp 1) rfl rfl (fun w' s => s.i1)) hH ?_
      simp only [Act.put, List.setIfInBounds_toArray, List.set_cons_zero, List.set_cons_succ]
      refine wpAnyH_ready (rs := [2]) (by kernel_rfl) (by decide) (AllReadyH.cons rfl (fun K hK => ?_) AllReadyH.nil)
      rw [if_pos (by rfl)]
      go_simp
      refine (CS9 _ hH).mono ?_
      rintro e v1 ⟨rfl, c1⟩
      go_wp2_with fail
      have hH1 := hH.next c1
      refine hK.out _ _ hH1 (fun _ => ?_)
      clear hK K
      try simp only [Act.put, List.setIfInBounds_toArray, List.set_cons_zero, List.set_cons_succ]
      refine wpAnyH_take (i := 3) (oi := { dst := some 50, op := Op.unOp UnOp.not 4 (Operand.tmp 49), type := 4, pos := "law.go:178", after := #[{ on := 2, ground := Ground.data }], guard := none }) (v := .bool false) rfl (by kernel_rfl) (by kernel_rfl) (by kernel_rfl) (fun _ _ _ h => h) (Or.inl ⟨by rfl, by intro w _; go_simp⟩) hH1 ?_
      simp only [Act.put, List.setIfInBounds_toArray, List.set_cons_zero, List.set_cons_succ]
      refine wpAnyH_take (i := 4) (oi := { dst := some 51, op := Op.move (Operand.tmp 50), type := 4, pos := "law.go:178", after := #[{ on := 3, ground := Ground.data }, { on := 2, ground := Ground.chain }], guard := none }) (v := .bool false) rfl (by kernel_rfl) (by kernel_rfl) (by kernel_rfl) (fun _ _ _ h => h) (Or.inl ⟨by rfl, by intro w _; go_simp⟩) hH1 ?_
      simp only [Act.put, List.setIfInBounds_toArray, List.set_cons_zero, List.set_cons_succ]
      refine wpAnyH_take (i := 5) (oi := { dst := some 52, op := Op.fieldAddr 26 (Operand.tmp 3) 3, type := 0, pos := "law.go:178", after := #[{ on := 4, ground := Ground.guard }], guard := some (4, false) }) (v := .pointer (some ⟨g3, 34, none⟩)) rfl (by kernel_rfl) (by kernel_rfl) (by kernel_rfl) (fun _ _ _ h => h) (Or.inl ⟨by rfl, by intro w _; go_simp⟩) hH1 ?_
      simp only [Act.put, List.setIfInBounds_toArray, List.set_cons_zero, List.set_cons_succ]
      refine wpAnyH_take (i := 6) (oi := { dst := some 53, op := Op.load 24 (Operand.tmp 52), type := 24, pos := "law.go:178", after := #[{ on := 5, ground := Ground.data }, { on := 4, ground := Ground.guard }], guard := some (4, false) }) (v := .slice (some ⟨ga4, 0, none⟩) nr capa4) rfl (by kernel_rfl) (by kernel_rfl) (by kernel_rfl) (fun _ _ _ h => h) (Or.inl ⟨by rfl, by intro w' s'; have c9 := s'.i3.refs; go_simp⟩) hH1 ?_
      simp only [Act.put, List.setIfInBounds_toArray, List.set_cons_zero, List.set_cons_succ]
      refine wpAnyH_take (i := 7) (oi := { dst := some 54, op := Op.fieldAddr 26 (Operand.tmp 1) 3, type := 0, pos := "law.go:178", after := #[{ on := 4, ground := Ground.guard }], guard := some (4, false) }) (v := .pointer (some ⟨w.heap.size, 34, none⟩)) rfl (by kernel_rfl) (by kernel_rfl) (by kernel_rfl) (fun _ _ _ h => h) (Or.inl ⟨by rfl, by intro w _; go_simp⟩) hH1 ?_
      simp only [Act.put, List.setIfInBounds_toArray, List.set_cons_zero, List.set_cons_succ]
      refine wpAnyH_take (i := 8) (oi := { dst := some 55, op := Op.load 24 (Operand.tmp 54), type := 24, pos := "law.go:178", after := #[{ on := 7, ground := Ground.data }, { on := 4, ground := Ground.guard }], guard := some (4, false) }) (v := .slice xr nr cr) rfl (by kernel_rfl) (by kernel_rfl) (by kernel_rfl) (fun _ _ _ h => h) (Or.inl ⟨by rfl, by intro w' s'; have c9 := s'.i1.refs; go_simp⟩) hH1 ?_
      simp only [Act.put, List.setIfInBounds_toArray, List.set_cons_zero, List.set_cons_succ]
      refine wpAnyH_take (i := 9) (oi := { dst := some 56, op := Op.call { callee := Callee.builtin Builtin.len, args := #[Operand.tmp 55], argTypes := #[24] }, type := 3, pos := "law.go:178", after := #[{ on := 8, ground := Ground.data }, { on := 4, ground := Ground.guard }], guard := some (4, false) }) (v := .int .i64 nr) rfl (by kernel_rfl) (by kernel_rfl) (by kernel_rfl) (fun _ _ _ h => h) (Or.inl ⟨by rfl, by intro w _; go_simp⟩) hH1 ?_
      simp only [Act.put, List.setIfInBounds_toArray, List.set_cons_zero, List.set_cons_succ]
      refine wpAnyH_take (i := 10) (oi := { dst := some 57, op := Op.binOp BinOp.add 3 (Operand.tmp 56) (Operand.const (Value.int IntKind.i64 1)) 3, type := 3, pos := "law.go:178", after := #[{ on := 9, ground := Ground.data }, { on := 4, ground := Ground.guard }], guard := some (4, false) }) (v := .int .i64 ((nr : Int) + 1)) rfl (by kernel_rfl) (by kernel_rfl) (by kernel_rfl) (fun _ _ _ h => h) (Or.inl ⟨by rfl, by intro w _; go_simp⟩) hH1 ?_
      simp only [Act.put, List.setIfInBounds_toArray, List.set_cons_zero, List.set_cons_succ]
      refine wpAnyH_take (i := 11) (oi := { dst := some 58, op := Op.slice 24 (Operand.tmp 53) none (some (Operand.tmp 57)) none, type := 24, pos := "law.go:178", after := #[{ on := 6, ground := Ground.data }, { on := 10, ground := Ground.data }, { on := 4, ground := Ground.guard }], guard := some (4, false) }) (v := .slice (some ⟨ga4, 0, none⟩) (nr + 1) capa4) rfl (by kernel_rfl) (by kernel_rfl) (by kernel_rfl) (fun _ _ _ h => h) (Or.inl ⟨by rfl, by intro w _; go_simp⟩) hH1 ?_
      simp only [Act.put, List.setIfInBounds_toArray, List.set_cons_zero, List.set_cons_succ]
      refine wpAnyH_take (i := 12) (oi := { dst := some 59, op := Op.fieldAddr 26 (Operand.tmp 1) 3, type := 0, pos := "law.go:178", after := #[{ on := 4, ground := Ground.guard }], guard := some (4, false) }) (v := .pointer (some ⟨w.heap.size, 34, none⟩)) rfl (by kernel_rfl) (by kernel_rfl) (by kernel_rfl) (fun _ _ _ h => h) (Or.inl ⟨by rfl, by intro w _; go_simp⟩) hH1 ?_
      simp only [Act.put, List.setIfInBounds_toArray, List.set_cons_zero, List.set_cons_succ]
      refine wpAnyH_take (i := 13) (oi := { dst := some 60, op := Op.load 24 (Operand.tmp 59), type := 24, pos := "law.go:178", after := #[{ on := 12, ground := Ground.data }, { on := 4, ground := Ground.guard }], guard := some (4, false) }) (v := .slice xr nr cr) rfl (by kernel_rfl) (by kernel_rfl) (by kernel_rfl) (fun _ _ _ h => h) (Or.inl ⟨by rfl, by intro w' s'; have c9 := s'.i1.refs; go_simp⟩) hH1 ?_
      simp only [Act.put, List.setIfInBounds_toArray, List.set_cons_zero, List.set_cons_succ]
      refine wpAnyH_take (i := 14) (oi := { dst := some 61, op := Op.call { callee := Callee.builtin Builtin.len, args := #[Operand.tmp 60], argTypes := #[24] }, type := 3, pos := "law.go:178", after := #[{ on := 13, ground := Ground.data }, { on := 4, ground := Ground.guard }], guard := some (4, false) }) (v := .int .i64 nr) rfl (by kernel_rfl) (by kernel_rfl) (by kernel_rfl) (fun _ _ _ h => h) (Or.inl ⟨by rfl, by intro w _; go_simp⟩) hH1 ?_
      simp only [Act.put, List.setIfInBounds_toArray, List.set_cons_zero, List.set_cons_succ]
      refine wpAnyH_take (i := 15) (oi := { dst := some 62, op := Op.indexAddr 24 (Operand.tmp 58) (Operand.tmp 61), type := 0, pos := "law.go:178", after := #[{ on := 11, ground := Ground.data }, { on := 14, ground := Ground.data }, { on := 4, ground := Ground.guard }], guard := some (4, false) }) (v := .pointer (some ⟨ga4, nr, none⟩)) rfl (by kernel_rfl) (by kernel_rfl) (by kernel_rfl) (fun _ _ _ h => h) (Or.inl ⟨by rfl, by intro w _; go_simp⟩) hH1 ?_
      simp only [Act.put, List.setIfInBounds_toArray, List.set_cons_zero, List.set_cons_succ]
      refine wpAnyH_take (i := 16) (oi := { dst := some 63, op := Op.load 9 (Operand.tmp 62), type := 9, pos := "law.go:178", after := #[{ on := 15, ground := Ground.data }, { on := 4, ground := Ground.guard }], guard := some (4, false) }) (v := .string ⟨#[103, 97, 112]⟩) rfl (by kernel_rfl) (by kernel_rfl) (by kernel_rfl) (fun _ _ _ h => h) (Or.inl ⟨by rfl, by intro w' s'; have c9 := s'.c4; go_simp⟩) hH1 ?_
      simp only [Act.put, List.setIfInBounds_toArray, List.set_cons_zero, List.set_cons_succ]
      refine wpAnyH_take (i := 17) (oi := { dst := some 64, op := Op.binOp BinOp.neq 9 (Operand.tmp 63) (Operand.const (Value.string { data := #[103, 97, 112] })) 9, type := 4, pos := "law.go:178", after := #[{ on := 16, ground := Ground.data }, { on := 4, ground := Ground.guard }], guard := some (4, false) }) (v := .bool false) rfl (by kernel_rfl) (by kernel_rfl) (by kernel_rfl) (fun _ _ _ h => h) (Or.inl ⟨by rfl, by intro w _; go_simp⟩) hH1 ?_
      simp only [Act.put, List.setIfInBounds_toArray, List.set_cons_zero, List.set_cons_succ]
      refine wpAnyH_take (i := 18) (oi := { dst := some 65, op := Op.pick (Operand.tmp 51) (Operand.const (Value.bool true)) (Operand.tmp 64), type := 4, pos := "law.go:178", after := #[{ on := 4, ground := Ground.data }, { on := 17, ground := Ground.data }], guard := none }) (v := .bool false) rfl (by kernel_rfl) (by kernel_rfl) (by kernel_rfl) (fun _ _ _ h => h) (Or.inl ⟨by rfl, by intro w _; go_simp⟩) hH1 ?_
      simp only [Act.put, List.setIfInBounds_toArray, List.set_cons_zero, List.set_cons_succ]
      refine wpAnyH_take (i := 19) (oi := { dst := some 66, op := Op.move (Operand.tmp 65), type := 4, pos := "law.go:178", after := #[{ on := 18, ground := Ground.data }, { on := 4, ground := Ground.chain }], guard := none }) (v := .bool false) rfl (by kernel_rfl) (by kernel_rfl) (by kernel_rfl) (fun _ _ _ h => h) (Or.inl ⟨by rfl, by intro w _; go_simp⟩) hH1 ?_
      simp only [Act.put, List.setIfInBounds_toArray, List.set_cons_zero, List.set_cons_succ]
      refine wpAnyH_take (i := 20) (oi := { dst := some 67, op := Op.fieldAddr 26 (Operand.tmp 3) 5, type := 0, pos := "law.go:178", after := #[{ on := 19, ground := Ground.guard }], guard := some (19, false) }) (v := .pointer (some ⟨g3, 36, none⟩)) rfl (by kernel_rfl) (by kernel_rfl) (by kernel_rfl) (fun _ _ _ h => h) (Or.inl ⟨by rfl, by intro w _; go_simp⟩) hH1 ?_
      simp only [Act.put, List.setIfInBounds_toArray, List.set_cons_zero, List.set_cons_succ]
      refine wpAnyH_take (i := 21) (oi := { dst := some 68, op := Op.load 24 (Operand.tmp 67), type := 24, pos := "law.go:178", after := #[{ on := 20, ground := Ground.data }, { on := 19, ground := Ground.guard }], guard := some (19, false) }) (v := .slice (some ⟨ga5, 0, none⟩) ns capa5) rfl (by kernel_rfl) (by kernel_rfl) (by kernel_rfl) (fun _ _ _ h => h) (Or.inl ⟨by rfl, by intro w' s'; have c9 := s'.i3.signs; go_simp⟩) hH1 ?_
      simp only [Act.put, List.setIfInBounds_toArray, List.set_cons_zero, List.set_cons_succ]
      refine wpAnyH_take (i := 22) (oi := { dst := some 69, op := Op.fieldAddr 26 (Operand.tmp 1) 5, type := 0, pos := "law.go:178", after := #[{ on := 19, ground := Ground.guard }], guard := some (19, false) }) (v := .pointer (some ⟨w.heap.size, 36, none⟩)) rfl (by kernel_rfl) (by kernel_rfl) (by kernel_rfl) (fun _ _ _ h => h) (Or.inl ⟨by rfl, by intro w _; go_simp⟩) hH1 ?_
      simp only [Act.put, List.setIfInBounds_toArray, List.set_cons_zero, List.set_cons_succ]
      refine wpAnyH_take (i := 23) (oi := { dst := some 70, op := Op.load 24 (Operand.tmp 69), type := 24, pos := "law.go:178", after := #[{ on := 22, ground := Ground.data }, { on := 19, ground := Ground.guard }], guard := some (19, false) }) (v := .slice xs ns cz) rfl (by kernel_rfl) (by kernel_rfl) (by kernel_rfl) (fun _ _ _ h => h) (Or.inl ⟨by rfl, by intro w' s'; have c9 := s'.i1.signs; go_simp⟩) hH1 ?_
      simp only [Act.put, List.setIfInBounds_toArray, List.set_cons_zero, List.set_cons_succ]
      refine wpAnyH_take (i := 24) (oi := { dst := some 71, op := Op.call { callee := Callee.builtin Builtin.len, args := #[Operand.tmp 70], argTypes := #[24] }, type := 3, pos := "law.go:178", after := #[{ on := 23, ground := Ground.data }, { on := 19, ground := Ground.guard }], guard := some (19, false) }) (v := .int .i64 ns) rfl (by kernel_rfl) (by kernel_rfl) (by kernel_rfl) (fun _ _ _ h => h) (Or.inl ⟨by rfl, by intro w _; go_simp⟩) hH1 ?_
      simp only [Act.put, List.setIfInBounds_toArray, List.set_cons_zero, List.set_cons_succ]
      refine wpAnyH_take (i := 25) (oi := { dst := some 72, op := Op.binOp BinOp.add 3 (Operand.tmp 71) (Operand.const (Value.int IntKind.i64 1)) 3, type := 3, pos := "law.go:178", after := #[{ on := 24, ground := Ground.data }, { on := 19, ground := Ground.guard }], guard := some (19, false) }) (v := .int .i64 ((ns : Int) + 1)) rfl (by kernel_rfl) (by kernel_rfl) (by kernel_rfl) (fun _ _ _ h => h) (Or.inl ⟨by rfl, by intro w _; go_simp⟩) hH1 ?_
      simp only [Act.put, List.setIfInBounds_toArray, List.set_cons_zero, List.set_cons_succ]
      refine wpAnyH_take (i := 26) (oi := { dst := some 73, op := Op.slice 24 (Operand.tmp 68) none (some (Operand.tmp 72)) none, type := 24, pos := "law.go:178", after := #[{ on := 21, ground := Ground.data }, { on := 25, ground := Ground.data }, { on := 19, ground := Ground.guard }], guard := some (19, false) }) (v := .slice (some ⟨ga5, 0, none⟩) (ns + 1) capa5) rfl (by kernel_rfl) (by kernel_rfl) (by kernel_rfl) (fun _ _ _ h => h) (Or.inl ⟨by rfl, by intro w _; go_simp⟩) hH1 ?_
      simp only [Act.put, List.setIfInBounds_toArray, List.set_cons_zero, List.set_cons_succ]
      refine wpAnyH_take (i := 27) (oi := { dst := some 74, op := Op.fieldAddr 26 (Operand.tmp 1) 5, type := 0, pos := "law.go:178", after := #[{ on := 19, ground := Ground.guard }], guard := some (19, false) }) (v := .pointer (some ⟨w.heap.size, 36, none⟩)) rfl (by kernel_rfl) (by kernel_rfl) (by kernel_rfl) (fun _ _ _ h => h) (Or.inl ⟨by rfl, by intro w _; go_simp⟩) hH1 ?_
      simp only [Act.put, List.setIfInBounds_toArray, List.set_cons_zero, List.set_cons_succ]
      refine wpAnyH_take (i := 28) (oi := { dst := some 75, op := Op.load 24 (Operand.tmp 74), type := 24, pos := "law.go:178", after := #[{ on := 27, ground := Ground.data }, { on := 19, ground := Ground.guard }], guard := some (19, false) }) (v := .slice xs ns cz) rfl (by kernel_rfl) (by kernel_rfl) (by kernel_rfl) (fun _ _ _ h => h) (Or.inl ⟨by rfl, by intro w' s'; have c9 := s'.i1.signs; go_simp⟩) hH1 ?_
      simp only [Act.put, List.setIfInBounds_toArray, List.set_cons_zero, List.set_cons_succ]
      refine wpAnyH_take (i := 29) (oi := { dst := some 76, op := Op.call { callee := Callee.builtin Builtin.len, args := #[Operand.tmp 75], argTypes := #[24] }, type := 3, pos := "law.go:178", after := #[{ on := 28, ground := Ground.data }, { on := 19, ground := Ground.guard }], guard := some (19, false) }) (v := .int .i64 ns) rfl (by kernel_rfl) (by kernel_rfl) (by kernel_rfl) (fun _ _ _ h => h) (Or.inl ⟨by rfl, by intro w _; go_simp⟩) hH1 ?_
      simp only [Act.put, List.setIfInBounds_toArray, List.set_cons_zero, List.set_cons_succ]
      refine wpAnyH_take (i := 30) (oi := { dst := some 77, op := Op.indexAddr 24 (Operand.tmp 73) (Operand.tmp 76), type := 0, pos := "law.go:178", after := #[{ on := 26, ground := Ground.data }, { on := 29, ground := Ground.data }, { on := 19, ground := Ground.guard }], guard := some (19, false) }) (v := .pointer (some ⟨ga5, ns, none⟩)) rfl (by kernel_rfl) (by kernel_rfl) (by kernel_rfl) (fun _ _ _ h => h) (Or.inl ⟨by rfl, by intro w _; go_simp⟩) hH1 ?_
      simp only [Act.put, List.setIfInBounds_toArray, List.set_cons_zero, List.set_cons_succ]
      refine wpAnyH_take (i := 31) (oi := { dst := some 78, op := Op.load 9 (Operand.tmp 77), type := 9, pos := "law.go:178", after := #[{ on := 30, ground := Ground.data }, { on := 19, ground := Ground.guard }], guard := some (19, false) }) (v := .string ⟨#[103, 97, 112]⟩) rfl (by kernel_rfl) (by kernel_rfl) (by kernel_rfl) (fun _ _ _ h => h) (Or.inl ⟨by rfl, by intro w' s'; have c9 := s'.c5; go_simp⟩) hH1 ?_
      simp only [Act.put, List.setIfInBounds_toArray, List.set_cons_zero, List.set_cons_succ]
      refine wpAnyH_take (i := 32) (oi := { dst := some 79, op := Op.binOp BinOp.neq 9 (Operand.tmp 78) (Operand.const (Value.string { data := #[103, 97, 112] })) 9, type := 4, pos := "law.go:178", after := #[{ on := 31, ground := Ground.data }, { on := 19, ground := Ground.guard }], guard := some (19, false) }) (v := .bool false) rfl (by kernel_rfl) (by kernel_rfl) (by kernel_rfl) (fun _ _ _ h => h) (Or.inl ⟨by rfl, by intro w _; go_simp⟩) hH1 ?_
      simp only [Act.put, List.setIfInBounds_toArray, List.set_cons_zero, List.set_cons_succ]
      refine wpAnyH_take (i := 33) (oi := { dst := some 80, op := Op.pick (Operand.tmp 66) (Operand.const (Value.bool true)) (Operand.tmp 79), type := 4, pos := "law.go:178", after := #[{ on := 19, ground := Ground.data }, { on := 32, ground := Ground.data }], guard := none }) (v := .bool false) rfl (by kernel_rfl) (by kernel_rfl) (by kernel_rfl) (fun _ _ _ h => h) (Or.inl ⟨by rfl, by intro w _; go_simp⟩) hH1 ?_
      simp only [Act.put, List.setIfInBounds_toArray, List.set_cons_zero, List.set_cons_succ]
      refine wpAnyH_done (by kernel_rfl) ?_ _
      have HS9 : Hid (KeW w P D z F (.slice xr nr cr) (.slice xs ns cz) w.heap.size v1) := ⟨hH1.i1, hH1.bel⟩
      clear hH hH1 HM8 HR8 HS8 CS9 c1 q1 q2 q3 q4 a1 a2 a3 a4 a5 a6 a7 a8
      by_cases hck : ck = 0
      · subst hck
        have HTX : Hid (tx.size ≤ 1000000000) := by
          have := pr_small (D := D) HCK.out.1 hm2
          rw [HCK.out.2] at this
          exact this
        have HPZ : Hid (PZ tx = (backS P D z fr nr F fs ns, 0, 0)) := by
          have := back_form P D z fr nr F fs ns HCK.out.1
          rw [HCK.out.2] at this
          exact this
        rw [prS_z rfl]
        go_wp2_with fail
        have CPa := iparse_any tx v1 (by have := HTX.out; omega)
        rw [HPZ.out] at CPa
        refine CPa.mono ?_
        clear CPa
        rintro e wa1 ⟨⟨vra, vsa, rfl, ORa, OSa, hda⟩, ba⟩
        have HSa : Hid (KeW w P D z F (.slice xr nr cr) (.slice xs ns cz) w.heap.size wa1) := ⟨HS9.out.inf.below ba HS9.out.inf.lt, HS9.out.bel.trans (ba.mono HS9.out.bel.size)⟩
        have HOa : Hid (OwnR wa1 v1.heap.size vra ((List.range nr).map fr) ∧ OwnS wa1 v1.heap.size vsa ((List.range ns).map fs) ∧ (∀ k, vra.ownBlock = some k → vsa.ownBlock ≠ some k) ∧ v1.heap.size ≤ wa1.heap.size) := ⟨ORa, OSa, hda, ba.size⟩
        obtain ⟨xra, cra, rfl, _, _⟩ := ORa.shape
        obtain ⟨xsa, cza, rfl, _, _⟩ := OSa.shape
        clear ORa OSa hda ba
        have J0 : Inf ((wa1.alloc (.cells (infC ⟨#[]⟩ (fun _ => 0) 0 (.slice none 0 0) ⟨#[]⟩ (.slice none 0 0)) 26)).alloc (.cells #[.int .i64 0, .int .i64 0] 34)) wa1.heap.size ⟨#[]⟩ (fun _ => 0) 0 (.slice none 0 0) ⟨#[]⟩ (.slice none 0 0) := (Inf.box _ _ _ _ _ _ _ _).same (Below.heap_alloc _ _ _ (by rw [World.size_alloc]; omega))
        have F0 : Hid (Row .i64 ((wa1.alloc (.cells (infC ⟨#[]⟩ (fun _ => 0) 0 (.slice none 0 0) ⟨#[]⟩ (.slice none 0 0)) 26)).alloc (.cells #[.int .i64 0, .int .i64 0] 34)) (wa1.heap.size + 1) 2 (fun _ => 0)) := by
          have := Row.arr (k := .i64) (w := wa1.alloc (.cells (infC ⟨#[]⟩ (fun _ => 0) 0 (.slice none 0 0) ⟨#[]⟩ (.slice none 0 0)) 26)) (e := 34) (C := #[.int .i64 0, .int .i64 0]) (n := 2) (f := fun _ => 0) (fun j hj => by rcases (show j = 0 ∨ j = 1 from by omega) with rfl | rfl <;> rfl)
          rw [World.size_alloc] at this
          exact this
        have B0 : Hid (Below wa1.heap.size wa1 ((wa1.alloc (.cells (infC ⟨#[]⟩ (fun _ => 0) 0 (.slice none 0 0) ⟨#[]⟩ (.slice none 0 0)) 26)).alloc (.cells #[.int .i64 0, .int .i64 0] 34))) := ((Below.refl _ _).alloc (Nat.le_refl _) _).alloc (by rw [World.size_alloc]; omega) _
        have z0 : Hid (wa1.heap.size + 2 = ((wa1.alloc (.cells (infC ⟨#[]⟩ (fun _ => 0) 0 (.slice none 0 0) ⟨#[]⟩ (.slice none 0 0)) 26)).alloc (.cells #[.int .i64 0, .int .i64 0] 34)).heap.size) := by unfold Hid; rw [World.size_alloc, World.size_alloc]
        go_wp2_with (refine wpList_store_infI (by rfl) (.tmp 6) (.tmp 86) (by rfl) (by rfl) (by rfl) J0 rfl rfl (by rfl) ?_; intro W5 R5 U5; refine Hid.out ?_)
        unfold Hid
        have F5 : Row .i64 W5 (wa1.heap.size + 1) 2 (fun _ => 0) := F0.out.upd U5 (by have := z0.out; omega) (by omega)
        have B5 : Hid (Below wa1.heap.size wa1 W5) := U5.below B0.out (Nat.le_refl _) B0.out.size
        have d0 := F5.cell 0 (by omega)
        have d1 := F5.cell 1 (by omega)
        have g0 := F5.free 0 (by omega)
        have g1 := F5.free 1 (by omega)
        have z5 : Hid (wa1.heap.size + 2 = W5.heap.size) := by unfold Hid; rw [U5.size]; exact z0.out
        clear J0 F0 U5 F5 B0 z0
        go_upto_region 14 with fail
        have I6 : Inf ((W5.setCell ⟨wa1.heap.size + 1, 0, none⟩ (.int .i64 0)).setCell ⟨wa1.heap.size + 1, 1, none⟩ (.int .i64 0)) wa1.heap.size P (backS P D z fr nr F fs ns).D z (.slice xra ((List.range nr).map fr).length cra) F (.slice xsa ((List.range ns).map fs).length cza) := R5.same ((Below.heap_setCell _ ⟨wa1.heap.size + 1, 1, none⟩ _ _ (by show wa1.heap.size ≠ wa1.heap.size + 1; omega)).trans (Below.heap_setCell _ ⟨wa1.heap.size + 1, 0, none⟩ _ _ (by show wa1.heap.size ≠ wa1.heap.size + 1; omega)))
        have B6 : Below wa1.heap.size wa1 ((W5.setCell ⟨wa1.heap.size + 1, 0, none⟩ (.int .i64 0)).setCell ⟨wa1.heap.size + 1, 1, none⟩ (.int .i64 0)) := (B5.out.setCell (by show _ ≤ wa1.heap.size + 1; omega) _).setCell (by show _ ≤ wa1.heap.size + 1; omega) _
        have z6 : wa1.heap.size + 2 = ((W5.setCell ⟨wa1.heap.size + 1, 0, none⟩ (.int .i64 0)).setCell ⟨wa1.heap.size + 1, 1, none⟩ (.int .i64 0)).heap.size := by rw [World.size_setCell, World.size_setCell]; exact z5.out
        clear R5 B5 d0 d1 g0 g1 z5
        have HSA : Hid (KeW w P D z F (.slice xr nr cr) (.slice xs ns cz) w.heap.size ((W5.setCell ⟨wa1.heap.size + 1, 0, none⟩ (.int .i64 0)).setCell ⟨wa1.heap.size + 1, 1, none⟩ (.int .i64 0))) := ⟨HSa.out.inf.below B6 HSa.out.inf.lt, HSa.out.bel.trans (B6.mono HSa.out.bel.size)⟩
        obtain ⟨Ba, hBa⟩ : ∃ B, v1.heap.size = B := ⟨_, rfl⟩
        have HBA : Hid (w.heap.size < Ba) := by rw [← hBa]; exact HS9.out.inf.lt
        have HFA : Hid (OwnR ((W5.setCell ⟨wa1.heap.size + 1, 0, none⟩ (.int .i64 0)).setCell ⟨wa1.heap.size + 1, 1, none⟩ (.int .i64 0)) Ba (.slice xra ((List.range nr).map fr).length cra) ((List.range nr).map fr) ∧ OwnS ((W5.setCell ⟨wa1.heap.size + 1, 0, none⟩ (.int .i64 0)).setCell ⟨wa1.heap.size + 1, 1, none⟩ (.int .i64 0)) Ba (.slice xsa ((List.range ns).map fs).length cza) ((List.range ns).map fs) ∧ (∀ k, (Value.slice xra ((List.range nr).map fr).length cra).ownBlock = some k → (Value.slice xsa ((List.range ns).map fs).length cza).ownBlock ≠ some k)) := by
          rw [← hBa]
          exact ⟨HOa.out.1.same (fun g h => B6.block g (HOa.out.1.ge h).2), HOa.out.2.1.same (fun g h => B6.block g (HOa.out.2.1.ge h).2), HOa.out.2.2.1⟩
        obtain ⟨gA, hgA⟩ : ∃ g, wa1.heap.size = g := ⟨_, rfl⟩
        have HZA : Hid (Ba ≤ gA ∧ gA + 2 ≤ ((W5.setCell ⟨wa1.heap.size + 1, 0, none⟩ (.int .i64 0)).setCell ⟨wa1.heap.size + 1, 1, none⟩ (.int .i64 0)).heap.size ∧ (∀ k, (Value.slice xra ((List.range nr).map fr).length cra).ownBlock = some k → k < gA) ∧ (∀ k, (Value.slice xsa ((List.range ns).map fs).length cza).ownBlock = some k → k < gA)) := by
          rw [← hBa, ← hgA]
          exact ⟨HOa.out.2.2.2, Nat.le_of_eq z6, fun k h => (HOa.out.1.ge h).2, fun k h => (HOa.out.2.1.ge h).2⟩
        have HIA : Hid (Inf ((W5.setCell ⟨wa1.heap.size + 1, 0, none⟩ (.int .i64 0)).setCell ⟨wa1.heap.size + 1, 1, none⟩ (.int .i64 0)) wa1.heap.size P (backS P D z fr nr F fs ns).D z (.slice xra nr cra) F (.slice xsa ns cza)) := by
          have h6 := I6
          rw [List.length_map, List.length_range, List.length_map, List.length_range] at h6
          exact h6
        clear I6 B6 z6 HOa HSa HS9
        rw [hgA] at HSA HFA HZA HIA ⊢
        clear hBa hgA
        generalize (W5.setCell ⟨gA + 1, 0, none⟩ (.int .i64 0)).setCell ⟨gA + 1, 1, none⟩ (.int .i64 0) = Wa at *
        go_wp2_with fail
        have HZA0 : Hid (Ba ≤ gA ∧ gA + 2 ≤ Wa.heap.size) := ⟨HZA.out.1, HZA.out.2.1⟩
        have CPb := iparse_any tx Wa (by have := HTX.out; omega)
        rw [HPZ.out] at CPb
        refine CPb.mono ?_
        clear CPb
        rintro e wb1 ⟨⟨vrb, vsb, rfl, ORb, OSb, hdb⟩, bb⟩
        have HSb : Hid (KeW w P D z F (.slice xr nr cr) (.slice xs ns cz) w.heap.size wb1) := ⟨HSA.out.inf.below bb HSA.out.inf.lt, HSA.out.bel.trans (bb.mono HSA.out.bel.size)⟩
        have HIA1 : Hid (Inf wb1 gA P (backS P D z fr nr F fs ns).D z (.slice xra nr cra) F (.slice xsa ns cza)) := HIA.out.below bb HIA.out.lt
        have HFA1 : Hid (OwnR wb1 Ba (.slice xra ((List.range nr).map fr).length cra) ((List.range nr).map fr) ∧ OwnS wb1 Ba (.slice xsa ((List.range ns).map fs).length cza) ((List.range ns).map fs) ∧ (∀ k, (Value.slice xra ((List.range nr).map fr).length cra).ownBlock = some k → (Value.slice xsa ((List.range ns).map fs).length cza).ownBlock ≠ some k)) := ⟨HFA.out.1.same (fun g h => bb.block g (HFA.out.1.ge h).2), HFA.out.2.1.same (fun g h => bb.block g (HFA.out.2.1.ge h).2), HFA.out.2.2⟩
        have HZA1 : Hid (Ba ≤ gA ∧ gA + 2 ≤ wb1.heap.size ∧ (∀ k, (Value.slice xra ((List.range nr).map fr).length cra).ownBlock = some k → k < gA) ∧ (∀ k, (Value.slice xsa ((List.range ns).map fs).length cza).ownBlock = some k → k < gA)) := ⟨HZA.out.1, Nat.le_trans HZA.out.2.1 bb.size, HZA.out.2.2⟩
        clear HSA HIA HFA HZA
        have HOb : Hid (OwnR wb1 Wa.heap.size vrb ((List.range nr).map fr) ∧ OwnS wb1 Wa.heap.size vsb ((List.range ns).map fs) ∧ (∀ k, vrb.ownBlock = some k → vsb.ownBlock ≠ some k) ∧ Wa.heap.size ≤ wb1.heap.size) := ⟨ORb, OSb, hdb, bb.size⟩
        obtain ⟨xrb, crb, rfl, _, _⟩ := ORb.shape
        obtain ⟨xsb, czb, rfl, _, _⟩ := OSb.shape
        clear ORb OSb hdb bb
        have J0 : Inf ((wb1.alloc (.cells (infC ⟨#[]⟩ (fun _ => 0) 0 (.slice none 0 0) ⟨#[]⟩ (.slice none 0 0)) 26)).alloc (.cells #[.int .i64 0, .int .i64 0] 34)) wb1.heap.size ⟨#[]⟩ (fun _ => 0) 0 (.slice none 0 0) ⟨#[]⟩ (.slice none 0 0) := (Inf.box _ _ _ _ _ _ _ _).same (Below.heap_alloc _ _ _ (by rw [World.size_alloc]; omega))
        have F0 : Hid (Row .i64 ((wb1.alloc (.cells (infC ⟨#[]⟩ (fun _ => 0) 0 (.slice none 0 0) ⟨#[]⟩ (.slice none 0 0)) 26)).alloc (.cells #[.int .i64 0, .int .i64 0] 34)) (wb1.heap.size + 1) 2 (fun _ => 0)) := by
          have := Row.arr (k := .i64) (w := wb1.alloc (.cells (infC ⟨#[]⟩ (fun _ => 0) 0 (.slice none 0 0) ⟨#[]⟩ (.slice none 0 0)) 26)) (e := 34) (C := #[.int .i64 0, .int .i64 0]) (n := 2) (f := fun _ => 0) (fun j hj => by rcases (show j = 0 ∨ j = 1 from by omega) with rfl | rfl <;> rfl)
          rw [World.size_alloc] at this
          exact this
        have B0 : Hid (Below wb1.heap.size wb1 ((wb1.alloc (.cells (infC ⟨#[]⟩ (fun _ => 0) 0 (.slice none 0 0) ⟨#[]⟩ (.slice none 0 0)) 26)).alloc (.cells #[.int .i64 0, .int .i64 0] 34))) := ((Below.refl _ _).alloc (Nat.le_refl _) _).alloc (by rw [World.size_alloc]; omega) _
        have z0 : Hid (wb1.heap.size + 2 = ((wb1.alloc (.cells (infC ⟨#[]⟩ (fun _ => 0) 0 (.slice none 0 0) ⟨#[]⟩ (.slice none 0 0)) 26)).alloc (.cells #[.int .i64 0, .int .i64 0] 34)).heap.size) := by unfold Hid; rw [World.size_alloc, World.size_alloc]
        go_wp2_with (refine wpList_store_infI (by rfl) (.tmp 8) (.tmp 91) (by rfl) (by rfl) (by rfl) J0 rfl rfl (by rfl) ?_; intro W5 R5 U5; refine Hid.out ?_)
        unfold Hid
        have F5 : Row .i64 W5 (wb1.heap.size + 1) 2 (fun _ => 0) := F0.out.upd U5 (by have := z0.out; omega) (by omega)
        have B5 : Hid (Below wb1.heap.size wb1 W5) := U5.below B0.out (Nat.le_refl _) B0.out.size
        have d0 := F5.cell 0 (by omega)
        have d1 := F5.cell 1 (by omega)
        have g0 := F5.free 0 (by omega)
        have g1 := F5.free 1 (by omega)
        have z5 : Hid (wb1.heap.size + 2 = W5.heap.size) := by unfold Hid; rw [U5.size]; exact z0.out
        clear J0 F0 U5 F5 B0 z0
        go_upto_region 15 with fail
        have I6 : Inf ((W5.setCell ⟨wb1.heap.size + 1, 0, none⟩ (.int .i64 0)).setCell ⟨wb1.heap.size + 1, 1, none⟩ (.int .i64 0)) wb1.heap.size P (backS P D z fr nr F fs ns).D z (.slice xrb ((List.range nr).map fr).length crb) F (.slice xsb ((List.range ns).map fs).length czb) := R5.same ((Below.heap_setCell _ ⟨wb1.heap.size + 1, 1, none⟩ _ _ (by show wb1.heap.size ≠ wb1.heap.size + 1; omega)).trans (Below.heap_setCell _ ⟨wb1.heap.size + 1, 0, none⟩ _ _ (by show wb1.heap.size ≠ wb1.heap.size + 1; omega)))
        have B6 : Below wb1.heap.size wb1 ((W5.setCell ⟨wb1.heap.size + 1, 0, none⟩ (.int .i64 0)).setCell ⟨wb1.heap.size + 1, 1, none⟩ (.int .i64 0)) := (B5.out.setCell (by show _ ≤ wb1.heap.size + 1; omega) _).setCell (by show _ ≤ wb1.heap.size + 1; omega) _
        have z6 : wb1.heap.size + 2 = ((W5.setCell ⟨wb1.heap.size + 1, 0, none⟩ (.int .i64 0)).setCell ⟨wb1.heap.size + 1, 1, none⟩ (.int .i64 0)).heap.size := by rw [World.size_setCell, World.size_setCell]; exact z5.out
        clear R5 B5 d0 d1 g0 g1 z5
        have HSB : Hid (KeW w P D z F (.slice xr nr cr) (.slice xs ns cz) w.heap.size ((W5.setCell ⟨wb1.heap.size + 1, 0, none⟩ (.int .i64 0)).setCell ⟨wb1.heap.size + 1, 1, none⟩ (.int .i64 0))) := ⟨HSb.out.inf.below B6 HSb.out.inf.lt, HSb.out.bel.trans (B6.mono HSb.out.bel.size)⟩
        have HIA : Hid (Inf ((W5.setCell ⟨wb1.heap.size + 1, 0, none⟩ (.int .i64 0)).setCell ⟨wb1.heap.size + 1, 1, none⟩ (.int .i64 0)) gA P (backS P D z fr nr F fs ns).D z (.slice xra nr cra) F (.slice xsa ns cza)) := HIA1.out.below B6 HIA1.out.lt
        have HFA : Hid (OwnR ((W5.setCell ⟨wb1.heap.size + 1, 0, none⟩ (.int .i64 0)).setCell ⟨wb1.heap.size + 1, 1, none⟩ (.int .i64 0)) Ba (.slice xra ((List.range nr).map fr).length cra) ((List.range nr).map fr) ∧ OwnS ((W5.setCell ⟨wb1.heap.size + 1, 0, none⟩ (.int .i64 0)).setCell ⟨wb1.heap.size + 1, 1, none⟩ (.int .i64 0)) Ba (.slice xsa ((List.range ns).map fs).length cza) ((List.range ns).map fs) ∧ (∀ k, (Value.slice xra ((List.range nr).map fr).length cra).ownBlock = some k → (Value.slice xsa ((List.range ns).map fs).length cza).ownBlock ≠ some k)) := ⟨HFA1.out.1.same (fun g h => B6.block g (HFA1.out.1.ge h).2), HFA1.out.2.1.same (fun g h => B6.block g (HFA1.out.2.1.ge h).2), HFA1.out.2.2⟩
        obtain ⟨gB, hgB⟩ : ∃ g, wb1.heap.size = g := ⟨_, rfl⟩
        have HFB : Hid (OwnR ((W5.setCell ⟨wb1.heap.size + 1, 0, none⟩ (.int .i64 0)).setCell ⟨wb1.heap.size + 1, 1, none⟩ (.int .i64 0)) (gA + 2) (.slice xrb ((List.range nr).map fr).length crb) ((List.range nr).map fr) ∧ OwnS ((W5.setCell ⟨wb1.heap.size + 1, 0, none⟩ (.int .i64 0)).setCell ⟨wb1.heap.size + 1, 1, none⟩ (.int .i64 0)) (gA + 2) (.slice xsb ((List.range ns).map fs).length czb) ((List.range ns).map fs)) := ⟨OwnR.low HZA0.out.2 (HOb.out.1.same (fun g h => B6.block g (HOb.out.1.ge h).2)), OwnS.low HZA0.out.2 (HOb.out.2.1.same (fun g h => B6.block g (HOb.out.2.1.ge h).2))⟩
        have HIB : Hid (Inf ((W5.setCell ⟨wb1.heap.size + 1, 0, none⟩ (.int .i64 0)).setCell ⟨wb1.heap.size + 1, 1, none⟩ (.int .i64 0)) gB P (backS P D z fr nr F fs ns).D z (.slice xrb nr crb) F (.slice xsb ns czb)) := by
          have h6 := I6
          rw [List.length_map, List.length_range, List.length_map, List.length_range] at h6
          rw [← hgB]; exact h6
        have HZB : Hid (gA + 2 ≤ gB ∧ gB < ((W5.setCell ⟨wb1.heap.size + 1, 0, none⟩ (.int .i64 0)).setCell ⟨wb1.heap.size + 1, 1, none⟩ (.int .i64 0)).heap.size ∧ Ba ≤ gA ∧ (∀ k, (Value.slice xra ((List.range nr).map fr).length cra).ownBlock = some k → k < gA) ∧ (∀ k, (Value.slice xsa ((List.range ns).map fs).length cza).ownBlock = some k → k < gA)) := by
          rw [← hgB]
          exact ⟨HZA1.out.2.1, by rw [← z6]; omega, HZA1.out.1, HZA1.out.2.2⟩
        have HKB : Hid ((∀ k, (Value.slice xrb nr crb).ownBlock = some k → k < gB) ∧ (∀ k, (Value.slice xsb ns czb).ownBlock = some k → k < gB)) := by
          rw [← hgB]
          have k1 : ∀ k, (Value.slice xrb ((List.range nr).map fr).length crb).ownBlock = some k → k < wb1.heap.size := fun k h => (HOb.out.1.ge h).2
          have k2 : ∀ k, (Value.slice xsb ((List.range ns).map fs).length czb).ownBlock = some k → k < wb1.heap.size := fun k h => (HOb.out.2.1.ge h).2
          rw [List.length_map, List.length_range] at k1 k2
          exact ⟨k1, k2⟩
        clear I6 B6 z6 HOb HSb HIA1 HFA1 HZA1 HZA0
        rw [hgB] at HSB HIA HFA HFB HIB HZB ⊢
        clear hgB
        generalize (W5.setCell ⟨gB + 1, 0, none⟩ (.int .i64 0)).setCell ⟨gB + 1, 1, none⟩ (.int .i64 0) = Wb at *
        have CSa := fun W (SR : SIs W xra nr (Sq.nth ((List.range nr).map fr))) (SS : SIs W xsa ns (Sq.nth ((List.range ns).map fs))) (bl : Below w.heap.size w W) => same_any P (backS P D z fr nr F fs ns).D z F xra nr cra (Sq.nth ((List.range nr).map fr)) xsa ns cza (Sq.nth ((List.range ns).map fs)) P D z F xr nr cr fr xs ns cz fs W SR SS (HH.out.1.below bl (Nat.le_refl _)) (HH.out.2.1.below bl (Nat.le_refl _)) (by omega) (by omega) (by omega) (by omega)
        have CSb := fun W (SR : SIs W xrb nr (Sq.nth ((List.range nr).map fr))) (SS : SIs W xsb ns (Sq.nth ((List.range ns).map fs))) (bl : Below w.heap.size w W) => same_any P (backS P D z fr nr F fs ns).D z F xrb nr crb (Sq.nth ((List.range nr).map fr)) xsb ns czb (Sq.nth ((List.range ns).map fs)) P D z F xr nr cr fr xs ns cz fs W SR SS (HH.out.1.below bl (Nat.le_refl _)) (HH.out.2.1.below bl (Nat.le_refl _)) (by omega) (by omega) (by omega) (by omega)
        have hsb := sm_back (P := P) (D := D) (z := z) (fr := fr) (nr := nr) (F := F) (fs := fs) (ns := ns) HH.out.2.2.2.2.2.1
        rw [List.length_map, List.length_range, List.length_map, List.length_range] at hsb
        rw [hsb] at CSa CSb
        clear hsb
        have i1 := HIA.out
        have i2 := HSB.out.inf
        go_wp2_with (first | (refine wpList_load_infG (by rfl) (.tmp 6) (by rfl) (by rfl) i1 ?_) | (refine wpList_load_infG (by rfl) (.tmp 1) (by rfl) (by rfl) i2 ?_))
        have sR : SIs Wb xra nr (Sq.nth ((List.range nr).map fr)) := by
          obtain ⟨x, c, hv, _, hs⟩ := HFA.out.1.shape
          injection hv with e1
          subst e1
          rw [List.length_map, List.length_range] at hs
          exact hs
        have sS : SIs Wb xsa ns (Sq.nth ((List.range ns).map fs)) := by
          obtain ⟨x, c, hv, _, hs⟩ := HFA.out.2.1.shape
          injection hv with e1
          subst e1
          rw [List.length_map, List.length_range] at hs
          exact hs
        refine (CSa _ sR sS HSB.out.bel).mono ?_
        rintro e w15 ⟨rfl, b15⟩
        clear CSa sR sS i1 i2
        replace HSB : Hid (KeW w P D z F (.slice xr nr cr) (.slice xs ns cz) w.heap.size w15) := ⟨HSB.out.inf.below b15 HSB.out.inf.lt, HSB.out.bel.trans (b15.mono HSB.out.bel.size)⟩
        replace HIA : Hid (Inf w15 gA P (backS P D z fr nr F fs ns).D z (.slice xra nr cra) F (.slice xsa ns cza)) := HIA.out.below b15 HIA.out.lt
        replace HIB : Hid (Inf w15 gB P (backS P D z fr nr F fs ns).D z (.slice xrb nr crb) F (.slice xsb ns czb)) := HIB.out.below b15 HIB.out.lt
        replace HFA : Hid (OwnR w15 Ba (.slice xra ((List.range nr).map fr).length cra) ((List.range nr).map fr) ∧ OwnS w15 Ba (.slice xsa ((List.range ns).map fs).length cza) ((List.range ns).map fs) ∧ (∀ k, (Value.slice xra ((List.range nr).map fr).length cra).ownBlock = some k → (Value.slice xsa ((List.range ns).map fs).length cza).ownBlock ≠ some k)) := ⟨HFA.out.1.same (fun g h => b15.block g (HFA.out.1.ge h).2), HFA.out.2.1.same (fun g h => b15.block g (HFA.out.2.1.ge h).2), HFA.out.2.2⟩
        replace HFB : Hid (OwnR w15 (gA + 2) (.slice xrb ((List.range nr).map fr).length crb) ((List.range nr).map fr) ∧ OwnS w15 (gA + 2) (.slice xsb ((List.range ns).map fs).length czb) ((List.range ns).map fs)) := ⟨HFB.out.1.same (fun g h => b15.block g (HFB.out.1.ge h).2), HFB.out.2.same (fun g h => b15.block g (HFB.out.2.ge h).2)⟩
        replace HZB : Hid (gA + 2 ≤ gB ∧ gB < w15.heap.size ∧ Ba ≤ gA ∧ (∀ k, (Value.slice xra ((List.range nr).map fr).length cra).ownBlock = some k → k < gA) ∧ (∀ k, (Value.slice xsa ((List.range ns).map fs).length cza).ownBlock = some k → k < gA)) := ⟨HZB.out.1, Nat.lt_of_lt_of_le HZB.out.2.1 b15.size, HZB.out.2.2⟩
        clear b15
        have i1 := HIB.out
        have i2 := HSB.out.inf
        go_wp2_with (first | (refine wpList_load_infG (by rfl) (.tmp 8) (by rfl) (by rfl) i1 ?_) | (refine wpList_load_infG (by rfl) (.tmp 1) (by rfl) (by rfl) i2 ?_))
        have sR : SIs w15 xrb nr (Sq.nth ((List.range nr).map fr)) := by
          obtain ⟨x, c, hv, _, hs⟩ := HFB.out.1.shape
          injection hv with e1
          subst e1
          rw [List.length_map, List.length_range] at hs
          exact hs
        have sS : SIs w15 xsb ns (Sq.nth ((List.range ns).map fs)) := by
          obtain ⟨x, c, hv, _, hs⟩ := HFB.out.2.shape
          injection hv with e1
          subst e1
          rw [List.length_map, List.length_range] at hs
          exact hs
        refine (CSb _ sR sS HSB.out.bel).mono ?_
        rintro e w16 ⟨rfl, b16⟩
        clear sR sS i1 i2
        replace HSB : Hid (KeW w P D z F (.slice xr nr cr) (.slice xs ns cz) w.heap.size w16) := ⟨HSB.out.inf.below b16 HSB.out.inf.lt, HSB.out.bel.trans (b16.mono HSB.out.bel.size)⟩
        replace HIA : Hid (Inf w16 gA P (backS P D z fr nr F fs ns).D z (.slice xra nr cra) F (.slice xsa ns cza)) := HIA.out.below b16 HIA.out.lt
        replace HIB : Hid (Inf w16 gB P (backS P D z fr nr F fs ns).D z (.slice xrb nr crb) F (.slice xsb ns czb)) := HIB.out.below b16 HIB.out.lt
        replace HFA : Hid (OwnR w16 Ba (.slice xra ((List.range nr).map fr).length cra) ((List.range nr).map fr) ∧ OwnS w16 Ba (.slice xsa ((List.range ns).map fs).length cza) ((List.range ns).map fs) ∧ (∀ k, (Value.slice xra ((List.range nr).map fr).length cra).ownBlock = some k → (Value.slice xsa ((List.range ns).map fs).length cza).ownBlock ≠ some k)) := ⟨HFA.out.1.same (fun g h => b16.block g (HFA.out.1.ge h).2), HFA.out.2.1.same (fun g h => b16.block g (HFA.out.2.1.ge h).2), HFA.out.2.2⟩
        replace HFB : Hid (OwnR w16 (gA + 2) (.slice xrb ((List.range nr).map fr).length crb) ((List.range nr).map fr) ∧ OwnS w16 (gA + 2) (.slice xsb ((List.range ns).map fs).length czb) ((List.range ns).map fs)) := ⟨HFB.out.1.same (fun g h => b16.block g (HFB.out.1.ge h).2), HFB.out.2.same (fun g h => b16.block g (HFB.out.2.ge h).2)⟩
        replace HZB : Hid (gA + 2 ≤ gB ∧ gB < w16.heap.size ∧ Ba ≤ gA ∧ (∀ k, (Value.slice xra ((List.range nr).map fr).length cra).ownBlock = some k → k < gA) ∧ (∀ k, (Value.slice xsa ((List.range ns).map fs).length cza).ownBlock = some k → k < gA)) := ⟨HZB.out.1, Nat.lt_of_lt_of_le HZB.out.2.1 b16.size, HZB.out.2.2⟩
        clear b16
        have hlr : ((List.range nr).map fr).length = nr := by simp
        have hls : ((List.range ns).map fs).length = ns := by simp
        have HZR : Hid (RowZ w16 Ba (.slice xra nr cra) nr ∧ RowZ w16 Ba (.slice xsa ns cza) ns ∧ (∀ k, (Value.slice xra nr cra).ownBlock = some k → (Value.slice xsa ns cza).ownBlock ≠ some k ∧ k < gA) ∧ (∀ k, (Value.slice xsa ns cza).ownBlock = some k → k < gA)) := by
          have r1 := HFA.out.1.rowZ
          have r2 := HFA.out.2.1.rowZ
          have r3 := HFA.out.2.2
          have r4 := HZB.out.2.2.2
          rw [hlr] at r1 r3 r4
          rw [hls] at r2 r3 r4
          exact ⟨r1, r2, fun k h => ⟨r3 k h, r4.1 k h⟩, r4.2⟩
        have HWB : Hid (gA + 2 ≤ gB ∧ gB < w16.heap.size ∧ Ba ≤ gA) := ⟨HZB.out.1, HZB.out.2.1, HZB.out.2.2.1⟩
        have HKL : Hid (KL w P D z F (.slice xr nr cr) (.slice xs ns cz) (backS P D z fr nr F fs ns).D gA gB Ba (.slice xrb nr crb) (.slice xsb ns czb) ((List.range nr).map fr) ((List.range ns).map fs) (.slice xra nr cra) (.slice xsa ns cza) nr ns w16) := by
          have f1 := HFB.out.1
          have f2 := HFB.out.2
          rw [hlr] at f1
          rw [hls] at f2
          exact ⟨HSB.out, HIA.out, HIB.out, f1, f2, HZR.out.1, HZR.out.2.1, fun k e => (HZR.out.2.2.1 k e).1, fun k e => .inl (HZR.out.2.2.1 k e).2, fun k e => .inl (HZR.out.2.2.2 k e), HKB.out.1, HKB.out.2, ⟨HWB.out.1, HWB.out.2.2, HBA.out⟩⟩
        clear HFA HZB HZR HWB HKB HBA HIA HIB HFB HSB hlr hls
        have c34 := HKL.out.ia.refs
        go_wp2
        go_loopw [106] (fun xi wr => ∃ k : Nat, k ≤ nr ∧ xi = .int .i64 k ∧ Hid (KL w P D z F (.slice xr nr cr) (.slice xs ns cz) (backS P D z fr nr F fs ns).D gA gB Ba (.slice xrb nr crb) (.slice xsb ns czb) ((List.range nr).map fr) ((List.range ns).map fs) (.slice xra nr cra) (.slice xsa ns cza) nr ns wr)) (fun i _ => nr - (intOf i).toNat)
        case atStart => exact ⟨0, Nat.zero_le _, rfl, HKL⟩
        case round =>
          obtain ⟨k, hk, rfl, hL⟩ := hrel
          clear HKL c34
          by_cases hlt : k < nr
          · obtain ⟨b, c, u, hv, hc, hcell, hfz, hob⟩ := hL.out.ra.at hlt
            have c34 := hL.out.ia.refs
            obtain ⟨rfl, rfl⟩ : xra = some ⟨b, 0, none⟩ ∧ cra = c := by
              injection hv with e1 _ e3
              exact ⟨e1, e3⟩
            have HN : Hid (KL w P D z F (.slice xr nr cr) (.slice xs ns cz) (backS P D z fr nr F fs ns).D gA gB Ba (.slice xrb nr crb) (.slice xsb ns czb) ((List.range nr).map fr) ((List.range ns).map fs) (.slice (some ⟨b, 0, none⟩) nr cra) (.slice xsa ns cza) nr ns (wr.setCell ⟨b, k, none⟩ (.string ⟨#[115, 112, 111, 105, 108, 116]⟩))) := hL.out.set b k _ (.inl hob)
            clear hv hob
            go_wp2
            generalize wr.setCell ⟨b, k, none⟩ (.string ⟨#[115, 112, 111, 105, 108, 116]⟩) = w9 at *
            go_roundw
            case rel => exact ⟨k + 1, by omega, by go_num, HN⟩
            case measure => simp [intOf]; omega
          · obtain rfl : k = nr := by omega
            have c36 := hL.out.ia.signs
            go_wp2
            go_loopw [117] (fun xi wr => ∃ j : Nat, j ≤ ns ∧ xi = .int .i64 j ∧ Hid (KL w P D z F (.slice xr k cr) (.slice xs ns cz) (backS P D z fr k F fs ns).D gA gB Ba (.slice xrb k crb) (.slice xsb ns czb) ((List.range k).map fr) ((List.range ns).map fs) (.slice xra k cra) (.slice xsa ns cza) k ns wr)) (fun i _ => ns - (intOf i).toNat)
            case atStart => exact ⟨0, Nat.zero_le _, rfl, hL⟩
            case round =>
              obtain ⟨j, hj, rfl, hL2⟩ := hrel
              clear hL c36
              by_cases hlt2 : j < ns
              · obtain ⟨b, c, u, hv, hc, hcell, hfz, hob⟩ := hL2.out.rs.at hlt2
                have c36 := hL2.out.ia.signs
                obtain ⟨rfl, rfl⟩ : xsa = some ⟨b, 0, none⟩ ∧ cza = c := by
                  injection hv with e1 _ e3
                  exact ⟨e1, e3⟩
                have HN : Hid (KL w P D z F (.slice xr k cr) (.slice xs ns cz) (backS P D z fr k F fs ns).D gA gB Ba (.slice xrb k crb) (.slice xsb ns czb) ((List.range k).map fr) ((List.range ns).map fs) (.slice xra k cra) (.slice (some ⟨b, 0, none⟩) ns cza) k ns (wr.setCell ⟨b, j, none⟩ (.string ⟨#[115, 112, 111, 105, 108, 116]⟩))) := hL2.out.set b j _ (.inr hob)
                clear hv hob
                go_wp2
                generalize wr.setCell ⟨b, j, none⟩ (.string ⟨#[115, 112, 111, 105, 108, 116]⟩) = w9 at *
                go_roundw
                case rel => exact ⟨j + 1, by omega, by go_num, HN⟩
                case measure => simp [intOf]; omega
              · obtain rfl : j = ns := by omega
                have J0 : Hid (KL w P D z F (.slice xr k cr) (.slice xs j cz) (backS P D z fr k F fs j).D gA gB Ba (.slice xrb k crb) (.slice xsb j czb) ((List.range k).map fr) ((List.range j).map fs) (.slice xra k cra) (.slice xsa j cza) (k + 0) (j + 0) wr) := hL2
                clear hL2
                go_wp2
                go_loopw [12] (fun xi wr => ∃ (l : Nat) (va vs : Value), l ≤ 10 ∧ xi = .int .i64 l ∧ Hid (KL w P D z F (.slice xr k cr) (.slice xs j cz) (backS P D z fr k F fs j).D gA gB Ba (.slice xrb k crb) (.slice xsb j czb) ((List.range k).map fr) ((List.range j).map fs) va vs (k + l) (j + l) wr)) (fun i _ => 10 - (intOf i).toNat)
                case atStart => exact ⟨0, _, _, by omega, rfl, J0⟩
                case round =>
                  obtain ⟨l, va, vs, hl, rfl, hL3⟩ := hrel
                  clear J0
                  obtain ⟨x1, c1', hva⟩ := hL3.out.ra.shape
                  subst hva
                  obtain ⟨x2, c2', hvs⟩ := hL3.out.rs.shape
                  subst hvs
                  by_cases hlt3 : l < 10
                  · obtain ⟨v', W', hr, ia', hKL'⟩ := hL3.out.refs (by omega) ⟨#[109, 111, 114, 101]⟩
                    obtain ⟨x3, c3', hv3⟩ := hKL'.ra.shape
                    subst hv3
                    have e34 := hL3.out.ia.refs
                    have d34 := ia'.refs
                    have f34 := ia'.free 34 (by omega)
                    have HR1 : Hid ((Builtin.append_ #[24, 24] 24 #[.slice x1 (k + l) c1', .slice (some ⟨wr.heap.size, 0, none⟩) 1 1]).run Tryd.prog (wr.alloc (.cells #[Value.string ⟨#[109, 111, 114, 101]⟩] 9)) = .ok (.slice x3 (k + l + 1) c3') W') := hr
                    have HK1 : Hid (KL w P D z F (.slice xr k cr) (.slice xs j cz) (backS P D z fr k F fs j).D gA gB Ba (.slice xrb k crb) (.slice xsb j czb) ((List.range k).map fr) ((List.range j).map fs) (.slice x3 (k + l + 1) c3') (.slice x2 (j + l) c2') (k + l + 1) (j + l) (W'.setCell ⟨gA, 34, none⟩ (.slice x3 (k + l + 1) c3'))) := hKL'
                    clear hr hKL' ia'
                    go_upto_region 31 with (at_builtin; refine Lib.wpList_append_run _ rfl _ _ _ _ rfl _ _ rfl rfl _ _ HR1.out ?_)
                    clear HR1 e34 d34 f34 hL3
                    generalize W'.setCell ⟨gA, 34, none⟩ (.slice x3 (k + l + 1) c3') = W2 at *
                    obtain ⟨v2, W3', hr2, ia2, hKL2⟩ := HK1.out.signs (by omega) ⟨#[109, 111, 114, 101]⟩
                    obtain ⟨x4, c4', hv4⟩ := hKL2.rs.shape
                    subst hv4
                    have e36 := HK1.out.ia.signs
                    have d36 := ia2.signs
                    have f36 := ia2.free 36 (by omega)
                    have HR2 : Hid ((Builtin.append_ #[24, 24] 24 #[.slice x2 (j + l) c2', .slice (some ⟨W2.heap.size, 0, none⟩) 1 1]).run Tryd.prog (W2.alloc (.cells #[Value.string ⟨#[109, 111, 114, 101]⟩] 9)) = .ok (.slice x4 (j + l + 1) c4') W3') := hr2
                    have HK2 : Hid (KL w P D z F (.slice xr k cr) (.slice xs j cz) (backS P D z fr k F fs j).D gA gB Ba (.slice xrb k crb) (.slice xsb j czb) ((List.range k).map fr) ((List.range j).map fs) (.slice x3 (k + l + 1) c3') (.slice x4 (j + l + 1) c4') (k + (l + 1)) (j + (l + 1)) (W3'.setCell ⟨gA, 36, none⟩ (.slice x4 (j + l + 1) c4'))) := hKL2
                    clear hr2 hKL2 ia2
                    go_wp2_with (at_builtin; refine Lib.wpList_append_run _ rfl _ _ _ _ rfl _ _ rfl rfl _ _ HR2.out ?_)
                    clear HR2 e36 d36 f36 HK1
                    generalize W3'.setCell ⟨gA, 36, none⟩ (.slice x4 (j + l + 1) c4') = W4 at *
                    go_roundw
                    case rel => exact ⟨l + 1, (.slice x3 (k + l + 1) c3'), (.slice x4 (j + l + 1) c4'), by omega, by go_num, HK2⟩
                    case measure => simp [intOf]; omega
                  · obtain rfl : l = 10 := by omega
                    have sR : SIs wr xrb k (Sq.nth ((List.range k).map fr)) := by
                      obtain ⟨x, c, hv, _, hs⟩ := hL3.out.fr.shape
                      injection hv with e1
                      subst e1
                      rw [List.length_map, List.length_range] at hs
                      exact hs
                    have sS : SIs wr xsb j (Sq.nth ((List.range j).map fs)) := by
                      obtain ⟨x, c, hv, _, hs⟩ := hL3.out.fs.shape
                      injection hv with e1
                      subst e1
                      rw [List.length_map, List.length_range] at hs
                      exact hs
                    have i1 := hL3.out.ib
                    have i2 := hL3.out.ke.inf
                    go_wp2_with (first | (refine wpList_load_infG (by rfl) (.tmp 8) (by rfl) (by rfl) i1 ?_) | (refine wpList_load_infG (by rfl) (.tmp 1) (by rfl) (by rfl) i2 ?_))
                    refine (CSb _ sR sS hL3.out.ke.bel).mono ?_
                    rintro e w17 ⟨rfl, b17⟩
                    have h34 := (hL3.out.ia.below b17 hL3.out.ia.lt).refs
                    have h35 := (hL3.out.ke.inf.below b17 hL3.out.ke.inf.lt).refs
                    have HBF : Hid (Below w.heap.size w w17) := hL3.out.ke.bel.trans (b17.mono hL3.out.ke.bel.size)
                    clear i1 i2 sR sS hL3 b17 CSb
                    go_wp2
                    go_ret
                    exact ⟨rfl, HBF.out⟩
      · go_wp2
        go_ret
        exact ⟨rfl, HS9.out.bel⟩
end Go.Proofs.YtjhbfkckkinfjaaDoor
