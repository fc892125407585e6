/- The law RecipeBack, walked. -/
import Derived.Test.YtbfhfejdmhjccaaRiE
namespace Go.Proofs.Ytbfhfejdmhjccaa
open Go.RowKit

theorem sml_of (r : Rec) (h : (rT r).length ≤ 4000000) : Sml r := by
  obtain ⟨nm, ds, ss⟩ := r
  have hl := rT_len nm ds ss
  have h1 := seq_len qT qT_pos ds
  have h2 := seq_len sT sT_pos ss
  refine ⟨by show ds.length ≤ _; omega, by show ss.length ≤ _; omega, fun s hs => ?_⟩
  have h3 := seq_in sT ss s hs
  have h4 := cms_len qT s.2
  have h5 : (cms qT s.2).length ≤ (sT s).length := by unfold sT; simp only [List.length_cons, List.length_append]; omega
  omega
theorem eqR_T (r q : Rec) : ((ba (rT r)).toList == (ba (rT q)).toList) = eqR r q := by
  rw [ba_toList, ba_toList]
  unfold eqR
  by_cases h : r.nm = q.nm ∧ r.ds = q.ds ∧ r.ss = q.ss
  · rw [decide_eq_true h]
    obtain ⟨a, b, c⟩ := r
    obtain ⟨a', b', c'⟩ := q
    obtain ⟨rfl, rfl, rfl⟩ := h
    simp
  · rw [decide_eq_false h, beq_eq_false_iff_ne]
    intro e
    have h1 := prs_back r
    rw [e, prs_back q] at h1
    injection h1 with h1
    subst h1
    exact h ⟨rfl, rfl, rfl⟩
theorem eqR_self (r : Rec) : eqR r r = true := decide_eq_true ⟨rfl, rfl, rfl⟩

/-- What the law's regions keep: three recipes in boxes. -/
structure BW (w : World) (a b c : Nat) (r q : Rec) (vd vs ud us bd bs : Value) (C : Nat) (W : World) : Prop where
  a : St3 W a (.string (ba r.nm)) vd vs
  b : St3 W b (.string (ba q.nm)) ud us
  c : St3 W c (.string (ba r.nm)) bd bs
  rd : RT W C vd r.ds
  rs : RS W C vs r.ss
  qd : RT W C ud q.ds
  qs : RS W C us q.ss
  bd : RT W C bd r.ds
  bs : RS W C bs r.ss
  le : C ≤ W.heap.size
  bel : Below w.heap.size w W
theorem BW.next {w : World} {a b c : Nat} {r q : Rec} {vd vs ud us bd bs : Value} {C : Nat} {W W' : World} (h : BW w a b c r q vd vs ud us bd bs C W) (n : Below W.heap.size W W') : BW w a b c r q vd vs ud us bd bs C W' :=
  ⟨h.a.same (n.block a h.a.lt), h.b.same (n.block b h.b.lt), h.c.same (n.block c h.c.lt), h.rd.below n h.le, h.rs.below n h.le, h.qd.below n h.le, h.qs.below n h.le, h.bd.below n h.le, h.bs.below n h.le, Nat.le_trans h.le n.size, bel_trans h.bel n⟩

theorem same_self (r : Rec) (vd vs ud us : Value) (w : World) (hvd : RT w w.heap.size vd r.ds) (hvs : RS w w.heap.size vs r.ss) (hud : RT w w.heap.size ud r.ds) (hus : RS w w.heap.size us r.ss) (hr : Sml r) :
    Calls Try.prog 15 #[.agg #[.string (ba r.nm), vd, vs], .agg #[.string (ba r.nm), ud, us]] w fun e w' => e = .returned (.bool true) ∧ Below w.heap.size w w' := by
  have h := same_any r r vd vs ud us w hvd hvs hud hus hr hr
  rw [eqR_self] at h
  exact h
theorem alike_self (r : Rec) (vd vs ud us : Value) (w : World) (hvd : RT w w.heap.size vd r.ds) (hvs : RS w w.heap.size vs r.ss) (hud : RT w w.heap.size ud r.ds) (hus : RS w w.heap.size us r.ss) (hr : Sml r) :
    Calls Try.prog 11 #[.agg #[.string (ba r.nm), vd, vs], .agg #[.string (ba r.nm), ud, us]] w fun e w' => e = .returned (.bool true) ∧ Below w.heap.size w w' := by
  have h := alike_any r r vd vs ud us w hvd hvs hud hus hr hr
  rw [eqR_self] at h
  exact h
theorem printR (r : Rec) (vd vs : Value) (w : World) (hD : RT w w.heap.size vd r.ds) (hS : RS w w.heap.size vs r.ss) (hl : (rT r).length ≤ 300000000) :
    Calls Try.prog 14 #[.agg #[.string (ba r.nm), vd, vs]] w fun e w' => e = .returned (.string (ba (rT r))) ∧ Below w.heap.size w w' :=
  print_any r.nm r.ds r.ss vd vs w hD hS hl

set_option maxHeartbeats 64000000 in
set_option maxRecDepth 10000 in
theorem back_walk (r : Rec) (vd vs : Value) (q : Rec) (ud us : Value) (w : World) (hvd : RT w w.heap.size vd r.ds) (hvs : RS w w.heap.size vs r.ss) (hl : (rT r).length ≤ 4000000) (hud : RT w w.heap.size ud q.ds) (hus : RS w w.heap.size us q.ss) (hm : (rT q).length ≤ 4000000) :
    Calls Try.prog 4 #[.agg #[.string (ba r.nm), vd, vs], .agg #[.string (ba q.nm), ud, us]] w fun e w' => e = .returned (.bool true) ∧ Below w.heap.size w w' := by
  have HSr : Hid (Sml r) := sml_of r hl
  have HSq : Hid (Sml q) := sml_of q hm
  have HLr : Hid ((rT r).length ≤ 4000000) := hl
  have HLq : Hid ((rT q).length ≤ 4000000) := hm
  have hTT := eqR_T r q
  have s1 : (w.alloc (.cells #[.string (ba r.nm), vd, vs] 26)).heap.size = w.heap.size + 1 := World.size_alloc _ _
  have S0 : St3 ((w.alloc (.cells #[.string (ba r.nm), vd, vs] 26)).alloc (.cells #[.string (ba q.nm), ud, us] 26)) w.heap.size (.string (ba r.nm)) vd vs := (St3.new w _ _ _).same (Below.heap_alloc _ _ _ (by rw [s1]; omega))
  have S1 : St3 ((w.alloc (.cells #[.string (ba r.nm), vd, vs] 26)).alloc (.cells #[.string (ba q.nm), ud, us] 26)) (w.heap.size + 1) (.string (ba q.nm)) ud us := by
    have := St3.new (w.alloc (.cells #[.string (ba r.nm), vd, vs] 26)) (.string (ba q.nm)) ud us
    rw [s1] at this
    exact this
  have B0 : Below w.heap.size w ((w.alloc (.cells #[.string (ba r.nm), vd, vs] 26)).alloc (.cells #[.string (ba q.nm), ud, us] 26)) := ((Below.refl _ _).alloc (Nat.le_refl _) _).alloc (by rw [s1]; omega) _
  have HRV : Hid (RT w w.heap.size vd r.ds ∧ RS w w.heap.size vs r.ss ∧ RT w w.heap.size ud q.ds ∧ RS w w.heap.size us q.ss) := ⟨hvd, hvs, hud, hus⟩
  obtain ⟨x1, c1, rfl, -⟩ := hvd
  obtain ⟨x2, c2, rfl, -⟩ := hvs
  obtain ⟨x3, c3, rfl, -⟩ := hud
  obtain ⟨x4, c4, rfl, -⟩ := hus
  clear s1 hl hm
  go_enter Try.func4, Try.ntmps4
  go_wp2_with fail
  generalize (w.alloc (.cells #[.string (ba r.nm), .slice x1 r.ds.length c1, .slice x2 r.ss.length c2] 26)).alloc (.cells #[.string (ba q.nm), .slice x3 q.ds.length c3, .slice x4 q.ss.length c4] 26) = w0 at S0 S1 B0 ⊢
  refine (awake_any w0).mono ?_
  rintro e w1 ⟨rfl, b1⟩
  have HB1 : Hid (Below w.heap.size w w1) := bel_trans B0 b1
  have HA1 : Hid (St3 w1 w.heap.size (.string (ba r.nm)) (.slice x1 r.ds.length c1) (.slice x2 r.ss.length c2)) := S0.same (b1.block _ S0.lt)
  have HC1 : Hid (St3 w1 (w.heap.size + 1) (.string (ba q.nm)) (.slice x3 q.ds.length c3) (.slice x4 q.ss.length c4)) := S1.same (b1.block _ S1.lt)
  clear b1 B0 S0 S1
  have a0 := HA1.out.c0
  have a1 := HA1.out.c1
  have a2 := HA1.out.c2
  go_wp2_with fail
  refine (print_any r.nm r.ds r.ss _ _ w1 ((HRV.out.1.below HB1.out (Nat.le_refl _)).up HB1.out.size) ((HRV.out.2.1.below HB1.out (Nat.le_refl _)).up HB1.out.size) (by have := HLr.out; exact Nat.le_trans this (by decide))).mono ?_
  rintro e w2 ⟨rfl, b2⟩
  have HB2 : Hid (Below w.heap.size w w2) := bel_trans HB1.out b2
  have HA2 : Hid (St3 w2 w.heap.size (.string (ba r.nm)) (.slice x1 r.ds.length c1) (.slice x2 r.ss.length c2)) := HA1.out.same (b2.block _ HA1.out.lt)
  have HC2 : Hid (St3 w2 (w.heap.size + 1) (.string (ba q.nm)) (.slice x3 q.ds.length c3) (.slice x4 q.ss.length c4)) := HC1.out.same (b2.block _ HC1.out.lt)
  clear b2 HB1 HA1 HC1 a0 a1 a2
  have PC := fun W => parse_any (rT r) W (by have := HLr.out; omega)
  unfold ParseP at PC
  rw [prs_back r] at PC
  dsimp only at PC
  go_wp2_with fail
  refine (PC w2).mono ?_
  rintro e w3 ⟨⟨bd, bs, rfl, TD, TS⟩, b3⟩
  have HB3 : Hid (Below w.heap.size w w3) := bel_trans HB2.out b3
  have HA3 : Hid (St3 w3 w.heap.size (.string (ba r.nm)) (.slice x1 r.ds.length c1) (.slice x2 r.ss.length c2)) := HA2.out.same (b3.block _ HA2.out.lt)
  have HC3 : Hid (St3 w3 (w.heap.size + 1) (.string (ba q.nm)) (.slice x3 q.ds.length c3) (.slice x4 q.ss.length c4)) := HC2.out.same (b3.block _ HC2.out.lt)
  have HTD : Hid (RT w3 w3.heap.size bd r.ds) := TD.read
  have HTS : Hid (RS w3 w3.heap.size bs r.ss) := TS.read
  obtain ⟨x5, c5, rfl⟩ := TD.shape
  obtain ⟨x6, c6, rfl⟩ := TS.shape
  clear PC TD TS b3 HB2 HA2 HC2
  have b4 : Below w3.heap.size w3 (w3.alloc (.cells #[.string (ba r.nm), .slice x5 r.ds.length c5, .slice x6 r.ss.length c6] 26)) := (Below.refl _ _).alloc (Nat.le_refl _) _
  have K4 : BW w w.heap.size (w.heap.size + 1) w3.heap.size r q (.slice x1 r.ds.length c1) (.slice x2 r.ss.length c2) (.slice x3 q.ds.length c3) (.slice x4 q.ss.length c4) (.slice x5 r.ds.length c5) (.slice x6 r.ss.length c6) w3.heap.size (w3.alloc (.cells #[.string (ba r.nm), .slice x5 r.ds.length c5, .slice x6 r.ss.length c6] 26)) :=
    ⟨HA3.out.same (b4.block _ HA3.out.lt), HC3.out.same (b4.block _ HC3.out.lt), St3.new w3 _ _ _, ((HRV.out.1.below HB3.out (Nat.le_refl _)).up HB3.out.size).below b4 (Nat.le_refl _), ((HRV.out.2.1.below HB3.out (Nat.le_refl _)).up HB3.out.size).below b4 (Nat.le_refl _), ((HRV.out.2.2.1.below HB3.out (Nat.le_refl _)).up HB3.out.size).below b4 (Nat.le_refl _), ((HRV.out.2.2.2.below HB3.out (Nat.le_refl _)).up HB3.out.size).below b4 (Nat.le_refl _), HTD.out.below b4 (Nat.le_refl _), HTS.out.below b4 (Nat.le_refl _), b4.size, bel_trans HB3.out b4⟩
  clear HA3 HC3 HTD HTS b4 HB3 HRV
  go_wp2_with fail
  generalize w3.alloc (.cells #[.string (ba r.nm), .slice x5 r.ds.length c5, .slice x6 r.ss.length c6] 26) = w4 at K4 ⊢
  generalize w3.heap.size = C at K4 ⊢
  -- @R
  have K5 := K4.next ((Below.refl _ _).drew)
  clear K4
  refine wp_region_held_drew (S := BW w w.heap.size (w.heap.size + 1) C r q (.slice x1 r.ds.length c1) (.slice x2 r.ss.length c2) (.slice x3 q.ds.length c3) (.slice x4 q.ss.length c4) (.slice x5 r.ds.length c5) (.slice x6 r.ss.length c6) C) (by kernel_rfl) K5 (fun hS => ?_)
  generalize w4.drew = W at hS ⊢
  clear K5
  refine wpAnyH_take (i := 0) (oi := { dst := some 16, op := Op.load 26 (Operand.tmp 2), type := 26, pos := "law.go:98", after := #[], guard := none }) (v := .agg #[.string (ba r.nm), .slice x1 r.ds.length c1, .slice x2 r.ss.length c2]) rfl (by kernel_rfl) (by kernel_rfl) (by kernel_rfl) (fun _ _ _ h => h) (Or.inl ⟨by rfl, by intro w' s'; have c9 := s'.a.c0; have c8 := s'.a.c1; have c7 := s'.a.c2; go_simp⟩) hS ?_
  simp only [Act.put, List.setIfInBounds_toArray, List.set_cons_zero, List.set_cons_succ]
  refine wpAnyH_take (i := 2) (oi := { dst := some 18, op := Op.load 26 (Operand.tmp 3), type := 26, pos := "law.go:98", after := #[], guard := none }) (v := .agg #[.string (ba q.nm), .slice x3 q.ds.length c3, .slice x4 q.ss.length c4]) rfl (by kernel_rfl) (by kernel_rfl) (by kernel_rfl) (fun _ _ _ h => h) (Or.inl ⟨by rfl, by intro w' s'; have c9 := s'.b.c0; have c8 := s'.b.c1; have c7 := s'.b.c2; go_simp⟩) hS ?_
  simp only [Act.put, List.setIfInBounds_toArray, List.set_cons_zero, List.set_cons_succ]
  refine wpAnyH_ready (rs := [1]) (by kernel_rfl) (by decide) (AllReadyH.cons rfl (fun K hK => ?_) AllReadyH.nil)
  rw [if_pos (by rfl)]
  go_simp
  refine (plain_any r _ _ _ (hS.rd.up hS.le) (hS.rs.up hS.le) HSr.out.s).mono ?_
  rintro e v1 ⟨⟨vp1, rfl, rp1⟩, n1⟩
  go_wp2_with fail
  have hS1 := hS.next n1
  obtain ⟨xp1, cp1, rfl, -⟩ := id rp1
  refine hK.out _ _ hS1 (fun _ => ?_)
  clear hK K
  try simp only [Act.put, List.setIfInBounds_toArray, List.set_cons_zero, List.set_cons_succ]
  refine wpAnyH_ready (rs := [3]) (by kernel_rfl) (by decide) (AllReadyH.cons rfl (fun K hK => ?_) AllReadyH.nil)
  rw [if_pos (by rfl)]
  go_simp
  refine (plain_any q _ _ _ (hS1.qd.up hS1.le) (hS1.qs.up hS1.le) HSq.out.s).mono ?_
  rintro e v2 ⟨⟨vp2, rfl, rp2⟩, n2⟩
  go_wp2_with fail
  have hS2 := hS1.next n2
  obtain ⟨xp2, cp2, rfl, -⟩ := id rp2
  refine hK.out _ _ hS2 (fun _ => ?_)
  clear hK K
  try simp only [Act.put, List.setIfInBounds_toArray, List.set_cons_zero, List.set_cons_succ]
  refine wpAnyH_ready (rs := [4]) (by kernel_rfl) (by decide) (AllReadyH.cons rfl (fun K hK => ?_) AllReadyH.nil)
  rw [if_pos (by rfl)]
  go_simp
  refine (alike_any r q _ _ _ _ _ (hS2.rd.up hS2.le) ((rp1.below n2 (Nat.le_refl _)).up n2.size) (hS2.qd.up hS2.le) (rp2) HSr.out HSq.out).mono ?_
  rintro e v3 ⟨rfl, n3⟩
  go_wp2_with fail
  have hS3 := hS2.next n3
  refine hK.out _ _ hS3 (fun _ => ?_)
  clear hK K
  try simp only [Act.put, List.setIfInBounds_toArray, List.set_cons_zero, List.set_cons_succ]
  refine wpAnyH_ready (rs := [5]) (by kernel_rfl) (by decide) (AllReadyH.cons rfl (fun K hK => ?_) AllReadyH.nil)
  rw [if_pos (by rfl)]
  go_simp
  refine hK.out _ _ hS3 (fun _ => ?_)
  clear hK K
  refine wpAnyH_done (by kernel_rfl) ?_ _
  have K6 := hS3.next ((Below.refl _ _).drew)
  clear hS hS1 hS2 hS3 n1 n2 n3 rp1 rp2
  go_wp2_with fail
  refine wp_region_held_drew (S := BW w w.heap.size (w.heap.size + 1) C r q (.slice x1 r.ds.length c1) (.slice x2 r.ss.length c2) (.slice x3 q.ds.length c3) (.slice x4 q.ss.length c4) (.slice x5 r.ds.length c5) (.slice x6 r.ss.length c6) C) (by kernel_rfl) K6 (fun hS => ?_)
  generalize v3.drew = W at hS ⊢
  clear K6
  refine wpAnyH_take (i := 0) (oi := { dst := some 21, op := Op.move (Operand.tmp 6), type := 28, pos := "law.go:99", after := #[], guard := none }) (v := .nilIface) rfl (by kernel_rfl) (by kernel_rfl) (by kernel_rfl) (fun _ _ _ h => h) (Or.inl ⟨by rfl, by intro w _; go_simp⟩) hS ?_
  simp only [Act.put, List.setIfInBounds_toArray, List.set_cons_zero, List.set_cons_succ]
  refine wpAnyH_take (i := 1) (oi := { dst := some 22, op := Op.binOp BinOp.eql 28 (Operand.tmp 21) (Operand.const Value.nilIface) 28, type := 4, pos := "law.go:99", after := #[{ on := 0, ground := Ground.data }], guard := none }) (v := .bool true) rfl (by kernel_rfl) (by kernel_rfl) (by kernel_rfl) (fun _ _ _ h => h) (Or.inl ⟨by rfl, by intro w _; go_simp⟩) hS ?_
  simp only [Act.put, List.setIfInBounds_toArray, List.set_cons_zero, List.set_cons_succ]
  refine wpAnyH_take (i := 2) (oi := { dst := some 23, op := Op.move (Operand.tmp 22), type := 4, pos := "law.go:99", after := #[{ on := 1, ground := Ground.data }], guard := none }) (v := .bool true) rfl (by kernel_rfl) (by kernel_rfl) (by kernel_rfl) (fun _ _ _ h => h) (Or.inl ⟨by rfl, by intro w _; go_simp⟩) hS ?_
  simp only [Act.put, List.setIfInBounds_toArray, List.set_cons_zero, List.set_cons_succ]
  refine wpAnyH_take (i := 3) (oi := { dst := some 24, op := Op.load 26 (Operand.tmp 5), type := 26, pos := "law.go:99", after := #[{ on := 2, ground := Ground.guard }], guard := some (2, true) }) (v := .agg #[.string (ba r.nm), .slice x5 r.ds.length c5, .slice x6 r.ss.length c6]) rfl (by kernel_rfl) (by kernel_rfl) (by kernel_rfl) (fun _ _ _ h => h) (Or.inl ⟨by rfl, by intro w' s'; have c9 := s'.c.c0; have c8 := s'.c.c1; have c7 := s'.c.c2; go_simp⟩) hS ?_
  simp only [Act.put, List.setIfInBounds_toArray, List.set_cons_zero, List.set_cons_succ]
  refine wpAnyH_take (i := 4) (oi := { dst := some 25, op := Op.load 26 (Operand.tmp 2), type := 26, pos := "law.go:99", after := #[{ on := 2, ground := Ground.guard }], guard := some (2, true) }) (v := .agg #[.string (ba r.nm), .slice x1 r.ds.length c1, .slice x2 r.ss.length c2]) rfl (by kernel_rfl) (by kernel_rfl) (by kernel_rfl) (fun _ _ _ h => h) (Or.inl ⟨by rfl, by intro w' s'; have c9 := s'.a.c0; have c8 := s'.a.c1; have c7 := s'.a.c2; go_simp⟩) hS ?_
  simp only [Act.put, List.setIfInBounds_toArray, List.set_cons_zero, List.set_cons_succ]
  refine wpAnyH_ready (rs := [5]) (by kernel_rfl) (by decide) (AllReadyH.cons rfl (fun K hK => ?_) AllReadyH.nil)
  rw [if_pos (by rfl)]
  go_simp
  refine (same_self r _ _ _ _ _ (hS.bd.up hS.le) (hS.bs.up hS.le) (hS.rd.up hS.le) (hS.rs.up hS.le) HSr.out).mono ?_
  rintro e v4 ⟨rfl, n4⟩
  go_wp2_with fail
  have hS4 := hS.next n4
  refine hK.out _ _ hS4 (fun _ => ?_)
  clear hK K
  try simp only [Act.put, List.setIfInBounds_toArray, List.set_cons_zero, List.set_cons_succ]
  refine wpAnyH_take (i := 6) (oi := { dst := some 27, op := Op.pick (Operand.tmp 23) (Operand.tmp 26) (Operand.const (Value.bool false)), type := 4, pos := "law.go:99", after := #[{ on := 2, ground := Ground.data }, { on := 5, ground := Ground.data }], guard := none }) (v := .bool true) rfl (by kernel_rfl) (by kernel_rfl) (by kernel_rfl) (fun _ _ _ h => h) (Or.inl ⟨by rfl, by intro w _; go_simp⟩) hS4 ?_
  simp only [Act.put, List.setIfInBounds_toArray, List.set_cons_zero, List.set_cons_succ]
  refine wpAnyH_take (i := 7) (oi := { dst := some 28, op := Op.move (Operand.tmp 27), type := 4, pos := "law.go:99", after := #[{ on := 6, ground := Ground.data }, { on := 5, ground := Ground.chain }], guard := none }) (v := .bool true) rfl (by kernel_rfl) (by kernel_rfl) (by kernel_rfl) (fun _ _ _ h => h) (Or.inl ⟨by rfl, by intro w _; go_simp⟩) hS4 ?_
  simp only [Act.put, List.setIfInBounds_toArray, List.set_cons_zero, List.set_cons_succ]
  refine wpAnyH_take (i := 8) (oi := { dst := some 29, op := Op.load 26 (Operand.tmp 5), type := 26, pos := "law.go:99", after := #[{ on := 7, ground := Ground.guard }], guard := some (7, true) }) (v := .agg #[.string (ba r.nm), .slice x5 r.ds.length c5, .slice x6 r.ss.length c6]) rfl (by kernel_rfl) (by kernel_rfl) (by kernel_rfl) (fun _ _ _ h => h) (Or.inl ⟨by rfl, by intro w' s'; have c9 := s'.c.c0; have c8 := s'.c.c1; have c7 := s'.c.c2; go_simp⟩) hS4 ?_
  simp only [Act.put, List.setIfInBounds_toArray, List.set_cons_zero, List.set_cons_succ]
  refine wpAnyH_take (i := 10) (oi := { dst := some 31, op := Op.load 26 (Operand.tmp 2), type := 26, pos := "law.go:99", after := #[{ on := 7, ground := Ground.guard }], guard := some (7, true) }) (v := .agg #[.string (ba r.nm), .slice x1 r.ds.length c1, .slice x2 r.ss.length c2]) rfl (by kernel_rfl) (by kernel_rfl) (by kernel_rfl) (fun _ _ _ h => h) (Or.inl ⟨by rfl, by intro w' s'; have c9 := s'.a.c0; have c8 := s'.a.c1; have c7 := s'.a.c2; go_simp⟩) hS4 ?_
  simp only [Act.put, List.setIfInBounds_toArray, List.set_cons_zero, List.set_cons_succ]
  refine wpAnyH_ready (rs := [9]) (by kernel_rfl) (by decide) (AllReadyH.cons rfl (fun K hK => ?_) AllReadyH.nil)
  rw [if_pos (by rfl)]
  go_simp
  refine (plain_any r _ _ _ (hS4.bd.up hS4.le) (hS4.bs.up hS4.le) HSr.out.s).mono ?_
  rintro e v5 ⟨⟨vp5, rfl, rp5⟩, n5⟩
  go_wp2_with fail
  have hS5 := hS4.next n5
  obtain ⟨xp5, cp5, rfl, -⟩ := id rp5
  refine hK.out _ _ hS5 (fun _ => ?_)
  clear hK K
  try simp only [Act.put, List.setIfInBounds_toArray, List.set_cons_zero, List.set_cons_succ]
  refine wpAnyH_ready (rs := [11]) (by kernel_rfl) (by decide) (AllReadyH.cons rfl (fun K hK => ?_) AllReadyH.nil)
  rw [if_pos (by rfl)]
  go_simp
  refine (plain_any r _ _ _ (hS5.rd.up hS5.le) (hS5.rs.up hS5.le) HSr.out.s).mono ?_
  rintro e v6 ⟨⟨vp6, rfl, rp6⟩, n6⟩
  go_wp2_with fail
  have hS6 := hS5.next n6
  obtain ⟨xp6, cp6, rfl, -⟩ := id rp6
  refine hK.out _ _ hS6 (fun _ => ?_)
  clear hK K
  try simp only [Act.put, List.setIfInBounds_toArray, List.set_cons_zero, List.set_cons_succ]
  refine wpAnyH_ready (rs := [12]) (by kernel_rfl) (by decide) (AllReadyH.cons rfl (fun K hK => ?_) AllReadyH.nil)
  rw [if_pos (by rfl)]
  go_simp
  refine (alike_self r _ _ _ _ _ (hS6.bd.up hS6.le) ((rp5.below n6 (Nat.le_refl _)).up n6.size) (hS6.rd.up hS6.le) (rp6) HSr.out).mono ?_
  rintro e v7 ⟨rfl, n7⟩
  go_wp2_with fail
  have hS7 := hS6.next n7
  refine hK.out _ _ hS7 (fun _ => ?_)
  clear hK K
  try simp only [Act.put, List.setIfInBounds_toArray, List.set_cons_zero, List.set_cons_succ]
  refine wpAnyH_take (i := 13) (oi := { dst := some 34, op := Op.pick (Operand.tmp 28) (Operand.tmp 33) (Operand.const (Value.bool false)), type := 4, pos := "law.go:99", after := #[{ on := 7, ground := Ground.data }, { on := 12, ground := Ground.data }], guard := none }) (v := .bool true) rfl (by kernel_rfl) (by kernel_rfl) (by kernel_rfl) (fun _ _ _ h => h) (Or.inl ⟨by rfl, by intro w _; go_simp⟩) hS7 ?_
  simp only [Act.put, List.setIfInBounds_toArray, List.set_cons_zero, List.set_cons_succ]
  refine wpAnyH_take (i := 14) (oi := { dst := some 35, op := Op.move (Operand.tmp 34), type := 4, pos := "law.go:99", after := #[{ on := 13, ground := Ground.data }, { on := 12, ground := Ground.chain }], guard := none }) (v := .bool true) rfl (by kernel_rfl) (by kernel_rfl) (by kernel_rfl) (fun _ _ _ h => h) (Or.inl ⟨by rfl, by intro w _; go_simp⟩) hS7 ?_
  simp only [Act.put, List.setIfInBounds_toArray, List.set_cons_zero, List.set_cons_succ]
  refine wpAnyH_take (i := 15) (oi := { dst := some 36, op := Op.load 26 (Operand.tmp 2), type := 26, pos := "law.go:99", after := #[{ on := 14, ground := Ground.guard }], guard := some (14, true) }) (v := .agg #[.string (ba r.nm), .slice x1 r.ds.length c1, .slice x2 r.ss.length c2]) rfl (by kernel_rfl) (by kernel_rfl) (by kernel_rfl) (fun _ _ _ h => h) (Or.inl ⟨by rfl, by intro w' s'; have c9 := s'.a.c0; have c8 := s'.a.c1; have c7 := s'.a.c2; go_simp⟩) hS7 ?_
  simp only [Act.put, List.setIfInBounds_toArray, List.set_cons_zero, List.set_cons_succ]
  refine wpAnyH_take (i := 16) (oi := { dst := some 37, op := Op.load 26 (Operand.tmp 3), type := 26, pos := "law.go:99", after := #[{ on := 14, ground := Ground.guard }], guard := some (14, true) }) (v := .agg #[.string (ba q.nm), .slice x3 q.ds.length c3, .slice x4 q.ss.length c4]) rfl (by kernel_rfl) (by kernel_rfl) (by kernel_rfl) (fun _ _ _ h => h) (Or.inl ⟨by rfl, by intro w' s'; have c9 := s'.b.c0; have c8 := s'.b.c1; have c7 := s'.b.c2; go_simp⟩) hS7 ?_
  simp only [Act.put, List.setIfInBounds_toArray, List.set_cons_zero, List.set_cons_succ]
  refine wpAnyH_take (i := 18) (oi := { dst := some 39, op := Op.move (Operand.tmp 7), type := 4, pos := "law.go:99", after := #[{ on := 14, ground := Ground.guard }], guard := some (14, true) }) (v := .bool (eqR r q)) rfl (by kernel_rfl) (by kernel_rfl) (by kernel_rfl) (fun _ _ _ h => h) (Or.inl ⟨by rfl, by intro w _; go_simp⟩) hS7 ?_
  simp only [Act.put, List.setIfInBounds_toArray, List.set_cons_zero, List.set_cons_succ]
  refine wpAnyH_ready (rs := [17]) (by kernel_rfl) (by decide) (AllReadyH.cons rfl (fun K hK => ?_) AllReadyH.nil)
  rw [if_pos (by rfl)]
  go_simp
  refine (same_any r q _ _ _ _ _ (hS7.rd.up hS7.le) (hS7.rs.up hS7.le) (hS7.qd.up hS7.le) (hS7.qs.up hS7.le) HSr.out HSq.out).mono ?_
  rintro e v8 ⟨rfl, n8⟩
  go_wp2_with fail
  have hS8 := hS7.next n8
  refine hK.out _ _ hS8 (fun _ => ?_)
  clear hK K
  try simp only [Act.put, List.setIfInBounds_toArray, List.set_cons_zero, List.set_cons_succ]
  refine wpAnyH_take (i := 19) (oi := { dst := some 40, op := Op.binOp BinOp.eql 4 (Operand.tmp 38) (Operand.tmp 39) 4, type := 4, pos := "law.go:99", after := #[{ on := 17, ground := Ground.data }, { on := 18, ground := Ground.data }, { on := 14, ground := Ground.guard }], guard := some (14, true) }) (v := .bool true) rfl (by kernel_rfl) (by kernel_rfl) (by kernel_rfl) (fun _ _ _ h => h) (Or.inl ⟨by rfl, by intro w _; go_simp⟩) hS8 ?_
  simp only [Act.put, List.setIfInBounds_toArray, List.set_cons_zero, List.set_cons_succ]
  refine wpAnyH_take (i := 20) (oi := { dst := some 41, op := Op.pick (Operand.tmp 35) (Operand.tmp 40) (Operand.const (Value.bool false)), type := 4, pos := "law.go:99", after := #[{ on := 14, ground := Ground.data }, { on := 19, ground := Ground.data }], guard := none }) (v := .bool true) rfl (by kernel_rfl) (by kernel_rfl) (by kernel_rfl) (fun _ _ _ h => h) (Or.inl ⟨by rfl, by intro w _; go_simp⟩) hS8 ?_
  simp only [Act.put, List.setIfInBounds_toArray, List.set_cons_zero, List.set_cons_succ]
  refine wpAnyH_take (i := 21) (oi := { dst := some 42, op := Op.move (Operand.tmp 41), type := 4, pos := "law.go:99", after := #[{ on := 20, ground := Ground.data }, { on := 17, ground := Ground.chain }], guard := none }) (v := .bool true) rfl (by kernel_rfl) (by kernel_rfl) (by kernel_rfl) (fun _ _ _ h => h) (Or.inl ⟨by rfl, by intro w _; go_simp⟩) hS8 ?_
  simp only [Act.put, List.setIfInBounds_toArray, List.set_cons_zero, List.set_cons_succ]
  refine wpAnyH_take (i := 22) (oi := { dst := some 43, op := Op.load 26 (Operand.tmp 2), type := 26, pos := "law.go:99", after := #[{ on := 21, ground := Ground.guard }], guard := some (21, true) }) (v := .agg #[.string (ba r.nm), .slice x1 r.ds.length c1, .slice x2 r.ss.length c2]) rfl (by kernel_rfl) (by kernel_rfl) (by kernel_rfl) (fun _ _ _ h => h) (Or.inl ⟨by rfl, by intro w' s'; have c9 := s'.a.c0; have c8 := s'.a.c1; have c7 := s'.a.c2; go_simp⟩) hS8 ?_
  simp only [Act.put, List.setIfInBounds_toArray, List.set_cons_zero, List.set_cons_succ]
  refine wpAnyH_take (i := 24) (oi := { dst := some 45, op := Op.load 26 (Operand.tmp 3), type := 26, pos := "law.go:99", after := #[{ on := 21, ground := Ground.guard }], guard := some (21, true) }) (v := .agg #[.string (ba q.nm), .slice x3 q.ds.length c3, .slice x4 q.ss.length c4]) rfl (by kernel_rfl) (by kernel_rfl) (by kernel_rfl) (fun _ _ _ h => h) (Or.inl ⟨by rfl, by intro w' s'; have c9 := s'.b.c0; have c8 := s'.b.c1; have c7 := s'.b.c2; go_simp⟩) hS8 ?_
  simp only [Act.put, List.setIfInBounds_toArray, List.set_cons_zero, List.set_cons_succ]
  refine wpAnyH_take (i := 27) (oi := { dst := some 48, op := Op.move (Operand.tmp 7), type := 4, pos := "law.go:99", after := #[{ on := 21, ground := Ground.guard }], guard := some (21, true) }) (v := .bool (eqR r q)) rfl (by kernel_rfl) (by kernel_rfl) (by kernel_rfl) (fun _ _ _ h => h) (Or.inl ⟨by rfl, by intro w _; go_simp⟩) hS8 ?_
  simp only [Act.put, List.setIfInBounds_toArray, List.set_cons_zero, List.set_cons_succ]
  refine wpAnyH_ready (rs := [23]) (by kernel_rfl) (by decide) (AllReadyH.cons rfl (fun K hK => ?_) AllReadyH.nil)
  rw [if_pos (by rfl)]
  go_simp
  refine (printR r _ _ _ (hS8.rd.up hS8.le) (hS8.rs.up hS8.le) (Nat.le_trans HLr.out (by decide))).mono ?_
  rintro e v9 ⟨rfl, n9⟩
  go_wp2_with fail
  have hS9 := hS8.next n9
  refine hK.out _ _ hS9 (fun _ => ?_)
  clear hK K
  try simp only [Act.put, List.setIfInBounds_toArray, List.set_cons_zero, List.set_cons_succ]
  refine wpAnyH_ready (rs := [25]) (by kernel_rfl) (by decide) (AllReadyH.cons rfl (fun K hK => ?_) AllReadyH.nil)
  rw [if_pos (by rfl)]
  go_simp
  refine (printR q _ _ _ (hS9.qd.up hS9.le) (hS9.qs.up hS9.le) (Nat.le_trans HLq.out (by decide))).mono ?_
  rintro e v10 ⟨rfl, n10⟩
  go_wp2_with fail
  have hS10 := hS9.next n10
  refine hK.out _ _ hS10 (fun _ => ?_)
  clear hK K
  try simp only [Act.put, List.setIfInBounds_toArray, List.set_cons_zero, List.set_cons_succ]
  refine wpAnyH_take (i := 26) (oi := { dst := some 47, op := Op.binOp BinOp.eql 9 (Operand.tmp 44) (Operand.tmp 46) 9, type := 4, pos := "law.go:99", after := #[{ on := 23, ground := Ground.data }, { on := 25, ground := Ground.data }, { on := 21, ground := Ground.guard }], guard := some (21, true) }) (v := .bool (eqR r q)) rfl (by kernel_rfl) (by kernel_rfl) (by kernel_rfl) (fun _ _ _ h => h) (Or.inl ⟨by rfl, by intro w _; go_simp⟩) hS10 ?_
  simp only [Act.put, List.setIfInBounds_toArray, List.set_cons_zero, List.set_cons_succ]
  refine wpAnyH_take (i := 28) (oi := { dst := some 49, op := Op.binOp BinOp.eql 4 (Operand.tmp 47) (Operand.tmp 48) 4, type := 4, pos := "law.go:99", after := #[{ on := 26, ground := Ground.data }, { on := 27, ground := Ground.data }, { on := 21, ground := Ground.guard }], guard := some (21, true) }) (v := .bool true) rfl (by kernel_rfl) (by kernel_rfl) (by kernel_rfl) (fun _ _ _ h => h) (Or.inl ⟨by rfl, by intro w _; go_simp⟩) hS10 ?_
  simp only [Act.put, List.setIfInBounds_toArray, List.set_cons_zero, List.set_cons_succ]
  refine wpAnyH_take (i := 29) (oi := { dst := some 50, op := Op.pick (Operand.tmp 42) (Operand.tmp 49) (Operand.const (Value.bool false)), type := 4, pos := "law.go:99", after := #[{ on := 21, ground := Ground.data }, { on := 28, ground := Ground.data }], guard := none }) (v := .bool true) rfl (by kernel_rfl) (by kernel_rfl) (by kernel_rfl) (fun _ _ _ h => h) (Or.inl ⟨by rfl, by intro w _; go_simp⟩) hS10 ?_
  simp only [Act.put, List.setIfInBounds_toArray, List.set_cons_zero, List.set_cons_succ]
  refine wpAnyH_ready (rs := [30]) (by kernel_rfl) (by decide) (AllReadyH.cons rfl (fun K hK => ?_) AllReadyH.nil)
  rw [if_pos (by rfl)]
  go_simp
  refine hK.out _ _ hS10 (fun _ => ?_)
  clear hK K
  refine wpAnyH_done (by kernel_rfl) ?_ _
  have HB9 := hS10.bel
  have HBB : Hid (Below w.heap.size w _) := HB9
  go_wp2
  go_ret
  exact ⟨rfl, HBB.out⟩

end Go.Proofs.Ytbfhfejdmhjccaa
