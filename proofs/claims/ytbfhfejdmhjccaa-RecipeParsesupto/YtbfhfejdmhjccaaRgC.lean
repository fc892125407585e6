/- The law RecipeFirst, walked. -/
import Derived.Test.YtbfhfejdmhjccaaRgB
namespace Go.Proofs.Ytbfhfejdmhjccaa
open Go.RowKit

theorem ext_take (a b : List UInt8) : (ba (a ++ b)).extract 0 a.length = ba a := by
  apply bytes_ext
  · rw [ByteArray.size_extract, ba_size, ba_size, List.length_append]; omega
  · intro k hk
    rw [ByteArray.size_extract, ba_size, List.length_append] at hk
    have hk' : k < a.length := by omega
    rw [bt_ba _ _ hk']
    unfold bt
    rw [dif_pos (by rw [ByteArray.size_extract, ba_size, List.length_append]; omega), ByteArray.getElem_extract]
    show (((a ++ b).toArray[0 + k]'(by simp; omega)).toNat : Int) = _
    simp [List.getElem_append_left hk']

/-- What the law's drawn region keeps. -/
structure FW (w : World) (k f : Nat) (i : Nat) (W : World) : Prop where
  a : Flt W k 210 i
  b : Flt W f 210 i
  bel : Below w.heap.size w W
theorem FW.next {w : World} {k f : Nat} {i : Nat} {W W' : World} (h : FW w k f i W) (c : Below W.heap.size W W') : FW w k f i W' := ⟨h.a.below c, h.b.below c, bel_trans h.bel c⟩

set_option maxHeartbeats 8000000 in
theorem first_walk (s : ByteArray) (w : World) (hs : s.size ≤ 1048576) : Calls Try.prog 7 #[.string s] w fun e w' => e = .returned (.bool true) ∧ Below w.heap.size w w' := by
  obtain ⟨l, rfl⟩ : ∃ l, s = ba l := ⟨s.data.toList, (ba_list s).symm⟩
  rw [ba_size] at hs
  have PC := fun W => parse_any l W (by omega)
  unfold ParseP at PC
  cases hp : prs l with
  | ok r m =>
    rw [hp] at PC
    dsimp only at PC
    clear hp
    go_enter Try.func7, Try.ntmps7
    go_wp2_with fail
    refine (awake_any w).mono ?_
    rintro e w1 ⟨rfl, b1⟩
    have HB1 : Hid (Below w.heap.size w w1) := b1
    go_wp2_with fail
    refine (PC w1).mono ?_
    rintro e w2 ⟨⟨vd, vs, rfl, TD, TS⟩, b2⟩
    have HB2 : Hid (Below w.heap.size w w2) := bel_trans HB1.out b2
    obtain ⟨pd, cd, rfl⟩ := TD.shape
    obtain ⟨pt, ct, rfl⟩ := TS.shape
    have HB3 : Hid (Below w.heap.size w (w2.alloc (.cells #[.string (ba r.nm), .slice pd r.ds.length cd, .slice pt r.ss.length ct] 26))) := HB2.out.alloc HB2.out.size _
    clear TD TS b1 b2 PC HB1 HB2
    go_wp2
    try rw [Exit.noGoto_ret]
    go_ret
    exact ⟨rfl, HB3.out⟩
  | bad b =>
    obtain ⟨a, hab, hfirst⟩ := prs_first hp
    rw [hp] at PC
    dsimp only at PC
    have hlen : l.length - b.length = a.length := by rw [hab, List.length_append]; omega
    rw [hlen] at PC
    have hext : (ba l).extract 0 a.length = ba a := by rw [hab]; exact ext_take a b
    have hal : a.length ≤ l.length := by rw [hab, List.length_append]; omega
    have hsz := ba_size l
    have PA := fun W => parse_any a W (by omega)
    unfold ParseP at PA
    have HFR : Hid (prs a = .bad [] ∨ ∃ r, prs a = .ok r []) := hfirst
    clear hp hab hlen hfirst
    go_enter Try.func7, Try.ntmps7
    go_wp2_with fail
    refine (awake_any w).mono ?_
    rintro e w1 ⟨rfl, b1⟩
    have HB1 : Hid (Below w.heap.size w w1) := b1
    go_wp2_with fail
    refine (PC w1).mono ?_
    rintro e w2 ⟨⟨k, hk, rfl, hF⟩, b2⟩
    have b3 : Below w2.heap.size w2 (w2.alloc (.cells #[.string ⟨#[]⟩, .slice none 0 0, .slice none 0 0] 26)) := (Below.refl _ _).alloc (Nat.le_refl _) _
    have HB3 : Hid (Below w.heap.size w (w2.alloc (.cells #[.string ⟨#[]⟩, .slice none 0 0, .slice none 0 0] 26))) := bel_trans (bel_trans HB1.out b2) b3
    have F3 : Flt (w2.alloc (.cells #[.string ⟨#[]⟩, .slice none 0 0, .slice none 0 0] 26)) k 210 a.length := Flt.below (show Flt w2 k 210 a.length from hF) b3
    clear b1 b2 b3 PC HB1 hk hF
    go_wp2_with fail
    generalize w2.alloc (.cells #[.string ⟨#[]⟩, .slice none 0 0, .slice none 0 0] 26) = w3 at HB3 F3 ⊢
    refine (fault_any k a.length w3 F3).mono ?_
    rintro e w4 ⟨rfl, b4⟩
    have HB4 : Hid (Below w.heap.size w w4) := bel_trans HB3.out b4
    have F5 := Flt.new w4 210 a.length
    have HB5 : Hid (Below w.heap.size w (w4.alloc (.cells #[.int .i64 210, .int .i64 (a.length : Int)] 40))) := HB4.out.alloc HB4.out.size _
    clear b4 HB3 F3 HB4
    have c0 := F5.c0
    have c1 := F5.c1
    have h0 : ¬ (a.length : Int) < 0 := by omega
    have h1 : ¬ (l.length : Int) < (a.length : Int) := by omega
    go_wp2_with fail
    generalize w4.alloc (.cells #[.int .i64 210, .int .i64 (a.length : Int)] 40) = w5 at HB5 F5 ⊢
    have HF5 : Hid (Flt w5 w4.heap.size 210 a.length) := F5
    generalize w4.heap.size = f at HF5 ⊢
    clear c0 c1 F5 hext
    rcases HFR.out with hpa | ⟨r, hpa⟩
    · rw [hpa] at PA
      dsimp only at PA
      rw [show a.length - ([] : List UInt8).length = a.length from rfl] at PA
      refine (PA w5).mono ?_
      rintro e w6 ⟨⟨k2, hk2, rfl, hF6⟩, b6⟩
      have b7 : Below w6.heap.size w6 (w6.alloc (.cells #[.string ⟨#[]⟩, .slice none 0 0, .slice none 0 0] 26)) := (Below.refl _ _).alloc (Nat.le_refl _) _
      have HB7 : Hid (Below w.heap.size w (w6.alloc (.cells #[.string ⟨#[]⟩, .slice none 0 0, .slice none 0 0] 26))) := bel_trans (bel_trans HB5.out b6) b7
      have F7 : Flt (w6.alloc (.cells #[.string ⟨#[]⟩, .slice none 0 0, .slice none 0 0] 26)) k2 210 a.length := Flt.below (show Flt w6 k2 210 a.length from hF6) b7
      have G7 : Flt (w6.alloc (.cells #[.string ⟨#[]⟩, .slice none 0 0, .slice none 0 0] 26)) f 210 a.length := (HF5.out.below b6).below b7
      clear PA hpa HFR hk2 hF6 b6 b7 HB5 HF5
      go_wp2_with fail
      generalize w6.alloc (.cells #[.string ⟨#[]⟩, .slice none 0 0, .slice none 0 0] 26) = w7 at HB7 F7 G7 ⊢
      have K7 : FW w k2 f a.length w7.drew := ⟨F7.same rfl, G7.same rfl, HB7.out.drew⟩
      clear HB7 F7 G7
      refine wp_region_held_drew (S := FW w k2 f a.length) (by kernel_rfl) K7 (fun hS => ?_)
      generalize w7.drew = W at hS ⊢
      clear K7
      refine wpAnyH_take (i := 0) (oi := { dst := some 42, op := Op.move (Operand.tmp 7), type := 28, pos := "law.go:147", after := #[], guard := none }) (v := .iface 48 (.pointer (some ⟨k2, 0, none⟩))) rfl (by kernel_rfl) (by kernel_rfl) (by kernel_rfl) (fun _ _ _ h => h) (Or.inl ⟨by rfl, by intro w _; go_simp⟩) hS ?_
      simp only [Act.put, List.setIfInBounds_toArray, List.set_cons_zero, List.set_cons_succ]
      refine wpAnyH_take (i := 1) (oi := { dst := some 43, op := Op.binOp BinOp.eql 28 (Operand.tmp 42) (Operand.const Value.nilIface) 28, type := 4, pos := "law.go:147", after := #[{ on := 0, ground := Ground.data }], guard := none }) (v := .bool false) rfl (by kernel_rfl) (by kernel_rfl) (by kernel_rfl) (fun _ _ _ h => h) (Or.inl ⟨by rfl, by intro w _; go_simp⟩) hS ?_
      simp only [Act.put, List.setIfInBounds_toArray, List.set_cons_zero, List.set_cons_succ]
      refine wpAnyH_take (i := 2) (oi := { dst := some 44, op := Op.move (Operand.tmp 43), type := 4, pos := "law.go:147", after := #[{ on := 1, ground := Ground.data }], guard := none }) (v := .bool false) rfl (by kernel_rfl) (by kernel_rfl) (by kernel_rfl) (fun _ _ _ h => h) (Or.inl ⟨by rfl, by intro w _; go_simp⟩) hS ?_
      simp only [Act.put, List.setIfInBounds_toArray, List.set_cons_zero, List.set_cons_succ]
      refine wpAnyH_take (i := 3) (oi := { dst := some 45, op := Op.move (Operand.tmp 7), type := 28, pos := "law.go:147", after := #[{ on := 2, ground := Ground.guard }], guard := some (2, false) }) (v := .iface 48 (.pointer (some ⟨k2, 0, none⟩))) rfl (by kernel_rfl) (by kernel_rfl) (by kernel_rfl) (fun _ _ _ h => h) (Or.inl ⟨by rfl, by intro w _; go_simp⟩) hS ?_
      simp only [Act.put, List.setIfInBounds_toArray, List.set_cons_zero, List.set_cons_succ]
      refine wpAnyH_take (i := 5) (oi := { dst := some 47, op := Op.load 40 (Operand.tmp 5), type := 40, pos := "law.go:147", after := #[{ on := 2, ground := Ground.guard }], guard := some (2, false) }) (v := .agg #[.int .i64 210, .int .i64 (a.length : Int)]) rfl (by kernel_rfl) (by kernel_rfl) (by kernel_rfl) (fun _ _ _ h => h) (Or.inl ⟨by rfl, by intro w' s'; have c9 := s'.b.c0; have c8 := s'.b.c1; go_simp⟩) hS ?_
      simp only [Act.put, List.setIfInBounds_toArray, List.set_cons_zero, List.set_cons_succ]
      refine wpAnyH_ready (rs := [4]) (by kernel_rfl) (by decide) (AllReadyH.cons rfl (fun K hK => ?_) AllReadyH.nil)
      rw [if_pos (by rfl)]
      go_simp
      refine (fault_any k2 a.length W hS.a).mono ?_
      rintro e v1 ⟨rfl, q1⟩
      go_wp2_with fail
      have hS1 := hS.next q1
      refine hK.out _ _ hS1 (fun _ => ?_)
      clear hK K
      try simp only [Act.put, List.setIfInBounds_toArray, List.set_cons_zero, List.set_cons_succ]
      refine wpAnyH_ready (rs := [6]) (by kernel_rfl) (by decide) (AllReadyH.cons rfl (fun K hK => ?_) AllReadyH.nil)
      rw [if_pos (by rfl)]
      go_simp
      refine hK.out _ _ hS1 (fun _ => ?_)
      clear hK K
      try simp only [Act.put, List.setIfInBounds_toArray, List.set_cons_zero, List.set_cons_succ]
      refine wpAnyH_ready (rs := [7]) (by kernel_rfl) (by decide) (AllReadyH.cons rfl (fun K hK => ?_) AllReadyH.nil)
      rw [if_pos (by rfl)]
      go_simp
      refine hK.out _ _ hS1 (fun _ => ?_)
      clear hK K
      try simp only [Act.put, List.setIfInBounds_toArray, List.set_cons_zero, List.set_cons_succ]
      refine wpAnyH_ready (rs := [8]) (by kernel_rfl) (by decide) (AllReadyH.cons rfl (fun K hK => ?_) AllReadyH.nil)
      rw [if_pos (by rfl)]
      go_simp
      refine hK.out _ _ hS1 (fun _ => ?_)
      clear hK K
      refine wpAnyH_done (by kernel_rfl) ?_ _
      have HB9 : Hid (Below w.heap.size w v1) := hS1.bel
      clear hS hS1 q1
      go_wp2
      go_ret
      exact ⟨rfl, HB9.out⟩
    · rw [hpa] at PA
      dsimp only at PA
      refine (PA w5).mono ?_
      rintro e w6 ⟨⟨vd, vs, rfl, TD, TS⟩, b6⟩
      obtain ⟨pd, cd, rfl⟩ := TD.shape
      obtain ⟨pt, ct, rfl⟩ := TS.shape
      have HB7 : Hid (Below w.heap.size w (w6.alloc (.cells #[.string (ba r.nm), .slice pd r.ds.length cd, .slice pt r.ss.length ct] 26))) := (bel_trans HB5.out b6).alloc (bel_trans HB5.out b6).size _
      clear PA hpa HFR TD TS b6 HB5 HF5
      go_wp2_with fail
      generalize w6.alloc (.cells #[.string (ba r.nm), .slice pd r.ds.length cd, .slice pt r.ss.length ct] 26) = w7 at HB7 ⊢
      go_quiet (fail)
      have HB8 : Hid (Below w.heap.size w (w7.drewN nq)) := bel_drewN HB7.out nq
      go_wp2
      go_ret
      exact ⟨rfl, HB8.out⟩

end Go.Proofs.Ytbfhfejdmhjccaa
