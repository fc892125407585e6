/- TablePlays: asked, walked (own text of the verifier). -/
import Derived.Test.YtbdnniaajiiimaaPpA
import Derived.Deep.RegionHeld3
namespace Go.Proofs.Ytbdnniaajiiimaa
namespace TS
open Go.RowKit

theorem findL_any (v : Value) (L : PL) (k : ByteArray) (w : World) (h : PL.At w v L) (hn : L.length ≤ 1073741824) :
    Calls Try.prog 9 #[v, .string k] w fun e w' => e = .returned (.int .i64 (fndF (fL L) k L.length)) ∧ w' = w := by
  obtain ⟨x, c, rfl, p⟩ := h
  exact refFind_any x L.length c (fL L) (gL L) k w p (by omega)

/-- The document's Find and the table's Get find the same. -/
theorem find_get {L : PL} {u : BT ByteArray} {j : Nat} (h : LU L u j) (k : ByteArray) :
    (gb (BT.fnd ltK k u) = true ∧ ∃ i : Nat, i < L.length ∧ fndF (fL L) k L.length = (i : Int) ∧ gL L i = gv (BT.fnd ltK k u)) ∨ (gb (BT.fnd ltK k u) = false ∧ gv (BT.fnd ltK k u) = 0 ∧ fndF (fL L) k L.length = -1) := by
  cases e : BT.look k u.toL with
  | none =>
    refine .inr ⟨get_none h.br.srt e, ?_, fndF_none fun i hi => ?_⟩
    · have := BT.fnd_look ordS k u h.br.srt
      rw [e] at this
      cases q : BT.fnd ltK k u with
      | E => rfl
      | N a b c d e => rw [q] at this; cases this
    · have := (h.br.look_none ordS).1 e L[i] (List.getElem_mem hi)
      rw [← fgL hi] at this
      exact this
  | some v =>
    obtain ⟨g1, g2⟩ := get_some h.br.srt e
    refine .inl ⟨g1, ?_⟩
    have hm := (h.br.look_iff ordS).1 e
    cases q : (List.range L.length).find? (fun i => decide (fL L i = k)) with
    | none =>
      exfalso
      obtain ⟨i, hi, e2⟩ := List.getElem_of_mem hm
      rw [← fgL hi] at e2
      rw [List.find?_eq_none] at q
      have := q i (by simpa using hi)
      simp at this
      exact this (congrArg Prod.fst e2)
    | some i =>
      have hi : i < L.length := by have := List.mem_of_find?_eq_some q; simpa using this
      have hk : fL L i = k := by have := List.find?_some q; simpa using this
      refine ⟨i, hi, by unfold fndF; rw [q]; rfl, ?_⟩
      rw [g2]
      have h2 : (k, gL L i) ∈ L := by
        have := List.getElem_mem hi
        rw [← fgL hi, hk] at this
        exact this
      have := (h.br.look_iff ordS).2 h2
      rw [e] at this
      injection this with this
      exact this.symm

/-- A block just made, behind a call. -/
theorem afterP {W w5 : World} {x y : Value} {ty : TypeId} (b : Below (W.alloc (.cells #[x, y] ty)).heap.size (W.alloc (.cells #[x, y] ty)) w5) :
    w5.cell? ⟨W.heap.size, 0, none⟩ = some x ∧ w5.cell? ⟨W.heap.size, 1, none⟩ = some y ∧ w5.frozen? ⟨W.heap.size, 0, none⟩ = false ∧ w5.frozen? ⟨W.heap.size, 1, none⟩ = false := by
  have hl : W.heap.size < (W.alloc (.cells #[x, y] ty)).heap.size := by rw [World.size_alloc]; omega
  exact ⟨(b.cell (p := ⟨W.heap.size, 0, none⟩) hl).trans (by simp), (b.cell (p := ⟨W.heap.size, 1, none⟩) hl).trans (by simp), (b.frozen (p := ⟨W.heap.size, 0, none⟩) hl).trans (by simp), (b.frozen (p := ⟨W.heap.size, 1, none⟩) hl).trans (by simp)⟩

set_option maxRecDepth 100000 in
set_option maxHeartbeats 8000000 in
theorem asked_any (T : Nat) (v : Value) (t : BT ByteArray) (L : PL) (j : Nat) (who kind : Int) (key : ByteArray) (N : Int) (w : World) (hT : Tab w T t) (hL : PL.At w v L) (hU : LU L t j) (hj : j ≤ 1048577) :
    Calls Try.prog 13 #[.pointer (some ⟨T, 0, none⟩), v, .agg #[.int .i64 who, .int .i64 kind, .string key, .int .i64 N]] w fun e w' => e = .returned (.bool true) ∧ Below w.heap.size w w' := by
  have b1 : Below w.heap.size w (w.alloc (.cells #[.int .i64 who, .int .i64 kind, .string key, .int .i64 N] 32)) := (Below.refl _ _).alloc (Nat.le_refl _) _
  have hl := hU.len
  have hct := hU.cnt hT.ok
  have HT : Hid (Tab (w.alloc (.cells #[.int .i64 who, .int .i64 kind, .string key, .int .i64 N] 32)) T t) := hT.below b1 (Nat.le_refl _)
  have HL : Hid (PL.At (w.alloc (.cells #[.int .i64 who, .int .i64 kind, .string key, .int .i64 N] 32)) v L) := hL.below b1 (Nat.le_refl _)
  have HU : Hid (LU L t j) := hU
  have HB : Hid (Below w.heap.size w (w.alloc (.cells #[.int .i64 who, .int .i64 kind, .string key, .int .i64 N] 32))) := b1
  clear hT hL hU b1
  go_enter Try.func13, Try.ntmps13
  by_cases k1 : kind = 1
  · subst k1
    have CF := findL_any v L key _ HL.out (by omega)
    have CG := get_any T t key _ HT.out
    go_wp2_with fail
    refine CG.mono ?_
    rintro e w1 ⟨rfl, b1⟩
    have HL1 : Hid (PL.At w1 v L) := HL.out.below b1 (Nat.le_refl _)
    have HB1 : Hid (Below w.heap.size w w1) := HB.out.trans (b1.mono HB.out.size)
    have c2 : w1.cell? ⟨w.heap.size, 2, none⟩ = some (.string key) := (b1.cell (p := ⟨w.heap.size, 2, none⟩) (by simp)).trans (by simp)
    clear CG b1 HL HT HB
    have CF := findL_any v L key w1 HL1.out (by omega)
    rcases find_get HU.out key with ⟨g1, i, hi, g2, g3⟩ | ⟨g1, g2, g3⟩
    · rw [g2] at CF
      obtain ⟨x, c, rfl, hP⟩ := HL1.out
      obtain ⟨b, o, rfl, d0, d1⟩ := hP i hi
      rw [g1]
      rw [← g3] at *
      have hm : max (i : Int) 0 = i := by omega
      have e1 : (gL L i == gL L i) = true := by simp
      clear hP g1 g2 g3 HU HL1
      go_wp2_with fail
      refine CF.mono ?_
      rintro e w2 ⟨rfl, rfl⟩
      go_wp2
      go_ret
      exact ⟨rfl, HB1.out⟩
    · rw [g3] at CF
      rw [g1, g2]
      clear g1 g2 g3 HU HL1
      go_wp2_with fail
      refine CF.mono ?_
      rintro e w2 ⟨rfl, rfl⟩
      go_wp2
      go_ret
      exact ⟨rfl, HB1.out⟩
  have q1 : (kind == 1) = false := by simp [k1]
  by_cases k3 : kind = 3
  · subst k3
    have hr : BT.rnk ltK key t = BT.rkL ltK key L := by rw [BT.rnk_toL ltK ordS key t (Tab.ok HT.out) HU.out.br.srt, HU.out.br.rk]; rfl
    have CF : ∀ q, Calls Try.prog 16 #[v, .string key] ((w.alloc (.cells #[.int .i64 who, .int .i64 3, .string key, .int .i64 N] 32)).drewN q) fun e w' => e = .returned (.int .i64 (BT.rkL ltK key L : Int)) ∧ w' = (w.alloc (.cells #[.int .i64 who, .int .i64 3, .string key, .int .i64 N] 32)).drewN q := fun q =>
      rankL_any v L key _ (HL.out.below (bel_drewN (Below.refl _ _) q) (Nat.le_refl _)) (by omega)
    have CG : ∀ q, Calls Try.prog 21 #[.pointer (some ⟨T, 0, none⟩), Value.string key] ((w.alloc (.cells #[.int .i64 who, .int .i64 3, .string key, .int .i64 N] 32)).drewN q) fun e w' => e = .returned (.int .i64 (BT.rkL ltK key L : Int)) ∧ w' = (w.alloc (.cells #[.int .i64 who, .int .i64 3, .string key, .int .i64 N] 32)).drewN q := fun q => by
      rw [← hr]
      exact tRank_any T t key _ (HT.out.below (bel_drewN (Below.refl _ _) q) (Nat.le_refl _)) (by omega)
    have e1 : ((BT.rkL ltK key L : Int) == (BT.rkL ltK key L : Int)) = true := by simp
    have hB : Below w.heap.size w (w.alloc (.cells #[.int .i64 who, .int .i64 3, .string key, .int .i64 N] 32)) := HB.out
    clear HU HL HT HB hr
    go_wp2
    go_quiet ((first | (go_at_call 21; exact Calls.quiet_of_same (CG _)) | (go_at_call 16; exact Calls.quiet_of_same (CF _))))
    go_wp2
    go_ret
    exact ⟨rfl, bel_drewN hB _⟩
  have q3 : (kind == 3) = false := by simp [k3]
  by_cases k4 : kind = 4
  · subst k4
    have hcl : t.cnt = L.length := by rw [BT.cnt_toL t (Tab.ok HT.out), ← HU.out.br.len]
    by_cases hN : N < 0 ∨ (t.cnt : Int) ≤ N
    · have CA := tAt_none T t N _ HT.out hN
      obtain ⟨x, c, rfl, _⟩ := HL.out
      go_wp2_with fail
      refine CA.mono ?_
      rintro e w1 ⟨rfl, b1⟩
      have HB1 : Hid (Below w.heap.size w w1) := HB.out.trans (b1.mono HB.out.size)
      have c3 : w1.cell? ⟨w.heap.size, 3, none⟩ = some (.int .i64 N) := (b1.cell (p := ⟨w.heap.size, 3, none⟩) (by simp)).trans (by simp)
      rw [hcl] at hN
      clear CA b1 HL HT HB HU
      by_cases h1 : N < 0
      · clear hN
        go_wp2
        go_ret
        exact ⟨rfl, HB1.out⟩
      · have h2 : (L.length : Int) ≤ N := by omega
        clear hN
        go_wp2
        go_ret
        exact ⟨rfl, HB1.out⟩
    · obtain ⟨i, rfl⟩ : ∃ i : Nat, N = (i : Int) := ⟨N.toNat, by omega⟩
      have hi : i < t.cnt := by omega
      have CA := tAt_any T t i _ HT.out hi (by omega)
      go_wp2_with fail
      refine CA.mono ?_
      rintro e w1 ⟨⟨k, v0, rfl, hk⟩, b1⟩
      have HL1 : PL.At w1 v L := HL.out.below b1 (Nat.le_refl _)
      have hb1 : Below w.heap.size w w1 := HB.out.trans (b1.mono HB.out.size)
      have c3 : w1.cell? ⟨w.heap.size, 3, none⟩ = some (.int .i64 (i : Int)) := (b1.cell (p := ⟨w.heap.size, 3, none⟩) (by simp)).trans (by simp)
      have hbl : w.heap.size < w1.heap.size := by have := b1.size; rw [World.size_alloc] at this; omega
      have SC : Hid (∀ W, Below w1.heap.size w1 W → Calls Try.prog 15 #[v] W fun e w' => (∃ b o c2, e = .returned (.slice (some ⟨b, o, none⟩) L.length c2) ∧ w'.cell? ⟨b, o + i * 2, none⟩ = some (.string k) ∧ w'.cell? ⟨b, o + i * 2 + 1, none⟩ = some (.int .i64 v0) ∧ w'.cell? ⟨w.heap.size, 3, none⟩ = some (.int .i64 (i : Int))) ∧ Below W.heap.size W w') := fun W hb =>
        (sortL_any v L t.toL W (HL1.below hb (Nat.le_refl _)) (by omega) HU.out.br).mono fun e w' q => by
          obtain ⟨v', rfl, ⟨x2, c2, rfl, hP⟩, b2⟩ := q
          have hl : t.toL.length = L.length := HU.out.br.len.symm
          obtain ⟨b, o, rfl, d0, d1⟩ := hP i (by omega)
          have hM : (fL t.toL i, gL t.toL i) = (k, v0) := by
            rw [fgL (by omega)]
            have h := hk
            rw [List.getElem?_eq_getElem (by omega)] at h
            injection h
          injection hM with h1 h2
          rw [h1] at d0
          rw [h2] at d1
          exact ⟨⟨b, o, c2, by rw [hl], d0, d1, (b2.cell (p := ⟨w.heap.size, 3, none⟩) (Nat.lt_of_lt_of_le hbl hb.size)).trans ((hb.cell (p := ⟨w.heap.size, 3, none⟩) hbl).trans c3)⟩, b2⟩
      have HB1 : Hid (Below w.heap.size w w1 ∧ w.heap.size < w1.heap.size) := ⟨hb1, hbl⟩
      have bD : Below w1.heap.size w1 w1.drew := (Below.refl _ _).drew
      obtain ⟨x, c, rfl, _⟩ := HL1
      have h1 : ¬ (i : Int) < 0 := by omega
      have h2 : ¬ (L.length : Int) ≤ (i : Int) := by omega
      have h3 : ¬ L.length ≤ i := by omega
      have h4 : (i : Int) < (L.length : Int) := by omega
      have h5 : i < L.length := by omega
      clear CA b1 HL HT HB HU hN hk hb1 hcl hi hct
      go_wp2_with fail
      refine wp_region_held_drew (S := fun W => Below w1.heap.size w1 W) (by kernel_rfl) bD (fun hH => ?_)
      clear bD
      generalize w1.drew = wd at *
      -- @R
      refine wpAnyH_take (i := 0) (oi := { dst := some 95, op := Op.move (Operand.tmp 1), type := 26, pos := "law.go:54", after := #[], guard := none }) (v := .slice x L.length c) rfl (by kernel_rfl) (by kernel_rfl) (by kernel_rfl) (fun _ _ _ h => h) (Or.inl ⟨by rfl, by intro w _; go_simp⟩) hH ?_
      simp only [Act.put, List.setIfInBounds_toArray, List.set_cons_zero, List.set_cons_succ]
      refine wpAnyH_take (i := 2) (oi := { dst := some 97, op := Op.fieldAddr 32 (Operand.tmp 5) 3, type := 0, pos := "law.go:54", after := #[], guard := none }) (v := .pointer (some ⟨w.heap.size, 3, none⟩)) rfl (by kernel_rfl) (by kernel_rfl) (by kernel_rfl) (fun _ _ _ h => h) (Or.inl ⟨by rfl, by intro w _; go_simp⟩) hH ?_
      simp only [Act.put, List.setIfInBounds_toArray, List.set_cons_zero, List.set_cons_succ]
      refine wpAnyH_take (i := 3) (oi := { dst := some 98, op := Op.load 3 (Operand.tmp 97), type := 3, pos := "law.go:54", after := #[{ on := 2, ground := Ground.data }], guard := none }) (v := .int .i64 (i : Int)) rfl (by kernel_rfl) (by kernel_rfl) (by kernel_rfl) (fun _ _ _ h => h) (Or.inl ⟨by rfl, by intro w' s'; have q0 := (Below.cell (p := ⟨w.heap.size, 3, none⟩) s' HB1.out.2).trans c3; go_simp⟩) hH ?_
      simp only [Act.put, List.setIfInBounds_toArray, List.set_cons_zero, List.set_cons_succ]
      refine wpAnyH_ready (rs := [1, 6]) (by kernel_rfl) (by decide) (AllReadyH.cons rfl (fun K hK => ?_) (AllReadyH.cons rfl (fun K hK => ?_) AllReadyH.nil))
      · rw [if_pos (by rfl)]
        go_simp
        refine (SC.out _ hH).mono ?_
        rintro e w2 ⟨⟨b, o, c2, rfl, d0, d1, d2⟩, b2⟩
        have hH2 : Below w1.heap.size w1 w2 := hH.trans (b2.mono hH.size)
        go_wp2_with fail
        refine hK.out _ _ hH2 (fun _ => ?_)
        clear hK K
        try simp only [Act.put, List.setIfInBounds_toArray, List.set_cons_zero, List.set_cons_succ]
        refine wpAnyH_take (i := 4) (oi := { dst := some 99, op := Op.indexAddr 26 (Operand.tmp 96) (Operand.tmp 98), type := 0, pos := "law.go:54", after := #[{ on := 1, ground := Ground.data }, { on := 3, ground := Ground.data }], guard := none }) (v := .pointer (some ⟨b, o + i * 2, none⟩)) rfl (by kernel_rfl) (by kernel_rfl) (by kernel_rfl) (fun _ _ _ h => h) (Or.inl ⟨by rfl, by intro w _; go_simp⟩) hH2 ?_
        simp only [Act.put, List.setIfInBounds_toArray, List.set_cons_zero, List.set_cons_succ]
        refine wpAnyH_ready (rs := [5, 6]) (by kernel_rfl) (by decide) (AllReadyH.cons rfl (fun K hK => ?_) (AllReadyH.cons rfl (fun K hK => ?_) AllReadyH.nil))
        · rw [if_pos (by rfl)]
          go_simp
          refine hK.out _ _ hH2 (fun _ => ?_)
          clear hK K
          try simp only [Act.put, List.setIfInBounds_toArray, List.set_cons_zero, List.set_cons_succ]
          refine wpAnyH_ready (rs := [6]) (by kernel_rfl) (by decide) (AllReadyH.cons rfl (fun K hK => ?_) AllReadyH.nil)
          rw [if_pos (by rfl)]
          have hH3 : Below w1.heap.size w1 (w2.alloc (.cells #[.string ⟨#[]⟩, .int .i64 0] 38)) := hH2.alloc hH2.size _
          go_simp
          refine hK.out _ _ hH3 (fun _ => ?_)
          clear hK K
          try simp only [Act.put, List.setIfInBounds_toArray, List.set_cons_zero, List.set_cons_succ]
          refine wpAnyH_ready (rs := [7]) (by kernel_rfl) (by decide) (AllReadyH.cons rfl (fun K hK => ?_) AllReadyH.nil)
          rw [if_pos (by rfl)]
          have hHs : Below w1.heap.size w1 (w2.alloc (.cells #[.string k, .int .i64 v0] 38)) := hH2.alloc hH2.size _
          go_simp
          refine hK.out _ _ hHs (fun _ => ?_)
          clear hK K
          try simp only [Act.put, List.setIfInBounds_toArray, List.set_cons_zero, List.set_cons_succ]
          refine wpAnyH_done (by kernel_rfl) ?_ _
          go_wp2
          go_ret
          exact ⟨rfl, HB1.out.1.trans (hHs.mono HB1.out.1.size)⟩
        · rw [if_pos (by rfl)]
          have e0 := ((Below.refl w2.heap.size w2).alloc (Nat.le_refl _) (.cells #[.string ⟨#[]⟩, .int .i64 0] 38)).cell (p := ⟨b, o + i * 2, none⟩) (World.block_lt_of_cell? _ _ d0) |>.trans d0
          have e1 := ((Below.refl w2.heap.size w2).alloc (Nat.le_refl _) (.cells #[.string ⟨#[]⟩, .int .i64 0] 38)).cell (p := ⟨b, o + i * 2 + 1, none⟩) (World.block_lt_of_cell? _ _ d1) |>.trans d1
          have hH3 : Below w1.heap.size w1 (w2.alloc (.cells #[.string ⟨#[]⟩, .int .i64 0] 38)) := hH2.alloc hH2.size _
          go_simp
          refine hK.out _ _ hH3 (fun _ => ?_)
          clear hK K
          try simp only [Act.put, List.setIfInBounds_toArray, List.set_cons_zero, List.set_cons_succ]
          refine wpAnyH_ready (rs := [5]) (by kernel_rfl) (by decide) (AllReadyH.cons rfl (fun K hK => ?_) AllReadyH.nil)
          rw [if_pos (by rfl)]
          go_simp
          refine hK.out _ _ hH3 (fun _ => ?_)
          clear hK K
          try simp only [Act.put, List.setIfInBounds_toArray, List.set_cons_zero, List.set_cons_succ]
          refine wpAnyH_ready (rs := [7]) (by kernel_rfl) (by decide) (AllReadyH.cons rfl (fun K hK => ?_) AllReadyH.nil)
          rw [if_pos (by rfl)]
          have hHs : Below w1.heap.size w1 (w2.alloc (.cells #[.string k, .int .i64 v0] 38)) := hH2.alloc hH2.size _
          go_simp
          refine hK.out _ _ hHs (fun _ => ?_)
          clear hK K
          try simp only [Act.put, List.setIfInBounds_toArray, List.set_cons_zero, List.set_cons_succ]
          refine wpAnyH_done (by kernel_rfl) ?_ _
          go_wp2
          go_ret
          exact ⟨rfl, HB1.out.1.trans (hHs.mono HB1.out.1.size)⟩
      · rw [if_pos (by rfl)]
        have hH1 : Below w1.heap.size w1 (wd.alloc (.cells #[.string ⟨#[]⟩, .int .i64 0] 38)) := hH.alloc hH.size _
        go_simp
        refine hK.out _ _ hH1 (fun _ => ?_)
        clear hK K
        try simp only [Act.put, List.setIfInBounds_toArray, List.set_cons_zero, List.set_cons_succ]
        refine wpAnyH_ready (rs := [1]) (by kernel_rfl) (by decide) (AllReadyH.cons rfl (fun K hK => ?_) AllReadyH.nil)
        rw [if_pos (by rfl)]
        go_simp
        refine (SC.out _ hH1).mono ?_
        rintro e w2 ⟨⟨b, o, c2, rfl, d0, d1, d2⟩, b2⟩
        obtain ⟨m0, m1, m2, m3⟩ := afterP b2
        have hH2 : Below w1.heap.size w1 w2 := hH1.trans (b2.mono hH1.size)
        go_wp2_with fail
        refine hK.out _ _ hH2 (fun _ => ?_)
        clear hK K
        try simp only [Act.put, List.setIfInBounds_toArray, List.set_cons_zero, List.set_cons_succ]
        refine wpAnyH_take (i := 4) (oi := { dst := some 99, op := Op.indexAddr 26 (Operand.tmp 96) (Operand.tmp 98), type := 0, pos := "law.go:54", after := #[{ on := 1, ground := Ground.data }, { on := 3, ground := Ground.data }], guard := none }) (v := .pointer (some ⟨b, o + i * 2, none⟩)) rfl (by kernel_rfl) (by kernel_rfl) (by kernel_rfl) (fun _ _ _ h => h) (Or.inl ⟨by rfl, by intro w _; go_simp⟩) hH2 ?_
        simp only [Act.put, List.setIfInBounds_toArray, List.set_cons_zero, List.set_cons_succ]
        refine wpAnyH_ready (rs := [5]) (by kernel_rfl) (by decide) (AllReadyH.cons rfl (fun K hK => ?_) AllReadyH.nil)
        rw [if_pos (by rfl)]
        go_simp
        refine hK.out _ _ hH2 (fun _ => ?_)
        clear hK K
        try simp only [Act.put, List.setIfInBounds_toArray, List.set_cons_zero, List.set_cons_succ]
        refine wpAnyH_ready (rs := [7]) (by kernel_rfl) (by decide) (AllReadyH.cons rfl (fun K hK => ?_) AllReadyH.nil)
        rw [if_pos (by rfl)]
        have hHs : Below w1.heap.size w1 ((w2.setCell ⟨wd.heap.size, 0, none⟩ (.string k)).setCell ⟨wd.heap.size, 1, none⟩ (.int .i64 v0)) := (hH2.setCell hH.size _).setCell hH.size _
        go_simp
        refine hK.out _ _ hHs (fun _ => ?_)
        clear hK K
        try simp only [Act.put, List.setIfInBounds_toArray, List.set_cons_zero, List.set_cons_succ]
        refine wpAnyH_done (by kernel_rfl) ?_ _
        go_wp2
        go_ret
        exact ⟨rfl, HB1.out.1.trans (hHs.mono HB1.out.1.size)⟩
      -- @E
  have q4 : (kind == 4) = false := by simp [k4]
  by_cases k5 : kind = 5
  · subst k5
    have hcl : t.cnt = L.length := by rw [BT.cnt_toL t (Tab.ok HT.out), ← HU.out.br.len]
    have CN := len_any T t _ HT.out
    rw [hcl] at CN
    have e1 : ((L.length : Int) == (L.length : Int)) = true := by simp
    have hv : ∃ x c, v = .slice x L.length c := by obtain ⟨x, c, h, _⟩ := HL.out; exact ⟨x, c, h⟩
    obtain ⟨x, c, rfl⟩ := hv
    go_wp2_with fail
    refine CN.mono ?_
    rintro e w1 ⟨rfl, rfl⟩
    clear CN
    have CK := keys_any T t _ HT.out (by omega)
    go_wp2_with fail
    refine CK.mono ?_
    rintro e w2 ⟨v2, rfl, hk2, b2⟩
    have HK2 : Hid (Ks w2 v2 t.toL) := own_ks hk2
    have HL2 : Hid (PL.At w2 (.slice x L.length c) L) := HL.out.below b2 (Nat.le_refl _)
    have HB2 : Hid (Below w.heap.size w w2) := HB.out.trans (b2.mono HB.out.size)
    clear CK hk2 b2 HT HL HB
    have CS := sortL_any (.slice x L.length c) L t.toL w2 HL2.out (by omega) HU.out.br
    go_wp2_with fail
    refine CS.mono ?_
    rintro e w3 ⟨v3, rfl, h3, b3⟩
    have HK3 : Hid (Ks w3 v2 t.toL) := HK2.out.below b3 (Nat.le_refl _)
    have HB3 : Hid (Below w.heap.size w w3) := HB2.out.trans (b3.mono HB2.out.size)
    clear CS b3 HK2 HB2 HL2
    have CT := texts_any v2 v3 t.toL w3 HK3.out h3 (by rw [← HU.out.br.len]; omega)
    clear h3
    go_wp2_with fail
    refine CT.mono ?_
    rintro e w4 ⟨rfl, rfl⟩
    go_wp2
    go_ret
    exact ⟨rfl, HB3.out⟩
  have q5 : (kind == 5) = false := by simp [k5]
  clear HT HL HU
  go_wp2
  go_ret
  exact ⟨rfl, HB.out⟩
end TS
end Go.Proofs.Ytbdnniaajiiimaa
