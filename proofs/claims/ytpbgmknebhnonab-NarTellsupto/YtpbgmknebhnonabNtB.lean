/- The law NarTells, walked (own text of the verifier). -/
import Derived.Test.YtpbgmknebhnonabNtA
namespace Go.Proofs.Ytpbgmknebhnonab
open Go.RowKit

theorem arc_inj {A B : Tr} (ha : smT A) (wa : wfT A) (ca : (ckT A).2 = 0) (hb : smT B) (wb : wfT B) (cb : (ckT B).2 = 0) (h : arcT A = arcT B) : A = B := by
  have h1 := run_arc ha wa ca false []
  have h2 := run_arc hb wb cb false []
  rw [h, h2] at h1
  have h3 : arcS false B = arcS false A := h1
  have h4 := congrArg (fun p : PS => p.c.root) h3
  exact h4.symm
theorem ser_size {T : Tr} (hs : smT T) (hw : wfT T) : (serT T).2 = (szA T).2 ∧ ((serT T).1.size : Int) = (szA T).1 := by
  by_cases hc : (ckT T).2 = 0
  · have e1 : serT T = (NB.ba (arcT T), 0) := by unfold serT; rw [if_neg (by omega)]
    have e2 : szA T = (24 + tbT T, 0) := by unfold szA; rw [if_neg (by omega)]
    rw [e1, e2]
    refine ⟨rfl, ?_⟩
    show ((NB.ba (arcT T)).size : Int) = 24 + tbT T
    rw [NB.ba_size, arc_len]
    exact (arc_facts hs hw hc).2.2.2
  · have e1 : serT T = (⟨#[]⟩, (ckT T).2) := by unfold serT; rw [if_pos hc]
    have e2 : szA T = (0, (ckT T).2) := by unfold szA; rw [if_pos hc]
    rw [e1, e2]
    exact ⟨rfl, rfl⟩
theorem str_list (a b : ByteArray) : (a.toList == b.toList) = decide (a = b) := by
  by_cases h : a = b
  · subst h; simp
  · have : a.toList ≠ b.toList := fun e => h (by
      rw [Lib.toList_data, Lib.toList_data] at e
      exact ByteArray.ext (Array.toList_inj.1 e))
    simp [this, h]

set_option maxHeartbeats 16000000 in
set_option maxRecDepth 10000 in
theorem ntells_walk (m : Nat) (k : Int) (e : Bool) (t : ByteArray) (x : Option Addr) (n c : Nat) (T : Tr) (m' : Nat) (k' : Int) (e' : Bool) (t' : ByteArray) (x' : Option Addr) (n' c' : Nat) (T' : Tr) (w : World)
    (hA : At w m (.agg #[Value.int IntKind.i64 k, Value.bool e, Value.string t, Value.slice x n c]) T) (hS : smT T) (hA' : At w m' (.agg #[Value.int IntKind.i64 k', Value.bool e', Value.string t', Value.slice x' n' c']) T') (hS' : smT T') :
    Calls Try.prog 3 #[.agg #[Value.int IntKind.i64 k, Value.bool e, Value.string t, Value.slice x n c], .agg #[Value.int IntKind.i64 k', Value.bool e', Value.string t', Value.slice x' n' c']] w fun en w' => en = .returned (.bool true) ∧ Below w.heap.size w w' := by
  have hW := At.wf _ _ _ hA
  have hW' := At.wf _ _ _ hA'
  have HH : Hid (At w m (.agg #[Value.int IntKind.i64 k, Value.bool e, Value.string t, Value.slice x n c]) T ∧ smT T ∧ wfT T) := ⟨hA, hS, hW⟩
  have HH' : Hid (At w m' (.agg #[Value.int IntKind.i64 k', Value.bool e', Value.string t', Value.slice x' n' c']) T' ∧ smT T' ∧ wfT T') := ⟨hA', hS', hW'⟩
  clear hA hS hW hA' hS' hW'
  have bA : Below w.heap.size w ((w.alloc (Obj.cells #[Value.int IntKind.i64 k, Value.bool e, Value.string t, Value.slice x n c] 25)).alloc (Obj.cells #[Value.int IntKind.i64 k', Value.bool e', Value.string t', Value.slice x' n' c'] 25)) := ((Below.refl _ _).alloc (Nat.le_refl _) _).alloc (by rw [World.size_alloc]; omega) _
  have HG : Hid (((w.alloc (Obj.cells #[Value.int IntKind.i64 k, Value.bool e, Value.string t, Value.slice x n c] 25)).alloc (Obj.cells #[Value.int IntKind.i64 k', Value.bool e', Value.string t', Value.slice x' n' c'] 25)).heap[w.heap.size]? = some (.cells #[Value.int IntKind.i64 k, Value.bool e, Value.string t, Value.slice x n c] 25 (0, 0)) ∧ ((w.alloc (Obj.cells #[Value.int IntKind.i64 k, Value.bool e, Value.string t, Value.slice x n c] 25)).alloc (Obj.cells #[Value.int IntKind.i64 k', Value.bool e', Value.string t', Value.slice x' n' c'] 25)).heap[w.heap.size + 1]? = some (.cells #[Value.int IntKind.i64 k', Value.bool e', Value.string t', Value.slice x' n' c'] 25 (0, 0)) ∧ Below w.heap.size w ((w.alloc (Obj.cells #[Value.int IntKind.i64 k, Value.bool e, Value.string t, Value.slice x n c] 25)).alloc (Obj.cells #[Value.int IntKind.i64 k', Value.bool e', Value.string t', Value.slice x' n' c'] 25))) := by
    refine ⟨(Below.heap_alloc _ _ _ (by rw [World.size_alloc]; omega)).trans (heap_alloc_new _ _), ?_, bA⟩
    have := heap_alloc_new (w.alloc (Obj.cells #[Value.int IntKind.i64 k, Value.bool e, Value.string t, Value.slice x n c] 25)) (Obj.cells #[Value.int IntKind.i64 k', Value.bool e', Value.string t', Value.slice x' n' c'] 25)
    rw [World.size_alloc] at this
    exact this
  clear bA
  go_enter Try.func3, Try.ntmps3
  go_upto_region 1 with fail
  obtain ⟨G, hG⟩ : ∃ G, w.heap.size = G := ⟨_, rfl⟩
  have HGe : Hid (w.heap.size = G) := hG
  generalize (w.alloc (Obj.cells #[Value.int IntKind.i64 k, Value.bool e, Value.string t, Value.slice x n c] 25)).alloc (Obj.cells #[Value.int IntKind.i64 k', Value.bool e', Value.string t', Value.slice x' n' c'] 25) = w1 at *
  rw [hG] at HG ⊢
  clear hG
  have CW := awN w1
  go_wp2_with fail
  refine CW.mono ?_
  rintro e2 w2 ⟨rfl, b2⟩
  have HG2 : Hid (w2.heap[G]? = some (.cells #[Value.int IntKind.i64 k, Value.bool e, Value.string t, Value.slice x n c] 25 (0, 0)) ∧ w2.heap[G + 1]? = some (.cells #[Value.int IntKind.i64 k', Value.bool e', Value.string t', Value.slice x' n' c'] 25 (0, 0)) ∧ Below G w w2) := ⟨(b2.block _ (heap_lt HG.out.1)).trans HG.out.1, (b2.block _ (heap_lt HG.out.2.1)).trans HG.out.2.1, HG.out.2.2.trans (b2.mono (Nat.le_of_lt (heap_lt HG.out.1)))⟩
  clear CW b2 HG
  obtain ⟨u0, u1, u2, u3, _⟩ := cell4n HG2.out.1
  have CS := nserial_any m k e t x n c T w2 (HH.out.1.below (by rw [HGe.out]; exact HG2.out.2.2)) HH.out.2.1 HH.out.2.2
  go_wp2_with fail
  refine CS.mono ?_
  rintro e3 w3 ⟨rfl, b3⟩
  have HG3 : Hid (w3.heap[G]? = some (.cells #[Value.int IntKind.i64 k, Value.bool e, Value.string t, Value.slice x n c] 25 (0, 0)) ∧ w3.heap[G + 1]? = some (.cells #[Value.int IntKind.i64 k', Value.bool e', Value.string t', Value.slice x' n' c'] 25 (0, 0)) ∧ Below G w w3) := ⟨(b3.block _ (heap_lt HG2.out.1)).trans HG2.out.1, (b3.block _ (heap_lt HG2.out.2.1)).trans HG2.out.2.1, HG2.out.2.2.trans (b3.mono (Nat.le_of_lt (heap_lt HG2.out.1)))⟩
  clear CS b3 HG2 u0 u1 u2 u3
  obtain ⟨u0, u1, u2, u3, _⟩ := cell4n HG3.out.2.1
  have CS := nserial_any m' k' e' t' x' n' c' T' w3 (HH'.out.1.below (by rw [HGe.out]; exact HG3.out.2.2)) HH'.out.2.1 HH'.out.2.2
  go_wp2_with fail
  refine CS.mono ?_
  rintro e4 w4 ⟨rfl, b4⟩
  have HG4 : Hid (w4.heap[G]? = some (.cells #[Value.int IntKind.i64 k, Value.bool e, Value.string t, Value.slice x n c] 25 (0, 0)) ∧ w4.heap[G + 1]? = some (.cells #[Value.int IntKind.i64 k', Value.bool e', Value.string t', Value.slice x' n' c'] 25 (0, 0)) ∧ Below G w w4) := ⟨(b4.block _ (heap_lt HG3.out.1)).trans HG3.out.1, (b4.block _ (heap_lt HG3.out.2.1)).trans HG3.out.2.1, HG3.out.2.2.trans (b4.mono (Nat.le_of_lt (heap_lt HG3.out.1)))⟩
  clear CS b4 HG3 u0 u1 u2 u3
  obtain ⟨u0, u1, u2, u3, _⟩ := cell4n HG4.out.1
  have CZ := size_tree m _ T w4 (HH.out.1.below (by rw [HGe.out]; exact HG4.out.2.2)) HH.out.2.1
  obtain ⟨hz1, hz2⟩ := ser_size HH.out.2.1 HH.out.2.2
  have HSER : Hid (∀ (h1 : (serT T).2 = 0) (h2 : (serT T').2 = 0), ((serT T).1 = (serT T').1 ↔ T = T')) := fun h1 h2 => by
    have c1 : (ckT T).2 = 0 := by
      by_cases hc : (ckT T).2 = 0
      · exact hc
      · unfold serT at h1; rw [if_pos hc] at h1; exact h1
    have c2 : (ckT T').2 = 0 := by
      by_cases hc : (ckT T').2 = 0
      · exact hc
      · unfold serT at h2; rw [if_pos hc] at h2; exact h2
    have e1 : serT T = (NB.ba (arcT T), 0) := by unfold serT; rw [if_neg (by omega)]
    have e2 : serT T' = (NB.ba (arcT T'), 0) := by unfold serT; rw [if_neg (by omega)]
    rw [e1, e2]
    refine ⟨fun h => arc_inj HH.out.2.1 HH.out.2.2 c1 HH'.out.2.1 HH'.out.2.2 c2 (NB.ba_inj h), fun h => by rw [h]⟩
  obtain ⟨X, hX⟩ : ∃ X, serT T = X := ⟨_, rfl⟩
  obtain ⟨Y, hY⟩ : ∃ Y, serT T' = Y := ⟨_, rfl⟩
  obtain ⟨Z, hZ⟩ : ∃ Z, szA T = Z := ⟨_, rfl⟩
  rw [hX, hY] at HSER
  rw [hX] at hz1 hz2 ⊢
  rw [hY]
  rw [hZ] at CZ hz1 hz2
  clear hX hY hZ
  obtain ⟨xs, xe⟩ := X
  obtain ⟨ys, ye⟩ := Y
  obtain ⟨zn, ze⟩ := Z
  dsimp only at hz1 hz2 CZ HSER ⊢
  subst hz1 hz2
  go_wp2_with fail
  refine CZ.mono ?_
  rintro e5 w5 ⟨rfl, b5⟩
  have HG5 : Hid (w5.heap[G]? = some (.cells #[Value.int IntKind.i64 k, Value.bool e, Value.string t, Value.slice x n c] 25 (0, 0)) ∧ w5.heap[G + 1]? = some (.cells #[Value.int IntKind.i64 k', Value.bool e', Value.string t', Value.slice x' n' c'] 25 (0, 0)) ∧ Below G w w5) := ⟨(b5.block _ (heap_lt HG4.out.1)).trans HG4.out.1, (b5.block _ (heap_lt HG4.out.2.1)).trans HG4.out.2.1, HG4.out.2.2.trans (b5.mono (Nat.le_of_lt (heap_lt HG4.out.1)))⟩
  clear CZ b5 HG4 u0 u1 u2 u3
  by_cases h1 : xe = 0
  · by_cases h2 : ye = 0
    · subst h1 h2
      have hiff := HSER.out rfl rfl
      obtain ⟨M, hM1, hM2⟩ : ∃ M, At w5 M (.agg #[Value.int IntKind.i64 k, Value.bool e, Value.string t, Value.slice x n c]) T ∧ At w5 M (.agg #[Value.int IntKind.i64 k', Value.bool e', Value.string t', Value.slice x' n' c']) T' :=
        ⟨max m m', (HH.out.1.below (by rw [HGe.out]; exact HG5.out.2.2)).upto (Nat.le_max_left _ _), (HH'.out.1.below (by rw [HGe.out]; exact HG5.out.2.2)).upto (Nat.le_max_right _ _)⟩
      have CE := tequal_any M _ _ T T' w5 hM1 hM2
      obtain ⟨u0, u1, u2, u3, _⟩ := cell4n HG5.out.1
      obtain ⟨v0, v1, v2, v3, _⟩ := cell4n HG5.out.2.1
      have hsl := str_list xs ys
      have HD : Hid (∀ r : Bool, (r = true ↔ T = T') → ((xs.toList == ys.toList) == r) = true) := fun r hr => by
        rw [hsl]
        by_cases hxy : xs = ys
        · have : r = true := hr.2 (hiff.1 hxy)
          rw [this]; simp [hxy]
        · have : r = false := by
            cases r
            · rfl
            · exact absurd (hiff.2 (hr.1 rfl)) hxy
          rw [this]; simp [hxy]
      clear hiff HSER hM1 hM2 hsl
      go_wp2_with fail
      refine CE.mono ?_
      rintro e6 w6 ⟨⟨r, rfl, hr⟩, b6⟩
      have hd : Hid (((xs.toList == ys.toList) == r) = true) := HD.out r hr
      have HB6 : Hid (Below G w w6) := HG5.out.2.2.trans (b6.mono (Nat.le_of_lt (heap_lt HG5.out.1)))
      clear b6 hr CE HD
      go_wp2
      go_ret
      exact ⟨congrArg (fun z => Ending.returned (.bool z)) hd.out, by rw [HGe.out]; exact HB6.out⟩
    · subst h1
      have hb : (ye != 0) = true := by simp [h2]
      go_wp2
      go_ret
      exact ⟨rfl, by rw [HGe.out]; exact HG5.out.2.2⟩
  · have hb : (xe != 0) = true := by simp [h1]
    have hbe : (xe == xe) = true := by simp
    go_wp2
    go_ret
    exact ⟨rfl, by rw [HGe.out]; exact HG5.out.2.2⟩
end Go.Proofs.Ytpbgmknebhnonab
