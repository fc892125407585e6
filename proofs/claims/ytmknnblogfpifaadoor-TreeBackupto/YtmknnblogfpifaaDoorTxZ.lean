/- The laws TreeFirst and TreeBack, walked (own text of the verifier). -/
import Derived.Test.YtmknnblogfpifaaDoorTxG
import Derived.Test.YtmknnblogfpifaaDoorTvL
import Derived.Test.YtmknnblogfpifaaDoorTqR
import Derived.Test.YtmknnblogfpifaaDoorTvD
namespace Go.Proofs.YtmknnblogfpifaaDoor
open Go.RowKit

theorem bAt_find (L : List RW) (s : List OE × Int) (j i : Nat) (h : bAt L s j = some i) : ∃ A r B s', L = A ++ r :: B ∧ runR spN A s = some s' ∧ addR spN r s'.1 s'.2 = none ∧ i = j + A.length := by
  induction L generalizing s j with
  | nil => cases h
  | cons a L ih =>
    rw [bAt] at h
    cases ha : addR spN a s.1 s.2 with
    | none =>
      rw [ha] at h
      cases h
      exact ⟨[], a, L, s, rfl, rfl, ha, rfl⟩
    | some t =>
      rw [ha] at h
      obtain ⟨A, r, B, s', h1, h2, h3, h4⟩ := ih t (j + 1) h
      refine ⟨a :: A, r, B, s', by rw [h1]; rfl, ?_, h3, by rw [h4, List.length_cons]; omega⟩
      rw [runR, ha]
      exact h2
/-- The first row that can't be is the first. -/
theorem bF_cases (L : List RW) (hL : L ≠ []) : bF L = (0, 0) ∨ ∃ i : Nat, i < L.length ∧ bF L = (64, (i : Int)) ∧ bF (L.take (i + 1)) = (64, (i : Int)) ∧ (0 < i → bF (L.take i) = (0, 0)) := by
  unfold bF
  rw [if_neg hL]
  cases h : bAt L ([], 24) 0 with
  | none => exact Or.inl rfl
  | some i =>
    right
    obtain ⟨A, r, B, s', h1, h2, h3, h4⟩ := bAt_find L _ _ _ h
    have h4 : i = A.length := by omega
    have t1 : L.take (i + 1) = A ++ [r] := by
      rw [h1, h4, List.take_append, List.take_of_length_le (by omega), show A.length + 1 - A.length = 1 by omega]
      rfl
    have t2 : L.take i = A := by rw [h1, h4, List.take_left]
    refine ⟨i, by rw [h1, h4, List.length_append, List.length_cons]; omega, rfl, ?_, fun hi => ?_⟩
    · rw [t1, if_neg (by simp)]
      have h9 := bAt_app A r [] ([], 24) s' 0 h2
      rw [h3] at h9
      dsimp only at h9
      rw [h9, h4, Nat.zero_add]
    · rw [t2, if_neg (fun g => by rw [g] at h4; simp at h4; omega), bAt_all A _ _ 0 h2]

theorem take_rows {w : World} {x : Option Addr} {L : List RW} (h : RIs w x L) (n : Nat) (hn : n ≤ L.length) : RIs w x (L.take n) ∧ (L.take n).length = n := ⟨h.take n, by rw [List.length_take]; omega⟩
theorem smR_take {L : List RW} (h : smR L) (n : Nat) : smR (L.take n) := fun r hr => h r (List.mem_of_mem_take hr)

set_option maxHeartbeats 16000000 in
set_option maxRecDepth 20000 in
theorem first_walk (x : Option Addr) (c : Nat) (L : List RW) (w : World) (hX : RIs w x L) (hn : L.length ≤ 1048576) (hsm : smR L) (hc : L.length ≤ c) :
    Calls Tryd.prog 4 #[.slice x L.length c] w fun e w' => e = .returned (.bool true) ∧ Below w.heap.size w w' := by
  have A0 := awake_any w
  have HX : Hid (RIs w x L) := hX
  have HSM : Hid (smR L) := hsm
  clear hX hsm
  go_enter Tryd.func4, Tryd.ntmps4
  go_wp2_with fail
  refine A0.mono ?_
  rintro en w1 ⟨rfl, L1⟩
  clear A0
  have C1 := build_any L x c w1 (HX.out.below L1 (Nat.le_refl _)) hn HSM.out
  go_wp2_with fail
  refine C1.mono ?_
  rintro en w2 ⟨⟨k, e, t, xx, nn, cc, rfl, -⟩, L2⟩
  have B2 : Below w.heap.size w w2 := L1.trans (L2.mono L1.size)
  clear C1 L1 L2
  by_cases hL : L = []
  · have hb : bF L = (50, 0) := by unfold bF; rw [if_pos hL]
    have hl0 : L.length = 0 := by rw [hL]; rfl
    rw [hb, hl0]
    have HBL : Hid (Below w.heap.size w ((w2.alloc (.cells #[.int .i64 k, .bool e, .string t, .slice xx nn cc] 25)).alloc (.cells #[.int .i64 50, .int .i64 0] 34))) := (B2.alloc B2.size _).alloc (by rw [World.size_alloc]; have := B2.size; omega) _
    clear hb hl0 hL
    go_wp2
    try rw [Exit.noGoto_ret]
    go_ret
    exact ⟨rfl, HBL.out⟩
  · have hlp : 0 < L.length := List.length_pos_iff.2 hL
    have hl0 : ((L.length : Int) == 0) = false := by rw [beq_eq_false_iff_ne]; omega
    have hl1 : ¬ (L.length : Int) = 0 := by omega
    rcases bF_cases L hL with hb | ⟨i, hi, hb, hb1, hb2⟩
    · rw [hb]
      have HBL : Hid (Below w.heap.size w ((w2.alloc (.cells #[.int .i64 k, .bool e, .string t, .slice xx nn cc] 25)).alloc (.cells #[.int .i64 0, .int .i64 0] 34))) := (B2.alloc B2.size _).alloc (by rw [World.size_alloc]; have := B2.size; omega) _
      clear hb hL
      go_wp2
      try rw [Exit.noGoto_ret]
      go_ret
      exact ⟨rfl, HBL.out⟩
    · rw [hb]
      have q1 := fun i' => World.cell?_alloc_new (w2.alloc (.cells #[.int .i64 k, .bool e, .string t, .slice xx nn cc] 25)) #[.int .i64 64, .int .i64 (i : Int)] 34 i'
      rw [World.size_alloc] at q1
      have f0 := q1 0
      have f1 := q1 1
      have B3 : Below w.heap.size w ((w2.alloc (.cells #[.int .i64 k, .bool e, .string t, .slice xx nn cc] 25)).alloc (.cells #[.int .i64 64, .int .i64 (i : Int)] 34)) := (B2.alloc B2.size _).alloc (by rw [World.size_alloc]; have := B2.size; omega) _
      have hz : w2.heap.size + 1 < ((w2.alloc (.cells #[.int .i64 k, .bool e, .string t, .slice xx nn cc] 25)).alloc (.cells #[.int .i64 64, .int .i64 (i : Int)] 34)).heap.size := by rw [World.size_alloc, World.size_alloc]; omega
      have HB1 : Hid (bF (L.take (i + 1)) = (64, (i : Int))) := hb1
      have HB2 : Hid (0 < i → bF (L.take i) = (0, 0)) := hb2
      have i0 : ¬ ((i : Int) < 0) := by omega
      have i0' : decide ((i : Int) < 0) = false := decide_eq_false i0
      have i1 : ¬ ((L.length : Int) ≤ (i : Int)) := by omega
      have i1' : decide ((L.length : Int) ≤ (i : Int)) = false := decide_eq_false i1
      have i2 : (i : Int) + 1 ≤ (c : Int) := by omega
      have i3 : i + 1 ≤ c := by omega
      have i4 : (i : Int) ≤ (c : Int) := by omega
      clear hb hb1 hb2 q1 hL
      go_wp2_with fail
      generalize (w2.alloc (.cells #[.int .i64 k, .bool e, .string t, .slice xx nn cc] 25)).alloc (.cells #[.int .i64 64, .int .i64 (i : Int)] 34) = W3 at f0 f1 B3 hz ⊢
      generalize w2.heap.size + 1 = nf at f0 f1 hz ⊢
      obtain ⟨R1, hl1'⟩ := take_rows (HX.out.below B3 (Nat.le_refl _)) (i + 1) (by omega)
      have C2 := build_any (L.take (i + 1)) x c W3 R1 (by omega) (smR_take HSM.out _)
      rw [hl1'] at C2
      refine C2.mono ?_
      rintro en w4 ⟨⟨k2, e2, t2, x2, n2, c2, rfl, -⟩, L4⟩
      rw [HB1.out]
      have g0 := (L4.cell (p := ⟨nf, 0, none⟩) hz).trans f0
      have g1 := (L4.cell (p := ⟨nf, 1, none⟩) hz).trans f1
      have B4 : Below w.heap.size w w4 := B3.trans (L4.mono B3.size)
      have hz4 : nf < w4.heap.size := Nat.lt_of_lt_of_le hz L4.size
      clear C2 L4 R1 f0 f1 hl1' hz B3
      have B5 : Below w.heap.size w ((w4.alloc (.cells #[.int .i64 k2, .bool e2, .string t2, .slice x2 n2 c2] 25)).alloc (.cells #[.int .i64 64, .int .i64 (i : Int)] 34)) := (B4.alloc B4.size _).alloc (by rw [World.size_alloc]; have := B4.size; omega) _
      by_cases hi0 : i = 0
      · have hi1 : ((i : Int) == 0) = true := by rw [hi0]; rfl
        have hi2 : (i : Int) = 0 := by omega
        have HB5 : Hid (Below w.heap.size w ((w4.alloc (.cells #[.int .i64 k2, .bool e2, .string t2, .slice x2 n2 c2] 25)).alloc (.cells #[.int .i64 64, .int .i64 (i : Int)] 34))) := B5
        rw [hi2] at g1 HB5 ⊢
        clear B5
        go_wp2
        try rw [Exit.noGoto_ret]
        go_ret
        exact ⟨rfl, HB5.out⟩
      · have hi1 : ((i : Int) == 0) = false := by rw [beq_eq_false_iff_ne]; omega
        have hi2 : ¬ (i : Int) = 0 := by omega
        have r1 := fun i' => World.cell?_alloc_new (w4.alloc (.cells #[.int .i64 k2, .bool e2, .string t2, .slice x2 n2 c2] 25)) #[.int .i64 64, .int .i64 (i : Int)] 34 i'
        rw [World.size_alloc] at r1
        have y0 := r1 0
        have y1 := r1 1
        have BA : Below w4.heap.size w4 ((w4.alloc (.cells #[.int .i64 k2, .bool e2, .string t2, .slice x2 n2 c2] 25)).alloc (.cells #[.int .i64 64, .int .i64 (i : Int)] 34)) := ((Below.refl _ _).alloc (Nat.le_refl _) _).alloc (by rw [World.size_alloc]; omega) _
        have h0 := (BA.cell (p := ⟨nf, 0, none⟩) hz4).trans g0
        have h1 := (BA.cell (p := ⟨nf, 1, none⟩) hz4).trans g1
        have hz5 : w4.heap.size + 1 < ((w4.alloc (.cells #[.int .i64 k2, .bool e2, .string t2, .slice x2 n2 c2] 25)).alloc (.cells #[.int .i64 64, .int .i64 (i : Int)] 34)).heap.size := by rw [World.size_alloc, World.size_alloc]; omega
        clear r1
        go_wp2_with fail
        generalize (w4.alloc (.cells #[.int .i64 k2, .bool e2, .string t2, .slice x2 n2 c2] 25)).alloc (.cells #[.int .i64 64, .int .i64 (i : Int)] 34) = W5 at y0 y1 B5 BA h0 h1 hz5 ⊢
        have hz6 : nf < W5.heap.size := Nat.lt_of_lt_of_le hz4 BA.size
        have hz7 : nf < w4.heap.size + 1 := by omega
        generalize w4.heap.size + 1 = ng at y0 y1 hz5 hz7 ⊢
        obtain ⟨R1, hl1'⟩ := take_rows (HX.out.below B5 (Nat.le_refl _)) i (by omega)
        have C3 := build_any (L.take i) x c W5 R1 (by omega) (smR_take HSM.out _)
        rw [hl1'] at C3
        refine C3.mono ?_
        rintro en w6 ⟨⟨k3, e3, t3, x3, n3, c3, rfl, -⟩, L6⟩
        rw [HB2.out (by omega)]
        have m0 := (L6.cell (p := ⟨nf, 0, none⟩) hz6).trans h0
        have m1 := (L6.cell (p := ⟨nf, 1, none⟩) hz6).trans h1
        have o0 := (L6.cell (p := ⟨ng, 0, none⟩) hz5).trans y0
        have o1 := (L6.cell (p := ⟨ng, 1, none⟩) hz5).trans y1
        have B6 : Below w.heap.size w w6 := B5.trans (L6.mono B5.size)
        have hz8 : nf < w6.heap.size := Nat.lt_of_lt_of_le hz6 L6.size
        have hz9 : ng < w6.heap.size := Nat.lt_of_lt_of_le hz5 L6.size
        have HB7 : Hid (Below w.heap.size w ((w6.alloc (.cells #[.int .i64 k3, .bool e3, .string t3, .slice x3 n3 c3] 25)).alloc (.cells #[.int .i64 0, .int .i64 0] 34))) := (B6.alloc B6.size _).alloc (by rw [World.size_alloc]; have := B6.size; omega) _
        have zz1 : nf ≠ w6.heap.size := by omega
        have zz2 : ng ≠ w6.heap.size := by omega
        have zz3 : nf ≠ w6.heap.size + 1 := by omega
        have zz4 : ng ≠ w6.heap.size + 1 := by omega
        clear C3 L6 R1 hl1' y0 y1 h0 h1 g0 g1 BA B5 B4
        go_wp2
        go_ret
        exact ⟨rfl, HB7.out⟩

theorem addR_sp {r : RW} {S : List OE} {b : Int} {s' : List OE × Int} (h : addR spN r S b = some s') : ∃ ns, spN r.1 = some ns := by
  unfold addR at h
  cases hsp : spN r.1 with
  | none => rw [hsp] at h; cases h
  | some ns => exact ⟨ns, rfl⟩
theorem runR_sp (L : List RW) (s s' : List OE × Int) (h : runR spN L s = some s') : ∀ r ∈ L, ∃ ns, spN r.1 = some ns := by
  induction L generalizing s with
  | nil => intro r hr; cases hr
  | cons a L ih =>
    rw [runR] at h
    intro r hr
    cases ha : addR spN a s.1 s.2 with
    | none => rw [ha] at h; cases h
    | some t =>
      rw [ha] at h
      rcases List.mem_cons.1 hr with rfl | hr
      · exact addR_sp ha
      · exact ih t h r hr
theorem chk_short (x : ByteArray) (h : chk x = 0) : x.size ≤ 255 := by
  unfold chk at h
  split at h
  · cases h
  · split at h
    · cases h
    · omega
theorem joinB_le (ns : List ByteArray) (h : ∀ s ∈ ns, s.size ≤ 255) : (joinB ns).size ≤ 256 * ns.length := by
  induction ns with
  | nil => exact Nat.zero_le _
  | cons a ns ih =>
    have ha := h a (by simp)
    have hi := ih (fun s hs => h s (by simp [hs]))
    cases ns with
    | nil => show a.size ≤ _; simp; omega
    | cons b r =>
      rw [joinB_cons a (b :: r) (by simp), ByteArray.size_append, ByteArray.size_append]
      have h1 : (ByteArray.mk #[47]).size = 1 := rfl
      rw [h1]
      simp only [List.length_cons] at hi ⊢
      omega
theorem spN_short {p : ByteArray} {ns : List ByteArray} (h : spN p = some ns) : p.size ≤ 1048576 := by
  obtain ⟨h1, h2, h3⟩ := spN_right p ns h
  have := joinB_le ns (fun s hs => chk_short s (h2 s hs))
  rw [h1] at this
  omega
mutual
theorem smT_rows (ns : List ByteArray) : ∀ T : Tr, smT T → ∀ r ∈ rwT ns T, r.2.2.2.size ≤ 1048576
  | .mk k e t nms ks => fun h r hr => by
    rw [smT] at h
    rw [rwT] at hr
    rcases List.mem_cons.1 hr with rfl | hr
    · exact h.1
    · exact smL_rows ns nms ks h.2 r hr
theorem smL_rows (ns : List ByteArray) : ∀ (nms : List ByteArray) (ks : List Tr), smL nms ks → ∀ r ∈ rwL ns nms ks, r.2.2.2.size ≤ 1048576
  | s :: nms, T :: ks => fun h r hr => by
    rw [smL] at h
    rw [rwL] at hr
    rcases List.mem_append.1 hr with hr | hr
    · exact smT_rows (ns ++ [s]) T h.2.1 r hr
    · exact smL_rows ns nms ks h.2.2 r hr
  | [], [] => fun _ r hr => by simp [rwL] at hr
  | [], _ :: _ => fun _ r hr => by simp [rwL] at hr
  | _ :: _, [] => fun _ r hr => by simp [rwL] at hr
end
theorem snoc_le (ns : List ByteArray) (s : ByteArray) : s.size ≤ (joinB (ns ++ [s])).size := by
  by_cases h : ns = []
  · subst h
    exact Nat.le_refl _
  · rw [joinB_snoc ns s h, ByteArray.size_append]
    omega
theorem rwT_head (ns : List ByteArray) (T : Tr) : ∃ k e t R, rwT ns T = (joinB ns, k, e, t) :: R := by
  obtain ⟨k, e, t, nms, ks⟩ := T
  rw [rwT]
  exact ⟨k, e, t, _, rfl⟩
mutual
theorem rows_smT (ns : List ByteArray) : ∀ T : Tr, smR (rwT ns T) → smT T
  | .mk k e t nms ks => fun h => by
    rw [rwT] at h
    rw [smT]
    have h0 := (h (joinB ns, k, e, t) (by simp)).2
    exact ⟨h0, rows_smL ns nms ks (fun r hr => h r (by simp [hr]))⟩
theorem rows_smL (ns : List ByteArray) : ∀ (nms : List ByteArray) (ks : List Tr), smR (rwL ns nms ks) → smL nms ks
  | s :: nms, T :: ks => fun h => by
    rw [rwL] at h
    rw [smL]
    obtain ⟨k, e, t, R, hR⟩ := rwT_head (ns ++ [s]) T
    have h1 := (h (joinB (ns ++ [s]), k, e, t) (by rw [hR]; simp)).1
    have h2 := snoc_le ns s
    have h1 : (joinB (ns ++ [s])).size ≤ 1048576 := h1
    exact ⟨by omega, rows_smT (ns ++ [s]) T (fun r hr => h r (by simp [hr])), rows_smL ns nms ks (fun r hr => h r (by simp [hr]))⟩
  | [], [] => fun _ => by simp [smL]
  | [], _ :: _ => fun _ => by simp [smL]
  | _ :: _, [] => fun _ => by simp [smL]
end
theorem wfL_of (P : Tr → Prop) (hP : ∀ T, P T → wfT T) : ∀ (nms : List ByteArray) (ks : List Tr), nms.length = ks.length → (∀ (j : Nat) (T : Tr), ks[j]? = some T → P T) → wfL nms ks
  | [], [], _, _ => by simp [wfL]
  | s :: nms, T :: ks, hl, h => by
    rw [wfL]
    exact ⟨hP T (h 0 T rfl), wfL_of P hP nms ks (by simpa using hl) (fun j T hj => h (j + 1) T hj)⟩
  | [], _ :: _, hl, _ => by simp at hl
  | _ :: _, [], hl, _ => by simp at hl
theorem At.wf {w : World} : ∀ (m : Nat) (v : Value) (T : Tr), At w m v T → wfT T
  | 0, _, _, h => h.elim
  | m + 1, v, .mk k e t ns ks, h => by
    obtain ⟨x, n, c, _, h1, h2, _, _, h5⟩ := h
    rw [wfT]
    refine wfL_of (fun T => ∃ v, At w m v T) (fun T hT => by obtain ⟨v, hv⟩ := hT; exact At.wf m v T hv) ns ks (by omega) (fun j T hj => ?_)
    have hjn : j < ns.length := by have := (List.getElem?_eq_some_iff.1 hj).1; omega
    rcases h5 with h5 | ⟨g, o, _, _, h6⟩
    · omega
    · obtain ⟨a, b, d, f, p, q, _, _, _, _, _, hA⟩ := h6 j ns[j] T (List.getElem?_eq_getElem hjn) hj
      exact ⟨_, hA⟩
theorem rowsOf {w : World} {B : Nat} {x : Option Addr} {n c : Nat} {L : List RW} (h : Rws 39 w B (.slice x n c) L) : RIs w x L := fun i r hr => by
  obtain ⟨g, cc, hv, h1, h2, c0, c1, c2, c3⟩ := h.at hr
  injection hv with e1 _ _
  subst e1
  exact ⟨g, 0, rfl, h2, by rw [Nat.zero_add]; exact c0, by rw [Nat.zero_add]; exact c1, by rw [Nat.zero_add]; exact c2, by rw [Nat.zero_add]; exact c3⟩

set_option maxHeartbeats 16000000 in
set_option maxRecDepth 20000 in
theorem back_walk (f : Nat) (k : Int) (e : Bool) (t : ByteArray) (z : Option Addr) (n cz : Nat) (T : Tr) (x : Option Addr) (c : Nat) (L : List RW) (w : World) (hA : At w f (.agg #[.int .i64 k, .bool e, .string t, .slice z n cz]) T) (hS : smT T) (hX : RIs w x L) (hn : L.length ≤ 1048576) (hsm : smR L) (_ : L.length ≤ c) :
    Calls Tryd.prog 3 #[.agg #[.int .i64 k, .bool e, .string t, .slice z n cz], .slice x L.length c] w fun en w' => en = .returned (.bool true) ∧ Below w.heap.size w w' := by
  have HA : Hid (At w f (.agg #[.int .i64 k, .bool e, .string t, .slice z n cz]) T) := hA
  have HS : Hid (smT T) := hS
  have HX : Hid (RIs w x L) := hX
  have HSM : Hid (smR L) := hsm
  clear hA hS hX hsm
  go_enter Tryd.func3, Tryd.ntmps3
  go_wp2_with fail
  have B1 : Below w.heap.size w (w.alloc (.cells #[.int .i64 k, .bool e, .string t, .slice z n cz] 25)) := (Below.refl _ _).alloc (Nat.le_refl _) _
  have y0 : (w.alloc (.cells #[.int .i64 k, .bool e, .string t, .slice z n cz] 25)).heap[w.heap.size]? = some (.cells #[.int .i64 k, .bool e, .string t, .slice z n cz] 25 (0, 0)) := Array.getElem?_push_size
  generalize w.alloc (.cells #[.int .i64 k, .bool e, .string t, .slice z n cz] 25) = W1 at B1 y0 ⊢
  have hb1 : w.heap.size < W1.heap.size := (Array.getElem?_eq_some_iff.1 y0).1
  refine (awake_any W1).mono ?_
  rintro en w2 ⟨rfl, L2⟩
  have B2 : Below w.heap.size w w2 := B1.trans (L2.mono B1.size)
  have y2 := (L2.block _ hb1).trans y0
  have hb2 : w.heap.size < w2.heap.size := Nat.lt_of_lt_of_le hb1 L2.size
  have c0 : w2.cell? ⟨w.heap.size, 0, none⟩ = some (.int .i64 k) := by rw [Lib.cell_of_heap y2]; rfl
  have c1 : w2.cell? ⟨w.heap.size, 1, none⟩ = some (.bool e) := by rw [Lib.cell_of_heap y2]; rfl
  have c2 : w2.cell? ⟨w.heap.size, 2, none⟩ = some (.string t) := by rw [Lib.cell_of_heap y2]; rfl
  have c3 : w2.cell? ⟨w.heap.size, 3, none⟩ = some (.slice z n cz) := by rw [Lib.cell_of_heap y2]; rfl
  have C1 := check_tree f _ T w2 (HA.out.below B2) HS.out
  clear L2 B1 y0 hb1 W1
  go_wp2_with fail
  refine C1.mono ?_
  rintro en w3 ⟨rfl, L3⟩
  have B3 : Below w.heap.size w w3 := B2.trans (L3.mono B2.size)
  have y3 := (L3.block _ hb2).trans y2
  have hb3 : w.heap.size < w3.heap.size := Nat.lt_of_lt_of_le hb2 L3.size
  have d0 : w3.cell? ⟨w.heap.size, 0, none⟩ = some (.int .i64 k) := by rw [Lib.cell_of_heap y3]; rfl
  have d1 : w3.cell? ⟨w.heap.size, 1, none⟩ = some (.bool e) := by rw [Lib.cell_of_heap y3]; rfl
  have d2 : w3.cell? ⟨w.heap.size, 2, none⟩ = some (.string t) := by rw [Lib.cell_of_heap y3]; rfl
  have d3 : w3.cell? ⟨w.heap.size, 3, none⟩ = some (.slice z n cz) := by rw [Lib.cell_of_heap y3]; rfl
  have C2 := walk_tree f _ T w3 (HA.out.below B3) HS.out
  clear C1 L3 B2 y2 hb2 c0 c1 c2 c3
  go_wp2_with fail
  refine C2.mono ?_
  rintro en w4 ⟨WK, L4⟩
  have B4 : Below w.heap.size w w4 := B3.trans (L4.mono B3.size)
  have y4 := (L4.block _ hb3).trans y3
  have hb4 : w.heap.size < w4.heap.size := Nat.lt_of_lt_of_le hb3 L4.size
  have e0 : w4.cell? ⟨w.heap.size, 0, none⟩ = some (.int .i64 k) := by rw [Lib.cell_of_heap y4]; rfl
  have e1 : w4.cell? ⟨w.heap.size, 1, none⟩ = some (.bool e) := by rw [Lib.cell_of_heap y4]; rfl
  have e2 : w4.cell? ⟨w.heap.size, 2, none⟩ = some (.string t) := by rw [Lib.cell_of_heap y4]; rfl
  have e3 : w4.cell? ⟨w.heap.size, 3, none⟩ = some (.slice z n cz) := by rw [Lib.cell_of_heap y4]; rfl
  clear C2 B3 y3 hb3 d0 d1 d2 d3
  by_cases hck : (ckT T).2 = 0
  · rw [if_neg (by rw [hck]; decide)] at WK
    obtain ⟨x4, c4, rfl, hRw⟩ := WK
    have hoff : (vT [] 24 T).off = none := by
      cases ho : (vT [] 24 T).off with
      | none => rfl
      | some o =>
        have h1 := vT_code [] 24 T o ho
        unfold ckT at hck
        rw [ho] at hck
        exact absurd hck h1
    have hwf := At.wf f _ T HA.out
    obtain ⟨S', hrun, hclo⟩ : ∃ S', runR spN (rwT [] T) ([], 24) = some (S', (vT [] 24 T).bytes) ∧ ∃ o, clo 1 S' = [o] ∧ o.tr = T := by
      obtain ⟨k', e', t', nms, ks⟩ := T
      obtain ⟨S', h1, h2⟩ := run_root spN spN_ok k' e' t' nms ks (by rw [wfT] at hwf; exact hwf) hoff
      exact ⟨S', h1, _, h2, rfl⟩
    have hGl : (rwT [] T).length ≤ 1048576 := by
      have h1 := rw_le [] 24 T hoff
      have h2 := vT_bd [] 24 T hoff (by decide) (by decide)
      omega
    have hGsm : smR (rwT [] T) := fun r hr => by
      obtain ⟨ns, hns⟩ := runR_sp _ _ _ hrun r hr
      exact ⟨spN_short hns, smT_rows [] T HS.out r hr⟩
    obtain ⟨kh, eh, th, Rh, hhead⟩ := rwT_head [] T
    have hG0 : rwT [] T ≠ [] := by rw [hhead]; simp
    have hbG : bF (rwT [] T) = (0, 0) := by unfold bF; rw [if_neg hG0, bAt_all _ _ _ 0 hrun]
    have hRI := rowsOf hRw
    have hhd : (rwT [] T)[0]? = some (joinB [], kh, eh, th) := by rw [hhead]; rfl
    have C6 := build_any (rwT [] T) x4 c4 w4 hRI hGl hGsm
    have hlG : 0 < (rwT [] T).length := List.length_pos_iff.2 hG0
    have HRUN : Hid (runR spN (rwT [] T) ([], 24) = some (S', (vT [] 24 T).bytes)) := hrun
    have HCLO : Hid (∃ o, clo 1 S' = [o] ∧ o.tr = T) := hclo
    have HWF : Hid (wfT T) := hwf
    have HBG : Hid (bF (rwT [] T) = (0, 0)) := hbG
    have HRI : Hid (RIs w4 x4 (rwT [] T)) := hRI
    have HHD : Hid ((rwT [] T)[0]? = some (joinB [], kh, eh, th)) := hhd
    have HLN : Hid ((rwT [] T).length ≤ 1073741824) := by unfold Hid; omega
    have s2 : (ckT T).2 = 0 := hck
    rw [hck]
    generalize (ckT T).1 = s1 at *
    have h1 : ((0 : Int) != 0) = false := rfl
    clear hck hoff hwf hrun hclo hGsm hhead hG0 hbG hRI hhd hRw s2 L4
    go_wp2_with fail
    refine C6.mono ?_
    rintro en u5 ⟨⟨k5, e5, t5, x5, n5, c5, rfl, HT5⟩, M5⟩
    rw [HBG.out]
    obtain ⟨S5, b5, o5, fp5, hr5, hc5, hk5, he5, ht5, hT5⟩ := HT5 (by rw [HBG.out])
    have hS5 : S5 = S' := by
      rw [HRUN.out] at hr5
      injection hr5 with h
      injection h with h _
      exact h.symm
    have ho5 : o5.tr = T := by
      obtain ⟨o, h1, h2⟩ := HCLO.out
      rw [hS5, h1] at hc5
      injection hc5 with h _
      rw [← h]
      exact h2
    rw [ho5] at hT5
    have DA : Below u5.heap.size u5 ((u5.alloc (.cells #[.int .i64 k5, .bool e5, .string t5, .slice x5 n5 c5] 25)).alloc (.cells #[.int .i64 0, .int .i64 0] 34)) := ((Below.refl _ _).alloc (Nat.le_refl _) _).alloc (by rw [World.size_alloc]; omega) _
    have hT6 : TrV ((u5.alloc (.cells #[.int .i64 k5, .bool e5, .string t5, .slice x5 n5 c5] 25)).alloc (.cells #[.int .i64 0, .int .i64 0] 34)) w4.heap.size T (.slice x5 n5 c5) fp5 := TrV.same _ _ _ hT5 (fun y hy => DA.block y (TrV.lt _ _ _ hT5 y hy).2)
    obtain ⟨f6, hA6⟩ := TrV.at _ _ _ hT6 (lnT_rows [] T HWF.out HLN.out)
    have hA7 : At ((u5.alloc (.cells #[.int .i64 k5, .bool e5, .string t5, .slice x5 n5 c5] 25)).alloc (.cells #[.int .i64 0, .int .i64 0] 34)) f6 (.agg #[.int .i64 k5, .bool e5, .string t5, .slice x5 n5 c5]) T := by
      have h := hA6
      rw [← ho5] at h
      rw [show o5.tr.k = k5 from hk5.symm, show o5.tr.e = e5 from he5.symm, show o5.tr.t = t5 from ht5.symm, ho5] at h
      exact h
    have D5 : Below w.heap.size w u5 := B4.trans (M5.mono B4.size)
    have D6 : Below w.heap.size w ((u5.alloc (.cells #[.int .i64 k5, .bool e5, .string t5, .slice x5 n5 c5] 25)).alloc (.cells #[.int .i64 0, .int .i64 0] 34)) := (D5.alloc D5.size _).alloc (by rw [World.size_alloc]; have := D5.size; omega) _
    have q5 : ((u5.alloc (.cells #[.int .i64 k5, .bool e5, .string t5, .slice x5 n5 c5] 25)).alloc (.cells #[.int .i64 0, .int .i64 0] 34)).heap[u5.heap.size]? = some (.cells #[.int .i64 k5, .bool e5, .string t5, .slice x5 n5 c5] 25 (0, 0)) := (Below.heap_alloc _ _ _ (by rw [World.size_alloc]; omega)).trans Array.getElem?_push_size
    have y6 : ((u5.alloc (.cells #[.int .i64 k5, .bool e5, .string t5, .slice x5 n5 c5] 25)).alloc (.cells #[.int .i64 0, .int .i64 0] 34)).heap[w.heap.size]? = some (.cells #[.int .i64 k, .bool e, .string t, .slice z n cz] 25 (0, 0)) := ((DA.block _ (Nat.lt_of_lt_of_le hb4 M5.size)).trans (M5.block _ hb4)).trans y4
    have q6 : ((u5.alloc (.cells #[.int .i64 k5, .bool e5, .string t5, .slice x5 n5 c5] 25)).alloc (.cells #[.int .i64 0, .int .i64 0] 34)).heap[u5.heap.size + 1]? = some (.cells #[.int .i64 0, .int .i64 0] 34 (0, 0)) := by
      have h : ((u5.alloc (.cells #[.int .i64 k5, .bool e5, .string t5, .slice x5 n5 c5] 25)).alloc (.cells #[.int .i64 0, .int .i64 0] 34)).heap[(u5.alloc (.cells #[.int .i64 k5, .bool e5, .string t5, .slice x5 n5 c5] 25)).heap.size]? = some (.cells #[.int .i64 0, .int .i64 0] 34 (0, 0)) := Array.getElem?_push_size
      rw [World.size_alloc] at h
      exact h
    have EQ := requal_any (max f f6) (.agg #[.int .i64 k5, .bool e5, .string t5, .slice x5 n5 c5]) (.agg #[.int .i64 k, .bool e, .string t, .slice z n cz]) T T _ (hA7.upto (Nat.le_max_right _ _)) ((HA.out.below D6).upto (Nat.le_max_left _ _))
    have RI6 := HRI.out.below (M5.trans (DA.mono M5.size)) (Nat.le_refl _)
    have j0 : ((u5.alloc (.cells #[.int .i64 k5, .bool e5, .string t5, .slice x5 n5 c5] 25)).alloc (.cells #[.int .i64 0, .int .i64 0] 34)).cell? ⟨w.heap.size, 0, none⟩ = some (.int .i64 k) := by rw [Lib.cell_of_heap y6]; rfl
    have j1 : ((u5.alloc (.cells #[.int .i64 k5, .bool e5, .string t5, .slice x5 n5 c5] 25)).alloc (.cells #[.int .i64 0, .int .i64 0] 34)).cell? ⟨w.heap.size, 1, none⟩ = some (.bool e) := by rw [Lib.cell_of_heap y6]; rfl
    have j2 : ((u5.alloc (.cells #[.int .i64 k5, .bool e5, .string t5, .slice x5 n5 c5] 25)).alloc (.cells #[.int .i64 0, .int .i64 0] 34)).cell? ⟨w.heap.size, 2, none⟩ = some (.string t) := by rw [Lib.cell_of_heap y6]; rfl
    have j3 : ((u5.alloc (.cells #[.int .i64 k5, .bool e5, .string t5, .slice x5 n5 c5] 25)).alloc (.cells #[.int .i64 0, .int .i64 0] 34)).cell? ⟨w.heap.size, 3, none⟩ = some (.slice z n cz) := by rw [Lib.cell_of_heap y6]; rfl
    clear C6 HT5 hr5 hc5 hk5 he5 ht5 hT5 hT6 hA6 hA7 hS5 ho5 M5 D5 DA y4 e0 e1 e2 e3 HRI HRUN HCLO HBG HWF HLN
    go_wp2_with fail
    generalize (u5.alloc (.cells #[.int .i64 k5, .bool e5, .string t5, .slice x5 n5 c5] 25)).alloc (.cells #[.int .i64 0, .int .i64 0] 34) = U6 at D6 q5 q6 y6 EQ RI6 j0 j1 j2 j3 ⊢
    refine EQ.mono ?_
    rintro en v4 ⟨⟨r, rfl, hr⟩, M7⟩
    obtain rfl : r = true := by simpa using hr
    have D4 : Below w.heap.size w v4 := D6.trans (M7.mono D6.size)
    obtain ⟨ga, oa, hxa, _, p0, -⟩ := (RI6.below M7 (Nat.le_refl _)) 0 _ HHD.out
    subst hxa
    have p0 : v4.cell? ⟨ga, oa, none⟩ = some (.string ⟨#[]⟩) := p0
    have hlG' : (0 : Int) < ((rwT [] T).length : Int) := by omega
    have hlG2 : (((rwT [] T).length : Int) == 0) = false := by rw [beq_eq_false_iff_ne]; omega
    have hlG3 : ¬ ((rwT [] T).length : Int) = 0 := by omega
    have C3 := build_any L x c v4 (HX.out.below D4 (Nat.le_refl _)) hn HSM.out
    clear EQ hr M7 D6 q5 q6 y6 RI6 HHD j0 j1 j2 j3
    generalize (rwT [] T).length = gl at *
    go_wp2_with fail
    refine C3.mono ?_
    rintro en w5 ⟨⟨k3, e3, t3, x3, n3, c3, rfl, HT⟩, L5⟩
    have B5 : Below w.heap.size w w5 := D4.trans (L5.mono D4.size)
    clear C3
    by_cases hL : L = []
    · have hb : bF L = (50, 0) := by unfold bF; rw [if_pos hL]
      have hl0 : L.length = 0 := by rw [hL]; rfl
      rw [hb, hl0]
      have HBL : Hid (Below w.heap.size w ((w5.alloc (.cells #[.int .i64 k3, .bool e3, .string t3, .slice x3 n3 c3] 25)).alloc (.cells #[.int .i64 50, .int .i64 0] 34))) := (B5.alloc B5.size _).alloc (by rw [World.size_alloc]; have := B5.size; omega) _
      clear hb hl0 hL HT
      go_wp2
      try rw [Exit.noGoto_ret]
      go_ret
      exact ⟨rfl, HBL.out⟩
    · have hlp : 0 < L.length := List.length_pos_iff.2 hL
      have hl0 : ((L.length : Int) == 0) = false := by rw [beq_eq_false_iff_ne]; omega
      have hl1 : ¬ (L.length : Int) = 0 := by omega
      rcases bF_cases L hL with hb | ⟨i, hi, hb, -, -⟩
      · obtain ⟨S, b, o, fp, hrun, hclo, hk3, he3, ht3, hTr⟩ := HT (by rw [hb])
        obtain ⟨o', ho', hrows, hvt, hwf⟩ := built_rows spN_right hL hrun
        have hoo : o' = o := by rw [hclo] at ho'; injection ho' with h _; exact h.symm
        subst hoo
        have hln : (rwT [] o'.tr).length ≤ 1073741824 := by rw [hrows]; omega
        have hck2 : ckT o'.tr = (⟨#[]⟩, 0) := by unfold ckT; rw [hvt]
        have hsm2 : smT o'.tr := rows_smT [] _ (by rw [hrows]; exact HSM.out)
        have BA : Below w5.heap.size w5 ((w5.alloc (.cells #[.int .i64 k3, .bool e3, .string t3, .slice x3 n3 c3] 25)).alloc (.cells #[.int .i64 0, .int .i64 0] 34)) := ((Below.refl _ _).alloc (Nat.le_refl _) _).alloc (by rw [World.size_alloc]; omega) _
        have hTr2 : TrV ((w5.alloc (.cells #[.int .i64 k3, .bool e3, .string t3, .slice x3 n3 c3] 25)).alloc (.cells #[.int .i64 0, .int .i64 0] 34)) v4.heap.size o'.tr (.slice x3 n3 c3) fp := TrV.same _ _ _ hTr (fun y hy => BA.block y (TrV.lt _ _ _ hTr y hy).2)
        obtain ⟨f2, hA2⟩ := TrV.at _ _ _ hTr2 (lnT_rows [] _ hwf hln)
        have hA3 : At ((w5.alloc (.cells #[.int .i64 k3, .bool e3, .string t3, .slice x3 n3 c3] 25)).alloc (.cells #[.int .i64 0, .int .i64 0] 34)) f2 (.agg #[.int .i64 k3, .bool e3, .string t3, .slice x3 n3 c3]) o'.tr := by
          have h := hA2
          rw [show o'.tr.k = k3 from hk3.symm, show o'.tr.e = e3 from he3.symm, show o'.tr.t = t3 from ht3.symm] at h
          exact h
        have B6 : Below w.heap.size w ((w5.alloc (.cells #[.int .i64 k3, .bool e3, .string t3, .slice x3 n3 c3] 25)).alloc (.cells #[.int .i64 0, .int .i64 0] 34)) := (B5.alloc B5.size _).alloc (by rw [World.size_alloc]; have := B5.size; omega) _
        have q0 : ((w5.alloc (.cells #[.int .i64 k3, .bool e3, .string t3, .slice x3 n3 c3] 25)).alloc (.cells #[.int .i64 0, .int .i64 0] 34)).heap[w5.heap.size]? = some (.cells #[.int .i64 k3, .bool e3, .string t3, .slice x3 n3 c3] 25 (0, 0)) := (Below.heap_alloc _ _ _ (by rw [World.size_alloc]; omega)).trans Array.getElem?_push_size
        rw [hb]
        have HROWS : Hid (rwT [] o'.tr = L) := hrows
        have HCK2 : Hid ((ckT o'.tr).2 = 0) := by unfold Hid; rw [hck2]
        have HSM2 : Hid (smT o'.tr) := hsm2
        have HA3 : Hid (At ((w5.alloc (.cells #[.int .i64 k3, .bool e3, .string t3, .slice x3 n3 c3] 25)).alloc (.cells #[.int .i64 0, .int .i64 0] 34)) f2 (.agg #[.int .i64 k3, .bool e3, .string t3, .slice x3 n3 c3]) o'.tr) := hA3
        have HCK1 : Hid ((ckT o'.tr).1 = ⟨#[]⟩) := by unfold Hid; rw [hck2]
        clear hL hb HT hrun hclo hk3 he3 ht3 hTr hTr2 hA2 hA3 ho' hrows hvt hwf hln hck2 hsm2 BA
        go_wp2_with fail
        generalize (w5.alloc (.cells #[.int .i64 k3, .bool e3, .string t3, .slice x3 n3 c3] 25)).alloc (.cells #[.int .i64 0, .int .i64 0] 34) = W6 at HA3 B6 q0 ⊢
        generalize w5.heap.size = nb at q0 ⊢
        have hnb : nb < W6.heap.size := (Array.getElem?_eq_some_iff.1 q0).1
        have C4 := check_tree f2 _ o'.tr W6 HA3.out HSM2.out
        rw [HCK1.out, HCK2.out] at C4
        refine C4.mono ?_
        rintro en w7 ⟨rfl, L7⟩
        have q7 := (L7.block _ hnb).trans q0
        have hnb7 : nb < w7.heap.size := Nat.lt_of_lt_of_le hnb L7.size
        have B7 : Below w.heap.size w w7 := B6.trans (L7.mono B6.size)
        have m0 : w7.cell? ⟨nb, 0, none⟩ = some (.int .i64 k3) := by rw [Lib.cell_of_heap q7]; rfl
        have m1 : w7.cell? ⟨nb, 1, none⟩ = some (.bool e3) := by rw [Lib.cell_of_heap q7]; rfl
        have m2 : w7.cell? ⟨nb, 2, none⟩ = some (.string t3) := by rw [Lib.cell_of_heap q7]; rfl
        have m3 : w7.cell? ⟨nb, 3, none⟩ = some (.slice x3 n3 c3) := by rw [Lib.cell_of_heap q7]; rfl
        have C5 := walk_tree f2 _ o'.tr w7 (HA3.out.below L7) HSM2.out
        clear C4 L7 q0 hnb B6
        go_wp2_with fail
        refine C5.mono ?_
        rintro en w8 ⟨WK8, L8⟩
        rw [if_neg (by rw [HCK2.out]; decide), HROWS.out] at WK8
        obtain ⟨x8, c8, rfl, hR8⟩ := WK8
        have B8 : Below w.heap.size w w8 := B7.trans (L8.mono B7.size)
        have R8 : Hid (RIs w8 x8 L) := rowsOf hR8
        have RX : Hid (RIs w8 x L) := HX.out.below B8 (Nat.le_refl _)
        have HB8 : Hid (Below w.heap.size w w8) := B8
        have hee : (((L.length : Nat) : Int) != ((L.length : Nat) : Int)) = false := by simp
        clear C5 L8 B7 B8 q7 hnb7 m0 m1 m2 m3 hR8 HA3 HSM2 HCK1 HCK2 HROWS
        go_wp2_with fail
        go_loopg [17, 109] L.length (fun gk u17 iv wr => ∃ i : Nat, gk + i = L.length ∧ iv = .int .i64 (i : Int) ∧ Hid (∃ q, wr = w8.drewN q))
        case atStart => exact ⟨0, rfl, rfl, 0, rfl⟩
        case round =>
          obtain ⟨i, hgk, rfl, hq⟩ := hrel
          by_cases hi : i < L.length
          · have hi' : (i : Int) < (L.length : Int) := by omega
            obtain ⟨r, hr⟩ : ∃ r, L[i]? = some r := ⟨_, List.getElem?_eq_getElem hi⟩
            obtain ⟨q, hwr⟩ := hq.out
            obtain ⟨ga, oa, hxa, _, a0, a1, a2, a3⟩ := R8.out i r hr
            obtain ⟨gb, ob, hxb, _, b0, b1, b2, b3⟩ := RX.out i r hr
            subst hxa hxb
            have a0 : wr.cell? ⟨ga, oa + i * 4, none⟩ = some (.string r.1) := by rw [hwr]; exact a0
            have a1 : wr.cell? ⟨ga, oa + i * 4 + 1, none⟩ = some (.int .i64 r.2.1) := by rw [hwr]; exact a1
            have a2 : wr.cell? ⟨ga, oa + i * 4 + 2, none⟩ = some (.bool r.2.2.1) := by rw [hwr]; exact a2
            have a3 : wr.cell? ⟨ga, oa + i * 4 + 3, none⟩ = some (.string r.2.2.2) := by rw [hwr]; exact a3
            have b0 : wr.cell? ⟨gb, ob + i * 4, none⟩ = some (.string r.1) := by rw [hwr]; exact b0
            have b1 : wr.cell? ⟨gb, ob + i * 4 + 1, none⟩ = some (.int .i64 r.2.1) := by rw [hwr]; exact b1
            have b2 : wr.cell? ⟨gb, ob + i * 4 + 2, none⟩ = some (.bool r.2.2.1) := by rw [hwr]; exact b2
            have b3 : wr.cell? ⟨gb, ob + i * 4 + 3, none⟩ = some (.string r.2.2.2) := by rw [hwr]; exact b3
            generalize r.1 = rp at a0 b0
            generalize r.2.1 = rk at a1 b1
            generalize r.2.2.1 = re at a2 b2
            generalize r.2.2.2 = rt at a3 b3
            clear hwr hr
            go_wp2_with fail
            go_quiet (fail)
            generalize hw9 : wr.drewN nq = w9
            have HQ : Hid (∃ q, w9 = w8.drewN q) := by obtain ⟨q, hq⟩ := hq.out; exact ⟨q + nq, by rw [← hw9, hq, World.drewN_drewN]⟩
            clear hw9 hq
            go_wp2
            go_roundg (gk - 1)
            case measure => omega
            case rel => exact ⟨i + 1, by omega, by go_num, HQ⟩
          · have hi' : ¬ (i : Int) < (L.length : Int) := by omega
            obtain ⟨q, rfl⟩ := hq.out
            go_wp2
            go_ret
            exact ⟨rfl, bel_drewN HB8.out q⟩
      · rw [hb]
        have HBL : Hid (Below w.heap.size w ((w5.alloc (.cells #[.int .i64 k3, .bool e3, .string t3, .slice x3 n3 c3] 25)).alloc (.cells #[.int .i64 64, .int .i64 (i : Int)] 34))) := (B5.alloc B5.size _).alloc (by rw [World.size_alloc]; have := B5.size; omega) _
        have i0 : (0 : Int) ≤ (i : Int) := by omega
        have i1 : (i : Int) < (L.length : Int) := by omega
        have i2 : decide ((0 : Int) ≤ (i : Int)) = true := decide_eq_true i0
        have i3 : decide ((i : Int) < (L.length : Int)) = true := decide_eq_true i1
        clear hb hL HT
        go_wp2
        try rw [Exit.noGoto_ret]
        go_ret
        exact ⟨rfl, HBL.out⟩
  · rw [if_pos hck] at WK
    obtain rfl := WK
    have C3 := build_any L x c w4 (HX.out.below B4 (Nat.le_refl _)) hn HSM.out
    generalize (ckT T).1 = s1 at *
    generalize (ckT T).2 = s2 at *
    have h1 : (s2 != s2) = false := by simp
    have h2 : (s2 == 0) = false := by rw [beq_eq_false_iff_ne]; exact hck
    clear L4
    go_wp2_with fail
    refine C3.mono ?_
    rintro en w5 ⟨⟨k3, e3, t3, x3, n3, c3, rfl, HT⟩, L5⟩
    have B5 : Below w.heap.size w w5 := B4.trans (L5.mono B4.size)
    clear C3
    by_cases hL : L = []
    · have hb : bF L = (50, 0) := by unfold bF; rw [if_pos hL]
      have hl0 : L.length = 0 := by rw [hL]; rfl
      rw [hb, hl0]
      have HBL : Hid (Below w.heap.size w ((w5.alloc (.cells #[.int .i64 k3, .bool e3, .string t3, .slice x3 n3 c3] 25)).alloc (.cells #[.int .i64 50, .int .i64 0] 34))) := (B5.alloc B5.size _).alloc (by rw [World.size_alloc]; have := B5.size; omega) _
      clear hb hl0 hL HT
      go_wp2
      try rw [Exit.noGoto_ret]
      go_ret
      exact ⟨rfl, HBL.out⟩
    · have hlp : 0 < L.length := List.length_pos_iff.2 hL
      have hl0 : ((L.length : Int) == 0) = false := by rw [beq_eq_false_iff_ne]; omega
      have hl1 : ¬ (L.length : Int) = 0 := by omega
      rcases bF_cases L hL with hb | ⟨i, hi, hb, -, -⟩
      · obtain ⟨S, b, o, fp, hrun, hclo, hk3, he3, ht3, hTr⟩ := HT (by rw [hb])
        obtain ⟨o', ho', hrows, hvt, hwf⟩ := built_rows spN_right hL hrun
        have hoo : o' = o := by rw [hclo] at ho'; injection ho' with h _; exact h.symm
        subst hoo
        have hln : (rwT [] o'.tr).length ≤ 1073741824 := by rw [hrows]; omega
        have hck2 : ckT o'.tr = (⟨#[]⟩, 0) := by unfold ckT; rw [hvt]
        have hsm2 : smT o'.tr := rows_smT [] _ (by rw [hrows]; exact HSM.out)
        have BA : Below w5.heap.size w5 ((w5.alloc (.cells #[.int .i64 k3, .bool e3, .string t3, .slice x3 n3 c3] 25)).alloc (.cells #[.int .i64 0, .int .i64 0] 34)) := ((Below.refl _ _).alloc (Nat.le_refl _) _).alloc (by rw [World.size_alloc]; omega) _
        have hTr2 : TrV ((w5.alloc (.cells #[.int .i64 k3, .bool e3, .string t3, .slice x3 n3 c3] 25)).alloc (.cells #[.int .i64 0, .int .i64 0] 34)) w4.heap.size o'.tr (.slice x3 n3 c3) fp := TrV.same _ _ _ hTr (fun y hy => BA.block y (TrV.lt _ _ _ hTr y hy).2)
        obtain ⟨f2, hA2⟩ := TrV.at _ _ _ hTr2 (lnT_rows [] _ hwf hln)
        have hA3 : At ((w5.alloc (.cells #[.int .i64 k3, .bool e3, .string t3, .slice x3 n3 c3] 25)).alloc (.cells #[.int .i64 0, .int .i64 0] 34)) f2 (.agg #[.int .i64 k3, .bool e3, .string t3, .slice x3 n3 c3]) o'.tr := by
          have h := hA2
          rw [show o'.tr.k = k3 from hk3.symm, show o'.tr.e = e3 from he3.symm, show o'.tr.t = t3 from ht3.symm] at h
          exact h
        have B6 : Below w.heap.size w ((w5.alloc (.cells #[.int .i64 k3, .bool e3, .string t3, .slice x3 n3 c3] 25)).alloc (.cells #[.int .i64 0, .int .i64 0] 34)) := (B5.alloc B5.size _).alloc (by rw [World.size_alloc]; have := B5.size; omega) _
        have q0 : ((w5.alloc (.cells #[.int .i64 k3, .bool e3, .string t3, .slice x3 n3 c3] 25)).alloc (.cells #[.int .i64 0, .int .i64 0] 34)).heap[w5.heap.size]? = some (.cells #[.int .i64 k3, .bool e3, .string t3, .slice x3 n3 c3] 25 (0, 0)) := (Below.heap_alloc _ _ _ (by rw [World.size_alloc]; omega)).trans Array.getElem?_push_size
        rw [hb]
        have HROWS : Hid (rwT [] o'.tr = L) := hrows
        have HCK2 : Hid ((ckT o'.tr).2 = 0) := by unfold Hid; rw [hck2]
        have HSM2 : Hid (smT o'.tr) := hsm2
        have HA3 : Hid (At ((w5.alloc (.cells #[.int .i64 k3, .bool e3, .string t3, .slice x3 n3 c3] 25)).alloc (.cells #[.int .i64 0, .int .i64 0] 34)) f2 (.agg #[.int .i64 k3, .bool e3, .string t3, .slice x3 n3 c3]) o'.tr) := hA3
        have HCK1 : Hid ((ckT o'.tr).1 = ⟨#[]⟩) := by unfold Hid; rw [hck2]
        clear hL hb HT hrun hclo hk3 he3 ht3 hTr hTr2 hA2 hA3 ho' hrows hvt hwf hln hck2 hsm2 BA
        go_wp2_with fail
        generalize (w5.alloc (.cells #[.int .i64 k3, .bool e3, .string t3, .slice x3 n3 c3] 25)).alloc (.cells #[.int .i64 0, .int .i64 0] 34) = W6 at HA3 B6 q0 ⊢
        generalize w5.heap.size = nb at q0 ⊢
        have hnb : nb < W6.heap.size := (Array.getElem?_eq_some_iff.1 q0).1
        have C4 := check_tree f2 _ o'.tr W6 HA3.out HSM2.out
        rw [HCK1.out, HCK2.out] at C4
        refine C4.mono ?_
        rintro en w7 ⟨rfl, L7⟩
        have q7 := (L7.block _ hnb).trans q0
        have hnb7 : nb < w7.heap.size := Nat.lt_of_lt_of_le hnb L7.size
        have B7 : Below w.heap.size w w7 := B6.trans (L7.mono B6.size)
        have m0 : w7.cell? ⟨nb, 0, none⟩ = some (.int .i64 k3) := by rw [Lib.cell_of_heap q7]; rfl
        have m1 : w7.cell? ⟨nb, 1, none⟩ = some (.bool e3) := by rw [Lib.cell_of_heap q7]; rfl
        have m2 : w7.cell? ⟨nb, 2, none⟩ = some (.string t3) := by rw [Lib.cell_of_heap q7]; rfl
        have m3 : w7.cell? ⟨nb, 3, none⟩ = some (.slice x3 n3 c3) := by rw [Lib.cell_of_heap q7]; rfl
        have C5 := walk_tree f2 _ o'.tr w7 (HA3.out.below L7) HSM2.out
        clear C4 L7 q0 hnb B6
        go_wp2_with fail
        refine C5.mono ?_
        rintro en w8 ⟨WK8, L8⟩
        rw [if_neg (by rw [HCK2.out]; decide), HROWS.out] at WK8
        obtain ⟨x8, c8, rfl, hR8⟩ := WK8
        have B8 : Below w.heap.size w w8 := B7.trans (L8.mono B7.size)
        have R8 : Hid (RIs w8 x8 L) := rowsOf hR8
        have RX : Hid (RIs w8 x L) := HX.out.below B8 (Nat.le_refl _)
        have HB8 : Hid (Below w.heap.size w w8) := B8
        have hee : (((L.length : Nat) : Int) != ((L.length : Nat) : Int)) = false := by simp
        clear C5 L8 B7 B8 q7 hnb7 m0 m1 m2 m3 hR8 HA3 HSM2 HCK1 HCK2 HROWS
        go_wp2_with fail
        go_loopg [17, 109] L.length (fun gk u17 iv wr => ∃ i : Nat, gk + i = L.length ∧ iv = .int .i64 (i : Int) ∧ Hid (∃ q, wr = w8.drewN q))
        case atStart => exact ⟨0, rfl, rfl, 0, rfl⟩
        case round =>
          obtain ⟨i, hgk, rfl, hq⟩ := hrel
          by_cases hi : i < L.length
          · have hi' : (i : Int) < (L.length : Int) := by omega
            obtain ⟨r, hr⟩ : ∃ r, L[i]? = some r := ⟨_, List.getElem?_eq_getElem hi⟩
            obtain ⟨q, hwr⟩ := hq.out
            obtain ⟨ga, oa, hxa, _, a0, a1, a2, a3⟩ := R8.out i r hr
            obtain ⟨gb, ob, hxb, _, b0, b1, b2, b3⟩ := RX.out i r hr
            subst hxa hxb
            have a0 : wr.cell? ⟨ga, oa + i * 4, none⟩ = some (.string r.1) := by rw [hwr]; exact a0
            have a1 : wr.cell? ⟨ga, oa + i * 4 + 1, none⟩ = some (.int .i64 r.2.1) := by rw [hwr]; exact a1
            have a2 : wr.cell? ⟨ga, oa + i * 4 + 2, none⟩ = some (.bool r.2.2.1) := by rw [hwr]; exact a2
            have a3 : wr.cell? ⟨ga, oa + i * 4 + 3, none⟩ = some (.string r.2.2.2) := by rw [hwr]; exact a3
            have b0 : wr.cell? ⟨gb, ob + i * 4, none⟩ = some (.string r.1) := by rw [hwr]; exact b0
            have b1 : wr.cell? ⟨gb, ob + i * 4 + 1, none⟩ = some (.int .i64 r.2.1) := by rw [hwr]; exact b1
            have b2 : wr.cell? ⟨gb, ob + i * 4 + 2, none⟩ = some (.bool r.2.2.1) := by rw [hwr]; exact b2
            have b3 : wr.cell? ⟨gb, ob + i * 4 + 3, none⟩ = some (.string r.2.2.2) := by rw [hwr]; exact b3
            generalize r.1 = rp at a0 b0
            generalize r.2.1 = rk at a1 b1
            generalize r.2.2.1 = re at a2 b2
            generalize r.2.2.2 = rt at a3 b3
            clear hwr hr
            go_wp2_with fail
            go_quiet (fail)
            generalize hw9 : wr.drewN nq = w9
            have HQ : Hid (∃ q, w9 = w8.drewN q) := by obtain ⟨q, hq⟩ := hq.out; exact ⟨q + nq, by rw [← hw9, hq, World.drewN_drewN]⟩
            clear hw9 hq
            go_wp2
            go_roundg (gk - 1)
            case measure => omega
            case rel => exact ⟨i + 1, by omega, by go_num, HQ⟩
          · have hi' : ¬ (i : Int) < (L.length : Int) := by omega
            obtain ⟨q, rfl⟩ := hq.out
            go_wp2
            go_ret
            exact ⟨rfl, bel_drewN HB8.out q⟩
      · rw [hb]
        have HBL : Hid (Below w.heap.size w ((w5.alloc (.cells #[.int .i64 k3, .bool e3, .string t3, .slice x3 n3 c3] 25)).alloc (.cells #[.int .i64 64, .int .i64 (i : Int)] 34))) := (B5.alloc B5.size _).alloc (by rw [World.size_alloc]; have := B5.size; omega) _
        have i0 : (0 : Int) ≤ (i : Int) := by omega
        have i1 : (i : Int) < (L.length : Int) := by omega
        have i2 : decide ((0 : Int) ≤ (i : Int)) = true := decide_eq_true i0
        have i3 : decide ((i : Int) < (L.length : Int)) = true := decide_eq_true i1
        clear hb hL HT
        go_wp2
        try rw [Exit.noGoto_ret]
        go_ret
        exact ⟨rfl, HBL.out⟩

end Go.Proofs.YtmknnblogfpifaaDoor
