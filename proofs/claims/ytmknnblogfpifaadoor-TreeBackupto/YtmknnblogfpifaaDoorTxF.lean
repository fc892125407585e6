/- add, walked; its regions by hand, made by mkadd.py (own text of the verifier). -/
import Derived.Test.YtmknnblogfpifaaDoorTxE
import Derived.Deep.Cut
import Derived.Deep.CutRange
namespace Go.Proofs.YtmknnblogfpifaaDoor
open Go.RowKit

/-- Block n is a node without kids. -/
def BX (n : Nat) (k : Int) (e : Bool) (t : ByteArray) (W : World) : Prop := W.cell? ⟨n, 0, none⟩ = some (.int .i64 k) ∧ W.cell? ⟨n, 1, none⟩ = some (.bool e) ∧ W.cell? ⟨n, 2, none⟩ = some (.string t) ∧ W.cell? ⟨n, 3, none⟩ = some (.slice none 0 0)
theorem BX.same {n : Nat} {k : Int} {e : Bool} {t : ByteArray} {W W' : World} (h : BX n k e t W) (q : W'.heap[n]? = W.heap[n]?) : BX n k e t W' :=
  ⟨(World.cell?_of_block (w := W) (a := ⟨n, 0, none⟩) q).trans h.1, (World.cell?_of_block (w := W) (a := ⟨n, 1, none⟩) q).trans h.2.1, (World.cell?_of_block (w := W) (a := ⟨n, 2, none⟩) q).trans h.2.2.1, (World.cell?_of_block (w := W) (a := ⟨n, 3, none⟩) q).trans h.2.2.2⟩
theorem BX.lt {n : Nat} {k : Int} {e : Bool} {t : ByteArray} {W : World} (h : BX n k e t W) : n < W.heap.size := World.block_lt_of_cell? _ _ h.1
theorem BX.below {n : Nat} {k : Int} {e : Bool} {t : ByteArray} {W W' : World} (h : BX n k e t W) (b : Below W.heap.size W W') : BX n k e t W' := h.same (b.block n h.lt)
theorem BX.far {n g i : Nat} {k : Int} {e : Bool} {t : ByteArray} {W : World} {x : Value} (h : BX n k e t W) (hn : n ≠ g) : BX n k e t (W.setCell ⟨g, i, none⟩ x) := h.same (Below.heap_setCell _ _ _ n hn)
/-- Block n is an entry whose node has no kids. -/
def EX (n : Nat) (s : ByteArray) (k : Int) (e : Bool) (t : ByteArray) (W : World) : Prop := W.cell? ⟨n, 0, none⟩ = some (.string s) ∧ W.cell? ⟨n, 1, none⟩ = some (.int .i64 k) ∧ W.cell? ⟨n, 2, none⟩ = some (.bool e) ∧ W.cell? ⟨n, 3, none⟩ = some (.string t) ∧ W.cell? ⟨n, 4, none⟩ = some (.slice none 0 0)
theorem EX.same {n : Nat} {s : ByteArray} {k : Int} {e : Bool} {t : ByteArray} {W W' : World} (h : EX n s k e t W) (q : W'.heap[n]? = W.heap[n]?) : EX n s k e t W' :=
  ⟨(World.cell?_of_block (w := W) (a := ⟨n, 0, none⟩) q).trans h.1, (World.cell?_of_block (w := W) (a := ⟨n, 1, none⟩) q).trans h.2.1, (World.cell?_of_block (w := W) (a := ⟨n, 2, none⟩) q).trans h.2.2.1, (World.cell?_of_block (w := W) (a := ⟨n, 3, none⟩) q).trans h.2.2.2.1, (World.cell?_of_block (w := W) (a := ⟨n, 4, none⟩) q).trans h.2.2.2.2⟩
theorem EX.lt {n : Nat} {s : ByteArray} {k : Int} {e : Bool} {t : ByteArray} {W : World} (h : EX n s k e t W) : n < W.heap.size := World.block_lt_of_cell? _ _ h.1
theorem EX.below {n : Nat} {s : ByteArray} {k : Int} {e : Bool} {t : ByteArray} {W W' : World} (h : EX n s k e t W) (b : Below W.heap.size W W') : EX n s k e t W' := h.same (b.block n h.lt)
theorem EX.far {n g i : Nat} {s : ByteArray} {k : Int} {e : Bool} {t : ByteArray} {W : World} {x : Value} (h : EX n s k e t W) (hn : n ≠ g) : EX n s k e t (W.setCell ⟨g, i, none⟩ x) := h.same (Below.heap_setCell _ _ _ n hn)
theorem Ff.of_below {g : Nat} {fp : List Nat} {a c : World} (k : Below a.heap.size a c) : Ff g fp a c := (Ff.refl g fp a).below k
theorem nb_bd (k : Int) (e : Bool) (t : ByteArray) : 0 ≤ nbP k e t ∧ nbP k e t ≤ 2199023255552 := by
  have := fr_bd t.size
  unfold nbP
  repeat' split
  all_goals omega
theorem eb_bd (s : ByteArray) : 0 ≤ ebP s ∧ ebP s ≤ 2199023255552 := by
  have := fr_bd s.size
  unfold ebP
  omega

theorem Ff.new {g : Nat} {fp : List Nat} {a b : World} (h : Ff g fp a b) {x i : Nat} {u : Value} (hx : a.heap.size ≤ x) : Ff g fp a (b.setCell ⟨x, i, none⟩ u) :=
  ⟨h.os, h.tape, h.output, by rw [World.size_setCell]; exact h.size, fun y hy h1 h2 => (Below.heap_setCell _ _ _ y (by show y ≠ x; omega)).trans (h.keep y hy h1 h2)⟩
theorem Bst.off {w : World} {g B : Nat} {S : List OE} {b : Int} {v : Value} {fp : List Nat} (h : Bst w g B S b v fp) {x i : Nat} {u : Value} (h1 : g ≠ x) (h2 : x ∉ fp) : Bst (w.setCell ⟨x, i, none⟩ u) g B S b v fp :=
  ⟨(Below.heap_setCell _ _ _ g h1).trans h.hg, h.op.same (fun y hy => Below.heap_setCell _ _ _ y (fun e => h2 (by have e : y = x := e; rw [← e]; exact hy))), h.lt, by rw [World.size_setCell]; exact h.hB⟩
theorem addR_no {p t : ByteArray} {k : Int} {e : Bool} {S : List OE} {b : Int} {ns : List ByteArray} (hsp : spN p = some ns) (hC : cfP k e t 0 = 0) (hS : S ≠ []) (h : opB S ns = false) : addR spN (p, k, e, t) S b = none := by
  unfold addR
  dsimp only
  rw [hsp]
  dsimp only
  rw [if_neg (by rw [hC]; decide)]
  unfold opB at h
  cases S with
  | nil => exact absurd rfl hS
  | cons o S =>
    cases hl : ns.getLast? with
    | none => rfl
    | some s =>
      rw [hl] at h
      dsimp only at h ⊢
      by_cases h1 : (o :: S).length < ns.length
      · rw [if_pos h1]
      · rw [if_neg h1] at h ⊢
        by_cases h2 : (way (o :: S)).take (ns.length - 1) ≠ ns.dropLast
        · rw [if_pos h2]
        · rw [if_neg h2] at h ⊢
          cases hc : clo ns.length (o :: S) with
          | nil => rfl
          | cons h' R =>
            rw [hc] at h
            dsimp only at h ⊢
            by_cases h3 : h'.k = 3
            · rw [decide_eq_true h3, Bool.true_and] at h
              have h4 : late h'.nms s = true := by simpa using h
              rw [if_neg (fun g => g h3), if_pos h4]
            · rw [if_pos h3]
theorem addR_yes {p t : ByteArray} {k : Int} {e : Bool} {S : List OE} {b : Int} {ns : List ByteArray} (hsp : spN p = some ns) (hC : cfP k e t 0 = 0) (hS : S ≠ []) (h : opB S ns = true) : ns ≠ [] ∧ clo ns.length S ≠ [] ∧ addR spN (p, k, e, t) S b = if b + nbP k e t + ebP (nth ns (ns.length - 1)) ≤ 1048576 then some (⟨nth ns (ns.length - 1), k, e, t, [], []⟩ :: clo ns.length S, b + nbP k e t + ebP (nth ns (ns.length - 1))) else none := by
  have hn : ns ≠ [] := fun g => by rw [g] at h; cases h
  have hl := last_get ns hn
  unfold opB at h
  rw [hl] at h
  dsimp only at h
  unfold addR
  dsimp only
  rw [hsp]
  dsimp only
  rw [if_neg (by rw [hC]; decide), hl]
  cases S with
  | nil => exact absurd rfl hS
  | cons o S =>
    dsimp only
    by_cases h1 : (o :: S).length < ns.length
    · rw [if_pos h1] at h; cases h
    · rw [if_neg h1] at h ⊢
      by_cases h2 : (way (o :: S)).take (ns.length - 1) ≠ ns.dropLast
      · rw [if_pos h2] at h; cases h
      · rw [if_neg h2] at h ⊢
        cases hc : clo ns.length (o :: S) with
        | nil => rw [hc] at h; cases h
        | cons h' R =>
          rw [hc] at h
          dsimp only at h ⊢
          rw [Bool.and_eq_true, decide_eq_true_eq] at h
          rw [if_neg (fun g => g h.1), if_neg (by simpa using h.2)]
          exact ⟨hn, by simp, rfl⟩
theorem pcs_mem (p : ByteArray) (r f : Nat) : ∀ x ∈ pcs p r f, x.size ≤ p.size := by
  induction r generalizing f with
  | zero =>
    intro x hx
    unfold pcs at hx
    simp at hx
    rw [hx, ByteArray.size_extract]
    omega
  | succ r ih =>
    intro x hx
    unfold pcs at hx
    split at hx
    · simp at hx
      rw [hx, ByteArray.size_extract]
      omega
    · rcases List.mem_cons.1 hx with rfl | h
      · rw [ByteArray.size_extract]; omega
      · exact ih _ x h
theorem pathN_mem (p : ByteArray) : ∀ x ∈ pathN p, x.size ≤ p.size := by
  unfold pathN
  repeat' split
  all_goals first | exact pcs_mem p 31 0 | (intro x hx; cases hx)
theorem EX.name {n : Nat} {s0 s : ByteArray} {k : Int} {e : Bool} {t : ByteArray} {W : World} (h : EX n s0 k e t W) : EX n s k e t (W.setCell ⟨n, 0, none⟩ (.string s)) :=
  ⟨World.cell?_setCell_same _ _ _ h.1, (World.cell?_setCell_other _ _ _ _ (by simp)).trans h.2.1, (World.cell?_setCell_other _ _ _ _ (by simp)).trans h.2.2.1, (World.cell?_setCell_other _ _ _ _ (by simp)).trans h.2.2.2.1, (World.cell?_setCell_other _ _ _ _ (by simp)).trans h.2.2.2.2⟩
theorem pathN_len (p : ByteArray) : (pathN p).length ≤ 32 := by
  unfold pathN
  repeat' split
  all_goals first | exact pcs_len p 31 0 | simp

set_option maxHeartbeats 32000000 in
set_option maxRecDepth 20000 in
theorem add_any (g B : Nat) (S : List OE) (b : Int) (v : Value) (fp : List Nat) (p t : ByteArray) (k : Int) (e : Bool) (w : World) (H : Bst w g B S b v fp) (hl : lenS S) (hr : (rowsS S).length ≤ 1073741824) (hSl : S.length ≤ 1073741823) (hb0 : 0 ≤ b) (hb1 : b ≤ 1048576) (hp : p.size ≤ 1048576) (ht : t.size ≤ 1048576) :
    Calls Tryd.prog 25 #[.pointer (some ⟨g, 0, none⟩), .agg #[.string p, .int .i64 k, .bool e, .string t]] w fun en w' => AddP (p, k, e, t) S b g B fp w en w' ∧ Ff g fp w w' := by
  have HB : Hid (Bst w g B S b v fp) := H
  have HL : Hid (lenS S) := hl
  have HR : Hid ((rowsS S).length ≤ 1073741824) := hr
  obtain ⟨xo, co, rfl⟩ := H.op.shape
  have hgw : g < w.heap.size := Nat.lt_of_lt_of_le H.lt H.hB
  have CS := fun W => split_full p W (by omega)
  have CF := fun W => checkFields_any k e t none 0 0 W
  have CN := fun W => nodeBytes_any k e t none 0 0 W (by omega)
  unfold ndV at CF CN
  have hnb := nb_bd k e t
  have HA : Hid (AddP (p, k, e, t) S b g B fp w = AddP (p, k, e, t) S b g B fp w) := rfl
  clear H hl hr
  go_enter Tryd.func25, Tryd.ntmps25
  go_wp2_with fail
  have B1 : Below w.heap.size w ((w.alloc (.cells #[.string p, .int .i64 k, .bool e, .string t] 39)).alloc (.cells #[.int .i64 k, .bool e, .string t, .slice none 0 0] 25)) := ((Below.refl _ _).alloc (Nat.le_refl _) _).alloc (by rw [World.size_alloc]; omega) _
  have X1 : BX (w.heap.size + 1) k e t ((w.alloc (.cells #[.string p, .int .i64 k, .bool e, .string t] 39)).alloc (.cells #[.int .i64 k, .bool e, .string t, .slice none 0 0] 25)) := by
    have q := fun i => World.cell?_alloc_new (w.alloc (.cells #[.string p, .int .i64 k, .bool e, .string t] 39)) #[.int .i64 k, .bool e, .string t, .slice none 0 0] 25 i
    rw [World.size_alloc] at q
    exact ⟨q 0, q 1, q 2, q 3⟩
  have HG1 : Hid (w.heap.size < w.heap.size + 1) := by unfold Hid; omega
  have hgnb : w.heap.size + 1 ≠ g := by omega
  have hnbw : w.heap.size ≤ w.heap.size + 1 := by omega
  generalize (w.alloc (.cells #[.string p, .int .i64 k, .bool e, .string t] 39)).alloc (.cells #[.int .i64 k, .bool e, .string t, .slice none 0 0] 25) = W1 at B1 X1 ⊢
  generalize w.heap.size + 1 = nb at X1 hgnb hnbw ⊢
  clear HG1
  refine (CS W1).mono ?_
  rintro en w2 ⟨vn, rfl, SN, L2⟩
  have X2 := X1.below L2
  have B2 : Below w.heap.size w w2 := B1.trans (L2.mono B1.size)
  obtain ⟨xn, cn, rfl⟩ : ∃ xn cn, vn = .slice xn (pathN p).length cn := by
    rcases SN with ⟨h1, h2⟩ | ⟨g0, c0, h1, h2, _⟩
    · exact ⟨none, 0, by rw [h1, h2]; rfl⟩
    · exact ⟨_, c0, h1⟩
  have hfpw := HB.out.op.lt
  have HNAM : Hid (Nam w2 g fp xn (pathN p) ∧ (pathN p).length ≤ cn) := by
    rcases SN with ⟨h1, h2⟩ | ⟨g0, c0, h1, h2, ⟨h3, h4⟩, h5⟩
    · injection h1 with e1 e2 e3
      refine ⟨⟨fun i hi => ?_, fun a ha => ?_⟩, by omega⟩
      · rw [h2] at hi; simp at hi
      · rw [e1] at ha; cases ha
    · injection h1 with e1 e2 e3
      subst e1 e3
      have hB1 := B1.size
      refine ⟨⟨fun i hi => ⟨_, rfl, by rw [Addr.add_lit, Nat.zero_add]; exact h5.cell i (by omega)⟩, fun a ha => ?_⟩, h2⟩
      cases ha
      refine ⟨h5.lt (by omega), fun h => ?_, fun h => ?_⟩
      · have h : g0 = g := h
        omega
      · have := (hfpw g0 h).2
        omega
  clear CS B1 L2 X1 SN W1
  have B3 : Below w.heap.size w (w2.alloc (.cells #[.int .i64 (pathF p).1, .int .i64 (pathF p).2] 34)) := B2.alloc B2.size _
  have hsp : spN p = if (pathF p).1 = 0 then some (pathN p) else none := rfl
  by_cases hF : (pathF p).1 = 0
  · rw [if_pos hF] at hsp
    by_cases hC : cfP k e t 0 = 0
    · have hCb : (cfP k e t 0 != 0) = false := by rw [hC]; rfl
      have X3 := X2.same (Below.heap_alloc w2 (.cells #[.int .i64 (pathF p).1, .int .i64 (pathF p).2] 34) nb X2.lt)
      have HN3 : Hid (Nam (w2.alloc (.cells #[.int .i64 (pathF p).1, .int .i64 (pathF p).2] 34)) g fp xn (pathN p)) := HNAM.out.1.ff (Ff.of_below (g := g) (fp := fp) ((Below.refl _ w2).alloc (Nat.le_refl _) _)) (fun _ h => Or.inl h)
      have hncn := HNAM.out.2
      have hnl := pathN_len p
      obtain ⟨y0, y1, y2, y3⟩ := X3
      have HSP : Hid (spN p = some (pathN p)) := hsp
      have HC : Hid (cfP k e t 0 = 0) := hC
      rw [hF] at B3 y0 y1 y2 y3 HN3 ⊢
      rw [hC] at CF
      have HMEM : Hid (∀ x ∈ pathN p, x.size ≤ p.size) := pathN_mem p
      generalize hns : pathN p = ns at HN3 hncn hnl HSP HMEM ⊢
      clear hC hCb hsp HNAM X2 B2 hF hns
      go_wp2_with fail
      generalize w2.alloc (.cells #[.int .i64 0, .int .i64 (pathF p).2] 34) = W1 at B3 y0 y1 y2 y3 HN3 ⊢
      refine (CF W1).mono ?_
      rintro en W2 ⟨rfl, L4⟩
      have N0 : BX nb k e t W2.drew := BX.below ⟨y0, y1, y2, y3⟩ L4.drew
      have B4 : Below w.heap.size w W2 := B3.trans (L4.mono B3.size)
      have HB5 : Hid (Bst W2.drew g B S b (.slice xo S.length co) fp) := (HB.out.below B4).same (fun _ _ => rfl) (Nat.le_refl _)
      have HF5 : Hid (Ff g fp w W2.drew) := Ff.of_below B4.drew
      have HN5 : Hid (Nam W2.drew g fp xn ns) := HN3.out.ff (Ff.of_below (g := g) (fp := fp) L4.drew) (fun _ h => Or.inl h)
      have hg1 : W2.drew.cell? ⟨g, 1, none⟩ = some (.int .i64 b) := by rw [Lib.cell_of_heap HB5.out.hg]; rfl
      have LB5 : w.heap.size ≤ W2.drew.heap.size := B4.size
      generalize hNB : nbP k e t = NB at CN hnb
      have HNB : Hid (nbP k e t = NB) := hNB
      obtain ⟨hnb0, hnb1⟩ := hnb
      have hwr : IntKind.i64.wrap (b + NB) = b + NB := by rw [IntKind.wrap_i64]; omega
      clear CF L4 B3 y0 y1 y2 y3 HN3 B4 hNB HB
      go_upto_region 5 with fail
      go_cut [] from 30 to 38 (fun wx => Bst wx g B S (b + NB) (.slice xo S.length co) fp ∧ Ff g fp w wx ∧ BX nb k e t wx ∧ Nam wx g fp xn ns ∧ w.heap.size ≤ wx.heap.size)
      case first =>
        refine wp_region_held_drew (S := BX nb k e t) (by kernel_rfl) N0 (fun _ => ?_)
        generalize W2.drew = W1 at N0 HB5 HF5 HN5 hg1 LB5 ⊢
        refine wpAnyH_take (i := 0) (oi := { dst := some 30, op := Op.move (Operand.tmp 0), type := 85, pos := "build.go:36", after := #[], guard := none }) (v := .pointer (some ⟨g, 0, none⟩)) rfl (by kernel_rfl) (by kernel_rfl) (by kernel_rfl) (fun _ _ _ h => h) (Or.inl ⟨by rfl, by intro w _; go_simp⟩) N0 ?_
        try simp only [Act.put, List.setIfInBounds_toArray, List.set_cons_zero, List.set_cons_succ]
        refine wpAnyH_take (i := 1) (oi := { dst := some 31, op := Op.nilCheck (Operand.tmp 30), type := 0, pos := "build.go:36", after := #[{ on := 0, ground := Ground.data }], guard := none }) (v := .pointer (some ⟨g, 0, none⟩)) rfl (by kernel_rfl) (by kernel_rfl) (by kernel_rfl) (fun _ _ _ h => h) (Or.inl ⟨by rfl, by intro w _; go_simp⟩) N0 ?_
        try simp only [Act.put, List.setIfInBounds_toArray, List.set_cons_zero, List.set_cons_succ]
        refine wpAnyH_take (i := 2) (oi := { dst := some 32, op := Op.fieldAddr 65 (Operand.tmp 31) 1, type := 0, pos := "build.go:36", after := #[{ on := 1, ground := Ground.data }], guard := none }) (v := .pointer (some ⟨g, 1, none⟩)) rfl (by kernel_rfl) (by kernel_rfl) (by kernel_rfl) (fun _ _ _ h => h) (Or.inl ⟨by rfl, by intro w _; go_simp⟩) N0 ?_
        try simp only [Act.put, List.setIfInBounds_toArray, List.set_cons_zero, List.set_cons_succ]
        refine wpAnyH_take (i := 4) (oi := { dst := some 34, op := Op.load 25 (Operand.tmp 5), type := 25, pos := "build.go:36", after := #[], guard := none }) (v := .agg #[.int .i64 k, .bool e, .string t, .slice none 0 0]) rfl (by kernel_rfl) (by kernel_rfl) (by kernel_rfl) (fun _ _ _ h => h) (Or.inl ⟨by rfl, by rintro w ⟨s0, s1, s2, s3⟩; go_simp⟩) N0 ?_
        try simp only [Act.put, List.setIfInBounds_toArray, List.set_cons_zero, List.set_cons_succ]
        refine wpAnyH_ready (rs := [3, 5]) (by kernel_rfl) (by decide) (AllReadyH.cons rfl (fun K1 hK1 => ?_) (AllReadyH.cons rfl (fun K1 hK1 => ?_) AllReadyH.nil))
        · skip
          rw [if_pos (by rfl)]
          go_simp
          refine hK1.out _ _ N0 (fun _ => ?_)
          clear hK1 K1
          try simp only [Act.put, List.setIfInBounds_toArray, List.set_cons_zero, List.set_cons_succ]
          refine wpAnyH_ready (rs := [5]) (by kernel_rfl) (by decide) (AllReadyH.cons rfl (fun K1 hK1 => ?_) AllReadyH.nil)
          rw [if_pos (by rfl)]
          go_simp
          refine (CN W1).mono ?_
          rintro en5 w5 ⟨rfl, L5⟩
          have N5 := N0.below L5
          have HB6 := HB5.out.below L5
          have HF6 := HF5.out.below L5
          have HN6 := HN5.out.ff (Ff.of_below (g := g) (fp := fp) L5) (fun _ h => Or.inl h)
          have hg6 : w5.cell? ⟨g, 1, none⟩ = some (.int .i64 b) := by rw [Lib.cell_of_heap HB6.hg]; rfl
          have fg6 : w5.frozen? ⟨g, 1, none⟩ = false := Lib.frozen_of_heap HB6.hg 1
          have LB6 : w.heap.size ≤ w5.heap.size := Nat.le_trans LB5 L5.size
          go_wp2_with fail
          refine hK1.out _ _ N5 (fun _ => ?_)
          clear hK1 K1
          try simp only [Act.put, List.setIfInBounds_toArray, List.set_cons_zero, List.set_cons_succ]
          refine wpAnyH_take (i := 6) (oi := { dst := some 36, op := Op.binOp BinOp.add 3 (Operand.tmp 33) (Operand.tmp 35) 3, type := 3, pos := "build.go:36", after := #[{ on := 3, ground := Ground.data }, { on := 5, ground := Ground.data }], guard := none }) (v := .int .i64 (b + NB)) rfl (by kernel_rfl) (by kernel_rfl) (by kernel_rfl) (fun _ _ _ h => h) (Or.inl ⟨by rfl, by intro w _; go_simp⟩) N5 ?_
          try simp only [Act.put, List.setIfInBounds_toArray, List.set_cons_zero, List.set_cons_succ]
          refine wpAnyH_take (i := 7) (oi := { dst := some 37, op := Op.nilCheck (Operand.tmp 30), type := 0, pos := "build.go:36", after := #[{ on := 0, ground := Ground.data }, { on := 0, ground := Ground.phase }, { on := 1, ground := Ground.phase }, { on := 2, ground := Ground.phase }, { on := 3, ground := Ground.phase }, { on := 4, ground := Ground.phase }, { on := 5, ground := Ground.phase }, { on := 6, ground := Ground.phase }], guard := none }) (v := .pointer (some ⟨g, 0, none⟩)) rfl (by kernel_rfl) (by kernel_rfl) (by kernel_rfl) (fun _ _ _ h => h) (Or.inl ⟨by rfl, by intro w _; go_simp⟩) N5 ?_
          try simp only [Act.put, List.setIfInBounds_toArray, List.set_cons_zero, List.set_cons_succ]
          refine wpAnyH_take (i := 8) (oi := { dst := some 38, op := Op.fieldAddr 65 (Operand.tmp 37) 1, type := 0, pos := "build.go:36", after := #[{ on := 7, ground := Ground.data }, { on := 0, ground := Ground.phase }, { on := 1, ground := Ground.phase }, { on := 2, ground := Ground.phase }, { on := 3, ground := Ground.phase }, { on := 4, ground := Ground.phase }, { on := 5, ground := Ground.phase }, { on := 6, ground := Ground.phase }], guard := none }) (v := .pointer (some ⟨g, 1, none⟩)) rfl (by kernel_rfl) (by kernel_rfl) (by kernel_rfl) (fun _ _ _ h => h) (Or.inl ⟨by rfl, by intro w _; go_simp⟩) N5 ?_
          try simp only [Act.put, List.setIfInBounds_toArray, List.set_cons_zero, List.set_cons_succ]
          refine wpAnyH_ready (rs := [9]) (by kernel_rfl) (by decide) (AllReadyH.cons rfl (fun K1 hK1 => ?_) AllReadyH.nil)
          have N6 := N5.far (g := g) (i := 1) (x := .int .i64 (b + NB)) hgnb
          rw [if_pos (by rfl)]
          go_simp
          refine hK1.out _ _ N6 (fun _ => ?_)
          clear hK1 K1
          refine wpAnyH_done (by kernel_rfl) ?_ _
          (try go_wp2_with fail)
          go_meet
          obtain ⟨Y1, Y2⟩ := HB6.bytes (b + NB)
          exact ⟨Y1, HF6.trans Y2 (fun _ h => Or.inl h), N6, HN6.ff Y2 (fun _ h => Or.inl h), by rw [World.size_setCell]; exact LB6⟩
        · skip
          rw [if_pos (by rfl)]
          go_simp
          refine (CN W1).mono ?_
          rintro en5 w5 ⟨rfl, L5⟩
          have N5 := N0.below L5
          have HB6 := HB5.out.below L5
          have HF6 := HF5.out.below L5
          have HN6 := HN5.out.ff (Ff.of_below (g := g) (fp := fp) L5) (fun _ h => Or.inl h)
          have hg6 : w5.cell? ⟨g, 1, none⟩ = some (.int .i64 b) := by rw [Lib.cell_of_heap HB6.hg]; rfl
          have fg6 : w5.frozen? ⟨g, 1, none⟩ = false := Lib.frozen_of_heap HB6.hg 1
          have LB6 : w.heap.size ≤ w5.heap.size := Nat.le_trans LB5 L5.size
          go_wp2_with fail
          refine hK1.out _ _ N5 (fun _ => ?_)
          clear hK1 K1
          try simp only [Act.put, List.setIfInBounds_toArray, List.set_cons_zero, List.set_cons_succ]
          refine wpAnyH_ready (rs := [3]) (by kernel_rfl) (by decide) (AllReadyH.cons rfl (fun K1 hK1 => ?_) AllReadyH.nil)
          rw [if_pos (by rfl)]
          go_simp
          refine hK1.out _ _ N5 (fun _ => ?_)
          clear hK1 K1
          try simp only [Act.put, List.setIfInBounds_toArray, List.set_cons_zero, List.set_cons_succ]
          refine wpAnyH_take (i := 6) (oi := { dst := some 36, op := Op.binOp BinOp.add 3 (Operand.tmp 33) (Operand.tmp 35) 3, type := 3, pos := "build.go:36", after := #[{ on := 3, ground := Ground.data }, { on := 5, ground := Ground.data }], guard := none }) (v := .int .i64 (b + NB)) rfl (by kernel_rfl) (by kernel_rfl) (by kernel_rfl) (fun _ _ _ h => h) (Or.inl ⟨by rfl, by intro w _; go_simp⟩) N5 ?_
          try simp only [Act.put, List.setIfInBounds_toArray, List.set_cons_zero, List.set_cons_succ]
          refine wpAnyH_take (i := 7) (oi := { dst := some 37, op := Op.nilCheck (Operand.tmp 30), type := 0, pos := "build.go:36", after := #[{ on := 0, ground := Ground.data }, { on := 0, ground := Ground.phase }, { on := 1, ground := Ground.phase }, { on := 2, ground := Ground.phase }, { on := 3, ground := Ground.phase }, { on := 4, ground := Ground.phase }, { on := 5, ground := Ground.phase }, { on := 6, ground := Ground.phase }], guard := none }) (v := .pointer (some ⟨g, 0, none⟩)) rfl (by kernel_rfl) (by kernel_rfl) (by kernel_rfl) (fun _ _ _ h => h) (Or.inl ⟨by rfl, by intro w _; go_simp⟩) N5 ?_
          try simp only [Act.put, List.setIfInBounds_toArray, List.set_cons_zero, List.set_cons_succ]
          refine wpAnyH_take (i := 8) (oi := { dst := some 38, op := Op.fieldAddr 65 (Operand.tmp 37) 1, type := 0, pos := "build.go:36", after := #[{ on := 7, ground := Ground.data }, { on := 0, ground := Ground.phase }, { on := 1, ground := Ground.phase }, { on := 2, ground := Ground.phase }, { on := 3, ground := Ground.phase }, { on := 4, ground := Ground.phase }, { on := 5, ground := Ground.phase }, { on := 6, ground := Ground.phase }], guard := none }) (v := .pointer (some ⟨g, 1, none⟩)) rfl (by kernel_rfl) (by kernel_rfl) (by kernel_rfl) (fun _ _ _ h => h) (Or.inl ⟨by rfl, by intro w _; go_simp⟩) N5 ?_
          try simp only [Act.put, List.setIfInBounds_toArray, List.set_cons_zero, List.set_cons_succ]
          refine wpAnyH_ready (rs := [9]) (by kernel_rfl) (by decide) (AllReadyH.cons rfl (fun K1 hK1 => ?_) AllReadyH.nil)
          have N6 := N5.far (g := g) (i := 1) (x := .int .i64 (b + NB)) hgnb
          rw [if_pos (by rfl)]
          go_simp
          refine hK1.out _ _ N6 (fun _ => ?_)
          clear hK1 K1
          refine wpAnyH_done (by kernel_rfl) ?_ _
          (try go_wp2_with fail)
          go_meet
          obtain ⟨Y1, Y2⟩ := HB6.bytes (b + NB)
          exact ⟨Y1, HF6.trans Y2 (fun _ h => Or.inl h), N6, HN6.ff Y2 (fun _ h => Or.inl h), by rw [World.size_setCell]; exact LB6⟩
      case rest =>
        obtain ⟨B6, F6, N6, HN6, LB6⟩ := hcut
        have HB6 : Hid (Bst wc g B S (b + NB) (.slice xo S.length co) fp) := B6
        have HF6 : Hid (Ff g fp w wc) := F6
        have HN7 : Hid (Nam wc g fp xn ns) := HN6
        obtain ⟨y0, y1, y2, y3⟩ := N6
        have a0 : wc.cell? ⟨g, 0, none⟩ = some (.slice xo S.length co) := by rw [Lib.cell_of_heap B6.hg]; rfl
        have hgc : g < wc.heap.size := Nat.lt_of_lt_of_le B6.lt B6.hB
        clear N0 HB5 HF5 HN5 hg1 LB5 B6 F6 HN6 CN
        have hne0 : w.heap.size ≤ wc.heap.size := LB6
        have BE : Below wc.heap.size wc (wc.alloc (.cells #[.string ⟨#[]⟩, .int .i64 k, .bool e, .string t, .slice none 0 0] 54)) := (Below.refl _ _).alloc (Nat.le_refl _) _
        have EX4 : EX wc.heap.size ⟨#[]⟩ k e t (wc.alloc (.cells #[.string ⟨#[]⟩, .int .i64 k, .bool e, .string t, .slice none 0 0] 54)) := by
          have q := fun i => World.cell?_alloc_new wc #[.string ⟨#[]⟩, .int .i64 k, .bool e, .string t, .slice none 0 0] 54 i
          exact ⟨q 0, q 1, q 2, q 3, q 4⟩
        have hneg : wc.heap.size ≠ g := by omega
        have hnef : wc.heap.size ∉ fp := fun h => by have := (HB6.out.op.lt _ h).2; omega
        by_cases hS : S = []
        · have hS0 : (S.length : Int) = 0 := by rw [hS]; rfl
          have hS1 : decide (0 < (S.length : Int)) = false := by rw [hS]; rfl
          have hS2 : ¬ (0 < (S.length : Int)) := by omega
          have hS3 : ¬ (0 < S.length) := by rw [hS]; decide
          by_cases hN0 : ns = []
          · have hN1 : ¬ (0 < (ns.length : Int)) := by rw [hN0]; decide
            have hN3 : ¬ (0 < ns.length) := by rw [hN0]; decide
            have hN2 : decide (0 < (ns.length : Int)) = false := by rw [hN0]; rfl
            have HADD : Hid (b + NB ≤ 1048576 → addR spN (p, k, e, t) S b = some (⟨⟨#[]⟩, k, e, t, [], []⟩ :: S, b + NB)) := fun hM => by
              unfold addR
              dsimp only
              rw [HSP.out, hN0, hS]
              dsimp only
              rw [if_neg (by rw [HC.out]; decide)]
              dsimp only [List.getLast?]
              rw [HNB.out, if_pos hM]
            have HADDN : Hid (¬ b + NB ≤ 1048576 → addR spN (p, k, e, t) S b = none) := fun hM => by
              unfold addR
              dsimp only
              rw [HSP.out, hN0, hS]
              dsimp only
              rw [if_neg (by rw [HC.out]; decide)]
              dsimp only [List.getLast?]
              rw [HNB.out, if_neg hM]
            have hS6l : S.length ≤ 1073741823 := hSl
            clear hS hN0
            go_upto_region 14 with fail
            have HB7 : Hid (Bst (wc.alloc (.cells #[.string ⟨#[]⟩, .int .i64 k, .bool e, .string t, .slice none 0 0] 54)) g B S (b + NB) (.slice xo S.length co) fp) := HB6.out.below BE
            have HF7 : Hid (Ff g fp w (wc.alloc (.cells #[.string ⟨#[]⟩, .int .i64 k, .bool e, .string t, .slice none 0 0] 54))) := HF6.out.below BE
            have hfp6 : ∀ x ∈ fp, x ∈ fp ∨ w.heap.size ≤ x := fun x h => Or.inl h
            generalize wc.alloc (.cells #[.string ⟨#[]⟩, .int .i64 k, .bool e, .string t, .slice none 0 0] 54) = W6 at HB7 HF7 EX4 BE ⊢
            generalize wc.heap.size = ne at EX4 hneg hnef hne0 hgc LB6 BE ⊢
            have EX6 := EX4
            have hnf6 := hnef
            clear BE EX4 HB6 HF6 HN7 y0 y1 y2 y3 a0
            obtain ⟨g2, cap2, w', PS⟩ := Bst.push HB7.out hS6l ⟨#[]⟩ k e t
            have d0x : W6.drew.cell? ⟨g, 0, none⟩ = some (.slice xo S.length co) := by rw [show W6.drew.cell? ⟨g, 0, none⟩ = W6.cell? ⟨g, 0, none⟩ from rfl, Lib.cell_of_heap HB7.out.hg]; rfl
            have hg6 : g < W6.heap.size := Nat.lt_of_lt_of_le HB7.out.lt HB7.out.hB
            have hn6 : ne < W6.heap.size := EX6.lt
            obtain ⟨kne, hne2⟩ := PS.keep ne hn6 hnf6
            have hgg2 := PS.hgg2
            have hgg2' : g2 ≠ g := fun h => hgg2 h.symm
            have hne2' : g2 ≠ ne := fun h => hne2 h.symm
            have N0 : EX ne ⟨#[]⟩ k e t W6.drew := EX6
            have N1 : EX ne ⟨#[]⟩ k e t (W6.drew.alloc (.cells #[.string ⟨#[]⟩, .int .i64 0, .bool false, .string ⟨#[]⟩, .slice none 0 0] 54)) := EX6.same (Below.heap_alloc W6.drew _ ne hn6)
            have N2 : EX ne ⟨#[]⟩ k e t w' := EX6.same kne
            have N3 : EX ne ⟨#[]⟩ k e t (((((w'.setCell ⟨g2, S.length * 5, none⟩ (.string ⟨#[]⟩)).setCell ⟨g2, S.length * 5 + 1, none⟩ (.int .i64 k)).setCell ⟨g2, S.length * 5 + 2, none⟩ (.bool e)).setCell ⟨g2, S.length * 5 + 3, none⟩ (.string t)).setCell ⟨g2, S.length * 5 + 4, none⟩ (.slice none 0 0)) := ((((N2.far hne2).far hne2).far hne2).far hne2).far hne2
            have N4 : EX ne ⟨#[]⟩ k e t ((((((w'.setCell ⟨g2, S.length * 5, none⟩ (.string ⟨#[]⟩)).setCell ⟨g2, S.length * 5 + 1, none⟩ (.int .i64 k)).setCell ⟨g2, S.length * 5 + 2, none⟩ (.bool e)).setCell ⟨g2, S.length * 5 + 3, none⟩ (.string t)).setCell ⟨g2, S.length * 5 + 4, none⟩ (.slice none 0 0)).setCell ⟨g, 0, none⟩ (.slice (some ⟨g2, 0, none⟩) (S.length + 1) cap2)) := N3.far hneg
            have N7 : EX ne ⟨#[]⟩ k e t (w'.setCell ⟨g, 0, none⟩ (.slice (some ⟨g2, 0, none⟩) (S.length + 1) cap2)) := N2.far hneg
            have N8 : EX ne ⟨#[]⟩ k e t ((((((w'.setCell ⟨g, 0, none⟩ (.slice (some ⟨g2, 0, none⟩) (S.length + 1) cap2)).setCell ⟨g2, S.length * 5, none⟩ (.string ⟨#[]⟩)).setCell ⟨g2, S.length * 5 + 1, none⟩ (.int .i64 k)).setCell ⟨g2, S.length * 5 + 2, none⟩ (.bool e)).setCell ⟨g2, S.length * 5 + 3, none⟩ (.string t)).setCell ⟨g2, S.length * 5 + 4, none⟩ (.slice none 0 0)) := ((((N7.far hne2).far hne2).far hne2).far hne2).far hne2
            have d0a : (W6.drew.alloc (.cells #[.string ⟨#[]⟩, .int .i64 0, .bool false, .string ⟨#[]⟩, .slice none 0 0] 54)).cell? ⟨g, 0, none⟩ = some (.slice xo S.length co) := (World.cell?_of_block (w := W6.drew) (a := ⟨g, 0, none⟩) (Below.heap_alloc W6.drew _ g hg6)).trans d0x
            have d0' : w'.cell? ⟨g, 0, none⟩ = some (.slice xo S.length co) := (World.cell?_of_block (w := W6) (a := ⟨g, 0, none⟩) PS.kg).trans d0x
            have df0 : w'.frozen? ⟨g, 0, none⟩ = false := (World.frozen?_of_block (w := W6) (a := ⟨g, 0, none⟩) PS.kg).trans (Lib.frozen_of_heap HB7.out.hg 0)
            have z0 := PS.z0
            have z1 := PS.z1
            have z2 := PS.z2
            have z3 := PS.z3
            have z4 := PS.z4
            have f0 := PS.f (S.length * 5)
            have f1 := PS.f (S.length * 5 + 1)
            have f2 := PS.f (S.length * 5 + 2)
            have f3 := PS.f (S.length * 5 + 3)
            have f4 := PS.f (S.length * 5 + 4)
            have hapD : (Builtin.append_ #[23, 23] 23 #[.slice xo S.length co, .slice (some ⟨W6.drew.heap.size, 0, none⟩) 1 1]).run Tryd.prog (W6.drew.alloc (.cells #[.string ⟨#[]⟩, .int .i64 0, .bool false, .string ⟨#[]⟩, .slice none 0 0] 54)) = .ok (.slice (some ⟨g2, 0, none⟩) (S.length + 1) cap2) w' := PS.hap
            obtain ⟨fpn, O1, O2, O3⟩ := PS.out
            have HO1 : Hid (Bst ((((((w'.setCell ⟨g2, S.length * 5, none⟩ (.string ⟨#[]⟩)).setCell ⟨g2, S.length * 5 + 1, none⟩ (.int .i64 k)).setCell ⟨g2, S.length * 5 + 2, none⟩ (.bool e)).setCell ⟨g2, S.length * 5 + 3, none⟩ (.string t)).setCell ⟨g2, S.length * 5 + 4, none⟩ (.slice none 0 0)).setCell ⟨g, 0, none⟩ (.slice (some ⟨g2, 0, none⟩) (S.length + 1) cap2)) g B (⟨⟨#[]⟩, k, e, t, [], []⟩ :: S) (b + NB) (.slice (some ⟨g2, 0, none⟩) (S.length + 1) cap2) fpn) := O1
            have HO2 : Hid (Ff g fp w ((((((w'.setCell ⟨g2, S.length * 5, none⟩ (.string ⟨#[]⟩)).setCell ⟨g2, S.length * 5 + 1, none⟩ (.int .i64 k)).setCell ⟨g2, S.length * 5 + 2, none⟩ (.bool e)).setCell ⟨g2, S.length * 5 + 3, none⟩ (.string t)).setCell ⟨g2, S.length * 5 + 4, none⟩ (.slice none 0 0)).setCell ⟨g, 0, none⟩ (.slice (some ⟨g2, 0, none⟩) (S.length + 1) cap2))) := HF7.out.trans O2 hfp6
            have HO3 : Hid (∀ x ∈ fpn, x ∈ fp ∨ w.heap.size ≤ x) := fun x hx => by
              rcases O3 x hx with h | h
              · exact hfp6 x h
              · exact Or.inr (Nat.le_trans HF7.out.size h)
            have q1 : (0 : Int) ≤ (S.length : Int) := by omega
            have q2 : (S.length : Int) < (S.length : Int) + 1 := by omega
            have q3 : S.length < S.length + 1 := by omega
            clear O1 O2 O3 PS EX6 kne HB7 HF7
            go_upto_region 14 with fail
            go_cut [] from 71 to 81 (fun wx => wx = (((((w'.setCell ⟨g2, S.length * 5, none⟩ (.string ⟨#[]⟩)).setCell ⟨g2, S.length * 5 + 1, none⟩ (.int .i64 k)).setCell ⟨g2, S.length * 5 + 2, none⟩ (.bool e)).setCell ⟨g2, S.length * 5 + 3, none⟩ (.string t)).setCell ⟨g2, S.length * 5 + 4, none⟩ (.slice none 0 0)).setCell ⟨g, 0, none⟩ (.slice (some ⟨g2, 0, none⟩) (S.length + 1) cap2))
            case first =>
              refine wp_region_held_drew (S := EX ne ⟨#[]⟩ k e t) (by kernel_rfl) N0 (fun _ => ?_)
              generalize W6.drew = W1 at N0 N1 d0x d0a hapD ⊢
              refine wpAnyH_take (i := 0) (oi := { dst := some 71, op := Op.move (Operand.tmp 0), type := 85, pos := "build.go:47", after := #[], guard := none }) (v := .pointer (some ⟨g, 0, none⟩)) rfl (by kernel_rfl) (by kernel_rfl) (by kernel_rfl) (fun _ _ _ h => h) (Or.inl ⟨by rfl, by intro w _; go_simp⟩) N0 ?_
              try simp only [Act.put, List.setIfInBounds_toArray, List.set_cons_zero, List.set_cons_succ]
              refine wpAnyH_take (i := 1) (oi := { dst := some 72, op := Op.nilCheck (Operand.tmp 71), type := 0, pos := "build.go:47", after := #[{ on := 0, ground := Ground.data }], guard := none }) (v := .pointer (some ⟨g, 0, none⟩)) rfl (by kernel_rfl) (by kernel_rfl) (by kernel_rfl) (fun _ _ _ h => h) (Or.inl ⟨by rfl, by intro w _; go_simp⟩) N0 ?_
              try simp only [Act.put, List.setIfInBounds_toArray, List.set_cons_zero, List.set_cons_succ]
              refine wpAnyH_take (i := 2) (oi := { dst := some 73, op := Op.fieldAddr 65 (Operand.tmp 72) 0, type := 0, pos := "build.go:47", after := #[{ on := 1, ground := Ground.data }], guard := none }) (v := .pointer (some ⟨g, 0, none⟩)) rfl (by kernel_rfl) (by kernel_rfl) (by kernel_rfl) (fun _ _ _ h => h) (Or.inl ⟨by rfl, by intro w _; go_simp⟩) N0 ?_
              try simp only [Act.put, List.setIfInBounds_toArray, List.set_cons_zero, List.set_cons_succ]
              refine wpAnyH_take (i := 4) (oi := { dst := some 75, op := Op.load 54 (Operand.tmp 8), type := 54, pos := "build.go:47", after := #[], guard := none }) (v := .agg #[.string ⟨#[]⟩, .int .i64 k, .bool e, .string t, .slice none 0 0]) rfl (by kernel_rfl) (by kernel_rfl) (by kernel_rfl) (fun _ _ _ h => h) (Or.inl ⟨by rfl, by rintro w ⟨s0, s1, s2, s3, s4⟩; go_simp⟩) N0 ?_
              try simp only [Act.put, List.setIfInBounds_toArray, List.set_cons_zero, List.set_cons_succ]
              refine wpAnyH_ready (rs := [3, 6]) (by kernel_rfl) (by decide) (AllReadyH.cons rfl (fun K1 hK1 => ?_) (AllReadyH.cons rfl (fun K1 hK1 => ?_) AllReadyH.nil))
              · skip
                rw [if_pos (by rfl)]
                go_simp
                refine hK1.out _ _ N0 (fun _ => ?_)
                clear hK1 K1
                try simp only [Act.put, List.setIfInBounds_toArray, List.set_cons_zero, List.set_cons_succ]
                refine wpAnyH_take (i := 5) (oi := { dst := some 76, op := Op.call { callee := Callee.builtin Builtin.len, args := #[Operand.tmp 74], argTypes := #[23] }, type := 3, pos := "build.go:47", after := #[{ on := 3, ground := Ground.data }], guard := none }) (v := .int .i64 (S.length : Int)) rfl (by kernel_rfl) (by kernel_rfl) (by kernel_rfl) (fun _ _ _ h => h) (Or.inl ⟨by rfl, by intro w _; go_simp⟩) N0 ?_
                try simp only [Act.put, List.setIfInBounds_toArray, List.set_cons_zero, List.set_cons_succ]
                refine wpAnyH_ready (rs := [6]) (by kernel_rfl) (by decide) (AllReadyH.cons rfl (fun K1 hK1 => ?_) AllReadyH.nil)
                rw [if_pos (by rfl)]
                go_simp
                refine hK1.out _ _ N1 (fun _ => ?_)
                clear hK1 K1
                try simp only [Act.put, List.setIfInBounds_toArray, List.set_cons_zero, List.set_cons_succ]
                refine wpAnyH_ready (rs := [7]) (by kernel_rfl) (by decide) (AllReadyH.cons rfl (fun K1 hK1 => ?_) AllReadyH.nil)
                refine step_app (o := { dst := some 78, op := Op.call { callee := Callee.builtin Builtin.append, args := #[Operand.tmp 74, Operand.tmp 77], argTypes := #[23, 23] }, type := 23, pos := "build.go:47", after := #[{ on := 3, ground := Ground.data }, { on := 6, ground := Ground.data }, { on := 0, ground := Ground.phase }, { on := 1, ground := Ground.phase }, { on := 2, ground := Ground.phase }, { on := 3, ground := Ground.phase }, { on := 4, ground := Ground.phase }, { on := 5, ground := Ground.phase }, { on := 6, ground := Ground.phase }], guard := none }) rfl (.tmp 74) (.tmp 77) 23 rfl (.slice xo S.length co) (.slice (some ⟨W1.heap.size, 0, none⟩) 1 1) rfl rfl (.slice (some ⟨g2, 0, none⟩) (S.length + 1) cap2) w' hapD ?_
                refine hK1.out _ _ N2 (fun _ => ?_)
                clear hK1 K1
                try simp only [Act.put, List.setIfInBounds_toArray, List.set_cons_zero, List.set_cons_succ]
                refine wpAnyH_take (i := 8) (oi := { dst := some 79, op := Op.indexAddr 23 (Operand.tmp 78) (Operand.tmp 76), type := 0, pos := "build.go:47", after := #[{ on := 7, ground := Ground.data }, { on := 5, ground := Ground.data }, { on := 0, ground := Ground.phase }, { on := 1, ground := Ground.phase }, { on := 2, ground := Ground.phase }, { on := 3, ground := Ground.phase }, { on := 4, ground := Ground.phase }, { on := 5, ground := Ground.phase }, { on := 6, ground := Ground.phase }, { on := 7, ground := Ground.phase }, { on := 12, ground := Ground.gcOnly Departure.appendInPlace }], guard := none }) (v := .pointer (some ⟨g2, S.length * 5, none⟩)) rfl (by kernel_rfl) (by kernel_rfl) (by kernel_rfl) (fun _ _ _ h => h) (Or.inl ⟨by rfl, by intro w _; go_simp⟩) N2 ?_
                try simp only [Act.put, List.setIfInBounds_toArray, List.set_cons_zero, List.set_cons_succ]
                refine wpAnyH_take (i := 10) (oi := { dst := some 80, op := Op.nilCheck (Operand.tmp 71), type := 0, pos := "build.go:47", after := #[{ on := 0, ground := Ground.data }, { on := 0, ground := Ground.phase }, { on := 1, ground := Ground.phase }, { on := 2, ground := Ground.phase }, { on := 3, ground := Ground.phase }, { on := 4, ground := Ground.phase }, { on := 5, ground := Ground.phase }, { on := 6, ground := Ground.phase }, { on := 7, ground := Ground.phase }, { on := 8, ground := Ground.textOnly Departure.appendInPlace }, { on := 9, ground := Ground.textOnly Departure.appendInPlace }], guard := none }) (v := .pointer (some ⟨g, 0, none⟩)) rfl (by kernel_rfl) (by kernel_rfl) (by kernel_rfl) (fun _ _ _ h => h) (Or.inl ⟨by rfl, by intro w _; go_simp⟩) N2 ?_
                try simp only [Act.put, List.setIfInBounds_toArray, List.set_cons_zero, List.set_cons_succ]
                refine wpAnyH_take (i := 11) (oi := { dst := some 81, op := Op.fieldAddr 65 (Operand.tmp 80) 0, type := 0, pos := "build.go:47", after := #[{ on := 10, ground := Ground.data }, { on := 0, ground := Ground.phase }, { on := 1, ground := Ground.phase }, { on := 2, ground := Ground.phase }, { on := 3, ground := Ground.phase }, { on := 4, ground := Ground.phase }, { on := 5, ground := Ground.phase }, { on := 6, ground := Ground.phase }, { on := 7, ground := Ground.phase }, { on := 8, ground := Ground.textOnly Departure.appendInPlace }, { on := 9, ground := Ground.textOnly Departure.appendInPlace }], guard := none }) (v := .pointer (some ⟨g, 0, none⟩)) rfl (by kernel_rfl) (by kernel_rfl) (by kernel_rfl) (fun _ _ _ h => h) (Or.inl ⟨by rfl, by intro w _; go_simp⟩) N2 ?_
                try simp only [Act.put, List.setIfInBounds_toArray, List.set_cons_zero, List.set_cons_succ]
                refine wpAnyH_ready (rs := [9, 12]) (by kernel_rfl) (by decide) (AllReadyH.cons rfl (fun K1 hK1 => ?_) (AllReadyH.cons rfl (fun K1 hK1 => ?_) AllReadyH.nil))
                · skip
                  rw [if_pos (by rfl)]
                  go_simp
                  refine hK1.out _ _ N3 (fun _ => ?_)
                  clear hK1 K1
                  refine wpAnyH_ready (rs := [12]) (by kernel_rfl) (by decide) (AllReadyH.cons rfl (fun K1 hK1 => ?_) AllReadyH.nil)
                  rw [if_pos (by rfl)]
                  go_simp
                  refine hK1.out _ _ N4 (fun _ => ?_)
                  clear hK1 K1
                  refine wpAnyH_done (by kernel_rfl) ?_ _
                  (try go_wp2_with fail)
                  go_meet
                  rfl
                · skip
                  rw [if_pos (by rfl)]
                  go_simp
                  refine hK1.out _ _ N7 (fun _ => ?_)
                  clear hK1 K1
                  refine wpAnyH_ready (rs := [9]) (by kernel_rfl) (by decide) (AllReadyH.cons rfl (fun K1 hK1 => ?_) AllReadyH.nil)
                  rw [if_pos (by rfl)]
                  go_simp
                  refine hK1.out _ _ N8 (fun _ => ?_)
                  clear hK1 K1
                  refine wpAnyH_done (by kernel_rfl) ?_ _
                  (try go_wp2_with fail)
                  go_meet
                  exact set5_comm w' g2 (S.length * 5) _ _ _ _ _ ⟨g, 0, none⟩ _ hgg2
              · skip
                rw [if_pos (by rfl)]
                go_simp
                refine hK1.out _ _ N1 (fun _ => ?_)
                clear hK1 K1
                try simp only [Act.put, List.setIfInBounds_toArray, List.set_cons_zero, List.set_cons_succ]
                refine wpAnyH_ready (rs := [3]) (by kernel_rfl) (by decide) (AllReadyH.cons rfl (fun K1 hK1 => ?_) AllReadyH.nil)
                rw [if_pos (by rfl)]
                go_simp
                refine hK1.out _ _ N1 (fun _ => ?_)
                clear hK1 K1
                try simp only [Act.put, List.setIfInBounds_toArray, List.set_cons_zero, List.set_cons_succ]
                refine wpAnyH_take (i := 5) (oi := { dst := some 76, op := Op.call { callee := Callee.builtin Builtin.len, args := #[Operand.tmp 74], argTypes := #[23] }, type := 3, pos := "build.go:47", after := #[{ on := 3, ground := Ground.data }], guard := none }) (v := .int .i64 (S.length : Int)) rfl (by kernel_rfl) (by kernel_rfl) (by kernel_rfl) (fun _ _ _ h => h) (Or.inl ⟨by rfl, by intro w _; go_simp⟩) N1 ?_
                try simp only [Act.put, List.setIfInBounds_toArray, List.set_cons_zero, List.set_cons_succ]
                refine wpAnyH_ready (rs := [7]) (by kernel_rfl) (by decide) (AllReadyH.cons rfl (fun K1 hK1 => ?_) AllReadyH.nil)
                refine step_app (o := { dst := some 78, op := Op.call { callee := Callee.builtin Builtin.append, args := #[Operand.tmp 74, Operand.tmp 77], argTypes := #[23, 23] }, type := 23, pos := "build.go:47", after := #[{ on := 3, ground := Ground.data }, { on := 6, ground := Ground.data }, { on := 0, ground := Ground.phase }, { on := 1, ground := Ground.phase }, { on := 2, ground := Ground.phase }, { on := 3, ground := Ground.phase }, { on := 4, ground := Ground.phase }, { on := 5, ground := Ground.phase }, { on := 6, ground := Ground.phase }], guard := none }) rfl (.tmp 74) (.tmp 77) 23 rfl (.slice xo S.length co) (.slice (some ⟨W1.heap.size, 0, none⟩) 1 1) rfl rfl (.slice (some ⟨g2, 0, none⟩) (S.length + 1) cap2) w' hapD ?_
                refine hK1.out _ _ N2 (fun _ => ?_)
                clear hK1 K1
                try simp only [Act.put, List.setIfInBounds_toArray, List.set_cons_zero, List.set_cons_succ]
                refine wpAnyH_take (i := 8) (oi := { dst := some 79, op := Op.indexAddr 23 (Operand.tmp 78) (Operand.tmp 76), type := 0, pos := "build.go:47", after := #[{ on := 7, ground := Ground.data }, { on := 5, ground := Ground.data }, { on := 0, ground := Ground.phase }, { on := 1, ground := Ground.phase }, { on := 2, ground := Ground.phase }, { on := 3, ground := Ground.phase }, { on := 4, ground := Ground.phase }, { on := 5, ground := Ground.phase }, { on := 6, ground := Ground.phase }, { on := 7, ground := Ground.phase }, { on := 12, ground := Ground.gcOnly Departure.appendInPlace }], guard := none }) (v := .pointer (some ⟨g2, S.length * 5, none⟩)) rfl (by kernel_rfl) (by kernel_rfl) (by kernel_rfl) (fun _ _ _ h => h) (Or.inl ⟨by rfl, by intro w _; go_simp⟩) N2 ?_
                try simp only [Act.put, List.setIfInBounds_toArray, List.set_cons_zero, List.set_cons_succ]
                refine wpAnyH_take (i := 10) (oi := { dst := some 80, op := Op.nilCheck (Operand.tmp 71), type := 0, pos := "build.go:47", after := #[{ on := 0, ground := Ground.data }, { on := 0, ground := Ground.phase }, { on := 1, ground := Ground.phase }, { on := 2, ground := Ground.phase }, { on := 3, ground := Ground.phase }, { on := 4, ground := Ground.phase }, { on := 5, ground := Ground.phase }, { on := 6, ground := Ground.phase }, { on := 7, ground := Ground.phase }, { on := 8, ground := Ground.textOnly Departure.appendInPlace }, { on := 9, ground := Ground.textOnly Departure.appendInPlace }], guard := none }) (v := .pointer (some ⟨g, 0, none⟩)) rfl (by kernel_rfl) (by kernel_rfl) (by kernel_rfl) (fun _ _ _ h => h) (Or.inl ⟨by rfl, by intro w _; go_simp⟩) N2 ?_
                try simp only [Act.put, List.setIfInBounds_toArray, List.set_cons_zero, List.set_cons_succ]
                refine wpAnyH_take (i := 11) (oi := { dst := some 81, op := Op.fieldAddr 65 (Operand.tmp 80) 0, type := 0, pos := "build.go:47", after := #[{ on := 10, ground := Ground.data }, { on := 0, ground := Ground.phase }, { on := 1, ground := Ground.phase }, { on := 2, ground := Ground.phase }, { on := 3, ground := Ground.phase }, { on := 4, ground := Ground.phase }, { on := 5, ground := Ground.phase }, { on := 6, ground := Ground.phase }, { on := 7, ground := Ground.phase }, { on := 8, ground := Ground.textOnly Departure.appendInPlace }, { on := 9, ground := Ground.textOnly Departure.appendInPlace }], guard := none }) (v := .pointer (some ⟨g, 0, none⟩)) rfl (by kernel_rfl) (by kernel_rfl) (by kernel_rfl) (fun _ _ _ h => h) (Or.inl ⟨by rfl, by intro w _; go_simp⟩) N2 ?_
                try simp only [Act.put, List.setIfInBounds_toArray, List.set_cons_zero, List.set_cons_succ]
                refine wpAnyH_ready (rs := [9, 12]) (by kernel_rfl) (by decide) (AllReadyH.cons rfl (fun K1 hK1 => ?_) (AllReadyH.cons rfl (fun K1 hK1 => ?_) AllReadyH.nil))
                · skip
                  rw [if_pos (by rfl)]
                  go_simp
                  refine hK1.out _ _ N3 (fun _ => ?_)
                  clear hK1 K1
                  refine wpAnyH_ready (rs := [12]) (by kernel_rfl) (by decide) (AllReadyH.cons rfl (fun K1 hK1 => ?_) AllReadyH.nil)
                  rw [if_pos (by rfl)]
                  go_simp
                  refine hK1.out _ _ N4 (fun _ => ?_)
                  clear hK1 K1
                  refine wpAnyH_done (by kernel_rfl) ?_ _
                  (try go_wp2_with fail)
                  go_meet
                  rfl
                · skip
                  rw [if_pos (by rfl)]
                  go_simp
                  refine hK1.out _ _ N7 (fun _ => ?_)
                  clear hK1 K1
                  refine wpAnyH_ready (rs := [9]) (by kernel_rfl) (by decide) (AllReadyH.cons rfl (fun K1 hK1 => ?_) AllReadyH.nil)
                  rw [if_pos (by rfl)]
                  go_simp
                  refine hK1.out _ _ N8 (fun _ => ?_)
                  clear hK1 K1
                  refine wpAnyH_done (by kernel_rfl) ?_ _
                  (try go_wp2_with fail)
                  go_meet
                  exact set5_comm w' g2 (S.length * 5) _ _ _ _ _ ⟨g, 0, none⟩ _ hgg2
            case rest =>
              rw [← hcut] at HO1 HO2
              have a9 : wc.cell? ⟨g, 1, none⟩ = some (.int .i64 (b + NB)) := by rw [Lib.cell_of_heap HO1.out.hg]; rfl
              clear hcut N0 N1 N2 N3 N4 N7 N8 d0x d0a d0' df0 z0 z1 z2 z3 z4 f0 f1 f2 f3 f4 hapD
              by_cases hM : b + NB ≤ 1048576
              · have hMb : decide (b + NB ≤ 1048576) = true := decide_eq_true hM
                have HADD2 := HADD.out hM
                go_wp2
                go_ret
                exact ⟨by unfold AddP; rw [HADD2]; exact ⟨rfl, _, fpn, HO1.out, HO3.out⟩, HO2.out⟩
              · have hMb : decide (b + NB ≤ 1048576) = false := decide_eq_false hM
                have HADD2 := HADDN.out (by omega)
                go_wp2
                go_ret
                exact ⟨by unfold AddP; rw [HADD2]; rfl, HO2.out⟩
          · have hN1 : 0 < (ns.length : Int) := by have := List.length_pos_iff.2 hN0; omega
            have hN2 : decide (0 < (ns.length : Int)) = true := decide_eq_true hN1
            have hN3 : 0 < ns.length := List.length_pos_iff.2 hN0
            have HADD : Hid (addR spN (p, k, e, t) S b = none) := by
              unfold Hid addR
              dsimp only
              rw [HSP.out, hS]
              dsimp only
              rw [if_neg (by rw [HC.out]; decide), last_get ns hN0]
            have HFF : Hid (Ff g fp w (wc.alloc (.cells #[.string ⟨#[]⟩, .int .i64 k, .bool e, .string t, .slice none 0 0] 54))) := HF6.out.below BE
            clear hS hN0
            go_wp2
            try rw [Exit.noGoto_ret]
            go_ret
            exact ⟨by unfold AddP; rw [HADD.out]; rfl, HFF.out⟩
        · have hS2 : 0 < (S.length : Int) := by have := List.length_pos_iff.2 hS; omega
          have hS1 : decide (0 < (S.length : Int)) = true := decide_eq_true hS2
          have hS3 : 0 < S.length := List.length_pos_iff.2 hS
          have HS : Hid (S ≠ []) := hS
          have ef4 : (wc.alloc (.cells #[.string ⟨#[]⟩, .int .i64 k, .bool e, .string t, .slice none 0 0] 54)).frozen? ⟨wc.heap.size, 0, none⟩ = false := World.frozen?_alloc_new wc _ _ 0
          have HB7 : Hid (Bst (wc.alloc (.cells #[.string ⟨#[]⟩, .int .i64 k, .bool e, .string t, .slice none 0 0] 54)) g B S (b + NB) (.slice xo S.length co) fp) := HB6.out.below BE
          have HF7 : Hid (Ff g fp w (wc.alloc (.cells #[.string ⟨#[]⟩, .int .i64 k, .bool e, .string t, .slice none 0 0] 54))) := HF6.out.below BE
          have HN8 : Hid (Nam (wc.alloc (.cells #[.string ⟨#[]⟩, .int .i64 k, .bool e, .string t, .slice none 0 0] 54)) g fp xn ns) := HN7.out.ff (Ff.of_below (g := g) (fp := fp) BE) (fun _ h => Or.inl h)
          clear hS
          go_wp2_with fail
          generalize wc.alloc (.cells #[.string ⟨#[]⟩, .int .i64 k, .bool e, .string t, .slice none 0 0] 54) = W3 at HB7 HF7 HN8 EX4 BE ef4 ⊢
          generalize wc.heap.size = ne at EX4 ef4 hneg hnef hne0 hgc LB6 BE ⊢
          clear BE HB6 HF6 HN7 y0 y1 y2 y3 a0
          have C := openFor_any g B S (b + NB) (.slice xo S.length co) fp xn cn ns W3 HB7.out HS.out HL.out HR.out (by omega) HN8.out hnl hncn
          refine C.mono ?_
          rintro en w5 ⟨rfl, OL, F5⟩
          have HF8 : Hid (Ff g fp w w5) := HF7.out.trans F5 (fun _ h => Or.inl h)
          clear C
          cases hop : opB S ns with
          | false =>
            have HADD : Hid (addR spN (p, k, e, t) S b = none) := addR_no HSP.out HC.out HS.out hop
            clear OL F5
            go_wp2
            try rw [Exit.noGoto_ret]
            go_ret
            exact ⟨by unfold AddP; rw [HADD.out]; rfl, HF8.out⟩
          | true =>
            obtain ⟨hnn, hcn0, hadd⟩ := addR_yes (b := b) HSP.out HC.out HS.out hop
            obtain ⟨v5, fp6, B5, hf5⟩ := OL hop
            obtain ⟨m, hm⟩ : ∃ m, ns.length = m + 1 := ⟨ns.length - 1, by have := List.length_pos_iff.2 hnn; omega⟩
            have HN9 := HN8.out.ff F5 hf5
            have EX5 : EX ne ⟨#[]⟩ k e t w5 := EX4.same (F5.keep ne EX4.lt hneg hnef)
            have hnf6 : ne ∉ fp6 := fun h => by
              rcases hf5 ne h with h | h
              · exact hnef h
              · have := EX4.lt; omega
            have hfp6 : ∀ x ∈ fp6, x ∈ fp ∨ w.heap.size ≤ x := fun x hx => by
              rcases hf5 x hx with h | h
              · exact Or.inl h
              · exact Or.inr (Nat.le_trans HF7.out.size h)
            obtain ⟨an, hxn, cnm⟩ := HN9.get m (by omega)
            subst hxn
            rw [hm, Nat.add_sub_cancel, HNB.out] at hadd
            have hcl := clo_len ns.length (by omega) S (by
              apply Nat.le_of_not_lt
              intro hlt
              unfold opB at hop
              rw [last_get ns hnn] at hop
              dsimp only at hop
              rw [if_pos hlt] at hop
              cases hop)
            rw [hm] at B5 hcl
            obtain ⟨xo6, co6, rfl⟩ := B5.op.shape
            generalize hs : nth ns m = s at hadd cnm
            generalize hS6 : clo (m + 1) S = S6 at B5 hcl hadd
            have hss : s.size ≤ 1048576 := by
              have h9 := HMEM.out s (by rw [← hs]; exact List.mem_of_getElem? (nth_get ns m (by omega)))
              omega
            have CE := fun W => entryBytes_any s W (by omega)
            have heb := eb_bd s
            generalize ebP s = EB at CE heb hadd
            obtain ⟨heb0, heb1⟩ := heb
            have hwr2 : IntKind.i64.wrap (b + NB + EB) = b + NB + EB := by rw [IntKind.wrap_i64]; omega
            have HADD : Hid (b + NB + EB ≤ 1048576 → addR spN (p, k, e, t) S b = some (⟨s, k, e, t, [], []⟩ :: S6, b + NB + EB)) := fun hM => by rw [hadd, if_pos hM]
            have HADDN : Hid (¬ b + NB + EB ≤ 1048576 → addR spN (p, k, e, t) S b = none) := fun hM => by rw [hadd, if_neg hM]
            have hS6l : S6.length ≤ 1073741823 := by omega
            have e0 : w5.cell? ⟨ne, 0, none⟩ = some (.string ⟨#[]⟩) := EX5.1
            have ef : w5.frozen? ⟨ne, 0, none⟩ = false := (World.frozen?_of_block (w := W3) (a := ⟨ne, 0, none⟩) (F5.keep ne EX4.lt hneg hnef)).trans ef4
            have HE5 : Hid (EX ne ⟨#[]⟩ k e t w5) := EX5
            have HB8 : Hid (Bst w5 g B S6 (b + NB) (.slice xo6 S6.length co6) fp6) := B5
            have hm1 : (m : Int) < (m : Int) + 1 := by omega
            have hmN : m < m + 1 := by omega
            have hmb : m ≤ 31 := by omega
            rw [hm]
            clear hadd hcn0 OL B5 F5 hf5 HN9 EX5 EX4 HB7 HF7 HN8 hop hs hS6 hcl hm hnl hncn hnn
            go_upto_region 11 with fail
            have hnew : w.heap.size ≤ ne := hne0
            have HE6 : EX ne s k e t (w5.setCell ⟨ne, 0, none⟩ (.string s)) := HE5.out.name
            have HB9 : Bst (w5.setCell ⟨ne, 0, none⟩ (.string s)) g B S6 (b + NB) (.slice xo6 S6.length co6) fp6 := HB8.out.off (fun h => hneg h.symm) hnf6
            have HF9 : Ff g fp w (w5.setCell ⟨ne, 0, none⟩ (.string s)) := HF8.out.new hnew
            generalize w5.setCell ⟨ne, 0, none⟩ (.string s) = W4 at HE6 HB9 HF9 ⊢
            have N0 : EX ne s k e t W4.drew := HE6
            have HB5 : Hid (Bst W4.drew g B S6 (b + NB) (.slice xo6 S6.length co6) fp6) := HB9.same (fun _ _ => rfl) (Nat.le_refl _)
            have HF5 : Hid (Ff g fp w W4.drew) := HF9.below ⟨rfl, rfl, rfl, Nat.le_refl _, fun _ _ => rfl⟩
            have hg1 : W4.drew.cell? ⟨g, 1, none⟩ = some (.int .i64 (b + NB)) := by rw [Lib.cell_of_heap HB5.out.hg]; rfl
            have LB5 : w.heap.size ≤ W4.drew.heap.size := HF9.size
            have hgne := hneg
            have hfp4 := hfp6
            clear HE6 HB9 HF9 HE5 HB8 HF8 e0 ef cnm
            go_cut [] from 58 to 67 (fun wx => Bst wx g B S6 (b + NB + EB) (.slice xo6 S6.length co6) fp6 ∧ Ff g fp w wx ∧ EX ne s k e t wx ∧ w.heap.size ≤ wx.heap.size)
            case first =>
              refine wp_region_held_drew (S := EX ne s k e t) (by kernel_rfl) N0 (fun _ => ?_)
              generalize W4.drew = W1 at N0 HB5 HF5 hg1 LB5 ⊢
              refine wpAnyH_take (i := 0) (oi := { dst := some 58, op := Op.move (Operand.tmp 0), type := 85, pos := "build.go:43", after := #[], guard := none }) (v := .pointer (some ⟨g, 0, none⟩)) rfl (by kernel_rfl) (by kernel_rfl) (by kernel_rfl) (fun _ _ _ h => h) (Or.inl ⟨by rfl, by intro w _; go_simp⟩) N0 ?_
              try simp only [Act.put, List.setIfInBounds_toArray, List.set_cons_zero, List.set_cons_succ]
              refine wpAnyH_take (i := 1) (oi := { dst := some 59, op := Op.nilCheck (Operand.tmp 58), type := 0, pos := "build.go:43", after := #[{ on := 0, ground := Ground.data }], guard := none }) (v := .pointer (some ⟨g, 0, none⟩)) rfl (by kernel_rfl) (by kernel_rfl) (by kernel_rfl) (fun _ _ _ h => h) (Or.inl ⟨by rfl, by intro w _; go_simp⟩) N0 ?_
              try simp only [Act.put, List.setIfInBounds_toArray, List.set_cons_zero, List.set_cons_succ]
              refine wpAnyH_take (i := 2) (oi := { dst := some 60, op := Op.fieldAddr 65 (Operand.tmp 59) 1, type := 0, pos := "build.go:43", after := #[{ on := 1, ground := Ground.data }], guard := none }) (v := .pointer (some ⟨g, 1, none⟩)) rfl (by kernel_rfl) (by kernel_rfl) (by kernel_rfl) (fun _ _ _ h => h) (Or.inl ⟨by rfl, by intro w _; go_simp⟩) N0 ?_
              try simp only [Act.put, List.setIfInBounds_toArray, List.set_cons_zero, List.set_cons_succ]
              refine wpAnyH_take (i := 4) (oi := { dst := some 62, op := Op.fieldAddr 54 (Operand.tmp 8) 0, type := 0, pos := "build.go:43", after := #[], guard := none }) (v := .pointer (some ⟨ne, 0, none⟩)) rfl (by kernel_rfl) (by kernel_rfl) (by kernel_rfl) (fun _ _ _ h => h) (Or.inl ⟨by rfl, by intro w _; go_simp⟩) N0 ?_
              try simp only [Act.put, List.setIfInBounds_toArray, List.set_cons_zero, List.set_cons_succ]
              refine wpAnyH_take (i := 5) (oi := { dst := some 63, op := Op.load 9 (Operand.tmp 62), type := 9, pos := "build.go:43", after := #[{ on := 4, ground := Ground.data }], guard := none }) (v := .string s) rfl (by kernel_rfl) (by kernel_rfl) (by kernel_rfl) (fun _ _ _ h => h) (Or.inl ⟨by rfl, by rintro w ⟨s0, s1, s2, s3, s4⟩; go_simp⟩) N0 ?_
              try simp only [Act.put, List.setIfInBounds_toArray, List.set_cons_zero, List.set_cons_succ]
              refine wpAnyH_ready (rs := [3, 6]) (by kernel_rfl) (by decide) (AllReadyH.cons rfl (fun K1 hK1 => ?_) (AllReadyH.cons rfl (fun K1 hK1 => ?_) AllReadyH.nil))
              · skip
                rw [if_pos (by rfl)]
                go_simp
                refine hK1.out _ _ N0 (fun _ => ?_)
                clear hK1 K1
                try simp only [Act.put, List.setIfInBounds_toArray, List.set_cons_zero, List.set_cons_succ]
                refine wpAnyH_ready (rs := [6]) (by kernel_rfl) (by decide) (AllReadyH.cons rfl (fun K1 hK1 => ?_) AllReadyH.nil)
                rw [if_pos (by rfl)]
                go_simp
                refine (CE W1).mono ?_
                rintro en5 w5 ⟨rfl, L5⟩
                have N5 := N0.below L5
                have HB6 := HB5.out.below L5
                have HF6 := HF5.out.below L5
                have hg6 : w5.cell? ⟨g, 1, none⟩ = some (.int .i64 (b + NB)) := by rw [Lib.cell_of_heap HB6.hg]; rfl
                have fg6 : w5.frozen? ⟨g, 1, none⟩ = false := Lib.frozen_of_heap HB6.hg 1
                have LB6 : w.heap.size ≤ w5.heap.size := Nat.le_trans LB5 L5.size
                go_wp2_with fail
                refine hK1.out _ _ N5 (fun _ => ?_)
                clear hK1 K1
                try simp only [Act.put, List.setIfInBounds_toArray, List.set_cons_zero, List.set_cons_succ]
                refine wpAnyH_take (i := 7) (oi := { dst := some 65, op := Op.binOp BinOp.add 3 (Operand.tmp 61) (Operand.tmp 64) 3, type := 3, pos := "build.go:43", after := #[{ on := 3, ground := Ground.data }, { on := 6, ground := Ground.data }], guard := none }) (v := .int .i64 (b + NB + EB)) rfl (by kernel_rfl) (by kernel_rfl) (by kernel_rfl) (fun _ _ _ h => h) (Or.inl ⟨by rfl, by intro w _; go_simp⟩) N5 ?_
                try simp only [Act.put, List.setIfInBounds_toArray, List.set_cons_zero, List.set_cons_succ]
                refine wpAnyH_take (i := 8) (oi := { dst := some 66, op := Op.nilCheck (Operand.tmp 58), type := 0, pos := "build.go:43", after := #[{ on := 0, ground := Ground.data }, { on := 0, ground := Ground.phase }, { on := 1, ground := Ground.phase }, { on := 2, ground := Ground.phase }, { on := 3, ground := Ground.phase }, { on := 4, ground := Ground.phase }, { on := 5, ground := Ground.phase }, { on := 6, ground := Ground.phase }, { on := 7, ground := Ground.phase }], guard := none }) (v := .pointer (some ⟨g, 0, none⟩)) rfl (by kernel_rfl) (by kernel_rfl) (by kernel_rfl) (fun _ _ _ h => h) (Or.inl ⟨by rfl, by intro w _; go_simp⟩) N5 ?_
                try simp only [Act.put, List.setIfInBounds_toArray, List.set_cons_zero, List.set_cons_succ]
                refine wpAnyH_take (i := 9) (oi := { dst := some 67, op := Op.fieldAddr 65 (Operand.tmp 66) 1, type := 0, pos := "build.go:43", after := #[{ on := 8, ground := Ground.data }, { on := 0, ground := Ground.phase }, { on := 1, ground := Ground.phase }, { on := 2, ground := Ground.phase }, { on := 3, ground := Ground.phase }, { on := 4, ground := Ground.phase }, { on := 5, ground := Ground.phase }, { on := 6, ground := Ground.phase }, { on := 7, ground := Ground.phase }], guard := none }) (v := .pointer (some ⟨g, 1, none⟩)) rfl (by kernel_rfl) (by kernel_rfl) (by kernel_rfl) (fun _ _ _ h => h) (Or.inl ⟨by rfl, by intro w _; go_simp⟩) N5 ?_
                try simp only [Act.put, List.setIfInBounds_toArray, List.set_cons_zero, List.set_cons_succ]
                refine wpAnyH_ready (rs := [10]) (by kernel_rfl) (by decide) (AllReadyH.cons rfl (fun K1 hK1 => ?_) AllReadyH.nil)
                have N6 := N5.far (g := g) (i := 1) (x := .int .i64 (b + NB + EB)) hgne
                rw [if_pos (by rfl)]
                go_simp
                refine hK1.out _ _ N6 (fun _ => ?_)
                clear hK1 K1
                refine wpAnyH_done (by kernel_rfl) ?_ _
                (try go_wp2_with fail)
                go_meet
                obtain ⟨Y1, Y2⟩ := HB6.bytes (b + NB + EB)
                exact ⟨Y1, HF6.trans Y2 hfp4, N6, by rw [World.size_setCell]; exact LB6⟩
              · skip
                rw [if_pos (by rfl)]
                go_simp
                refine (CE W1).mono ?_
                rintro en5 w5 ⟨rfl, L5⟩
                have N5 := N0.below L5
                have HB6 := HB5.out.below L5
                have HF6 := HF5.out.below L5
                have hg6 : w5.cell? ⟨g, 1, none⟩ = some (.int .i64 (b + NB)) := by rw [Lib.cell_of_heap HB6.hg]; rfl
                have fg6 : w5.frozen? ⟨g, 1, none⟩ = false := Lib.frozen_of_heap HB6.hg 1
                have LB6 : w.heap.size ≤ w5.heap.size := Nat.le_trans LB5 L5.size
                go_wp2_with fail
                refine hK1.out _ _ N5 (fun _ => ?_)
                clear hK1 K1
                try simp only [Act.put, List.setIfInBounds_toArray, List.set_cons_zero, List.set_cons_succ]
                refine wpAnyH_ready (rs := [3]) (by kernel_rfl) (by decide) (AllReadyH.cons rfl (fun K1 hK1 => ?_) AllReadyH.nil)
                rw [if_pos (by rfl)]
                go_simp
                refine hK1.out _ _ N5 (fun _ => ?_)
                clear hK1 K1
                try simp only [Act.put, List.setIfInBounds_toArray, List.set_cons_zero, List.set_cons_succ]
                refine wpAnyH_take (i := 7) (oi := { dst := some 65, op := Op.binOp BinOp.add 3 (Operand.tmp 61) (Operand.tmp 64) 3, type := 3, pos := "build.go:43", after := #[{ on := 3, ground := Ground.data }, { on := 6, ground := Ground.data }], guard := none }) (v := .int .i64 (b + NB + EB)) rfl (by kernel_rfl) (by kernel_rfl) (by kernel_rfl) (fun _ _ _ h => h) (Or.inl ⟨by rfl, by intro w _; go_simp⟩) N5 ?_
                try simp only [Act.put, List.setIfInBounds_toArray, List.set_cons_zero, List.set_cons_succ]
                refine wpAnyH_take (i := 8) (oi := { dst := some 66, op := Op.nilCheck (Operand.tmp 58), type := 0, pos := "build.go:43", after := #[{ on := 0, ground := Ground.data }, { on := 0, ground := Ground.phase }, { on := 1, ground := Ground.phase }, { on := 2, ground := Ground.phase }, { on := 3, ground := Ground.phase }, { on := 4, ground := Ground.phase }, { on := 5, ground := Ground.phase }, { on := 6, ground := Ground.phase }, { on := 7, ground := Ground.phase }], guard := none }) (v := .pointer (some ⟨g, 0, none⟩)) rfl (by kernel_rfl) (by kernel_rfl) (by kernel_rfl) (fun _ _ _ h => h) (Or.inl ⟨by rfl, by intro w _; go_simp⟩) N5 ?_
                try simp only [Act.put, List.setIfInBounds_toArray, List.set_cons_zero, List.set_cons_succ]
                refine wpAnyH_take (i := 9) (oi := { dst := some 67, op := Op.fieldAddr 65 (Operand.tmp 66) 1, type := 0, pos := "build.go:43", after := #[{ on := 8, ground := Ground.data }, { on := 0, ground := Ground.phase }, { on := 1, ground := Ground.phase }, { on := 2, ground := Ground.phase }, { on := 3, ground := Ground.phase }, { on := 4, ground := Ground.phase }, { on := 5, ground := Ground.phase }, { on := 6, ground := Ground.phase }, { on := 7, ground := Ground.phase }], guard := none }) (v := .pointer (some ⟨g, 1, none⟩)) rfl (by kernel_rfl) (by kernel_rfl) (by kernel_rfl) (fun _ _ _ h => h) (Or.inl ⟨by rfl, by intro w _; go_simp⟩) N5 ?_
                try simp only [Act.put, List.setIfInBounds_toArray, List.set_cons_zero, List.set_cons_succ]
                refine wpAnyH_ready (rs := [10]) (by kernel_rfl) (by decide) (AllReadyH.cons rfl (fun K1 hK1 => ?_) AllReadyH.nil)
                have N6 := N5.far (g := g) (i := 1) (x := .int .i64 (b + NB + EB)) hgne
                rw [if_pos (by rfl)]
                go_simp
                refine hK1.out _ _ N6 (fun _ => ?_)
                clear hK1 K1
                refine wpAnyH_done (by kernel_rfl) ?_ _
                (try go_wp2_with fail)
                go_meet
                obtain ⟨Y1, Y2⟩ := HB6.bytes (b + NB + EB)
                exact ⟨Y1, HF6.trans Y2 hfp4, N6, by rw [World.size_setCell]; exact LB6⟩
            case rest =>
              obtain ⟨B6, F6, EX6, LB7⟩ := hcut
              obtain ⟨W6, hW6⟩ : ∃ W, W = wc := ⟨_, rfl⟩
              subst hW6
              have HB7 : Hid (Bst W6 g B S6 (b + NB + EB) (.slice xo6 S6.length co6) fp6) := B6
              have HF7 : Hid (Ff g fp w W6) := F6
              clear N0 HB5 HF5 hg1 LB5 B6 F6 CE
              obtain ⟨g2, cap2, w', PS⟩ := Bst.push HB7.out hS6l s k e t
              have d0x : W6.drew.cell? ⟨g, 0, none⟩ = some (.slice xo6 S6.length co6) := by rw [show W6.drew.cell? ⟨g, 0, none⟩ = W6.cell? ⟨g, 0, none⟩ from rfl, Lib.cell_of_heap HB7.out.hg]; rfl
              have hg6 : g < W6.heap.size := Nat.lt_of_lt_of_le HB7.out.lt HB7.out.hB
              have hn6 : ne < W6.heap.size := EX6.lt
              obtain ⟨kne, hne2⟩ := PS.keep ne hn6 hnf6
              have hgg2 := PS.hgg2
              have hgg2' : g2 ≠ g := fun h => hgg2 h.symm
              have hne2' : g2 ≠ ne := fun h => hne2 h.symm
              have N0 : EX ne s k e t W6.drew := EX6
              have N1 : EX ne s k e t (W6.drew.alloc (.cells #[.string ⟨#[]⟩, .int .i64 0, .bool false, .string ⟨#[]⟩, .slice none 0 0] 54)) := EX6.same (Below.heap_alloc W6.drew _ ne hn6)
              have N2 : EX ne s k e t w' := EX6.same kne
              have N3 : EX ne s k e t (((((w'.setCell ⟨g2, S6.length * 5, none⟩ (.string s)).setCell ⟨g2, S6.length * 5 + 1, none⟩ (.int .i64 k)).setCell ⟨g2, S6.length * 5 + 2, none⟩ (.bool e)).setCell ⟨g2, S6.length * 5 + 3, none⟩ (.string t)).setCell ⟨g2, S6.length * 5 + 4, none⟩ (.slice none 0 0)) := ((((N2.far hne2).far hne2).far hne2).far hne2).far hne2
              have N4 : EX ne s k e t ((((((w'.setCell ⟨g2, S6.length * 5, none⟩ (.string s)).setCell ⟨g2, S6.length * 5 + 1, none⟩ (.int .i64 k)).setCell ⟨g2, S6.length * 5 + 2, none⟩ (.bool e)).setCell ⟨g2, S6.length * 5 + 3, none⟩ (.string t)).setCell ⟨g2, S6.length * 5 + 4, none⟩ (.slice none 0 0)).setCell ⟨g, 0, none⟩ (.slice (some ⟨g2, 0, none⟩) (S6.length + 1) cap2)) := N3.far hneg
              have N7 : EX ne s k e t (w'.setCell ⟨g, 0, none⟩ (.slice (some ⟨g2, 0, none⟩) (S6.length + 1) cap2)) := N2.far hneg
              have N8 : EX ne s k e t ((((((w'.setCell ⟨g, 0, none⟩ (.slice (some ⟨g2, 0, none⟩) (S6.length + 1) cap2)).setCell ⟨g2, S6.length * 5, none⟩ (.string s)).setCell ⟨g2, S6.length * 5 + 1, none⟩ (.int .i64 k)).setCell ⟨g2, S6.length * 5 + 2, none⟩ (.bool e)).setCell ⟨g2, S6.length * 5 + 3, none⟩ (.string t)).setCell ⟨g2, S6.length * 5 + 4, none⟩ (.slice none 0 0)) := ((((N7.far hne2).far hne2).far hne2).far hne2).far hne2
              have d0a : (W6.drew.alloc (.cells #[.string ⟨#[]⟩, .int .i64 0, .bool false, .string ⟨#[]⟩, .slice none 0 0] 54)).cell? ⟨g, 0, none⟩ = some (.slice xo6 S6.length co6) := (World.cell?_of_block (w := W6.drew) (a := ⟨g, 0, none⟩) (Below.heap_alloc W6.drew _ g hg6)).trans d0x
              have d0' : w'.cell? ⟨g, 0, none⟩ = some (.slice xo6 S6.length co6) := (World.cell?_of_block (w := W6) (a := ⟨g, 0, none⟩) PS.kg).trans d0x
              have df0 : w'.frozen? ⟨g, 0, none⟩ = false := (World.frozen?_of_block (w := W6) (a := ⟨g, 0, none⟩) PS.kg).trans (Lib.frozen_of_heap HB7.out.hg 0)
              have z0 := PS.z0
              have z1 := PS.z1
              have z2 := PS.z2
              have z3 := PS.z3
              have z4 := PS.z4
              have f0 := PS.f (S6.length * 5)
              have f1 := PS.f (S6.length * 5 + 1)
              have f2 := PS.f (S6.length * 5 + 2)
              have f3 := PS.f (S6.length * 5 + 3)
              have f4 := PS.f (S6.length * 5 + 4)
              have hapD : (Builtin.append_ #[23, 23] 23 #[.slice xo6 S6.length co6, .slice (some ⟨W6.drew.heap.size, 0, none⟩) 1 1]).run Tryd.prog (W6.drew.alloc (.cells #[.string ⟨#[]⟩, .int .i64 0, .bool false, .string ⟨#[]⟩, .slice none 0 0] 54)) = .ok (.slice (some ⟨g2, 0, none⟩) (S6.length + 1) cap2) w' := PS.hap
              obtain ⟨fpn, O1, O2, O3⟩ := PS.out
              have HO1 : Hid (Bst ((((((w'.setCell ⟨g2, S6.length * 5, none⟩ (.string s)).setCell ⟨g2, S6.length * 5 + 1, none⟩ (.int .i64 k)).setCell ⟨g2, S6.length * 5 + 2, none⟩ (.bool e)).setCell ⟨g2, S6.length * 5 + 3, none⟩ (.string t)).setCell ⟨g2, S6.length * 5 + 4, none⟩ (.slice none 0 0)).setCell ⟨g, 0, none⟩ (.slice (some ⟨g2, 0, none⟩) (S6.length + 1) cap2)) g B (⟨s, k, e, t, [], []⟩ :: S6) (b + NB + EB) (.slice (some ⟨g2, 0, none⟩) (S6.length + 1) cap2) fpn) := O1
              have HO2 : Hid (Ff g fp w ((((((w'.setCell ⟨g2, S6.length * 5, none⟩ (.string s)).setCell ⟨g2, S6.length * 5 + 1, none⟩ (.int .i64 k)).setCell ⟨g2, S6.length * 5 + 2, none⟩ (.bool e)).setCell ⟨g2, S6.length * 5 + 3, none⟩ (.string t)).setCell ⟨g2, S6.length * 5 + 4, none⟩ (.slice none 0 0)).setCell ⟨g, 0, none⟩ (.slice (some ⟨g2, 0, none⟩) (S6.length + 1) cap2))) := HF7.out.trans O2 hfp6
              have HO3 : Hid (∀ x ∈ fpn, x ∈ fp ∨ w.heap.size ≤ x) := fun x hx => by
                rcases O3 x hx with h | h
                · exact hfp6 x h
                · exact Or.inr (Nat.le_trans HF7.out.size h)
              have q1 : (0 : Int) ≤ (S6.length : Int) := by omega
              have q2 : (S6.length : Int) < (S6.length : Int) + 1 := by omega
              have q3 : S6.length < S6.length + 1 := by omega
              clear O1 O2 O3 PS EX6 kne HB7 HF7
              go_upto_region 14 with fail
              go_cut [] from 71 to 81 (fun wx => wx = (((((w'.setCell ⟨g2, S6.length * 5, none⟩ (.string s)).setCell ⟨g2, S6.length * 5 + 1, none⟩ (.int .i64 k)).setCell ⟨g2, S6.length * 5 + 2, none⟩ (.bool e)).setCell ⟨g2, S6.length * 5 + 3, none⟩ (.string t)).setCell ⟨g2, S6.length * 5 + 4, none⟩ (.slice none 0 0)).setCell ⟨g, 0, none⟩ (.slice (some ⟨g2, 0, none⟩) (S6.length + 1) cap2))
              case first =>
                refine wp_region_held_drew (S := EX ne s k e t) (by kernel_rfl) N0 (fun _ => ?_)
                generalize W6.drew = W1 at N0 N1 d0x d0a hapD ⊢
                refine wpAnyH_take (i := 0) (oi := { dst := some 71, op := Op.move (Operand.tmp 0), type := 85, pos := "build.go:47", after := #[], guard := none }) (v := .pointer (some ⟨g, 0, none⟩)) rfl (by kernel_rfl) (by kernel_rfl) (by kernel_rfl) (fun _ _ _ h => h) (Or.inl ⟨by rfl, by intro w _; go_simp⟩) N0 ?_
                try simp only [Act.put, List.setIfInBounds_toArray, List.set_cons_zero, List.set_cons_succ]
                refine wpAnyH_take (i := 1) (oi := { dst := some 72, op := Op.nilCheck (Operand.tmp 71), type := 0, pos := "build.go:47", after := #[{ on := 0, ground := Ground.data }], guard := none }) (v := .pointer (some ⟨g, 0, none⟩)) rfl (by kernel_rfl) (by kernel_rfl) (by kernel_rfl) (fun _ _ _ h => h) (Or.inl ⟨by rfl, by intro w _; go_simp⟩) N0 ?_
                try simp only [Act.put, List.setIfInBounds_toArray, List.set_cons_zero, List.set_cons_succ]
                refine wpAnyH_take (i := 2) (oi := { dst := some 73, op := Op.fieldAddr 65 (Operand.tmp 72) 0, type := 0, pos := "build.go:47", after := #[{ on := 1, ground := Ground.data }], guard := none }) (v := .pointer (some ⟨g, 0, none⟩)) rfl (by kernel_rfl) (by kernel_rfl) (by kernel_rfl) (fun _ _ _ h => h) (Or.inl ⟨by rfl, by intro w _; go_simp⟩) N0 ?_
                try simp only [Act.put, List.setIfInBounds_toArray, List.set_cons_zero, List.set_cons_succ]
                refine wpAnyH_take (i := 4) (oi := { dst := some 75, op := Op.load 54 (Operand.tmp 8), type := 54, pos := "build.go:47", after := #[], guard := none }) (v := .agg #[.string s, .int .i64 k, .bool e, .string t, .slice none 0 0]) rfl (by kernel_rfl) (by kernel_rfl) (by kernel_rfl) (fun _ _ _ h => h) (Or.inl ⟨by rfl, by rintro w ⟨s0, s1, s2, s3, s4⟩; go_simp⟩) N0 ?_
                try simp only [Act.put, List.setIfInBounds_toArray, List.set_cons_zero, List.set_cons_succ]
                refine wpAnyH_ready (rs := [3, 6]) (by kernel_rfl) (by decide) (AllReadyH.cons rfl (fun K1 hK1 => ?_) (AllReadyH.cons rfl (fun K1 hK1 => ?_) AllReadyH.nil))
                · skip
                  rw [if_pos (by rfl)]
                  go_simp
                  refine hK1.out _ _ N0 (fun _ => ?_)
                  clear hK1 K1
                  try simp only [Act.put, List.setIfInBounds_toArray, List.set_cons_zero, List.set_cons_succ]
                  refine wpAnyH_take (i := 5) (oi := { dst := some 76, op := Op.call { callee := Callee.builtin Builtin.len, args := #[Operand.tmp 74], argTypes := #[23] }, type := 3, pos := "build.go:47", after := #[{ on := 3, ground := Ground.data }], guard := none }) (v := .int .i64 (S6.length : Int)) rfl (by kernel_rfl) (by kernel_rfl) (by kernel_rfl) (fun _ _ _ h => h) (Or.inl ⟨by rfl, by intro w _; go_simp⟩) N0 ?_
                  try simp only [Act.put, List.setIfInBounds_toArray, List.set_cons_zero, List.set_cons_succ]
                  refine wpAnyH_ready (rs := [6]) (by kernel_rfl) (by decide) (AllReadyH.cons rfl (fun K1 hK1 => ?_) AllReadyH.nil)
                  rw [if_pos (by rfl)]
                  go_simp
                  refine hK1.out _ _ N1 (fun _ => ?_)
                  clear hK1 K1
                  try simp only [Act.put, List.setIfInBounds_toArray, List.set_cons_zero, List.set_cons_succ]
                  refine wpAnyH_ready (rs := [7]) (by kernel_rfl) (by decide) (AllReadyH.cons rfl (fun K1 hK1 => ?_) AllReadyH.nil)
                  refine step_app (o := { dst := some 78, op := Op.call { callee := Callee.builtin Builtin.append, args := #[Operand.tmp 74, Operand.tmp 77], argTypes := #[23, 23] }, type := 23, pos := "build.go:47", after := #[{ on := 3, ground := Ground.data }, { on := 6, ground := Ground.data }, { on := 0, ground := Ground.phase }, { on := 1, ground := Ground.phase }, { on := 2, ground := Ground.phase }, { on := 3, ground := Ground.phase }, { on := 4, ground := Ground.phase }, { on := 5, ground := Ground.phase }, { on := 6, ground := Ground.phase }], guard := none }) rfl (.tmp 74) (.tmp 77) 23 rfl (.slice xo6 S6.length co6) (.slice (some ⟨W1.heap.size, 0, none⟩) 1 1) rfl rfl (.slice (some ⟨g2, 0, none⟩) (S6.length + 1) cap2) w' hapD ?_
                  refine hK1.out _ _ N2 (fun _ => ?_)
                  clear hK1 K1
                  try simp only [Act.put, List.setIfInBounds_toArray, List.set_cons_zero, List.set_cons_succ]
                  refine wpAnyH_take (i := 8) (oi := { dst := some 79, op := Op.indexAddr 23 (Operand.tmp 78) (Operand.tmp 76), type := 0, pos := "build.go:47", after := #[{ on := 7, ground := Ground.data }, { on := 5, ground := Ground.data }, { on := 0, ground := Ground.phase }, { on := 1, ground := Ground.phase }, { on := 2, ground := Ground.phase }, { on := 3, ground := Ground.phase }, { on := 4, ground := Ground.phase }, { on := 5, ground := Ground.phase }, { on := 6, ground := Ground.phase }, { on := 7, ground := Ground.phase }, { on := 12, ground := Ground.gcOnly Departure.appendInPlace }], guard := none }) (v := .pointer (some ⟨g2, S6.length * 5, none⟩)) rfl (by kernel_rfl) (by kernel_rfl) (by kernel_rfl) (fun _ _ _ h => h) (Or.inl ⟨by rfl, by intro w _; go_simp⟩) N2 ?_
                  try simp only [Act.put, List.setIfInBounds_toArray, List.set_cons_zero, List.set_cons_succ]
                  refine wpAnyH_take (i := 10) (oi := { dst := some 80, op := Op.nilCheck (Operand.tmp 71), type := 0, pos := "build.go:47", after := #[{ on := 0, ground := Ground.data }, { on := 0, ground := Ground.phase }, { on := 1, ground := Ground.phase }, { on := 2, ground := Ground.phase }, { on := 3, ground := Ground.phase }, { on := 4, ground := Ground.phase }, { on := 5, ground := Ground.phase }, { on := 6, ground := Ground.phase }, { on := 7, ground := Ground.phase }, { on := 8, ground := Ground.textOnly Departure.appendInPlace }, { on := 9, ground := Ground.textOnly Departure.appendInPlace }], guard := none }) (v := .pointer (some ⟨g, 0, none⟩)) rfl (by kernel_rfl) (by kernel_rfl) (by kernel_rfl) (fun _ _ _ h => h) (Or.inl ⟨by rfl, by intro w _; go_simp⟩) N2 ?_
                  try simp only [Act.put, List.setIfInBounds_toArray, List.set_cons_zero, List.set_cons_succ]
                  refine wpAnyH_take (i := 11) (oi := { dst := some 81, op := Op.fieldAddr 65 (Operand.tmp 80) 0, type := 0, pos := "build.go:47", after := #[{ on := 10, ground := Ground.data }, { on := 0, ground := Ground.phase }, { on := 1, ground := Ground.phase }, { on := 2, ground := Ground.phase }, { on := 3, ground := Ground.phase }, { on := 4, ground := Ground.phase }, { on := 5, ground := Ground.phase }, { on := 6, ground := Ground.phase }, { on := 7, ground := Ground.phase }, { on := 8, ground := Ground.textOnly Departure.appendInPlace }, { on := 9, ground := Ground.textOnly Departure.appendInPlace }], guard := none }) (v := .pointer (some ⟨g, 0, none⟩)) rfl (by kernel_rfl) (by kernel_rfl) (by kernel_rfl) (fun _ _ _ h => h) (Or.inl ⟨by rfl, by intro w _; go_simp⟩) N2 ?_
                  try simp only [Act.put, List.setIfInBounds_toArray, List.set_cons_zero, List.set_cons_succ]
                  refine wpAnyH_ready (rs := [9, 12]) (by kernel_rfl) (by decide) (AllReadyH.cons rfl (fun K1 hK1 => ?_) (AllReadyH.cons rfl (fun K1 hK1 => ?_) AllReadyH.nil))
                  · skip
                    rw [if_pos (by rfl)]
                    go_simp
                    refine hK1.out _ _ N3 (fun _ => ?_)
                    clear hK1 K1
                    refine wpAnyH_ready (rs := [12]) (by kernel_rfl) (by decide) (AllReadyH.cons rfl (fun K1 hK1 => ?_) AllReadyH.nil)
                    rw [if_pos (by rfl)]
                    go_simp
                    refine hK1.out _ _ N4 (fun _ => ?_)
                    clear hK1 K1
                    refine wpAnyH_done (by kernel_rfl) ?_ _
                    (try go_wp2_with fail)
                    go_meet
                    rfl
                  · skip
                    rw [if_pos (by rfl)]
                    go_simp
                    refine hK1.out _ _ N7 (fun _ => ?_)
                    clear hK1 K1
                    refine wpAnyH_ready (rs := [9]) (by kernel_rfl) (by decide) (AllReadyH.cons rfl (fun K1 hK1 => ?_) AllReadyH.nil)
                    rw [if_pos (by rfl)]
                    go_simp
                    refine hK1.out _ _ N8 (fun _ => ?_)
                    clear hK1 K1
                    refine wpAnyH_done (by kernel_rfl) ?_ _
                    (try go_wp2_with fail)
                    go_meet
                    exact set5_comm w' g2 (S6.length * 5) _ _ _ _ _ ⟨g, 0, none⟩ _ hgg2
                · skip
                  rw [if_pos (by rfl)]
                  go_simp
                  refine hK1.out _ _ N1 (fun _ => ?_)
                  clear hK1 K1
                  try simp only [Act.put, List.setIfInBounds_toArray, List.set_cons_zero, List.set_cons_succ]
                  refine wpAnyH_ready (rs := [3]) (by kernel_rfl) (by decide) (AllReadyH.cons rfl (fun K1 hK1 => ?_) AllReadyH.nil)
                  rw [if_pos (by rfl)]
                  go_simp
                  refine hK1.out _ _ N1 (fun _ => ?_)
                  clear hK1 K1
                  try simp only [Act.put, List.setIfInBounds_toArray, List.set_cons_zero, List.set_cons_succ]
                  refine wpAnyH_take (i := 5) (oi := { dst := some 76, op := Op.call { callee := Callee.builtin Builtin.len, args := #[Operand.tmp 74], argTypes := #[23] }, type := 3, pos := "build.go:47", after := #[{ on := 3, ground := Ground.data }], guard := none }) (v := .int .i64 (S6.length : Int)) rfl (by kernel_rfl) (by kernel_rfl) (by kernel_rfl) (fun _ _ _ h => h) (Or.inl ⟨by rfl, by intro w _; go_simp⟩) N1 ?_
                  try simp only [Act.put, List.setIfInBounds_toArray, List.set_cons_zero, List.set_cons_succ]
                  refine wpAnyH_ready (rs := [7]) (by kernel_rfl) (by decide) (AllReadyH.cons rfl (fun K1 hK1 => ?_) AllReadyH.nil)
                  refine step_app (o := { dst := some 78, op := Op.call { callee := Callee.builtin Builtin.append, args := #[Operand.tmp 74, Operand.tmp 77], argTypes := #[23, 23] }, type := 23, pos := "build.go:47", after := #[{ on := 3, ground := Ground.data }, { on := 6, ground := Ground.data }, { on := 0, ground := Ground.phase }, { on := 1, ground := Ground.phase }, { on := 2, ground := Ground.phase }, { on := 3, ground := Ground.phase }, { on := 4, ground := Ground.phase }, { on := 5, ground := Ground.phase }, { on := 6, ground := Ground.phase }], guard := none }) rfl (.tmp 74) (.tmp 77) 23 rfl (.slice xo6 S6.length co6) (.slice (some ⟨W1.heap.size, 0, none⟩) 1 1) rfl rfl (.slice (some ⟨g2, 0, none⟩) (S6.length + 1) cap2) w' hapD ?_
                  refine hK1.out _ _ N2 (fun _ => ?_)
                  clear hK1 K1
                  try simp only [Act.put, List.setIfInBounds_toArray, List.set_cons_zero, List.set_cons_succ]
                  refine wpAnyH_take (i := 8) (oi := { dst := some 79, op := Op.indexAddr 23 (Operand.tmp 78) (Operand.tmp 76), type := 0, pos := "build.go:47", after := #[{ on := 7, ground := Ground.data }, { on := 5, ground := Ground.data }, { on := 0, ground := Ground.phase }, { on := 1, ground := Ground.phase }, { on := 2, ground := Ground.phase }, { on := 3, ground := Ground.phase }, { on := 4, ground := Ground.phase }, { on := 5, ground := Ground.phase }, { on := 6, ground := Ground.phase }, { on := 7, ground := Ground.phase }, { on := 12, ground := Ground.gcOnly Departure.appendInPlace }], guard := none }) (v := .pointer (some ⟨g2, S6.length * 5, none⟩)) rfl (by kernel_rfl) (by kernel_rfl) (by kernel_rfl) (fun _ _ _ h => h) (Or.inl ⟨by rfl, by intro w _; go_simp⟩) N2 ?_
                  try simp only [Act.put, List.setIfInBounds_toArray, List.set_cons_zero, List.set_cons_succ]
                  refine wpAnyH_take (i := 10) (oi := { dst := some 80, op := Op.nilCheck (Operand.tmp 71), type := 0, pos := "build.go:47", after := #[{ on := 0, ground := Ground.data }, { on := 0, ground := Ground.phase }, { on := 1, ground := Ground.phase }, { on := 2, ground := Ground.phase }, { on := 3, ground := Ground.phase }, { on := 4, ground := Ground.phase }, { on := 5, ground := Ground.phase }, { on := 6, ground := Ground.phase }, { on := 7, ground := Ground.phase }, { on := 8, ground := Ground.textOnly Departure.appendInPlace }, { on := 9, ground := Ground.textOnly Departure.appendInPlace }], guard := none }) (v := .pointer (some ⟨g, 0, none⟩)) rfl (by kernel_rfl) (by kernel_rfl) (by kernel_rfl) (fun _ _ _ h => h) (Or.inl ⟨by rfl, by intro w _; go_simp⟩) N2 ?_
                  try simp only [Act.put, List.setIfInBounds_toArray, List.set_cons_zero, List.set_cons_succ]
                  refine wpAnyH_take (i := 11) (oi := { dst := some 81, op := Op.fieldAddr 65 (Operand.tmp 80) 0, type := 0, pos := "build.go:47", after := #[{ on := 10, ground := Ground.data }, { on := 0, ground := Ground.phase }, { on := 1, ground := Ground.phase }, { on := 2, ground := Ground.phase }, { on := 3, ground := Ground.phase }, { on := 4, ground := Ground.phase }, { on := 5, ground := Ground.phase }, { on := 6, ground := Ground.phase }, { on := 7, ground := Ground.phase }, { on := 8, ground := Ground.textOnly Departure.appendInPlace }, { on := 9, ground := Ground.textOnly Departure.appendInPlace }], guard := none }) (v := .pointer (some ⟨g, 0, none⟩)) rfl (by kernel_rfl) (by kernel_rfl) (by kernel_rfl) (fun _ _ _ h => h) (Or.inl ⟨by rfl, by intro w _; go_simp⟩) N2 ?_
                  try simp only [Act.put, List.setIfInBounds_toArray, List.set_cons_zero, List.set_cons_succ]
                  refine wpAnyH_ready (rs := [9, 12]) (by kernel_rfl) (by decide) (AllReadyH.cons rfl (fun K1 hK1 => ?_) (AllReadyH.cons rfl (fun K1 hK1 => ?_) AllReadyH.nil))
                  · skip
                    rw [if_pos (by rfl)]
                    go_simp
                    refine hK1.out _ _ N3 (fun _ => ?_)
                    clear hK1 K1
                    refine wpAnyH_ready (rs := [12]) (by kernel_rfl) (by decide) (AllReadyH.cons rfl (fun K1 hK1 => ?_) AllReadyH.nil)
                    rw [if_pos (by rfl)]
                    go_simp
                    refine hK1.out _ _ N4 (fun _ => ?_)
                    clear hK1 K1
                    refine wpAnyH_done (by kernel_rfl) ?_ _
                    (try go_wp2_with fail)
                    go_meet
                    rfl
                  · skip
                    rw [if_pos (by rfl)]
                    go_simp
                    refine hK1.out _ _ N7 (fun _ => ?_)
                    clear hK1 K1
                    refine wpAnyH_ready (rs := [9]) (by kernel_rfl) (by decide) (AllReadyH.cons rfl (fun K1 hK1 => ?_) AllReadyH.nil)
                    rw [if_pos (by rfl)]
                    go_simp
                    refine hK1.out _ _ N8 (fun _ => ?_)
                    clear hK1 K1
                    refine wpAnyH_done (by kernel_rfl) ?_ _
                    (try go_wp2_with fail)
                    go_meet
                    exact set5_comm w' g2 (S6.length * 5) _ _ _ _ _ ⟨g, 0, none⟩ _ hgg2
              case rest =>
                rw [← hcut] at HO1 HO2
                have a9 : wc.cell? ⟨g, 1, none⟩ = some (.int .i64 (b + NB + EB)) := by rw [Lib.cell_of_heap HO1.out.hg]; rfl
                clear hcut N0 N1 N2 N3 N4 N7 N8 d0x d0a d0' df0 z0 z1 z2 z3 z4 f0 f1 f2 f3 f4 hapD
                by_cases hM : b + NB + EB ≤ 1048576
                · have hMb : decide (b + NB + EB ≤ 1048576) = true := decide_eq_true hM
                  have HADD2 := HADD.out hM
                  go_wp2
                  go_ret
                  exact ⟨by unfold AddP; rw [HADD2]; exact ⟨rfl, _, fpn, HO1.out, HO3.out⟩, HO2.out⟩
                · have hMb : decide (b + NB + EB ≤ 1048576) = false := decide_eq_false hM
                  have HADD2 := HADDN.out (by omega)
                  go_wp2
                  go_ret
                  exact ⟨by unfold AddP; rw [HADD2]; rfl, HO2.out⟩
    · have HADD : Hid (addR spN (p, k, e, t) S b = none) := by unfold Hid addR; dsimp only; rw [hsp]; dsimp only; rw [if_pos hC]
      have X3 := X2.same (Below.heap_alloc w2 (.cells #[.int .i64 (pathF p).1, .int .i64 (pathF p).2] 34) nb X2.lt)
      obtain ⟨y0, y1, y2, y3⟩ := X3
      have hCb : (cfP k e t 0 != 0) = true := by rw [bne_iff_ne]; exact hC
      rw [hF] at B3 y0 y1 y2 y3 ⊢
      generalize cfP k e t 0 = cf at hC hCb CF
      go_wp2_with fail
      generalize w2.alloc (.cells #[.int .i64 0, .int .i64 (pathF p).2] 34) = W1 at B3 y0 y1 y2 y3 ⊢
      refine (CF W1).mono ?_
      rintro en W2 ⟨rfl, L4⟩
      have HFF : Hid (Ff g fp w W2) := Ff.of_below (B3.trans (L4.mono B3.size))
      clear CF L4 B3 CN
      go_wp2
      try rw [Exit.noGoto_ret]
      go_ret
      exact ⟨by unfold AddP; rw [HADD.out]; rfl, HFF.out⟩
  · rw [if_neg hF] at hsp
    have HADD : Hid (addR spN (p, k, e, t) S b = none) := by unfold Hid addR; dsimp only; rw [hsp]
    have hFb : ((pathF p).1 != 0) = true := by rw [bne_iff_ne]; exact hF
    have HFF : Hid (Ff g fp w (w2.alloc (.cells #[.int .i64 (pathF p).1, .int .i64 (pathF p).2] 34))) := Ff.of_below B3
    generalize (pathF p).1 = f1 at hF hFb B3 HFF ⊢
    generalize (pathF p).2 = f2 at B3 HFF ⊢
    go_wp2
    try rw [Exit.noGoto_ret]
    go_ret
    exact ⟨by unfold AddP; rw [HADD.out]; rfl, HFF.out⟩

end Go.Proofs.YtmknnblogfpifaaDoor
