/- NpJ NpP NpQ, joined (own text of the verifier). -/
import Derived.Test.YtljcbibcdajhiaaNp3
import Derived.Test.YtljcbibcdajhiaaWwA
import Derived.Deep.QuietTactic
import Derived.BigQuiet
import Derived.Laws.BitsAllLaws
namespace Go.Proofs.Ytljcbibcdajhiaa
open Go.RowKit

theorem or_word (x b t : Nat) (hx : x < 2 ^ (8 * t)) (hb : b < 256) (ht : t ≤ 7) : bits .or .u64 (x : Int) (IntKind.u64.wrap ((b : Int) * 2 ^ (8 * t))) = ((x + b * 2 ^ (8 * t) : Nat) : Int) := by
  have h1 : b * 2 ^ (8 * t) < 18446744073709551616 := by
    have e : 2 ^ (8 * t) ≤ 2 ^ 56 := Nat.pow_le_pow_right (by decide) (by omega)
    calc b * 2 ^ (8 * t) ≤ 255 * 2 ^ 56 := Nat.mul_le_mul (by omega) e
      _ < 18446744073709551616 := by decide
  have h0 : x < 18446744073709551616 := by
    have e : 2 ^ (8 * t) ≤ 2 ^ 56 := Nat.pow_le_pow_right (by decide) (by omega)
    exact Nat.lt_of_lt_of_le hx (Nat.le_trans e (by decide))
  have h2 : ((b : Int) * 2 ^ (8 * t)) = ((b * 2 ^ (8 * t) : Nat) : Int) := by push_cast; rfl
  have h3 : IntKind.u64.wrap ((b * 2 ^ (8 * t) : Nat) : Int) = ((b * 2 ^ (8 * t) : Nat) : Int) := by
    generalize b * 2 ^ (8 * t) = z at h1
    show (z : Int) % 18446744073709551616 = z
    omega
  rw [h2, h3, u64_or _ _ (by omega) (by omega) (by omega) (by omega), Int.toNat_natCast, Int.toNat_natCast]
  congr 1
  rw [Nat.mul_comm, Nat.or_comm, ← Nat.two_pow_add_eq_or_of_lt hx, Nat.add_comm]

/-- A fault that is handed back in two new cells. -/
theorem ret_fault {f : Func} {tmps : Array Value} {W : World} {G : Nat} {i : Nat} {a b : Int} {R : Ending → World → Prop} (hf : f.results = #[.cell i 39]) (ht : tmps[i]?.getD undef = .pointer (some ⟨G, 0, none⟩))
    (q : St W G [.int .i64 a, .int .i64 b]) (hR : R (.returned (.agg #[.int .i64 a, .int .i64 b])) W) :
    bodyPost Try.prog f R .ret { tmps := tmps, defers := [] } W := by
  have q0 := q.get 0 _ rfl
  have q1 := q.get 1 _ rfl
  exact bodyPost_ret (v := .agg #[.int .i64 a, .int .i64 b]) (by simp [results, hf, go_sem, ht, q0, q1]) rfl hR

/-- On the way from w: the parser p, and block G for the fault that will be handed back. -/
structure TK (w W : World) (g B G : Nat) (fp fp' : List Nat) (p : PS) : Prop where
  pw : PW W g B p fp'
  ff : Ff g fp w W
  sub : ∀ x ∈ fp', x ∈ fp ∨ w.heap.size ≤ x
  gn : G ∉ fp'
  st : St W G [.int .i64 0, .int .i64 0]
  gl : w.heap.size ≤ G
  gg : G ≠ g
theorem TK.start {w : World} {g B : Nat} {fp : List Nat} {p : PS} (h : PW w g B p fp) : TK w (w.alloc (.cells #[.int .i64 0, .int .i64 0] 39)) g B w.heap.size fp fp p :=
  ⟨h.below ((Below.refl _ _).alloc (Nat.le_refl _) _), (Ff.refl _ _ _).alloc _, fun _ hx => Or.inl hx, fun hm => by have := (h.lt.2.2 _ hm).2; omega, St.new w _ _, Nat.le_refl _, by have := h.lt; omega⟩
theorem TK.drewN {w W : World} {g B G : Nat} {fp fp' : List Nat} {p : PS} (h : TK w W g B G fp fp' p) (q : Nat) : TK w (W.drewN q) g B G fp fp' p :=
  ⟨h.pw.drewN q, h.ff.drewN q, h.sub, h.gn, h.st.same (Nat.le_refl _) rfl, h.gl, h.gg⟩
theorem TK.step {w W W' : World} {g B G : Nat} {fp fp' : List Nat} {p p' : PS} (h : TK w W g B G fp fp' p) (k : PM W W' g B fp' p') : ∃ fp2, TK w W' g B G fp fp2 p' := by
  obtain ⟨fp2, h1, h2, h3⟩ := k
  refine ⟨fp2, h1, h.ff.trans h2 h.sub, fun x hx => ?_, fun hm => ?_, h.st.same h2.size (h2.keep G h.st.lt h.gg h.gn), h.gl, h.gg⟩
  · rcases h3 x hx with h4 | h4
    · exact h.sub x h4
    · exact Or.inr (Nat.le_trans h.ff.size h4)
  · rcases h3 G hm with h4 | h4
    · exact h.gn h4
    · have := h.st.lt; omega
theorem TK.cell {w W : World} {g B G : Nat} {fp fp' : List Nat} {p : PS} (h : TK w W g B G fp fp' p) (j : Nat) (x : Value) (p' : PS) (hj : j < 14) (e : ∀ tv ov rv, (p.cells tv ov rv).set j x = p'.cells tv ov rv) (et : p'.text = p.text) (eo : p'.c.op = p.c.op) (er : p'.c.root = p.c.root) : TK w (W.setCell ⟨g, j, none⟩ x) g B G fp fp' p' :=
  ⟨h.pw.cell j x p' hj e et eo er, h.ff.set g j x (Or.inl rfl), h.sub, h.gn, h.st.same (by rw [World.size_setCell]; exact Nat.le_refl _) (Below.heap_setCell W _ _ G h.gg), h.gl, h.gg⟩
theorem TK.fin {w W : World} {g B G : Nat} {fp fp' : List Nat} {p : PS} (h : TK w W g B G fp fp' p) (a b : Int) : St ((W.setCell ⟨G, 0, none⟩ (.int .i64 a)).setCell ⟨G, 1, none⟩ (.int .i64 b)) G [.int .i64 a, .int .i64 b] ∧ PM w ((W.setCell ⟨G, 0, none⟩ (.int .i64 a)).setCell ⟨G, 1, none⟩ (.int .i64 b)) g B fp p := by
  refine ⟨((h.st.set 0 _ (by show 0 < 2; decide)).set 1 _ (by show 1 < 2; decide)).cast rfl, fp', ?_, (h.ff.set G 0 _ (Or.inr (Or.inr h.gl))).set G 1 _ (Or.inr (Or.inr h.gl)), h.sub⟩
  refine h.pw.same (by simp only [World.size_setCell]; exact Nat.le_refl _) ?_ (fun b hb => ?_)
  · exact (Below.heap_setCell _ ⟨G, 1, none⟩ _ g (fun e => h.gg e.symm)).trans (Below.heap_setCell _ ⟨G, 0, none⟩ _ g (fun e => h.gg e.symm))
  · have hne : b ≠ G := fun e => h.gn (e ▸ hb)
    exact (Below.heap_setCell _ ⟨G, 1, none⟩ _ b hne).trans (Below.heap_setCell _ ⟨G, 0, none⟩ _ b hne)

/-- What holds of a parser that has no fault. -/
structure PI (p : PS) : Prop where
  tk : p.taken ≤ 1048576
  hd : p.held ≤ p.taken
  ln : p.held < 8 → p.len < 2 ^ (8 * p.held) ∧ p.text = []
  l8 : 8 ≤ p.held → p.len ≤ 1048576 ∧ p.text.length = min (p.held - 8) p.len ∧ p.held < 8 + p.len + padN p.len
  ci : CI p.c p.taken
theorem PI.ci' {p : PS} (h : PI p) : CI p.c 1048576 := ⟨h.ci.n0, h.ci.n1, h.ci.ne, h.ci.dp, fun o ho => ⟨Nat.le_trans (h.ci.ln o ho).1 h.tk, (h.ci.ln o ho).2⟩⟩
theorem nl_lt {p : PS} (h : p.len < 2 ^ (8 * p.held)) (b : UInt8) : p.nl b < 2 ^ (8 * (p.held + 1)) := by
  unfold PS.nl
  have hb := b.toNat_lt
  have e : 2 ^ (8 * (p.held + 1)) = 256 * 2 ^ (8 * p.held) := by rw [Nat.mul_add, Nat.pow_add]; omega
  rw [e]
  have : b.toNat * 2 ^ (8 * p.held) ≤ 255 * 2 ^ (8 * p.held) := Nat.mul_le_mul_right _ (by omega)
  omega
/-- A length that is not whole can't be the frame's. -/
theorem fr_ne {p : PS} (h : p.len < 72057594037927936) (h8 : p.held + 1 ≠ 8 + p.len + padN p.len) : (((p.held : Int) + 1) != fr (p.len : Int)) = true := by
  by_cases h1 : p.len ≤ 1099511627776
  · rw [fr_in _ h1]; simp; omega
  · rw [fr_out _ (by omega)]; simp; omega
theorem fr_eq {p : PS} (hl : p.len ≤ 1048576) (h8 : p.held + 1 = 8 + p.len + padN p.len) : (((p.held : Int) + 1) != fr (p.len : Int)) = false := by
  rw [fr_in _ (by omega)]; simp; omega
end Go.Proofs.Ytljcbibcdajhiaa

namespace Go.Proofs.Ytljcbibcdajhiaa
open Go.RowKit

theorem bh_range (a : Int) (s : ByteArray) : 0 ≤ (bhP a s).1 ∧ (bhP a s).1 ≤ 16 := by
  have key : ∀ (c : Prop) [Decidable c] (x y : Int × Bool), (0 ≤ x.1 ∧ x.1 ≤ 16) → (0 ≤ y.1 ∧ y.1 ≤ 16) → 0 ≤ (if c then x else y).1 ∧ (if c then x else y).1 ≤ 16 := fun c _ x y hx hy => by
    by_cases hc : c
    · rw [if_pos hc]; exact hx
    · rw [if_neg hc]; exact hy
  unfold bhP
  iterate 18 refine key _ _ _ (by decide) ?_
  decide
/-- A word that may stand there: where from, where to. -/
theorem bh_cases {a : Int} {s : ByteArray} (h : (bhP a s).2 = true) :
    (a = 0 ∧ s = wMagic ∧ (bhP a s).1 = 1) ∨ (a = 15 ∧ s = wNode ∧ (bhP a s).1 = 1) ∨ (a = 1 ∧ s = wOpen ∧ (bhP a s).1 = 2) ∨ (a = 2 ∧ s = wType ∧ (bhP a s).1 = 3) ∨
    (a = 3 ∧ s = wRegular ∧ (bhP a s).1 = 4) ∨ (a = 3 ∧ s = wSymlink ∧ (bhP a s).1 = 8) ∨ (a = 3 ∧ s = wDirectory ∧ (bhP a s).1 = 11) ∨ (a = 16 ∧ s = wClose ∧ (bhP a s).1 = 11) ∨
    (a = 4 ∧ s = wExec ∧ (bhP a s).1 = 5) ∨ (a = 5 ∧ s = wNone ∧ (bhP a s).1 = 6) ∨ (a = 4 ∧ s = wContents ∧ (bhP a s).1 = 7) ∨ (a = 6 ∧ s = wContents ∧ (bhP a s).1 = 7) ∨
    (a = 8 ∧ s = wTarget ∧ (bhP a s).1 = 9) ∨ (a = 10 ∧ s = wClose ∧ (bhP a s).1 = 16) ∨ (a = 11 ∧ s = wClose ∧ (bhP a s).1 = 16) ∨ (a = 11 ∧ s = wEntry ∧ (bhP a s).1 = 12) ∨
    (a = 12 ∧ s = wOpen ∧ (bhP a s).1 = 13) ∨ (a = 13 ∧ s = wName ∧ (bhP a s).1 = 14) := by
  have key : ∀ (c : Prop) [Decidable c] (n : Int) (y : Int × Bool), (if c then (n, true) else y).2 = true → (c ∧ (if c then (n, true) else y).1 = n) ∨ ((if c then (n, true) else y) = y ∧ y.2 = true) := fun c _ n y hh => by
    by_cases hc : c
    · exact Or.inl ⟨hc, by rw [if_pos hc]⟩
    · rw [if_neg hc] at hh ⊢; exact Or.inr ⟨rfl, hh⟩
  unfold bhP at h ⊢
  rcases key _ _ _ h with h1 | ⟨e, h⟩
  · exact Or.inl ⟨h1.1.1, h1.1.2, h1.2⟩
  rw [e]; clear e
  refine Or.inr ?_
  rcases key _ _ _ h with h1 | ⟨e, h⟩
  · exact Or.inl ⟨h1.1.1, h1.1.2, h1.2⟩
  rw [e]; clear e
  refine Or.inr ?_
  rcases key _ _ _ h with h1 | ⟨e, h⟩
  · exact Or.inl ⟨h1.1.1, h1.1.2, h1.2⟩
  rw [e]; clear e
  refine Or.inr ?_
  rcases key _ _ _ h with h1 | ⟨e, h⟩
  · exact Or.inl ⟨h1.1.1, h1.1.2, h1.2⟩
  rw [e]; clear e
  refine Or.inr ?_
  rcases key _ _ _ h with h1 | ⟨e, h⟩
  · exact Or.inl ⟨h1.1.1, h1.1.2, h1.2⟩
  rw [e]; clear e
  refine Or.inr ?_
  rcases key _ _ _ h with h1 | ⟨e, h⟩
  · exact Or.inl ⟨h1.1.1, h1.1.2, h1.2⟩
  rw [e]; clear e
  refine Or.inr ?_
  rcases key _ _ _ h with h1 | ⟨e, h⟩
  · exact Or.inl ⟨h1.1.1, h1.1.2, h1.2⟩
  rw [e]; clear e
  refine Or.inr ?_
  rcases key _ _ _ h with h1 | ⟨e, h⟩
  · exact Or.inl ⟨h1.1.1, h1.1.2, h1.2⟩
  rw [e]; clear e
  refine Or.inr ?_
  rcases key _ _ _ h with h1 | ⟨e, h⟩
  · exact Or.inl ⟨h1.1.1, h1.1.2, h1.2⟩
  rw [e]; clear e
  refine Or.inr ?_
  rcases key _ _ _ h with h1 | ⟨e, h⟩
  · exact Or.inl ⟨h1.1.1, h1.1.2, h1.2⟩
  rw [e]; clear e
  refine Or.inr ?_
  rcases key _ _ _ h with h1 | ⟨e, h⟩
  · exact Or.inl ⟨h1.1.1, h1.1.2, h1.2⟩
  rw [e]; clear e
  refine Or.inr ?_
  rcases key _ _ _ h with h1 | ⟨e, h⟩
  · exact Or.inl ⟨h1.1.1, h1.1.2, h1.2⟩
  rw [e]; clear e
  refine Or.inr ?_
  rcases key _ _ _ h with h1 | ⟨e, h⟩
  · exact Or.inl ⟨h1.1.1, h1.1.2, h1.2⟩
  rw [e]; clear e
  refine Or.inr ?_
  rcases key _ _ _ h with h1 | ⟨e, h⟩
  · exact Or.inl ⟨h1.1.1, h1.1.2, h1.2⟩
  rw [e]; clear e
  refine Or.inr ?_
  rcases key _ _ _ h with h1 | ⟨e, h⟩
  · exact Or.inl ⟨h1.1.1, h1.1.2, h1.2⟩
  rw [e]; clear e
  refine Or.inr ?_
  rcases key _ _ _ h with h1 | ⟨e, h⟩
  · exact Or.inl ⟨h1.1.1, h1.1.2, h1.2⟩
  rw [e]; clear e
  refine Or.inr ?_
  rcases key _ _ _ h with h1 | ⟨e, h⟩
  · exact Or.inl ⟨h1.1.1, h1.1.2, h1.2⟩
  rw [e]; clear e
  refine Or.inr ?_
  rcases key _ _ _ h with h1 | ⟨e, h⟩
  · exact ⟨h1.1.1, h1.1.2, h1.2⟩
  · cases h

theorem CI.last {c : PC} {n : Nat} (h : CI c n) (f : ON → ON) (hf : ∀ o, (f o).nms = o.nms ∧ (f o).ks = o.ks) (k : Int) (k0 : 0 ≤ k) (k1 : k ≤ 17) (hne : c.op ≠ []) : CI ((c.last f).to k) (n + 1) := by
  unfold PC.last
  cases ho : c.op with
  | nil => exact absurd ho hne
  | cons o R =>
    refine ⟨k0, k1, fun _ _ _ => by simp [PC.to], ?_, fun x hx => ?_⟩
    · have := h.dp; rw [ho] at this; exact this
    · change x ∈ f o :: R at hx
      rcases List.mem_cons.1 hx with rfl | hx
      · have := h.ln o (by rw [ho]; simp)
        rw [(hf o).1, (hf o).2]
        exact ⟨by omega, this.2⟩
      · have := h.ln x (by rw [ho]; simp [hx])
        exact ⟨by omega, this.2⟩
theorem CI.accept {c : PC} {n : Nat} (h : CI c n) (s : ByteArray) (h0 : (c.accept s).1 = 0) : CI (c.accept s).2 (n + 1) := by
  unfold PC.accept at h0 ⊢
  by_cases h7 : c.next = 7
  · rw [if_pos h7]
    show CI ((c.last _).to _) (n + 1)
    refine h.last _ ?_ 10 (by decide) (by decide) (h.ne (by omega) (by omega) (by omega))
    exact fun o => ⟨rfl, rfl⟩
  rw [if_neg h7] at h0 ⊢
  by_cases h9 : c.next = 9
  · rw [if_pos h9] at h0 ⊢
    by_cases ht : tgt s ≠ 0
    · rw [if_pos ht] at h0; exact absurd h0 ht
    · rw [if_neg ht]
      show CI ((c.last _).to _) (n + 1)
      refine h.last _ ?_ 10 (by decide) (by decide) (h.ne (by omega) (by omega) (by omega))
      exact fun o => ⟨rfl, rfl⟩
  rw [if_neg h9] at h0 ⊢
  by_cases h14 : c.next = 14
  · rw [if_pos h14] at h0 ⊢
    have hne := h.ne (by omega) (by omega) (by omega)
    cases ho : c.op with
    | nil => exact absurd ho hne
    | cons o R =>
      rw [ho] at h0
      dsimp only at h0 ⊢
      by_cases hc : ceP o.nms.getLast? s ≠ 0
      · rw [if_pos hc] at h0; exact absurd h0 hc
      · rw [if_neg hc]
        show CI ((c.last _).to _) (n + 1)
        refine h.last _ ?_ 15 (by decide) (by decide) hne
        exact fun o => ⟨rfl, rfl⟩
  rw [if_neg h14] at h0 ⊢
  unfold PC.fixed at h0 ⊢
  by_cases hb : (bhP c.next s).2 = false
  · rw [if_pos hb] at h0; cases h0
  rw [if_neg hb] at h0 ⊢
  have hb' : (bhP c.next s).2 = true := by cases hh : (bhP c.next s).2; exact absurd hh hb; rfl
  have hr := bh_range c.next s
  by_cases h1 : c.next = 1 ∧ c.op.length = 32
  · rw [if_pos h1] at h0; cases h0
  rw [if_neg h1] at h0 ⊢
  by_cases h2 : c.next = 1
  · rw [if_pos h2]
    have hd := h.dp
    refine ⟨hr.1, by show (bhP c.next s).1 ≤ 17; omega, fun _ _ _ => by simp, by show (ON.new :: c.op).length ≤ 32; simp; omega, fun x hx => ?_⟩
    rcases List.mem_cons.1 hx with rfl | hx
    · exact ⟨by show 0 ≤ _; omega, rfl⟩
    · have := h.ln x hx
      exact ⟨by omega, this.2⟩
  rw [if_neg h2] at h0 ⊢
  by_cases h3 : c.next = 3
  · rw [if_pos h3]
    show CI ((c.last _).to _) (n + 1)
    refine h.last _ ?_ _ hr.1 (by omega) (h.ne (by omega) (by omega) (by omega))
    exact fun o => ⟨rfl, rfl⟩
  rw [if_neg h3] at h0 ⊢
  by_cases h4 : s = wExec
  · rw [if_pos h4]
    have hn4 := bh_exec (a := c.next) (by rw [← h4]; exact hb')
    show CI ((c.last _).to _) (n + 1)
    refine h.last _ ?_ _ hr.1 (by omega) (h.ne (by omega) (by omega) (by omega))
    exact fun o => ⟨rfl, rfl⟩
  rw [if_neg h4] at h0 ⊢
  by_cases h5 : (bhP c.next s).1 = 16
  · rw [if_pos h5]
    have hn := bh_end h5
    have hne := h.ne (by omega) (by omega) (by omega)
    show CI c.close (n + 1)
    unfold PC.close
    match ho : c.op with
    | [] => exact absurd ho hne
    | [o] => exact ⟨show (0 : Int) ≤ 17 by decide, show (17 : Int) ≤ 17 by decide, fun _ _ h => absurd rfl h, show 0 ≤ 32 by decide, fun x hx => by cases hx⟩
    | o :: hh :: R =>
      have hd := h.dp
      rw [ho] at hd
      refine ⟨show (0 : Int) ≤ 16 by decide, show (16 : Int) ≤ 17 by decide, fun _ _ _ => by simp, by simp at hd ⊢; omega, fun x hx => ?_⟩
      rcases List.mem_cons.1 hx with rfl | hx
      · have := h.ln hh (by rw [ho]; simp)
        unfold ON.kid
        simp
        omega
      · have := h.ln x (by rw [ho]; simp [hx])
        exact ⟨by omega, this.2⟩
  · rw [if_neg h5]
    refine ⟨hr.1, by show (bhP c.next s).1 ≤ 17; omega, fun k0 k1 k17 => ?_, h.dp, fun x hx => ⟨by have := h.ln x hx; omega, (h.ln x hx).2⟩⟩
    change (bhP c.next s).1 ≠ 0 at k0
    change (bhP c.next s).1 ≠ 1 at k1
    show c.op ≠ []
    rcases bh_cases hb' with hh | hh | hh | hh | hh | hh | hh | hh | hh | hh | hh | hh | hh | hh | hh | hh | hh | hh
    · exact absurd hh.2.2 k1
    all_goals exact h.ne (by omega) (by omega) (by omega)

theorem CI.mono {c : PC} {n m : Nat} (h : CI c n) (hm : n ≤ m) : CI c m := ⟨h.n0, h.n1, h.ne, h.dp, fun o ho => ⟨Nat.le_trans (h.ln o ho).1 hm, (h.ln o ho).2⟩⟩
theorem PI.new (part : Bool) : PI (PS.new part) := by
  cases part <;> exact ⟨by decide, by decide, fun _ => ⟨by decide, rfl⟩, fun h => absurd h (by decide), ⟨by decide, by decide, fun h => absurd rfl h, by decide, fun o ho => by cases ho⟩⟩

/-- A byte that was put, with no fault, is whole or not. -/
theorem PI.ends {p q : PS} (hI : PI p) (htk : p.taken < 1048576) (hq : q.taken = p.taken ∧ q.held = p.held ∧ q.c = p.c)
    (h1 : p.held < 7 → q.len < 2 ^ (8 * (p.held + 1)) ∧ q.text = []) (h2 : 7 ≤ p.held → q.len ≤ 1048576 ∧ q.text.length = min (p.held + 1 - 8) q.len ∧ p.held < 8 + q.len + padN q.len)
    (h0 : q.ends.1.1 = 0) : PI ((q.ends.2.sf 0 0).sk (p.taken + 1)) := by
  have hhd := hI.hd
  unfold PS.ends at h0 ⊢
  by_cases he : q.held + 1 ≠ 8 + q.len + padN q.len
  · rw [if_pos he]
    rw [hq.2.1] at he
    refine ⟨by show p.taken + 1 ≤ _; omega, by show q.held + 1 ≤ p.taken + 1; rw [hq.2.1]; omega, fun h8 => ?_, fun h8 => ?_, ?_⟩
    · change q.held + 1 < 8 at h8
      show q.len < 2 ^ (8 * (q.held + 1)) ∧ q.text = []
      rw [hq.2.1] at h8 ⊢
      exact h1 (by omega)
    · change 8 ≤ q.held + 1 at h8
      show q.len ≤ 1048576 ∧ q.text.length = min (q.held + 1 - 8) q.len ∧ q.held + 1 < 8 + q.len + padN q.len
      rw [hq.2.1] at h8 ⊢
      have := h2 (by omega)
      exact ⟨this.1, this.2.1, by omega⟩
    · show CI q.c (p.taken + 1)
      rw [hq.2.2]
      exact hI.ci.mono (by omega)
  · rw [if_neg he] at h0 ⊢
    by_cases ha : (q.c.accept (NB.ba q.text)).1 ≠ 0
    · rw [if_pos ha] at h0; exact absurd h0 ha
    · rw [if_neg ha]
      refine ⟨by show p.taken + 1 ≤ _; omega, by show 0 ≤ p.taken + 1; omega, fun _ => ⟨by show 0 < 2 ^ (8 * 0); decide, rfl⟩, fun h8 => ?_, ?_⟩
      · change 8 ≤ 0 at h8
        omega
      · show CI (q.c.accept (NB.ba q.text)).2 (p.taken + 1)
        have := hI.ci.accept (NB.ba q.text) (by rw [← hq.2.2]; omega)
        rw [← hq.2.2] at this
        exact this
theorem PI.take {p : PS} (hI : PI p) (b : UInt8) (h0 : (p.take b).1.1 = 0) : PI (((p.take b).2.sf 0 0).sk (p.taken + 1)) := by
  have hhd := hI.hd
  have htk := hI.tk
  unfold PS.take at h0 ⊢
  by_cases h17 : p.c.next = 17
  · rw [if_pos h17] at h0; cases h0
  rw [if_neg h17] at h0 ⊢
  by_cases hbg : p.taken = 1048576
  · rw [if_pos hbg] at h0; cases h0
  rw [if_neg hbg] at h0 ⊢
  by_cases hp : (p.put b).1.1 ≠ 0
  · rw [if_pos hp] at h0; exact absurd h0 hp
  rw [if_neg hp] at h0 ⊢
  unfold PS.put at h0 hp ⊢
  by_cases h8 : p.held < 8
  · rw [if_pos h8] at h0 hp ⊢
    have hnl := nl_lt (hI.ln h8).1 b
    by_cases h7 : p.held = 7 ∧ 1048576 < p.nl b
    · rw [if_pos h7] at hp; exact absurd (by show (6 : Int) ≠ 0; decide) hp
    · rw [if_neg h7] at h0 ⊢
      refine hI.ends (by omega) ⟨rfl, rfl, rfl⟩ (fun h => ⟨hnl, (hI.ln h8).2⟩) (fun h => ?_) h0
      have h77 : p.held = 7 := by omega
      have hl : p.nl b ≤ 1048576 := by
        by_cases hh : 1048576 < p.nl b
        · exact absurd ⟨h77, hh⟩ h7
        · omega
      refine ⟨hl, ?_, by show p.held < 8 + p.nl b + padN (p.nl b); omega⟩
      show p.text.length = min (p.held + 1 - 8) (p.nl b)
      rw [(hI.ln h8).2, h77]
      simp
  · rw [if_neg h8] at h0 hp ⊢
    obtain ⟨k1, k2, k3⟩ := hI.l8 (by omega)
    by_cases hlt : p.text.length < p.len
    · rw [if_pos hlt] at h0 ⊢
      refine hI.ends (by omega) ⟨rfl, rfl, rfl⟩ (fun h => by omega) (fun _ => ⟨k1, ?_, k3⟩) h0
      show (p.text ++ [b]).length = min (p.held + 1 - 8) p.len
      rw [List.length_append]
      show p.text.length + 1 = _
      omega
    · rw [if_neg hlt] at h0 hp ⊢
      by_cases hb : b ≠ 0
      · rw [if_pos hb] at hp; exact absurd (by show (7 : Int) ≠ 0; decide) hp
      · rw [if_neg hb] at h0 ⊢
        refine hI.ends (by omega) ⟨rfl, rfl, rfl⟩ (fun h => by omega) (fun _ => ⟨k1, ?_, k3⟩) h0
        show p.text.length = min (p.held + 1 - 8) p.len
        omega

/-- What a byte leaves alone. -/
theorem PS.take_keep (p : PS) (b : UInt8) : (p.take b).2.taken = p.taken ∧ (p.take b).2.part = p.part ∧ (p.take b).2.closed = p.closed ∧ (p.take b).2.code = p.code := by
  have hends : ∀ q : PS, q.ends.2.taken = q.taken ∧ q.ends.2.part = q.part ∧ q.ends.2.closed = q.closed ∧ q.ends.2.code = q.code := fun q => by
    unfold PS.ends
    by_cases he : q.held + 1 ≠ 8 + q.len + padN q.len
    · rw [if_pos he]; exact ⟨rfl, rfl, rfl, rfl⟩
    · rw [if_neg he]
      by_cases ha : (q.c.accept (NB.ba q.text)).1 ≠ 0
      · rw [if_pos ha]; exact ⟨rfl, rfl, rfl, rfl⟩
      · rw [if_neg ha]; exact ⟨rfl, rfl, rfl, rfl⟩
  have hput : (p.put b).2.taken = p.taken ∧ (p.put b).2.part = p.part ∧ (p.put b).2.closed = p.closed ∧ (p.put b).2.code = p.code := by
    unfold PS.put
    by_cases h8 : p.held < 8
    · rw [if_pos h8]
      by_cases h7 : p.held = 7 ∧ 1048576 < p.nl b
      · rw [if_pos h7]; exact ⟨rfl, rfl, rfl, rfl⟩
      · rw [if_neg h7]; exact ⟨rfl, rfl, rfl, rfl⟩
    · rw [if_neg h8]
      by_cases hlt : p.text.length < p.len
      · rw [if_pos hlt]; exact ⟨rfl, rfl, rfl, rfl⟩
      · rw [if_neg hlt]
        by_cases hb : b ≠ 0
        · rw [if_pos hb]; exact ⟨rfl, rfl, rfl, rfl⟩
        · rw [if_neg hb]; exact ⟨rfl, rfl, rfl, rfl⟩
  unfold PS.take
  by_cases h17 : p.c.next = 17
  · rw [if_pos h17]; exact ⟨rfl, rfl, rfl, rfl⟩
  rw [if_neg h17]
  by_cases hbg : p.taken = 1048576
  · rw [if_pos hbg]; exact ⟨rfl, rfl, rfl, rfl⟩
  rw [if_neg hbg]
  by_cases hp : (p.put b).1.1 ≠ 0
  · rw [if_pos hp]; exact hput
  · rw [if_neg hp]
    obtain ⟨a1, a2, a3, a4⟩ := hends (p.put b).2
    exact ⟨a1.trans hput.1, a2.trans hput.2.1, a3.trans hput.2.2.1, a4.trans hput.2.2.2⟩
/-- A byte with no fault tells no place. -/
theorem PS.take_zero (p : PS) (b : UInt8) (h0 : (p.take b).1.1 = 0) : (p.take b).1.2 = 0 := by
  have hends : ∀ q : PS, q.ends.1.1 = 0 → q.ends.1.2 = 0 := fun q h => by
    unfold PS.ends at h ⊢
    by_cases he : q.held + 1 ≠ 8 + q.len + padN q.len
    · rw [if_pos he]
    · rw [if_neg he] at h ⊢
      by_cases ha : (q.c.accept (NB.ba q.text)).1 ≠ 0
      · rw [if_pos ha] at h; exact absurd h ha
      · rw [if_neg ha]
  unfold PS.take at h0 ⊢
  by_cases h17 : p.c.next = 17
  · rw [if_pos h17] at h0; cases h0
  rw [if_neg h17] at h0 ⊢
  by_cases hbg : p.taken = 1048576
  · rw [if_pos hbg] at h0; cases h0
  rw [if_neg hbg] at h0 ⊢
  by_cases hp : (p.put b).1.1 ≠ 0
  · rw [if_pos hp] at h0; exact absurd h0 hp
  · rw [if_neg hp] at h0 ⊢
    exact hends _ h0
theorem PS.step_bad {p : PS} {b : UInt8} (h : (p.take b).1.1 ≠ 0) : p.step b = (p.take b).2.sf (p.take b).1.1 (p.take b).1.2 := if_pos h
theorem PS.step_ok {p : PS} {b : UInt8} (h : (p.take b).1.1 = 0) : p.step b = ((p.take b).2.sf 0 0).sk (p.taken + 1) := if_neg (by rw [h]; decide)
theorem PI.step {p : PS} (hI : PI p) (b : UInt8) (h : (p.step b).code = 0) : PI (p.step b) ∧ (p.step b).taken = p.taken + 1 := by
  by_cases h0 : (p.take b).1.1 = 0
  · rw [PS.step_ok h0]
    exact ⟨hI.take b h0, rfl⟩
  · rw [PS.step_bad h0] at h
    exact absurd h h0
end Go.Proofs.Ytljcbibcdajhiaa

namespace Go.Proofs.Ytljcbibcdajhiaa
open Go.RowKit

/-- The lists of kids below are short. -/
structure RI (c : PC) : Prop where
  rt : lnT c.root
  ks : ∀ o ∈ c.op, lnL o.ks
theorem lnL_snoc : ∀ (ks : List Tr) (T : Tr), lnL ks → lnT T → lnL (ks ++ [T])
  | [], T, _, h => by
    show lnL [T]
    rw [lnL]
    exact ⟨h, by rw [lnL]; trivial⟩
  | K :: ks, T, h, h2 => by
    rw [lnL] at h
    show lnL (K :: (ks ++ [T]))
    rw [lnL]
    exact ⟨h.1, lnL_snoc ks T h.2 h2⟩
theorem RI.last {c : PC} (h : RI c) (f : ON → ON) (hf : ∀ o, (f o).ks = o.ks) (k : Int) : RI ((c.last f).to k) := by
  unfold PC.last
  cases ho : c.op with
  | nil => exact ⟨h.rt, fun o hx => by change o ∈ c.op at hx; rw [ho] at hx; cases hx⟩
  | cons o R =>
    refine ⟨h.rt, fun x hx => ?_⟩
    change x ∈ f o :: R at hx
    rcases List.mem_cons.1 hx with rfl | hx
    · rw [hf o]; exact h.ks o (by rw [ho]; simp)
    · exact h.ks x (by rw [ho]; simp [hx])
theorem RI.close {c : PC} {n : Nat} (h : RI c) (hI : CI c n) (hn : n ≤ 1048576) : RI c.close := by
  have htr : ∀ o ∈ c.op, lnT o.tr := fun o ho => by
    unfold ON.tr
    rw [lnT]
    exact ⟨by have := (hI.ln o ho).1; omega, h.ks o ho⟩
  unfold PC.close
  match ho : c.op with
  | [] => exact h
  | [o] => exact ⟨htr o (by rw [ho]; simp), fun x hx => by cases hx⟩
  | o :: hh :: R =>
    refine ⟨h.rt, fun x hx => ?_⟩
    rcases List.mem_cons.1 hx with rfl | hx
    · exact lnL_snoc _ _ (h.ks hh (by rw [ho]; simp)) (htr o (by rw [ho]; simp))
    · exact h.ks x (by rw [ho]; simp [hx])
theorem RI.accept {c : PC} {n : Nat} (h : RI c) (hI : CI c n) (hn : n ≤ 1048576) (s : ByteArray) : RI (c.accept s).2 := by
  unfold PC.accept
  by_cases h7 : c.next = 7
  · rw [if_pos h7]; show RI ((c.last _).to _); refine h.last _ ?_ _; exact fun _ => rfl
  rw [if_neg h7]
  by_cases h9 : c.next = 9
  · rw [if_pos h9]
    by_cases ht : tgt s ≠ 0
    · rw [if_pos ht]; exact h
    · rw [if_neg ht]; show RI ((c.last _).to _); refine h.last _ ?_ _; exact fun _ => rfl
  rw [if_neg h9]
  by_cases h14 : c.next = 14
  · rw [if_pos h14]
    cases ho : c.op with
    | nil => exact h
    | cons o R =>
      dsimp only
      by_cases hc : ceP o.nms.getLast? s ≠ 0
      · rw [if_pos hc]; exact h
      · rw [if_neg hc]; show RI ((c.last _).to _); refine h.last _ ?_ _; exact fun _ => rfl
  rw [if_neg h14]
  unfold PC.fixed
  by_cases hb : (bhP c.next s).2 = false
  · rw [if_pos hb]; exact h
  rw [if_neg hb]
  by_cases h1 : c.next = 1 ∧ c.op.length = 32
  · rw [if_pos h1]; exact h
  rw [if_neg h1]
  by_cases h2 : c.next = 1
  · rw [if_pos h2]
    refine ⟨h.rt, fun x hx => ?_⟩
    rcases List.mem_cons.1 hx with rfl | hx
    · show lnL []
      rw [lnL]; trivial
    · exact h.ks x hx
  rw [if_neg h2]
  by_cases h3 : c.next = 3
  · rw [if_pos h3]; show RI ((c.last _).to _); refine h.last _ ?_ _; exact fun _ => rfl
  rw [if_neg h3]
  by_cases h4 : s = wExec
  · rw [if_pos h4]; show RI ((c.last _).to _); refine h.last _ ?_ _; exact fun _ => rfl
  rw [if_neg h4]
  by_cases h5 : (bhP c.next s).1 = 16
  · rw [if_pos h5]; exact h.close hI hn
  · rw [if_neg h5]; exact ⟨h.rt, h.ks⟩
theorem RI.take {p : PS} (h : RI p.c) (hI : PI p) (b : UInt8) : RI (p.take b).2.c := by
  have hput : (p.put b).2.c = p.c := by
    unfold PS.put
    by_cases h8 : p.held < 8
    · rw [if_pos h8]
      by_cases h7 : p.held = 7 ∧ 1048576 < p.nl b
      · rw [if_pos h7]; rfl
      · rw [if_neg h7]; rfl
    · rw [if_neg h8]
      by_cases hlt : p.text.length < p.len
      · rw [if_pos hlt]; rfl
      · rw [if_neg hlt]
        by_cases hb : b ≠ 0
        · rw [if_pos hb]
        · rw [if_neg hb]
  unfold PS.take
  by_cases h17 : p.c.next = 17
  · rw [if_pos h17]; exact h
  rw [if_neg h17]
  by_cases hbg : p.taken = 1048576
  · rw [if_pos hbg]; exact h
  rw [if_neg hbg]
  by_cases hp : (p.put b).1.1 ≠ 0
  · rw [if_pos hp, hput]; exact h
  · rw [if_neg hp]
    unfold PS.ends
    have ha : RI ((p.put b).2.c.accept (NB.ba (p.put b).2.text)).2 := by rw [hput]; exact h.accept hI.ci hI.tk _
    by_cases he : (p.put b).2.held + 1 ≠ 8 + (p.put b).2.len + padN (p.put b).2.len
    · rw [if_pos he]; show RI (p.put b).2.c; rw [hput]; exact h
    · rw [if_neg he]
      by_cases hc : ((p.put b).2.c.accept (NB.ba (p.put b).2.text)).1 ≠ 0
      · rw [if_pos hc]; exact ha
      · rw [if_neg hc]; exact ha
theorem RI.step {p : PS} (h : RI p.c) (hI : PI p) (b : UInt8) : RI (p.step b).c := by
  have := h.take hI b
  unfold PS.step
  by_cases h0 : (p.take b).1.1 ≠ 0
  · rw [if_pos h0]; exact this
  · rw [if_neg h0]; exact this
/-- What holds behind any bytes. -/
theorem run_inv : ∀ (l : List UInt8) (p : PS), PI p → RI p.c → p.code = 0 → ((p.run l).code = 0 → PI (p.run l)) ∧ RI (p.run l).c ∧ p.taken ≤ (p.run l).taken ∧ (p.run l).taken ≤ p.taken + l.length
  | [], p, hI, hR, hc => ⟨fun _ => hI, hR, Nat.le_refl _, Nat.le_refl _⟩
  | b :: l, p, hI, hR, hc => by
    show ((if p.part = true ∧ p.c.next = 17 then p else if (p.step b).code ≠ 0 then p.step b else (p.step b).run l).code = 0 → PI (if p.part = true ∧ p.c.next = 17 then p else if (p.step b).code ≠ 0 then p.step b else (p.step b).run l)) ∧ RI (if p.part = true ∧ p.c.next = 17 then p else if (p.step b).code ≠ 0 then p.step b else (p.step b).run l).c ∧ p.taken ≤ (if p.part = true ∧ p.c.next = 17 then p else if (p.step b).code ≠ 0 then p.step b else (p.step b).run l).taken ∧ (if p.part = true ∧ p.c.next = 17 then p else if (p.step b).code ≠ 0 then p.step b else (p.step b).run l).taken ≤ p.taken + (l.length + 1)
    by_cases h1 : p.part = true ∧ p.c.next = 17
    · rw [if_pos h1]; exact ⟨fun _ => hI, hR, Nat.le_refl _, by omega⟩
    rw [if_neg h1]
    by_cases h2 : (p.step b).code ≠ 0
    · rw [if_pos h2]
      have ht : (p.step b).taken = p.taken := by
        by_cases h0 : (p.take b).1.1 = 0
        · rw [PS.step_ok h0] at h2; exact absurd rfl h2
        · rw [PS.step_bad h0]; exact (p.take_keep b).1
      exact ⟨fun h => absurd h h2, hR.step hI b, by omega, by omega⟩
    · rw [if_neg h2]
      have h2' : (p.step b).code = 0 := by omega
      have h3 := hI.step b h2'
      obtain ⟨a1, a2, a3, a4⟩ := run_inv l (p.step b) h3.1 (hR.step hI b) h2'
      exact ⟨a1, a2, by omega, by omega⟩
theorem RI.new : RI PC.new := ⟨by show lnT (.mk 0 false ⟨#[]⟩ [] []); rw [lnT]; exact ⟨by simp, by rw [lnL]; trivial⟩, fun o ho => by cases ho⟩
end Go.Proofs.Ytljcbibcdajhiaa
