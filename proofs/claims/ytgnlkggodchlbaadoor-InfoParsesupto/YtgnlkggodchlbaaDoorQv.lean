/- Gathered: ItK ItL ItM. -/
import Derived.Test.YtgnlkggodchlbaaDoorQl
import Derived.Test.YtgnlkggodchlbaaDoorQo
import Derived.Test.YtgnlkggodchlbaaDoorQu
/- The document's take at any line: one theorem. -/
namespace Go.Proofs.YtgnlkggodchlbaaDoor
open Go.RowKit Go.Shelf

/-- What take leaves. -/
def TkP (n : Nat) (s : IS) (l : ByteArray) (b0 : Nat) (w : World) (e : Ending) (w' : World) : Prop :=
  (∃ s' x1 n1 c1 x2 n2 c2, e = .returned (.tuple #[.agg (infC s'.P s'.D s'.z (.slice x1 n1 c1) s'.F (.slice x2 n2 c2)), .int .i64 (tkC s n l)]) ∧ (tkC s n l = 0 → s' = tkS s n l ∧ ∃ B', TQ w' (n + 1) s' (.slice x1 n1 c1) (.slice x2 n2 c2) B' b0)) ∧ Below b0 w w'
theorem TQ.early {w w' : World} {n : Nat} {s s' : IS} {vr vs : Value} {B b0 : Nat} (h : TQ w n s vr vs B b0) (hn : n ≤ 2) (b : Below w.heap.size w w') (hR : s'.R = s.R) (hS : s'.S = s.S) : TQ w' (n + 1) s' vr vs w'.heap.size b0 := by
  obtain ⟨r1, r2⟩ := h.e1 (by omega)
  obtain ⟨q1, q2⟩ := h.e2 (by omega)
  have hs := b.size
  have h1 := h.hb
  have h2 := h.hB
  exact ⟨Or.inl ⟨r1, by rw [hR, r2]⟩, fun k hk => (by rw [r1] at hk; cases hk), by rw [q1, hS, q2]; exact OwnS.nil _ _, by omega, Nat.le_refl _, fun _ => ⟨r1, by rw [hR, r2]⟩, fun _ => ⟨q1, by rw [hS, q2]⟩⟩
theorem tk_sign {s : IS} {n : Nat} {l : ByteArray} (h4 : 4 ≤ n) (hf : ¬ (n = 4 ∧ hpQ l hdF = true)) : tkC s n l = rsC s.S l ∧ tkS s n l = { s with S := s.S ++ [rsS l] } := by
  unfold tkC tkS
  rw [if_neg (by omega), if_neg (by omega), if_neg (by omega), if_neg (by omega), if_neg hf, if_neg (by omega), if_neg (by omega), if_neg (by omega), if_neg (by omega), if_neg hf]
  exact ⟨rfl, rfl⟩

theorem rtake_sign (n : Nat) (s : IS) (l : ByteArray) (vr vs : Value) (B b0 : Nat) (w : World) (h : TQ w n s vr vs B b0) (hl : l.size ≤ 1048576) (hS : s.S.length ≤ 8796093022000) (hn : n ≤ 1099511627776) (h4 : 4 ≤ n) (hf : ¬ (n = 4 ∧ hpQ l hdF = true)) :
    Calls Tryd.prog 31 #[.agg (infC s.P s.D s.z vr s.F vs), .int .i64 n, .string l] w (TkP n s l b0 w) := by
  obtain ⟨xr, cr, rfl, hcr, SR⟩ := h.refs.shape
  obtain ⟨xs, cz, rfl, hcz, SS⟩ := h.signs.shape
  obtain ⟨eC, eS⟩ := tk_sign (s := s) h4 hf
  have hb1 := h.hb
  have hb2 := h.hB
  have hF : hpQ l hdF = false ∨ (hpQ l hdF = true ∧ ((n : Int) == 4) = false) := by
    cases q : hpQ l hdF
    · exact Or.inl rfl
    · exact Or.inr ⟨rfl, by rw [beq_eq_false_iff_ne]; exact fun c => hf ⟨by omega, q⟩⟩
  have C0 := fun W => rbeh_any l hdF W
  have C1 := fun W => rbeh_any l hdS W
  have good : ∀ (e : Ending) (w' : World), rsC s.S l = 0 → ((∃ y m k, e = .returned (.tuple #[.agg (infC s.P s.D s.z (.slice xr s.R.length cr) s.F (.slice y m k)), .int .i64 0]) ∧ OwnS w' B (.slice y m k) (s.S ++ [rsS l])) ∧ ∃ wm, w.grownBy wm (Value.slice xs s.S.length cz).ownBlock ∧ wm.heap.size = w'.heap.size ∧ w'.os = wm.os ∧ w'.tape = wm.tape ∧ w'.output = wm.output ∧ ∀ i, i < w.heap.size → w'.heap[i]? = wm.heap[i]?) → TkP n s l b0 w e w' := by
    rintro e w' hc ⟨⟨y, m, k, rfl, O⟩, wm, G, z1, z2, z3, z4, z5⟩
    have hge : ∀ j, (Value.slice xs s.S.length cz).ownBlock = some j → B ≤ j := fun j hj => (h.signs.ge hj).1
    have same : ∀ i, i < B → w'.heap[i]? = w.heap[i]? := fun i hi => (z5 i (by omega)).trans (G.block i (by omega) (fun c => by have := hge i c.symm; omega))
    refine ⟨⟨{ s with S := s.S ++ [rsS l] }, _, _, _, _, _, _, by rw [eC, hc], fun _ => ⟨eS.symm, B, ?_⟩⟩, z2.trans G.os, z3.trans G.tape, z4.trans G.output, by rw [← z1]; exact G.size, fun i hi => same i (by omega)⟩
    exact ⟨h.refs.same (fun g hg => same g (h.rb g hg)), h.rb, O, hb1, by rw [← z1]; have := G.size; omega, fun c => by omega, fun c => by omega⟩
  have bad : ∀ (e : Ending) (w' : World), rsC s.S l ≠ 0 → ((∃ y m k, e = .returned (.tuple #[.agg (infC s.P s.D s.z (.slice xr s.R.length cr) s.F (.slice y m k)), .int .i64 (rsC s.S l)])) ∧ Below w.heap.size w w') → TkP n s l b0 w e w' := by
    rintro e w' hc ⟨⟨y, m, k, rfl⟩, b⟩
    exact ⟨⟨s, _, _, _, _, _, _, by rw [eC], fun c => by rw [eC] at c; exact absurd c hc⟩, b.mono (by omega)⟩
  cases hp : hpQ l hdS
  · have e0 : rsC s.S l = 150 := by unfold rsC; rw [hp]; rfl
    rw [hp, bhS_no hp] at C1
    refine (rtS_none n s.P s.D s.z xr s.R.length cr s.F xs s.S.length cz s.S B l (bhS l hdF) (hpQ l hdF) w h4 hn rfl h.signs hb2 hS hF C0 C1).mono ?_
    rintro e w' hh
    exact bad e w' (by rw [e0]; decide) (by rw [e0]; exact hh)
  · have eN : rsC s.S l = nxC (Sq.nth s.S) s.S.length (rsS l) := by unfold rsC; rw [hp]; rfl
    have hss := rsS_size l
    rw [hp, bhS_yes hp] at C1
    have C2 := fun W => rspS_any (rsS l) W (by omega)
    rcases snC_is (rsS l) with h0 | h0
    · by_cases hz : s.S.length = 0
      · have hx : rsC s.S l = 0 := by rw [eN]; exact nxC_yes h0 (fun c => absurd c (by omega))
        refine (rtS_first n s.P s.D s.z xr s.R.length cr s.F xs s.S.length cz s.S B l (rsS l) (bhS l hdF) _ (hpQ l hdF) _ _ w h4 hn rfl h.signs hb2 hS hF C0 C1 C2 hz h0).mono ?_
        exact fun e w' hh => good e w' hx hh
      · obtain ⟨m, hm⟩ : ∃ m, s.S.length = m + 1 := ⟨s.S.length - 1, by omega⟩
        obtain ⟨ad, had, _⟩ := SS m (by omega)
        cases h2 : Op.bytesLess (Sq.nth s.S m).toList (rsS l).toList
        · have hx : rsC s.S l = 151 := by rw [eN]; exact nxC_no2 (by omega) (by rw [show s.S.length - 1 = m from by omega]; exact h2)
          have LE : (Op.bytesLess (rsS l).toList (Sq.nth s.S m).toList || (rsS l).toList == (Sq.nth s.S m).toList) = true := by rw [le_not, h2]; rfl
          refine (rtS_low n s.P s.D s.z xr s.R.length cr s.F xs s.S.length cz s.S B l (rsS l) (bhS l hdF) _ (hpQ l hdF) _ _ w h4 hn rfl h.signs hb2 hS hF C0 C1 C2 ad m hm had LE h0).mono ?_
          rintro e w' hh
          exact bad e w' (by rw [hx]; decide) (by rw [hx]; exact hh)
        · have hx : rsC s.S l = 0 := by rw [eN]; exact nxC_yes h0 (fun _ => by rw [show s.S.length - 1 = m from by omega]; exact h2)
          have LE : (Op.bytesLess (rsS l).toList (Sq.nth s.S m).toList || (rsS l).toList == (Sq.nth s.S m).toList) = false := by rw [le_not, h2]; rfl
          refine (rtS_next n s.P s.D s.z xr s.R.length cr s.F xs s.S.length cz s.S B l (rsS l) (bhS l hdF) _ (hpQ l hdF) _ _ w h4 hn rfl h.signs hb2 hS hF C0 C1 C2 ad m hm had LE h0).mono ?_
          exact fun e w' hh => good e w' hx hh
    · have hx : rsC s.S l = 151 := by rw [eN]; exact nxC_no1 (by rw [h0]; decide)
      refine (rtS_wrong n s.P s.D s.z xr s.R.length cr s.F xs s.S.length cz s.S B l (rsS l) (bhS l hdF) _ (hpQ l hdF) _ _ w h4 hn rfl h.signs hb2 hS hF C0 C1 C2 h0).mono ?_
      rintro e w' hh
      exact bad e w' (by rw [hx]; decide) (by rw [hx]; exact hh)

theorem rtake_any (n : Nat) (s : IS) (l : ByteArray) (vr vs : Value) (B b0 : Nat) (w : World) (h : TQ w n s vr vs B b0) (hl : l.size ≤ 1048576) (hS : s.S.length ≤ 8796093022000) (hn : n ≤ 1099511627776) :
    Calls Tryd.prog 31 #[.agg (infC s.P s.D s.z vr s.F vs), .int .i64 n, .string l] w (TkP n s l b0 w) := by
  have hb1 := h.hb
  have hb2 := h.hB
  obtain ⟨xr, cr, hvr, hcr, SR⟩ := h.refs.shape
  obtain ⟨xs, cz, hvs, hcz, SS⟩ := h.signs.shape
  by_cases h0 : n = 0
  · subst h0; subst hvr; subst hvs
    refine (rt0_any s.P s.D s.z xr s.R.length cr s.F xs s.S.length cz l w).mono ?_
    rintro e w' ⟨⟨Q, rfl, hq⟩, b⟩
    exact ⟨⟨{ s with P := Q }, _, _, _, _, _, _, rfl, fun c => ⟨by rw [hq c]; rfl, w'.heap.size, h.early (by omega) b rfl rfl⟩⟩, b.mono (by omega)⟩
  by_cases h1 : n = 1
  · subst h1; subst hvr; subst hvs
    refine (rt1_any s.P s.D s.z xr s.R.length cr s.F xs s.S.length cz l w hl).mono ?_
    rintro e w' ⟨⟨E, rfl, hq⟩, b⟩
    exact ⟨⟨{ s with D := E }, _, _, _, _, _, _, rfl, fun c => ⟨by rw [hq c]; rfl, w'.heap.size, h.early (by omega) b rfl rfl⟩⟩, b.mono (by omega)⟩
  by_cases h2 : n = 2
  · subst h2; subst hvr; subst hvs
    refine (rt2_any s.P s.D s.z xr s.R.length cr s.F xs s.S.length cz l w hl).mono ?_
    rintro e w' ⟨⟨y, rfl, hq⟩, b⟩
    exact ⟨⟨{ s with z := y }, _, _, _, _, _, _, rfl, fun c => ⟨by rw [hq c]; rfl, w'.heap.size, h.early (by omega) b rfl rfl⟩⟩, b.mono (by omega)⟩
  by_cases h3 : n = 3
  · subst h3; subst hvr
    obtain ⟨q1, q2⟩ := h.e2 (by omega)
    subst q1
    refine (rt3_any s.P s.D s.z xr s.R.length cr s.F none 0 0 l w hl).mono ?_
    rintro e w' ⟨⟨y, m, k, rfl, hq⟩, b⟩
    have hs := b.size
    exact ⟨⟨{ s with R := rrL l }, _, _, _, _, _, _, rfl, fun c => ⟨rfl, w'.heap.size, (hq c).mono (by omega), fun g hg => ((hq c).ge hg).2, by show OwnS _ _ _ s.S; rw [q2]; exact OwnS.nil _ _, by omega, Nat.le_refl _, fun c => by omega, fun _ => ⟨rfl, q2⟩⟩⟩, b.mono (by omega)⟩
  by_cases hf : n = 4 ∧ hpQ l hdF = true
  · obtain ⟨rfl, hp⟩ := hf
    obtain ⟨q1, q2⟩ := h.e2 (by omega)
    subst hvr; subst q1
    refine (rt4_any s.P s.D s.z xr s.R.length cr s.F none 0 0 l w hp).mono ?_
    rintro e w' ⟨⟨Q, rfl, hq⟩, b⟩
    have hs := b.size
    have eC : tkC s 4 l = rpC l hdF := by unfold tkC; simp [hp]
    have eS : tkS s 4 l = { s with F := rpS l hdF } := by unfold tkS; simp [hp]
    refine ⟨⟨{ s with F := Q }, _, _, _, _, _, _, by rw [eC], fun c => ?_⟩, b.mono (by omega)⟩
    rw [eC] at c
    refine ⟨by rw [eS, hq c], w'.heap.size, h.refs.same (fun g hg => b.block g (h.refs.ge hg).2), fun g hg => by have := (h.refs.ge hg).2; omega, by show OwnS _ _ _ s.S; rw [q2]; exact OwnS.nil _ _, by omega, Nat.le_refl _, fun c => by omega, fun c => by omega⟩
  exact rtake_sign n s l vr vs B b0 w h hl hS hn (by omega) hf

end Go.Proofs.YtgnlkggodchlbaaDoor
/- The document's Parse; walked. -/
namespace Go.Proofs.YtgnlkggodchlbaaDoor
open Go.RowKit Go.Shelf

theorem ctF_ext (t : ByteArray) (f : Nat) (h : ∀ i, f ≤ i → i < t.size → bt t i ≠ 10) : ctF (t.extract f t.size) 10 = false := by
  refine decide_eq_false (fun hlt => ?_)
  have h1 := fst_at hlt
  have hz : (t.extract f t.size).size ≤ t.size - f := by rw [ByteArray.size_extract]; omega
  rw [bt_extract t f t.size _ (by omega) (Nat.le_refl _)] at h1
  exact h _ (by omega) (by omega) h1
theorem ct_ext (t : ByteArray) (f j : Nat) (hf : f ≤ j) (hj : j < t.size) (hn : ∀ i, f ≤ i → i < j → bt t i ≠ 10) (hb : bt t j = 10) :
    ctF (t.extract f t.size) 10 = true ∧ ctA (t.extract f t.size) 10 = t.extract f j ∧ ctB (t.extract f t.size) 10 = t.extract (j + 1) t.size := by
  have e : t.extract f t.size = t.extract f j ++ nl ++ t.extract (j + 1) t.size := by
    have hs1 : (t.extract f j).size = j - f := by rw [ByteArray.size_extract]; omega
    refine bytes_ext ?_ (fun k hk => ?_)
    · rw [ByteArray.size_append, ByteArray.size_append, ByteArray.size_extract, ByteArray.size_extract, ByteArray.size_extract]
      show _ = _ + 1 + _
      omega
    · rw [ByteArray.size_extract] at hk
      rw [bt_extract t f t.size k (by omega) (Nat.le_refl _), ByteArray.append_assoc, bt_append]
      by_cases h1 : k < j - f
      · rw [if_pos (by omega), bt_extract t f j k (by omega) (by omega)]
      · rw [if_neg (by omega), bt_append]
        by_cases h2 : k = j - f
        · rw [if_pos (by rw [hs1, h2]; show _ < 1; omega), hs1, h2, Nat.sub_self, show f + (j - f) = j from by omega, hb]
          rfl
        · rw [if_neg (by rw [hs1]; show ¬ _ < 1; omega), hs1]
          show _ = bt _ (k - (j - f) - 1)
          rw [bt_extract t (j + 1) t.size _ (by omega) (Nat.le_refl _)]
          congr 1
          omega
  have hl : ∀ k, k < (t.extract f j).size → bt (t.extract f j) k ≠ 10 := fun k hk => by
    rw [ByteArray.size_extract] at hk
    rw [bt_extract t f j k (by omega) (by omega)]
    exact hn _ (by omega) (by omega)
  obtain ⟨a, b, c⟩ := ct_line (t.extract f j) (t.extract (j + 1) t.size) hl
  rw [e]
  exact ⟨c, a, b⟩
theorem ext_whole (t : ByteArray) : t.extract 0 t.size = t := ByteArray.extract_zero_size
theorem results_rctt {P' : ByteArray} {D' : Nat → Int} {z' : Int} {vr' : Value} {F' : ByteArray} {vs' : Value} {fn : Func} {p q r : Tmp} (hr : fn.results = #[.cell p 36, .tmp q, .tmp r]) (tmps : Array Value) (w : World) (g : Nat)
    (hp : tmps.getD p undef = .pointer (some ⟨g, 0, none⟩)) (h1 : w.rangeAt g 0 (infL P' D' z' vr' F' vs')) :
    (results fn tmps).run Tryd.prog w = .ok (.tuple #[.agg (infC P' D' z' vr' F' vs'), tmps.getD q undef, tmps.getD r undef]) w := by
  have l1 := run_loadVar_mid (P := Tryd.prog) w g 0 36 (infL P' D' z' vr' F' vs') _ h1 Tryd.underlying36 rfl (by rw [szRINF]; exact congrArg some (infL_len P' D' z' vr' F' vs').symm)
  have hp' : tmps[p]?.getD undef = .pointer (some ⟨g, 0, none⟩) := by simpa using hp
  simp [results, hr, hp', asAddr, l1, List.mapM_cons, List.mapM_nil]
  rfl
theorem Inf.setAll {w : World} {g : Nat} {P P' : ByteArray} {D D' : Nat → Int} {z z' : Int} {vr vr' : Value} {F F' : ByteArray} {vs vs' : Value} (h : Inf w g P D z vr F vs) : Inf (w.setCells g 0 (infL P' D' z' vr' F' vs')) g P' D' z' vr' F' vs' := by
  have R := World.rangeAt_setCells_same w g 0 (infL P' D' z' vr' F' vs') (by rw [infL_len]; exact h.there37)
  have R' : ∀ j v, (infL P' D' z' vr' F' vs')[j]? = some v → (w.setCells g 0 (infL P' D' z' vr' F' vs')).cell? ⟨g, j, none⟩ = some v := fun j v hv => by have := R j v hv; rw [Nat.zero_add] at this; exact this
  exact ⟨R' 0 _ rfl, fun j hj => R' (1 + j) _ (infL_dig _ _ _ _ _ _ j hj), R' 33 _ (infL_tail _ _ _ _ _ _ 0), R' 34 _ (infL_tail _ _ _ _ _ _ 1), R' 35 _ (infL_tail _ _ _ _ _ _ 2), R' 36 _ (infL_tail _ _ _ _ _ _ 3), fun j hj => by rw [World.frozen?_setCells]; exact h.free j hj⟩
theorem wp_store_rinfI {o : Oper} {a : Act} {w : World} {K : Act → World → Prop} {Q : Exit → Act → World → Prop} {g : Nat} {P P' : ByteArray} {D D' : Nat → Int} {z z' : Int} {vr vr' : Value} {F F' : ByteArray} {vs vs' : Value} (x y : Operand) (ho : o.op = .store 36 x y)
    (hx : a.eval x = .pointer (some ⟨g, 0, none⟩)) (hy : a.eval y = .agg (infC P' D' z' vr' F' vs')) (h : Inf w g P D z vr F vs) (h1 : vr'.oneCell' = true) (h2 : vs'.oneCell' = true) (hdst : o.dst = none)
    (hK : ∀ W, Inf W g P' D' z' vr' F' vs' → Upd w W g → K a W) : o.wp Tryd.prog a w K Q := by
  refine wp_store_mid 36 x y ho g 0 (infC P' D' z' vr' F' vs') hx hy (by rw [infC_size]; exact h.there37) (by rw [infC_size]; exact szRINF) (inf_one _ _ _ _ _ _ h1 h2) ?_
  rw [hdst]
  obtain ⟨s1, s2, s3, s4, s5⟩ := setCells_only g (infL P' D' z' vr' F' vs') 0 w
  exact hK _ h.setAll ⟨s3, s4, s5, s1, fun i _ hne => s2 i hne⟩
theorem pz_enough : ∀ (k k' : Nat) (t : ByteArray) (n : Nat) (s : IS), t.size < k → t.size < k' → pz k t n s = pz k' t n s
  | 0, _, _, _, _, h, _ => absurd h (Nat.not_lt_zero _)
  | _ + 1, 0, _, _, _, _, h => absurd h (Nat.not_lt_zero _)
  | k + 1, k' + 1, t, n, s, h, h' => by
    by_cases hd : 4 ≤ n ∧ t.size = 0
    · rw [pz_done hd, pz_done hd]
    · cases hf : ctF t 10
      · rw [pz_open hd hf, pz_open hd hf]
      · have hsz := ctB_lt hf
        by_cases hq : tkC s n (ctA t 10) = 0
        · rw [pz_next hd hf hq, pz_next hd hf hq]
          exact pz_enough k k' _ _ _ (by omega) (by omega)
        · rw [pz_bad hd hf hq, pz_bad hd hf hq]
/-- What the loop keeps. -/
structure RP (text : ByteArray) (w : World) (n f : Nat) (s : IS) (vr vs : Value) (B : Nat) (W : World) : Prop where
  res : Inf W w.heap.size ⟨#[]⟩ (fun _ => 0) 0 (.slice none 0 0) ⟨#[]⟩ (.slice none 0 0)
  inf : Inf W (w.heap.size + 1) s.P s.D s.z vr s.F vs
  tq : TQ W n s vr vs B (w.heap.size + 2)
  bel : Below w.heap.size w W
  pz : PZ text = pz (text.size - f + 1) (text.extract f text.size) n s
  nf : n ≤ f
  ff : f ≤ text.size
  sl : s.S.length ≤ n
def RPx (text : ByteArray) (w : World) (n f : Nat) (W : World) : Prop := ∃ s vr vs B, RP text w n f s vr vs B W

set_option maxRecDepth 100000 in
set_option maxHeartbeats 4000000 in
theorem riparse_any (text : ByteArray) (w : World) (ht : text.size ≤ 1048576) :
    Calls Tryd.prog 18 #[.string text] w fun e w' => (∃ vr vs, e = .returned (.tuple #[.agg (infC (PZ text).1.P (PZ text).1.D (PZ text).1.z vr (PZ text).1.F vs), .int .i64 (PZ text).2.1, .int .i64 ((PZ text).2.2 : Nat)]) ∧ OwnR w' w.heap.size vr (PZ text).1.R ∧ OwnS w' w.heap.size vs (PZ text).1.S) ∧ Below w.heap.size w w' := by
  have hgb := get_bt text
  have X0 : RPx text w 0 0 ((w.alloc (.cells (infC ⟨#[]⟩ (fun _ => 0) 0 (.slice none 0 0) ⟨#[]⟩ (.slice none 0 0)) 36)).alloc (.cells (infC ⟨#[]⟩ (fun _ => 0) 0 (.slice none 0 0) ⟨#[]⟩ (.slice none 0 0)) 36)) := by
    obtain ⟨I0, J0, B0⟩ := two_boxes w ⟨#[]⟩ (fun _ => 0) 0 (.slice none 0 0) ⟨#[]⟩ (.slice none 0 0)
    refine ⟨IS.zero, _, _, _, I0, J0, ⟨Or.inl ⟨rfl, rfl⟩, fun k hk => (by cases hk), OwnS.nil _ (w.heap.size + 2), Nat.le_refl _, by rw [World.size_alloc, World.size_alloc]; omega, fun _ => ⟨rfl, rfl⟩, fun _ => ⟨rfl, rfl⟩⟩, B0, ?_, Nat.le_refl _, Nat.zero_le _, Nat.le_refl _⟩
    rw [ext_whole]
    rfl
  go_enter Tryd.func18, Tryd.ntmps18
  go_wp2_with fail
  rw [inf_zero]
  generalize (w.alloc (.cells (infC ⟨#[]⟩ (fun _ => 0) 0 (.slice none 0 0) ⟨#[]⟩ (.slice none 0 0)) 36)).alloc (.cells (infC ⟨#[]⟩ (fun _ => 0) 0 (.slice none 0 0) ⟨#[]⟩ (.slice none 0 0)) 36) = w0 at X0 ⊢
  -- @0
  go_loopw [6, 7] (fun vf vn wr => ∃ f n : Nat, vf = .int .i64 f ∧ vn = .int .i64 n ∧ Hid (RPx text w n f wr)) (fun vf _ _ => text.size + 1 - (intOf vf).toNat)
  case atStart => exact ⟨0, 0, rfl, rfl, X0⟩
  case round =>
    obtain ⟨f, n, rfl, rfl, HX⟩ := hrel
    obtain ⟨s, vr, vs, B, RX⟩ := HX.out
    have hff := RX.ff
    have hnf := RX.nf
    have HRX : Hid (RP text w n f s vr vs B wr) := RX
    clear HX RX X0
    -- @1
    obtain ⟨wo, hwo⟩ : ∃ wo, wo = wr := ⟨_, rfl⟩
    subst hwo
    by_cases hex : 4 ≤ n ∧ f = text.size
    · obtain ⟨h4, rfl⟩ := hex
      have h4' : ¬ (n : Int) < 4 := by omega
      have h4n : ¬ n < 4 := by omega
      obtain ⟨x1, c1, hv1, _, _⟩ := HRX.out.tq.refs.shape
      obtain ⟨x2, c2, hv2, _, _⟩ := HRX.out.tq.signs.shape
      subst hv1
      subst hv2
      have I1 := HRX.out.inf
      have J1 := HRX.out.res
      have ePZ : Hid (PZ text = (s, 0, 0)) := by
        have h1 := HRX.out.pz
        unfold Hid
        rw [h1]
        exact pz_done ⟨h4, by rw [ByteArray.size_extract]; omega⟩
      go_wp2_with (first | (refine wpList_load_rinf (by rfl) (.tmp 5) (by rfl) (by rfl) I1 ?_) | (refine wpList_store_rinf (by rfl) (.tmp 2) (.tmp 56) (by rfl) (by rfl) (by rfl) J1 rfl rfl (by rfl) ?_; intro W2 R2 U2; refine Hid.out ?_))
      unfold Hid
      go_wp2
      refine bodyPost_ret (results_rctt Tryd.results18 _ _ w.heap.size rfl R2) rfl ⟨⟨_, _, by rw [ePZ.out]; rfl, ?_, ?_⟩, U2.below HRX.out.bel (Nat.le_refl _) HRX.out.bel.size⟩
      · rw [ePZ.out]
        exact (HRX.out.tq.refs.same (fun g hg => U2.block g (HRX.out.tq.refs.ge hg).2 (by have := (HRX.out.tq.refs.ge hg).1; omega))).mono (by omega)
      · rw [ePZ.out]
        exact (HRX.out.tq.signs.same (fun g hg => U2.block g (HRX.out.tq.signs.ge hg).2 (by have := (HRX.out.tq.signs.ge hg).1; have := HRX.out.tq.hb; omega))).mono (by have := HRX.out.tq.hb; omega)
    have hcond : (n < 4) ∨ (¬ n < 4 ∧ f < text.size) := by omega
    rcases hcond with hc4 | ⟨hc4, hcf⟩
    all_goals
      go_wp2
      -- @2
      go_loopw [8] (fun vj wq => ∃ j : Nat, f ≤ j ∧ j ≤ text.size ∧ vj = .int .i64 j ∧ wq = wo ∧ Hid (∀ i, f ≤ i → i < j → bt text i ≠ 10)) (fun vj _ => text.size - (intOf vj).toNat)
      case atStart => exact ⟨f, Nat.le_refl _, hff, rfl, rfl, fun i h1 h2 => absurd h2 (by omega)⟩
      case round =>
        obtain ⟨j, hfj, hj, rfl, rfl, HN⟩ := hrel
        by_cases hlt : j < text.size
        · have hs1 := hgb j hlt
          by_cases hb : bt text j = 10
          · have e1 : (bt text j != 10) = false := by rw [hb]; rfl
            have e2 : ¬ (text.size : Int) ≤ (j : Int) := by omega
            have e2n : ¬ text.size ≤ j := by omega
            go_wp2
            -- @11
            have I1 : Inf wr.drew (w.heap.size + 1) s.P s.D s.z vr s.F vs := HRX.out.inf.same rfl
            have J1 : Hid (Inf wr.drew w.heap.size ⟨#[]⟩ (fun _ => 0) 0 (.slice none 0 0) ⟨#[]⟩ (.slice none 0 0)) := HRX.out.res.same rfl
            have T1 : TQ wr.drew n s vr vs B (w.heap.size + 2) := ⟨HRX.out.tq.refs.same (fun _ _ => rfl), HRX.out.tq.rb, HRX.out.tq.signs.same (fun _ _ => rfl), HRX.out.tq.hb, HRX.out.tq.hB, HRX.out.tq.e1, HRX.out.tq.e2⟩
            have B1 : Hid (Below w.heap.size w wr.drew) := HRX.out.bel.drew
            have HPZ : Hid (PZ text = pz (text.size - f + 1) (text.extract f text.size) n s) := HRX.out.pz
            have HSL : Hid (s.S.length ≤ n) := HRX.out.sl
            have HCT := ct_ext text f j hfj hlt HN.out hb
            have CT := fun W (h : TQ W n s vr vs B (w.heap.size + 2)) => rtake_any n s (text.extract f j) vr vs B (w.heap.size + 2) W h (by rw [ByteArray.size_extract]; omega) (by have := HSL.out; omega) (by omega)
            have HCT' : Hid (ctF (text.extract f text.size) 10 = true ∧ ctA (text.extract f text.size) 10 = text.extract f j ∧ ctB (text.extract f text.size) 10 = text.extract (j + 1) text.size) := HCT
            clear HRX HCT hb
            refine wp_region_held_drew (S := fun _ => True) (by kernel_rfl) trivial (fun hH => ?_)
            generalize wr.drew = W at I1 J1 T1 B1 hH ⊢
            refine wpAnyH_take (i := 1) (oi := { dst := some 39, op := Op.move (Operand.tmp 7), type := 3, pos := "ref.go:291", after := #[], guard := none }) (v := .int .i64 n) rfl (by kernel_rfl) (by kernel_rfl) (by kernel_rfl) (fun _ _ _ h => h) (Or.inl ⟨by rfl, by intro w _; go_simp⟩) hH ?_
            simp only [Act.put, List.setIfInBounds_toArray, List.set_cons_zero, List.set_cons_succ]
            refine wpAnyH_take (i := 2) (oi := { dst := some 40, op := Op.move (Operand.tmp 0), type := 9, pos := "ref.go:291", after := #[], guard := none }) (v := .string text) rfl (by kernel_rfl) (by kernel_rfl) (by kernel_rfl) (fun _ _ _ h => h) (Or.inl ⟨by rfl, by intro w _; go_simp⟩) hH ?_
            simp only [Act.put, List.setIfInBounds_toArray, List.set_cons_zero, List.set_cons_succ]
            refine wpAnyH_take (i := 3) (oi := { dst := some 41, op := Op.move (Operand.tmp 6), type := 3, pos := "ref.go:291", after := #[], guard := none }) (v := .int .i64 f) rfl (by kernel_rfl) (by kernel_rfl) (by kernel_rfl) (fun _ _ _ h => h) (Or.inl ⟨by rfl, by intro w _; go_simp⟩) hH ?_
            simp only [Act.put, List.setIfInBounds_toArray, List.set_cons_zero, List.set_cons_succ]
            refine wpAnyH_take (i := 4) (oi := { dst := some 42, op := Op.move (Operand.tmp 8), type := 3, pos := "ref.go:291", after := #[], guard := none }) (v := .int .i64 j) rfl (by kernel_rfl) (by kernel_rfl) (by kernel_rfl) (fun _ _ _ h => h) (Or.inl ⟨by rfl, by intro w _; go_simp⟩) hH ?_
            simp only [Act.put, List.setIfInBounds_toArray, List.set_cons_zero, List.set_cons_succ]
            refine wpAnyH_take (i := 5) (oi := { dst := some 43, op := Op.slice 9 (Operand.tmp 40) (some (Operand.tmp 41)) (some (Operand.tmp 42)) none, type := 9, pos := "ref.go:291", after := #[{ on := 2, ground := Ground.data }, { on := 3, ground := Ground.data }, { on := 4, ground := Ground.data }], guard := none }) (v := .string (text.extract f j)) rfl (by kernel_rfl) (by kernel_rfl) (by kernel_rfl) (fun _ _ _ h => h) (Or.inl ⟨by rfl, by intro w _; go_simp⟩) hH ?_
            simp only [Act.put, List.setIfInBounds_toArray, List.set_cons_zero, List.set_cons_succ]
            refine wpAnyH_ready (rs := [0]) (by kernel_rfl) (by decide) (AllReadyH.cons rfl (fun K hK => ?_) AllReadyH.nil)
            rw [if_pos (by rfl)]
            refine wp_load_mid 36 (.tmp 5) rfl (w.heap.size + 1) 0 rfl (infL s.P s.D s.z vr s.F vs) _ I1.range Tryd.underlying36 rfl (by rw [szRINF]; exact congrArg some (infL_len _ _ _ _ _ _).symm) ?_
            refine hK.out _ _ trivial (fun _ => ?_)
            clear hK K
            try simp only [Act.put, List.setIfInBounds_toArray]
            refine wpAnyH_ready (rs := [6]) (by kernel_rfl) (by decide) (AllReadyH.cons rfl (fun K hK => ?_) AllReadyH.nil)
            rw [if_pos (by rfl)]
            go_simp
            refine (CT _ T1).mono ?_
            clear CT T1
            rintro e w4 hTk
            obtain ⟨⟨s', x1, n1, c1, x2, n2, c2, rfl, hgood⟩, bT⟩ := hTk
            have HG : Hid (tkC s n (text.extract f j) = 0 → s' = tkS s n (text.extract f j) ∧ ∃ B', TQ w4 (n + 1) s' (.slice x1 n1 c1) (.slice x2 n2 c2) B' (w.heap.size + 2)) := hgood
            clear hgood
            have I4 : Inf w4 (w.heap.size + 1) s.P s.D s.z vr s.F vs := I1.below bT (by omega)
            have J4 : Hid (Inf w4 w.heap.size ⟨#[]⟩ (fun _ => 0) 0 (.slice none 0 0) ⟨#[]⟩ (.slice none 0 0)) := J1.out.below bT (by omega)
            have B4 : Hid (Below w.heap.size w w4) := B1.out.trans (bT.mono (by omega))
            have HTS := tkS_len s n (text.extract f j)
            have HTS' : Hid ((tkS s n (text.extract f j)).S.length ≤ s.S.length + 1) := HTS
            obtain ⟨cc, hcc⟩ : ∃ cc, cc = tkC s n (text.extract f j) := ⟨_, rfl⟩
            have HCC : Hid (cc = tkC s n (text.extract f j)) := hcc
            rw [← hcc]
            clear bT I1 J1 B1 HTS hcc
            go_wp2_with fail
            refine hK.out _ _ trivial (fun _ => ?_)
            clear hK K
            try simp only [Act.put, List.setIfInBounds_toArray, List.set_cons_zero, List.set_cons_succ]
            refine wpAnyH_take (i := 7) (oi := { dst := some 37, op := Op.move (Operand.tmp 44), type := 65, pos := "ref.go:291", after := #[{ on := 6, ground := Ground.data }], guard := none }) (v := .tuple #[.agg (infC s'.P s'.D s'.z (.slice x1 n1 c1) s'.F (.slice x2 n2 c2)), .int .i64 cc]) rfl (by kernel_rfl) (by kernel_rfl) (by kernel_rfl) (fun _ _ _ h => h) (Or.inl ⟨by rfl, by intro w _; go_simp⟩) hH ?_
            simp only [Act.put, List.setIfInBounds_toArray, List.set_cons_zero, List.set_cons_succ]
            refine wpAnyH_take (i := 8) (oi := { dst := some 45, op := Op.extract (Operand.tmp 37) 0, type := 36, pos := "ref.go:291", after := #[{ on := 7, ground := Ground.data }], guard := none }) (v := .agg (infC s'.P s'.D s'.z (.slice x1 n1 c1) s'.F (.slice x2 n2 c2))) rfl (by kernel_rfl) (by kernel_rfl) (by kernel_rfl) (fun _ _ _ h => h) (Or.inl ⟨by rfl, by intro w _; go_simp⟩) hH ?_
            simp only [Act.put, List.setIfInBounds_toArray, List.set_cons_zero, List.set_cons_succ]
            refine wpAnyH_take (i := 9) (oi := { dst := some 46, op := Op.extract (Operand.tmp 37) 1, type := 3, pos := "ref.go:291", after := #[{ on := 7, ground := Ground.data }, { on := 10, ground := Ground.gcOnly Departure.lateStores }], guard := none }) (v := .int .i64 cc) rfl (by kernel_rfl) (by kernel_rfl) (by kernel_rfl) (fun _ _ _ h => h) (Or.inl ⟨by rfl, by intro w _; go_simp⟩) hH ?_
            simp only [Act.put, List.setIfInBounds_toArray, List.set_cons_zero, List.set_cons_succ]
            refine wpAnyH_ready (rs := [10]) (by kernel_rfl) (by decide) (AllReadyH.cons rfl (fun K hK => ?_) AllReadyH.nil)
            rw [if_pos (by rfl)]
            refine wp_store_rinfI (.tmp 5) (.tmp 45) rfl rfl rfl I4 rfl rfl rfl ?_
            intro W2 I5 U2
            refine hK.out _ _ trivial (fun _ => ?_)
            clear hK K
            try simp only [Act.put, List.setIfInBounds_toArray, List.set_cons_zero, List.set_cons_succ]
            refine wpAnyH_ready (rs := [11]) (by kernel_rfl) (by decide) (AllReadyH.cons rfl (fun K hK => ?_) AllReadyH.nil)
            rw [if_pos (by rfl)]
            go_simp
            refine hK.out _ _ trivial (fun _ => ?_)
            clear hK K
            try simp only [Act.put, List.setIfInBounds_toArray, List.set_cons_zero, List.set_cons_succ]
            refine wpAnyH_done (by kernel_rfl) ?_ _
            have J5 : Inf W2 w.heap.size ⟨#[]⟩ (fun _ => 0) 0 (.slice none 0 0) ⟨#[]⟩ (.slice none 0 0) := J4.out.same (U2.block _ J4.out.lt (by omega))
            have B5 : Hid (Below w.heap.size w W2) := U2.below B4.out (by omega) B4.out.size
            have hz4 : Hid (w.heap.size + 1 < w4.heap.size) := I4.lt
            clear I4 J4
            by_cases h0 : cc = 0
            · have hc0 : Hid (tkC s n (text.extract f j) = 0) := by unfold Hid; rw [← HCC.out]; exact h0
              subst h0
              obtain ⟨hs', B', TB⟩ := HG.out hc0.out
              have NX : Hid (RPx text w (n + 1) (j + 1) W2) := by
                refine ⟨s', _, _, B', J5, I5, ⟨TB.refs.same (fun g hg => U2.block g (TB.refs.ge hg).2 (by have := (TB.refs.ge hg).1; omega)), TB.rb, TB.signs.same (fun g hg => U2.block g (TB.signs.ge hg).2 (by have := (TB.signs.ge hg).1; have := TB.hb; omega)), TB.hb, by rw [U2.size]; exact TB.hB, TB.e1, TB.e2⟩, B5.out, ?_, by omega, by omega, ?_⟩
                · obtain ⟨q1, q2, q3⟩ := HCT'.out
                  rw [HPZ.out, pz_next (fun c => by rw [ByteArray.size_extract] at c; omega) q1 (by rw [q2]; exact hc0.out), q2, q3, hs', pz_enough (text.size - f) (text.size - (j + 1) + 1) (text.extract (j + 1) text.size) (n + 1) _ (by rw [ByteArray.size_extract]; omega) (by rw [ByteArray.size_extract]; omega)]
                · rw [hs']; have := HTS'.out; have := HSL.out; omega
              clear HG I5 J5 B5 TB U2
              go_wp2
              try rw [Exit.inBlock]
              go_roundw
              case rel => exact ⟨j + 1, n + 1, by go_num, by go_num, NX⟩
              case measure => simp [intOf]; omega
            · have h0' : (cc != 0) = true := by rw [bne_iff_ne]; exact h0
              have hcn : Hid (tkC s n (text.extract f j) ≠ 0) := by unfold Hid; rw [← HCC.out]; exact h0
              have ePZ : Hid (PZ text = (IS.zero, cc, n)) := by
                obtain ⟨q1, q2, q3⟩ := HCT'.out
                unfold Hid
                rw [HPZ.out, pz_bad (fun c => by rw [ByteArray.size_extract] at c; omega) q1 (by rw [q2]; exact hcn.out), q2, ← HCC.out]
              clear HG I5
              go_wp2_with (refine wpList_store_rinf (by rfl) (.tmp 2) (.tmp 49) (by rfl) (by rfl) (P' := ⟨#[]⟩) (D' := fun _ => 0) (z' := 0) (vr' := .slice none 0 0) (F' := ⟨#[]⟩) (vs' := .slice none 0 0) (by rfl) J5 rfl rfl (by rfl) ?_; intro W3 R3 U3; refine Hid.out ?_)
              unfold Hid
              go_wp2
              try rw [Exit.noGoto_ret]
              refine bodyPost_ret (results_rctt Tryd.results18 _ _ w.heap.size rfl R3) rfl ⟨⟨_, _, by rw [ePZ.out]; rfl, ?_, ?_⟩, U3.below B5.out (Nat.le_refl _) B5.out.size⟩
              · rw [ePZ.out]; exact Or.inl ⟨rfl, rfl⟩
              · rw [ePZ.out]; exact OwnS.nil _ _
          · have e1 : (bt text j != 10) = true := by rw [bne_iff_ne]; exact hb
            have HN2 : Hid (∀ i, f ≤ i → i < j + 1 → bt text i ≠ 10) := fun i h1 h2 => by
              by_cases e : i = j
              · subst e; exact hb
              · exact HN.out i h1 (by omega)
            go_wp2
            go_roundw
            case rel => exact ⟨j + 1, by omega, by omega, by go_num, trivial, HN2⟩
            case measure => simp [intOf]; omega
        · obtain rfl : j = text.size := by omega
          have J1 := HRX.out.res
          have ePZ : Hid (PZ text = (IS.zero, 150, n)) := by
            have h1 := HRX.out.pz
            unfold Hid
            rw [h1]
            exact pz_open (fun c => by rw [ByteArray.size_extract] at c; omega) (ctF_ext text f (fun i h1 h2 => HN.out i h1 h2))
          -- @9
          go_wp2_with (refine wpList_store_rinf (by rfl) (.tmp 2) (.tmp 35) (by rfl) (by rfl) (P' := ⟨#[]⟩) (D' := fun _ => 0) (z' := 0) (vr' := .slice none 0 0) (F' := ⟨#[]⟩) (vs' := .slice none 0 0) (by rfl) J1 rfl rfl (by rfl) ?_; intro W3 R3 U3; refine Hid.out ?_)
          unfold Hid
          go_wp2
          try rw [Exit.noGoto_ret]
          refine bodyPost_ret (results_rctt Tryd.results18 _ _ w.heap.size rfl R3) rfl ⟨⟨_, _, by rw [ePZ.out]; rfl, ?_, ?_⟩, U3.below HRX.out.bel (Nat.le_refl _) HRX.out.bel.size⟩
          · rw [ePZ.out]; exact Or.inl ⟨rfl, rfl⟩
          · rw [ePZ.out]; exact OwnS.nil _ _
end Go.Proofs.YtgnlkggodchlbaaDoor
/- The law InfoParses walked. -/
namespace Go.Proofs.YtgnlkggodchlbaaDoor
open Go.RowKit Go.Shelf

theorem rrL_len (l : ByteArray) : (rrL l).length ≤ 1025 := by
  unfold rrL
  split
  · exact Nat.zero_le _
  · rw [List.length_map]; exact Sq.pcs_len _ _ _
theorem tkS_R (s : IS) (n : Nat) (l : ByteArray) (h : s.R.length ≤ 1025) : (tkS s n l).R.length ≤ 1025 := by
  have h2 := rrL_len l
  unfold tkS
  repeat' split
  all_goals first | exact h | exact h2
theorem pz_R (k : Nat) : ∀ (t : ByteArray) (n : Nat) (s : IS), s.R.length ≤ 1025 → (pz k t n s).1.R.length ≤ 1025 := by
  induction k with
  | zero => intro t n s h; exact h
  | succ k ih =>
    intro t n s h
    by_cases hd : 4 ≤ n ∧ t.size = 0
    · rw [pz_done hd]; exact h
    · cases hf : ctF t 10
      · rw [pz_open hd hf]; exact Nat.zero_le _
      · by_cases hq : tkC s n (ctA t 10) = 0
        · rw [pz_next hd hf hq]; exact ih _ _ _ (tkS_R s n _ h)
        · rw [pz_bad hd hf hq]; exact Nat.zero_le _
theorem wpList_store_infI {ops : Array Oper} {rest : List Oper} {o : Oper} {a : Act} {w : World} {Q : Exit → Act → World → Prop} {g : Nat} {P P' : ByteArray} {D D' : Nat → Int} {z z' : Int} {vr vr' : Value} {F F' : ByteArray} {vs vs' : Value} (hgd : o.guard = none) (x y : Operand) (ho : o.op = .store 26 x y)
    (hx : a.eval x = .pointer (some ⟨g, 0, none⟩)) (hy : a.eval y = .agg (infC P' D' z' vr' F' vs')) (h : Inf w g P D z vr F vs) (h1 : vr'.oneCell' = true) (h2 : vs'.oneCell' = true) (hdst : o.dst = none)
    (hK : ∀ W, Inf W g P' D' z' vr' F' vs' → Upd w W g → wpList Tryd.prog ops Q rest a W) : wpList Tryd.prog ops Q (o :: rest) a w := by
  refine wpList_store_mid hgd 26 x y ho g 0 (infC P' D' z' vr' F' vs') hx hy (by rw [infC_size]; exact h.there37) (by rw [infC_size]; exact szINF) (inf_one _ _ _ _ _ _ h1 h2) ?_
  rw [hdst]
  obtain ⟨s1, s2, s3, s4, s5⟩ := setCells_only g (infL P' D' z' vr' F' vs') 0 w
  exact hK _ h.setAll ⟨s3, s4, s5, s1, fun i _ hne => s2 i hne⟩
theorem wpList_store_rinfI {ops : Array Oper} {rest : List Oper} {o : Oper} {a : Act} {w : World} {Q : Exit → Act → World → Prop} {g : Nat} {P P' : ByteArray} {D D' : Nat → Int} {z z' : Int} {vr vr' : Value} {F F' : ByteArray} {vs vs' : Value} (hgd : o.guard = none) (x y : Operand) (ho : o.op = .store 36 x y)
    (hx : a.eval x = .pointer (some ⟨g, 0, none⟩)) (hy : a.eval y = .agg (infC P' D' z' vr' F' vs')) (h : Inf w g P D z vr F vs) (h1 : vr'.oneCell' = true) (h2 : vs'.oneCell' = true) (hdst : o.dst = none)
    (hK : ∀ W, Inf W g P' D' z' vr' F' vs' → Upd w W g → wpList Tryd.prog ops Q rest a W) : wpList Tryd.prog ops Q (o :: rest) a w := by
  refine wpList_store_mid hgd 36 x y ho g 0 (infC P' D' z' vr' F' vs') hx hy (by rw [infC_size]; exact h.there37) (by rw [infC_size]; exact szRINF) (inf_one _ _ _ _ _ _ h1 h2) ?_
  rw [hdst]
  obtain ⟨s1, s2, s3, s4, s5⟩ := setCells_only g (infL P' D' z' vr' F' vs') 0 w
  exact hK _ h.setAll ⟨s3, s4, s5, s1, fun i _ hne => s2 i hne⟩
/-- What the law's last region keeps. -/
structure PrW (w : World) (s : IS) (xr : Option Addr) (cr : Nat) (xs : Option Addr) (cz : Nat) (yr : Option Addr) (dr : Nat) (ys : Option Addr) (dz : Nat) (c at_ : Int) (g h k : Nat) (W : World) : Prop where
  i1 : Inf W g s.P s.D s.z (.slice xr s.R.length cr) s.F (.slice xs s.S.length cz)
  i2 : Inf W k s.P s.D s.z (.slice yr s.R.length dr) s.F (.slice ys s.S.length dz)
  c0 : W.cell? ⟨h, 0, none⟩ = some (.int .i64 c)
  c1 : W.cell? ⟨h, 1, none⟩ = some (.int .i64 at_)
  bel : Below w.heap.size w W
  f1 : SIs W xr s.R.length (Sq.nth s.R)
  f2 : SIs W xs s.S.length (Sq.nth s.S)
  f3 : SIs W yr s.R.length (Sq.nth s.R)
  f4 : SIs W ys s.S.length (Sq.nth s.S)
theorem PrW.next {w : World} {s : IS} {xr : Option Addr} {cr : Nat} {xs : Option Addr} {cz : Nat} {yr : Option Addr} {dr : Nat} {ys : Option Addr} {dz : Nat} {c at_ : Int} {g h k : Nat} {W W' : World} (q : PrW w s xr cr xs cz yr dr ys dz c at_ g h k W) (b : Below W.heap.size W W') : PrW w s xr cr xs cz yr dr ys dz c at_ g h k W' :=
  ⟨q.i1.below b q.i1.lt, q.i2.below b q.i2.lt, (b.cell (p := ⟨h, 0, none⟩) (World.block_lt_of_cell? _ _ q.c0)).trans q.c0, (b.cell (p := ⟨h, 1, none⟩) (World.block_lt_of_cell? _ _ q.c1)).trans q.c1, q.bel.trans (b.mono q.bel.size), q.f1.below b (Nat.le_refl _), q.f2.below b (Nat.le_refl _), q.f3.below b (Nat.le_refl _), q.f4.below b (Nat.le_refl _)⟩

set_option maxRecDepth 100000 in
set_option maxHeartbeats 4000000 in
theorem ipar_walk (text : ByteArray) (w : World) (ht : text.size ≤ 1048576) (hT : PT w) :
    Calls Tryd.prog 4 #[.string text] w fun e w' => e = .returned (.bool true) ∧ Below w.heap.size w w' := by
  have CA := iaw_any w hT
  have CP := fun W => iparse_any text W (by omega)
  have CQ := fun W => riparse_any text W ht
  have O3 := pz_len (text.size + 1) text 0 IS.zero (by omega)
  have O4 := pz_R (text.size + 1) text 0 IS.zero (Nat.zero_le _)
  change (PZ text).1.S.length ≤ 0 + text.size at O3
  change (PZ text).1.R.length ≤ 1025 at O4
  generalize PZ text = pr at CP CQ O3 O4
  obtain ⟨s, c, at_⟩ := pr
  have HO3 : Hid (s.S.length ≤ 0 + text.size) := O3
  have HO4 : Hid (s.R.length ≤ 1025) := O4
  clear hT O3 O4
  go_enter Tryd.func4, Tryd.ntmps4
  go_wp2_with fail
  refine CA.mono ?_
  clear CA
  rintro e w1 ⟨rfl, b1⟩
  go_wp2_with fail
  refine (CP w1).mono ?_
  clear CP
  rintro e w2 ⟨⟨vr, vs, rfl, OR, OS, _⟩, b2⟩
  obtain ⟨xr, cr, rfl, hcr, SR⟩ := OR.shape
  obtain ⟨xs, cz, rfl, hcz, SS⟩ := OS.shape
  have B2 : Hid (Below w.heap.size w w2) := b1.trans (b2.mono b1.size)
  have HSR : Hid (SIs w2 xr s.R.length (Sq.nth s.R)) := SR
  have HSS : Hid (SIs w2 xs s.S.length (Sq.nth s.S)) := SS
  clear b1 b2 OR OS SR SS
  have J0 : Inf ((w2.alloc (.cells (infC ⟨#[]⟩ (fun _ => 0) 0 (.slice none 0 0) ⟨#[]⟩ (.slice none 0 0)) 26)).alloc (.cells #[.int .i64 0, .int .i64 0] 42)) w2.heap.size ⟨#[]⟩ (fun _ => 0) 0 (.slice none 0 0) ⟨#[]⟩ (.slice none 0 0) := (Inf.box _ _ _ _ _ _ _ _).same (Below.heap_alloc _ _ _ (by rw [World.size_alloc]; omega))
  have F0 : Hid (Row .i64 ((w2.alloc (.cells (infC ⟨#[]⟩ (fun _ => 0) 0 (.slice none 0 0) ⟨#[]⟩ (.slice none 0 0)) 26)).alloc (.cells #[.int .i64 0, .int .i64 0] 42)) (w2.heap.size + 1) 2 (fun _ => 0)) := by
    have := Row.arr (k := .i64) (w := w2.alloc (.cells (infC ⟨#[]⟩ (fun _ => 0) 0 (.slice none 0 0) ⟨#[]⟩ (.slice none 0 0)) 26)) (e := 42) (C := #[.int .i64 0, .int .i64 0]) (n := 2) (f := fun _ => 0) (fun j hj => by rcases (show j = 0 ∨ j = 1 from by omega) with rfl | rfl <;> rfl)
    rw [World.size_alloc] at this
    exact this
  have B0 : Hid (Below w2.heap.size w2 ((w2.alloc (.cells (infC ⟨#[]⟩ (fun _ => 0) 0 (.slice none 0 0) ⟨#[]⟩ (.slice none 0 0)) 26)).alloc (.cells #[.int .i64 0, .int .i64 0] 42))) := ((Below.refl _ _).alloc (Nat.le_refl _) _).alloc (by rw [World.size_alloc]; omega) _
  have z0 : Hid (w2.heap.size + 2 = ((w2.alloc (.cells (infC ⟨#[]⟩ (fun _ => 0) 0 (.slice none 0 0) ⟨#[]⟩ (.slice none 0 0)) 26)).alloc (.cells #[.int .i64 0, .int .i64 0] 42)).heap.size) := by unfold Hid; rw [World.size_alloc, World.size_alloc]
  go_wp2_with (refine wpList_store_infI (by rfl) (.tmp 3) (.tmp 13) (by rfl) (by rfl) (by rfl) J0 rfl rfl (by rfl) ?_; intro W5 I5 U5; refine Hid.out ?_)
  unfold Hid
  have F5 : Row .i64 W5 (w2.heap.size + 1) 2 (fun _ => 0) := F0.out.upd U5 (by have := z0.out; omega) (by omega)
  have B5 : Hid (Below w2.heap.size w2 W5) := U5.below B0.out (Nat.le_refl _) B0.out.size
  have d0 := F5.cell 0 (by omega)
  have d1 := F5.cell 1 (by omega)
  have g0 := F5.free 0 (by omega)
  have g1 := F5.free 1 (by omega)
  have F6 : Hid (Row .i64 ((W5.setCell ⟨w2.heap.size + 1, 0, none⟩ (.int .i64 c)).setCell ⟨w2.heap.size + 1, 1, none⟩ (.int .i64 at_)) (w2.heap.size + 1) 2 (fun j => if j = 1 then (at_ : Int) else if j = 0 then c else 0)) := (F5.set 0 c (by omega)).set 1 at_ (by omega)
  have I6 : Hid (Inf ((W5.setCell ⟨w2.heap.size + 1, 0, none⟩ (.int .i64 c)).setCell ⟨w2.heap.size + 1, 1, none⟩ (.int .i64 at_)) w2.heap.size s.P s.D s.z (.slice xr s.R.length cr) s.F (.slice xs s.S.length cz)) := I5.same ((Below.heap_setCell _ ⟨w2.heap.size + 1, 1, none⟩ _ w2.heap.size (by show w2.heap.size ≠ w2.heap.size + 1; omega)).trans (Below.heap_setCell _ ⟨w2.heap.size + 1, 0, none⟩ _ w2.heap.size (by show w2.heap.size ≠ w2.heap.size + 1; omega)))
  have B6 : Hid (Below w2.heap.size w2 ((W5.setCell ⟨w2.heap.size + 1, 0, none⟩ (.int .i64 c)).setCell ⟨w2.heap.size + 1, 1, none⟩ (.int .i64 at_))) := (B5.out.setCell (by show _ ≤ w2.heap.size + 1; omega) _).setCell (by show _ ≤ w2.heap.size + 1; omega) _
  clear J0 F0 I5 U5 F5 B5 B0 z0
  go_wp2_with fail
  -- @1
  generalize (W5.setCell ⟨w2.heap.size + 1, 0, none⟩ (.int .i64 c)).setCell ⟨w2.heap.size + 1, 1, none⟩ (.int .i64 at_) = W6 at F6 I6 B6 ⊢
  clear d0 d1 g0 g1
  refine (CQ W6).mono ?_
  clear CQ
  rintro e w7 ⟨⟨vr', vs', rfl, OR, OS⟩, b7⟩
  obtain ⟨yr, dr, rfl, hdr, SR⟩ := OR.shape
  obtain ⟨ys, dz, rfl, hdz, SS⟩ := OS.shape
  have I7 : Hid (Inf w7 w2.heap.size s.P s.D s.z (.slice xr s.R.length cr) s.F (.slice xs s.S.length cz)) := I6.out.below b7 I6.out.lt
  have F7 : Hid (Row .i64 w7 (w2.heap.size + 1) 2 (fun j => if j = 1 then (at_ : Int) else if j = 0 then c else 0)) := F6.out.below b7 (World.block_lt_of_cell? _ _ (F6.out.cell 0 (by omega)))
  have B7 : Hid (Below w2.heap.size w2 w7) := B6.out.trans (b7.mono B6.out.size)
  have HYR : Hid (SIs w7 yr s.R.length (Sq.nth s.R)) := SR
  have HYS : Hid (SIs w7 ys s.S.length (Sq.nth s.S)) := SS
  have hl7 : Hid (w2.heap.size + 1 < w7.heap.size) := World.block_lt_of_cell? _ _ (F7.out.cell 0 (by omega))
  clear b7 OR OS SR SS I6 F6 B6
  have J7 : Inf (w7.alloc (.cells (infC ⟨#[]⟩ (fun _ => 0) 0 (.slice none 0 0) ⟨#[]⟩ (.slice none 0 0)) 36)) w7.heap.size ⟨#[]⟩ (fun _ => 0) 0 (.slice none 0 0) ⟨#[]⟩ (.slice none 0 0) := Inf.box _ _ _ _ _ _ _ _
  go_wp2_with (refine wpList_store_rinfI (by rfl) (.tmp 5) (.tmp 18) (by rfl) (by rfl) (by rfl) J7 rfl rfl (by rfl) ?_; intro W8 I8 U8; refine Hid.out ?_)
  unfold Hid
  have hb8 : Below w7.heap.size w7 W8 := U8.below ((Below.refl _ _).alloc (Nat.le_refl _) _) (Nat.le_refl _) (by rw [World.size_alloc]; omega)
  have HX1 : SIs W8 xr s.R.length (Sq.nth s.R) := HSR.out.below (B7.out.trans (hb8.mono B7.out.size)) (Nat.le_refl _)
  have HX2 : SIs W8 xs s.S.length (Sq.nth s.S) := HSS.out.below (B7.out.trans (hb8.mono B7.out.size)) (Nat.le_refl _)
  have HX3 : SIs W8 yr s.R.length (Sq.nth s.R) := HYR.out.below hb8 (Nat.le_refl _)
  have HX4 : SIs W8 ys s.S.length (Sq.nth s.S) := HYS.out.below hb8 (Nat.le_refl _)
  have bdr : Below W8.heap.size W8 W8.drew := (Below.refl _ _).drew
  have K8 : PrW w s xr cr xs cz yr dr ys dz c at_ w2.heap.size (w2.heap.size + 1) w7.heap.size W8.drew := by
    have r := F7.out.below hb8 hl7.out
    exact ⟨(I7.out.below hb8 I7.out.lt).same rfl, I8.same rfl, r.drew.cell 0 (by omega), r.drew.cell 1 (by omega), (B2.out.trans ((B7.out.trans (hb8.mono B7.out.size)).mono B2.out.size)).drew, HX1.below bdr (Nat.le_refl _), HX2.below bdr (Nat.le_refl _), HX3.below bdr (Nat.le_refl _), HX4.below bdr (Nat.le_refl _)⟩
  have CP1 := fun W => plain_any s.P s.D s.z s.F xr s.R.length cr xs s.S.length cz W
  have CL := fun W (q : PrW w s xr cr xs cz yr dr ys dz c at_ w2.heap.size (w2.heap.size + 1) w7.heap.size W) => alike_any s.P s.D s.z s.F xr s.R.length cr (Sq.nth s.R) xs s.S.length cz (Sq.nth s.S) s.P s.D s.z s.F yr s.R.length dr (Sq.nth s.R) ys s.S.length dz (Sq.nth s.S) W q.f1 q.f2 q.f3 q.f4 (by have := HO4.out; omega) (by have := HO3.out; omega) (by have := HO4.out; omega) (by have := HO3.out; omega)
  simp only [sm_refl] at CL
  clear HX1 HX2 HX3 HX4 bdr
  clear I8 U8 J7 hb8 I7 F7 B7 HYR HYS HSR HSS B2
  generalize w2.heap.size = g at K8 hl7 CL ⊢
  generalize w7.heap.size = k at K8 hl7 CL ⊢
  go_wp2_with fail
  -- @2
  have e1 : (c == c) = true := by simp
  have e2 : ((at_ : Int) == (at_ : Int)) = true := by simp
  refine wp_region_held_drew (S := PrW w s xr cr xs cz yr dr ys dz c at_ g (g + 1) k) (by kernel_rfl) K8 (fun hH => ?_)
  generalize W8.drew = W at hH ⊢
  clear K8
  -- @R
  refine wpAnyH_take (i := 0) (oi := { dst := some 21, op := Op.load 26 (Operand.tmp 3), type := 26, pos := "law.go:74", after := #[], guard := none }) rfl (by kernel_rfl) (by kernel_rfl) (by kernel_rfl) (fun _ _ _ h => h) (yieldsIf_inf (by rfl) (.tmp 3) rfl rfl (fun w' s => s.i1)) hH ?_
  simp only [Act.put, List.setIfInBounds_toArray, List.set_cons_zero, List.set_cons_succ]
  refine wpAnyH_take (i := 2) (oi := { dst := some 23, op := Op.load 36 (Operand.tmp 5), type := 36, pos := "law.go:74", after := #[], guard := none }) rfl (by kernel_rfl) (by kernel_rfl) (by kernel_rfl) (fun _ _ _ h => h) (yieldsIf_rinf (by rfl) (.tmp 5) rfl rfl (fun w' s => s.i2)) hH ?_
  simp only [Act.put, List.setIfInBounds_toArray, List.set_cons_zero, List.set_cons_succ]
  refine wpAnyH_ready (rs := [1]) (by kernel_rfl) (by decide) (AllReadyH.cons rfl (fun K hK => ?_) AllReadyH.nil)
  rw [if_pos (by rfl)]
  go_simp
  refine (CP1 _).mono ?_
  rintro e v1 ⟨rfl, c1⟩
  go_wp2_with fail
  have hH1 := hH.next c1
  refine hK.out _ _ hH1 (fun _ => ?_)
  clear hK K
  try simp only [Act.put, List.setIfInBounds_toArray, List.set_cons_zero, List.set_cons_succ]
  refine wpAnyH_ready (rs := [3]) (by kernel_rfl) (by decide) (AllReadyH.cons rfl (fun K hK => ?_) AllReadyH.nil)
  rw [if_pos (by rfl)]
  go_simp
  refine (CL _ hH1).mono ?_
  rintro e v2 ⟨rfl, c2⟩
  go_wp2_with fail
  have hH2 := hH1.next c2
  refine hK.out _ _ hH2 (fun _ => ?_)
  clear hK K
  try simp only [Act.put, List.setIfInBounds_toArray, List.set_cons_zero, List.set_cons_succ]
  refine wpAnyH_ready (rs := [4]) (by kernel_rfl) (by decide) (AllReadyH.cons rfl (fun K hK => ?_) AllReadyH.nil)
  rw [if_pos (by rfl)]
  go_simp
  refine hK.out _ _ hH2 (fun _ => ?_)
  clear hK K
  try simp only [Act.put, List.setIfInBounds_toArray, List.set_cons_zero, List.set_cons_succ]
  refine wpAnyH_take (i := 5) (oi := { dst := some 26, op := Op.fieldAddr 42 (Operand.tmp 4) 0, type := 0, pos := "law.go:74", after := #[{ on := 4, ground := Ground.guard }], guard := some (4, true) }) (v := .pointer (some ⟨g + 1, 0, none⟩)) rfl (by kernel_rfl) (by kernel_rfl) (by kernel_rfl) (fun _ _ _ h => h) (Or.inl ⟨by rfl, by intro w _; go_simp⟩) hH2 ?_
  simp only [Act.put, List.setIfInBounds_toArray, List.set_cons_zero, List.set_cons_succ]
  refine wpAnyH_take (i := 6) (oi := { dst := some 27, op := Op.load 28 (Operand.tmp 26), type := 28, pos := "law.go:74", after := #[{ on := 5, ground := Ground.data }, { on := 4, ground := Ground.guard }], guard := some (4, true) }) (v := .int .i64 c) rfl (by kernel_rfl) (by kernel_rfl) (by kernel_rfl) (fun _ _ _ h => h) (Or.inl ⟨by rfl, by intro w' s'; have c9 := s'.c0; go_simp⟩) hH2 ?_
  simp only [Act.put, List.setIfInBounds_toArray, List.set_cons_zero, List.set_cons_succ]
  refine wpAnyH_take (i := 7) (oi := { dst := some 28, op := Op.move (Operand.tmp 6), type := 3, pos := "law.go:74", after := #[{ on := 4, ground := Ground.guard }], guard := some (4, true) }) (v := .int .i64 c) rfl (by kernel_rfl) (by kernel_rfl) (by kernel_rfl) (fun _ _ _ h => h) (Or.inl ⟨by rfl, by intro w _; go_simp⟩) hH2 ?_
  simp only [Act.put, List.setIfInBounds_toArray, List.set_cons_zero, List.set_cons_succ]
  refine wpAnyH_ready (rs := [8]) (by kernel_rfl) (by decide) (AllReadyH.cons rfl (fun K hK => ?_) AllReadyH.nil)
  rw [if_pos (by rfl)]
  go_simp
  refine hK.out _ _ hH2 (fun _ => ?_)
  clear hK K
  try simp only [Act.put, List.setIfInBounds_toArray, List.set_cons_zero, List.set_cons_succ]
  refine wpAnyH_ready (rs := [9]) (by kernel_rfl) (by decide) (AllReadyH.cons rfl (fun K hK => ?_) AllReadyH.nil)
  rw [if_pos (by rfl)]
  go_simp
  refine hK.out _ _ hH2 (fun _ => ?_)
  clear hK K
  try simp only [Act.put, List.setIfInBounds_toArray, List.set_cons_zero, List.set_cons_succ]
  refine wpAnyH_ready (rs := [10]) (by kernel_rfl) (by decide) (AllReadyH.cons rfl (fun K hK => ?_) AllReadyH.nil)
  rw [if_pos (by rfl)]
  go_simp
  refine hK.out _ _ hH2 (fun _ => ?_)
  clear hK K
  try simp only [Act.put, List.setIfInBounds_toArray, List.set_cons_zero, List.set_cons_succ]
  refine wpAnyH_take (i := 11) (oi := { dst := some 32, op := Op.fieldAddr 42 (Operand.tmp 4) 1, type := 0, pos := "law.go:74", after := #[{ on := 10, ground := Ground.guard }], guard := some (10, true) }) (v := .pointer (some ⟨g + 1, 1, none⟩)) rfl (by kernel_rfl) (by kernel_rfl) (by kernel_rfl) (fun _ _ _ h => h) (Or.inl ⟨by rfl, by intro w _; go_simp⟩) hH2 ?_
  simp only [Act.put, List.setIfInBounds_toArray, List.set_cons_zero, List.set_cons_succ]
  refine wpAnyH_take (i := 12) (oi := { dst := some 33, op := Op.load 3 (Operand.tmp 32), type := 3, pos := "law.go:74", after := #[{ on := 11, ground := Ground.data }, { on := 10, ground := Ground.guard }], guard := some (10, true) }) (v := .int .i64 at_) rfl (by kernel_rfl) (by kernel_rfl) (by kernel_rfl) (fun _ _ _ h => h) (Or.inl ⟨by rfl, by intro w' s'; have c9 := s'.c1; go_simp⟩) hH2 ?_
  simp only [Act.put, List.setIfInBounds_toArray, List.set_cons_zero, List.set_cons_succ]
  refine wpAnyH_take (i := 13) (oi := { dst := some 34, op := Op.move (Operand.tmp 7), type := 3, pos := "law.go:74", after := #[{ on := 10, ground := Ground.guard }], guard := some (10, true) }) (v := .int .i64 at_) rfl (by kernel_rfl) (by kernel_rfl) (by kernel_rfl) (fun _ _ _ h => h) (Or.inl ⟨by rfl, by intro w _; go_simp⟩) hH2 ?_
  simp only [Act.put, List.setIfInBounds_toArray, List.set_cons_zero, List.set_cons_succ]
  refine wpAnyH_ready (rs := [14]) (by kernel_rfl) (by decide) (AllReadyH.cons rfl (fun K hK => ?_) AllReadyH.nil)
  rw [if_pos (by rfl)]
  go_simp
  refine hK.out _ _ hH2 (fun _ => ?_)
  clear hK K
  try simp only [Act.put, List.setIfInBounds_toArray, List.set_cons_zero, List.set_cons_succ]
  refine wpAnyH_ready (rs := [15]) (by kernel_rfl) (by decide) (AllReadyH.cons rfl (fun K hK => ?_) AllReadyH.nil)
  rw [if_pos (by rfl)]
  go_simp
  refine hK.out _ _ hH2 (fun _ => ?_)
  clear hK K
  try simp only [Act.put, List.setIfInBounds_toArray, List.set_cons_zero, List.set_cons_succ]
  refine wpAnyH_ready (rs := [16]) (by kernel_rfl) (by decide) (AllReadyH.cons rfl (fun K hK => ?_) AllReadyH.nil)
  rw [if_pos (by rfl)]
  go_simp
  refine hK.out _ _ hH2 (fun _ => ?_)
  clear hK K
  try simp only [Act.put, List.setIfInBounds_toArray, List.set_cons_zero, List.set_cons_succ]
  -- @E
  refine wpAnyH_done (by kernel_rfl) ?_ _
  go_wp2
  go_ret
  exact ⟨rfl, hH2.bel⟩
end Go.Proofs.YtgnlkggodchlbaaDoor
