/- The law TableAll, walked. -/
import Derived.Test.YtpkalnjnjineoaaKqW
import Derived.LoopNIn
import Derived.LoopIn
import Derived.Laws.Rows
namespace Go.Proofs.Ytpkalnjnjineoaa
namespace TS
open Go.RowKit Go.Shelf
attribute [local go_sem] Oper.semAt_some

theorem bx_bel {W W' : World} {B C : Nat} {t : TypeId} {v : Value} (h : Boxed W B t v) (b : Below C W W') (hB : B < C) : Boxed W' B t v := (b.block B hB).trans h
theorem PIs.apart {w : World} {y : Option Addr} {n : Nat} {f : Nat → ByteArray} {g : Nat → Int} {B : Nat} {t : TypeId} {q : Int} (h : PIs w y n f g) (x : Boxed w B t (.int .i64 q)) : ∀ b o, y = some ⟨b, o, none⟩ → 0 < n → b ≠ B := by
  intro b o hy hn e
  obtain ⟨b', o', h1, c0, _⟩ := h 0 hn
  rw [hy] at h1
  injection h1 with h1
  injection h1 with h2 h3 _
  subst h2; subst h3
  subst e
  have hx : w.heap[b]? = some (.cells #[.int .i64 q] t (0, 0)) := x
  simp [World.cell?, hx] at c0
  cases o with
  | zero => simp at c0
  | succ o => simp at c0
theorem PIs.kept {w w' : World} {y : Option Addr} {n : Nat} {f : Nat → ByteArray} {g : Nat → Int} {B : Nat} (h : PIs w y n f g) (hg : w.grownBy w' (some B)) (ap : ∀ b o, y = some ⟨b, o, none⟩ → 0 < n → b ≠ B) : PIs w' y n f g := fun k hk => by
  obtain ⟨b, o, hy, c0, c1⟩ := h k hk
  have e := hg.block b (World.block_lt_of_cell? _ _ c0) (fun q => ap b o hy (by omega) (by injection q))
  exact ⟨b, o, hy, (World.cell?_of_block (w := w) (w' := w') (a := ⟨b, o + k * 2, none⟩) e).trans c0, (World.cell?_of_block (w := w) (w' := w') (a := ⟨b, o + k * 2 + 1, none⟩) e).trans c1⟩
theorem gb_refl (w : World) (r : Option Nat) : w.grownBy w r := ⟨rfl, rfl, rfl, Nat.le_refl _, fun _ _ _ => rfl⟩
theorem gb_trans {a b c : World} {S : Nat} {r : Option Nat} (h : a.grownBy b (some S)) (g : b.grownBy c r) (hr : ∀ q, r = some q → a.heap.size ≤ q) : a.grownBy c (some S) :=
  ⟨g.os.trans h.os, g.tape.trans h.tape, g.output.trans h.output, Nat.le_trans h.size g.size, fun i hi hne => (g.block i (by have := h.size; omega) (fun e => by have := hr i e.symm; omega)).trans (h.block i hi hne)⟩
theorem pre_snoc {pre M : PL} {x : ByteArray × Int} (h : pre <+: M) (e : M[pre.length]? = some x) : pre ++ [x] <+: M := by
  obtain ⟨t, rfl⟩ := h
  rw [List.getElem?_append_right (Nat.le_refl _), Nat.sub_self] at e
  cases t with
  | nil => cases e
  | cons a t =>
    simp at e
    subst e
    exact ⟨t, by simp⟩
theorem pre_at {pre M : PL} {x : ByteArray × Int} (h : pre ++ [x] <+: M) : M[pre.length]? = some x := by
  obtain ⟨t, rfl⟩ := h
  simp
theorem pre_fg {pre M : PL} (hl : pre.length < M.length) : M[pre.length]? = some (fL M pre.length, gL M pre.length) := by
  rw [List.getElem?_eq_getElem hl, ← fgL hl]
theorem gb_trans2 {a b : World} {S j : Nat} {v : Value} (h : a.grownBy b (some S)) : a.grownBy (b.setCell ⟨S, j, none⟩ v) (some S) :=
  ⟨h.os, h.tape, h.output, by rw [World.size_setCell]; exact h.size, fun i hi hne => (Below.heap_setCell b ⟨S, j, none⟩ v i (fun e => hne (by rw [e]))).trans (h.block i hi hne)⟩
theorem bel_eq {A B : Nat} {a b c : World} (h : Below B a b) (e : A = B) (g : Below B b c) : Below A a c := by subst e; exact h.trans g
theorem results_cellB {P : Program} {fn : Func} {p : Tmp} {ty : TypeId} (h : fn.results = #[.cell p ty]) (tmps : Array Value) (w : World) (g : Nat) (v : Value)
    (hp : tmps.getD p undef = .pointer (some ⟨g, 0, none⟩)) (hc : w.cell? ⟨g, 0, none⟩ = some v) (hu : P.underlying ty = some .bool) :
    (results fn tmps).run P w = .ok v w := by
  have hp' : tmps[p]?.getD undef = .pointer (some ⟨g, 0, none⟩) := by simpa using hp
  simp [results, h, hp', asAddr, loadVar, isAgg, underlying, hu, hc, go_sem]
theorem prb1n : decide ((BT.E : BT ByteArray).cnt < (BT.wth ltK prb 7 .E).cnt) = true := by decide +kernel
theorem prb2n : decide ((BT.wtout ltK (BT.wth ltK prb 7 .E) prb).cnt < (BT.wth ltK prb 7 .E).cnt) = true := by decide +kernel

set_option maxRecDepth 100000 in
set_option maxHeartbeats 8000000 in
theorem all_walk (x : Option Addr) (n c : Nat) (f : Nat → ByteArray) (k : ByteArray) (w : World) (hm : n ≤ 1048576 ∧ ∀ i, i < n → (f i).size ≤ 1048576) (hS : KSl w x n f) (_hk : k.size ≤ 1048576) :
    Calls Try.prog 6 #[.slice x n c, .string k] w fun e w' => e = .returned (.bool true) ∧ Below w.heap.size w w' := by
  refine (callsIn_wide (n := 6)).1 ?_
  have hn := hm.1
  have HS : Hid (KSl w x n f) := hS
  clear hS hm
  refine callsIn_of_wp_marks Try.func6 rfl trivial ?_ rfl
  simp only [Try.ntmps6, List.size_toArray, List.length_cons, List.length_nil, Nat.reduceAdd, Nat.reduceSub, Array.replicate_succ, Array.replicate_zero, List.push_toArray, List.append_toArray, List.nil_append, List.cons_append]
  rw [show (⟨#[112, 114, 111, 98, 101]⟩ : ByteArray) = prb from rfl]
  have bR : Boxed (w.alloc (.cells #[.bool false] 4)) w.heap.size 4 (.bool false) := Boxed.new w 4 (.bool false)
  have b0 : Below w.heap.size w (w.alloc (.cells #[.bool false] 4)) := (Below.refl _ _).alloc (Nat.le_refl _) _
  have s0 : (w.alloc (.cells #[.bool false] 4)).heap.size = w.heap.size + 1 := World.size_alloc _ _
  have CN := new_any (w.alloc (.cells #[.bool false] 4))
  gi_wp2_with ((try refine ⟨trivial, ?_⟩); gi_at_call 8; refine (callsIn_wide.2 CN).mono ?_; clear CN; rintro e w1 ⟨T, rfl, hT1, hT2, t1, b1⟩; refine Hid.out ?_)
  unfold Hid
  have HT : Hid (w.heap.size + 1 ≤ T) := by rw [s0] at hT1; exact hT1
  have R1 : Hid (Boxed w1 w.heap.size 4 (.bool false)) := bx_bel bR b1 (by rw [s0]; omega)
  have B1 : Below w.heap.size w w1 := b0.trans (b1.mono (by rw [s0]; omega))
  clear bR b0 s0 hT1 hT2 b1
  have CC := put2_any T .E prb 7 w1 t1 (by decide)
  gi_wp2_with ((try refine ⟨trivial, ?_⟩); gi_at_call 9; refine (callsIn_wide.2 CC).mono ?_; clear CC; rintro e w2 ⟨rfl, t2, g2⟩; refine Hid.out ?_)
  unfold Hid
  rw [prb1n]
  have R2 : Hid (Boxed w2 w.heap.size 4 (.bool false)) := R1.out.kept g2 (fun e => by have := HT.out; injection e; omega)
  have B2 : Below w.heap.size w w2 := B1.trans (gb_bel g2 (fun q hq => by injection hq with hq; rw [← hq]; have := HT.out; omega) B1.size)
  clear g2 t1 R1 B1
  have CC := cut2_any T _ prb w2 t2 (by decide +kernel)
  gi_wp2_with ((try refine ⟨trivial, ?_⟩); gi_at_call 11; refine (callsIn_wide.2 CC).mono ?_; clear CC; rintro e w3 ⟨rfl, t3, g3⟩; refine Hid.out ?_)
  unfold Hid
  rw [prb2n]
  rw [prb3] at t3
  have R3 : Hid (Boxed w3 w.heap.size 4 (.bool false)) := R2.out.kept g3 (fun e => by have := HT.out; injection e; omega)
  have B3 : Hid (Below w.heap.size w w3) := B2.trans (gb_bel g3 (fun q hq => by injection hq with hq; rw [← hq]; have := HT.out; omega) B2.size)
  have T3 : Hid (Tab w3 T .E) := t3
  clear g3 t2 R2 B2 t3
  gi_wp2
  -- @1
  gi_loopw [6, 30] (fun vx xi wr => ∃ (j : Nat) (u : BT ByteArray) (L : PL), j ≤ n ∧ xi = .int .i64 (j : Int) ∧ Hid (Tab wr T u) ∧ Hid (OwnP wr (T + 1) vx L) ∧ Hid (LU L u j) ∧ Hid (Below w.heap.size w wr) ∧ Hid (Boxed wr w.heap.size 4 (.bool false))) (fun _ i _ => n - (intOf i).toNat)
  case atStart => exact ⟨0, .E, [], Nat.zero_le _, rfl, T3, OwnP.nil _ _, LU.nil, B3, R3⟩
  case round =>
    obtain ⟨j, u, L, hj, rfl, TU, OV, LV, BU, RU⟩ := hrel
    by_cases hlt : j < n
    · obtain ⟨a, rfl, c0⟩ := HS.out.below BU.out (Nat.le_refl _) j hlt
      have hok := TU.out.ok
      have CC := put2_any T u (f j) (j : Int) wr TU.out (by have := LV.out.cnt hok; omega)
      gi_wp2_with ((try refine ⟨trivial, ?_⟩); gi_at_call 9; refine (callsIn_wide.2 CC).mono ?_; clear CC; rintro e w6 ⟨rfl, t6, g6⟩; refine Hid.out ?_)
      unfold Hid
      have T6 : Hid (Tab w6 T (BT.wth ltK (f j) (j : Int) u)) := t6
      have B6 : Hid (Below w.heap.size w w6) := BU.out.trans (gb_bel g6 (fun q hq => by injection hq with hq; rw [← hq]; have := HT.out; omega) BU.out.size)
      have O6 : Hid (OwnP w6 (T + 1) u6 L) := OV.out.grown g6 (by omega)
      have R6 : Hid (Boxed w6 w.heap.size 4 (.bool false)) := RU.out.kept g6 (fun e => by have := HT.out; injection e; omega)
      have hT6 : T < w6.heap.size := t6.lt
      have hw6 : w.heap.size < w6.heap.size := by have := HT.out; omega
      have CP := putL_any u6 L (f j) (j : Int) w6 O6.out.at (by have := LV.out.len; omega)
      have LV' : Hid (LU (BT.dl (f j) L ++ [(f j, (j : Int))]) (BT.wth ltK (f j) (j : Int) u) (j + 1)) := LV.out.put (f j) (j : Int)
      clear t6 g6 c0 TU BU hok OV LV O6 RU
      generalize BT.wth ltK (f j) (j : Int) u = u' at T6 LV'
      generalize BT.dl (f j) L ++ [(f j, (j : Int))] = L' at LV' CP
      gi_wp2_with ((try refine ⟨trivial, ?_⟩); gi_at_call 13; refine (callsIn_wide.2 CP).mono ?_; clear CP; rintro e w7 ⟨v7, rfl, o7, b7⟩; refine Hid.out ?_)
      unfold Hid
      have O7 : Hid (OwnP w7 (T + 1) v7 L') := o7.mono (by omega)
      have T7 : Hid (Tab w7 T u') := T6.out.below b7 (Nat.le_refl _)
      have B7 : Hid (Below w.heap.size w w7) := B6.out.trans (b7.mono B6.out.size)
      have R7 : Hid (Boxed w7 w.heap.size 4 (.bool false)) := bx_bel R6.out b7 hw6
      clear o7 b7 T6 B6 hT6 R6 hw6
      gi_wp2
      go_roundw
      case rel => exact ⟨j + 1, u', L', by omega, by go_num, T7, O7, LV', B7, R7⟩
      case measure => simp [intOf]; omega
    · obtain rfl : j = n := by omega
      clear T3 B3 R3
      -- @2
      gi_wp2_with ((try refine ⟨trivial, ?_⟩); gi_at_call 29; refine (all_in Fence.wide _ trivial rfl _ _).mono ?_; rintro e w8 ⟨rfl, hw8⟩; refine Hid.out ?_)
      unfold Hid
      have T8 : Hid (Tab (wr.alloc (.cells #[.pointer (some ⟨T, 0, none⟩)] 23)) T u) := TU.out.below ((Below.refl _ _).alloc (Nat.le_refl _) _) (Nat.le_refl _)
      have O8 : Hid (OwnP (wr.alloc (.cells #[.pointer (some ⟨T, 0, none⟩)] 23)) (T + 1) u6 L) := OV.out.alloc _
      have B8 : Hid (Below w.heap.size w (wr.alloc (.cells #[.pointer (some ⟨T, 0, none⟩)] 23))) := BU.out.alloc BU.out.size _
      have R8 : Hid (Boxed (wr.alloc (.cells #[.pointer (some ⟨T, 0, none⟩)] 23)) w.heap.size 4 (.bool false)) := RU.out.alloc _
      have N8 : Hid (Boxed (wr.alloc (.cells #[.pointer (some ⟨T, 0, none⟩)] 23)) wr.heap.size 23 (.pointer (some ⟨T, 0, none⟩))) := Boxed.new wr 23 (.pointer (some ⟨T, 0, none⟩))
      have hTB : Hid (T < wr.heap.size) := TU.out.lt
      obtain ⟨Bt, hBt⟩ : ∃ Bt, wr.heap.size = Bt := ⟨_, rfl⟩
      generalize wr.alloc (.cells #[.pointer (some ⟨T, 0, none⟩)] 23) = w8 at T8 O8 B8 R8 N8 ⊢
      rw [hBt] at N8 hTB ⊢
      clear TU OV BU RU hBt
      gi_wp2
      refine wpIn_loop_rounds 3 ?_
      rw [roundsIn_succ]
      -- @3
      -- @round0
      have hm0 : u.toL.length ≤ 1048580 := by rw [← LV.out.br.len]; have := LV.out.len; omega
      have BX0 : Hid (Boxed (w8.alloc (.cells #[.int .i64 0] 3)) w8.heap.size 3 (.int .i64 0)) := Boxed.new w8 3 (.int .i64 0)
      have CC := sortL_any u6 L u.toL (w8.alloc (.cells #[.int .i64 0] 3)) (O8.out.alloc _).at (by have := LV.out.len; omega) LV.out.br
      gi_wp2
      refine ⟨trivial, (callsIn_wide.2 CC).mono ?_⟩
      clear CC
      rintro e wS0 ⟨yS0, rfl, aS0, bS0⟩
      obtain ⟨y0, cy0, rfl, pS0⟩ := aS0
      have z0 : (w8.alloc (.cells #[.int .i64 0] 3)).heap.size = w8.heap.size + 1 := World.size_alloc _ _
      have XS0 : Boxed wS0 w8.heap.size 3 (.int .i64 0) := bx_bel BX0.out bS0 (by rw [z0]; omega)
      have BS0 : Below w8.heap.size w8 wS0 := ((Below.refl _ _).alloc (Nat.le_refl _) _).trans (bS0.mono (by rw [z0]; omega))
      have zS0 : w8.heap.size < wS0.heap.size := by have := bS0.size; rw [z0] at this; omega
      have ap0 : Hid (∀ b o, y0 = some ⟨b, o, none⟩ → 0 < u.toL.length → b ≠ w8.heap.size) := pS0.apart XS0
      have X10 : Hid (Boxed (wS0.alloc (.cells #[.slice y0 u.toL.length cy0] 26)) w8.heap.size 3 (.int .i64 0)) := XS0.alloc _
      have X20 : Hid (Boxed (wS0.alloc (.cells #[.slice y0 u.toL.length cy0] 26)) wS0.heap.size 26 (.slice y0 u.toL.length cy0)) := Boxed.new _ _ _
      have B10 : Hid (Below w8.heap.size w8 (wS0.alloc (.cells #[.slice y0 u.toL.length cy0] 26))) := BS0.alloc BS0.size _
      have P10 : Hid (PIs (wS0.alloc (.cells #[.slice y0 u.toL.length cy0] 26)) y0 u.toL.length (fL u.toL) (gL u.toL)) := pS0.below ((Below.refl _ _).alloc (Nat.le_refl _) _) (Nat.le_refl _)
      have z10 : (wS0.alloc (.cells #[.slice y0 u.toL.length cy0] 26)).heap.size = wS0.heap.size + 1 := World.size_alloc _ _
      clear BX0 bS0 z0 XS0 BS0 pS0
      gi_wp2
      generalize wS0.alloc (.cells #[.slice y0 u.toL.length cy0] 26) = W0 at X10 X20 B10 P10 z10 ⊢
      obtain ⟨S0, hS0⟩ : ∃ S, w8.heap.size = S := ⟨_, rfl⟩
      obtain ⟨Z0, hZ0⟩ : ∃ Z, wS0.heap.size = Z := ⟨_, rfl⟩
      have HZ0 : Hid (S0 < Z0 ∧ W0.heap.size = Z0 + 1) := by unfold Hid; rw [← hS0, ← hZ0]; exact ⟨zS0, z10⟩
      have HS0 : Hid (w8.heap.size = S0) := hS0
      rw [hS0] at X10 B10 ap0 ⊢
      rw [hZ0] at X20 ⊢
      clear zS0 z10 hS0 hZ0
      have TZ0 : Hid (Tab W0 T u) := T8.out.below B10.out (Nat.le_of_eq HS0.out)
      have hTS0 : Hid (T < S0) := by rw [← HS0.out]; exact T8.out.lt
      have hBS0 : Hid (Bt < S0) := by rw [← HS0.out]; exact N8.out.lt
      obtain ⟨p0, hp0, _, htr0, _⟩ := T8.out
      have NZ0 : Hid (Boxed W0 Bt 23 (.pointer (some ⟨T, 0, none⟩))) := bx_bel N8.out B10.out hBS0.out
      have hp10 : Hid (W0.cell? ⟨T, 0, none⟩ = some (.pointer p0)) := (B10.out.cell (p := ⟨T, 0, none⟩) hTS0.out).trans hp0
      have htb0 : Hid (TrB S0 W0 u p0) := by rw [← HS0.out]; exact (htr0.bnd).below (by rw [HS0.out]; exact B10.out)
      clear hp0 htr0
      refine wpIn_rangeFunc_ownG rfl (by decide) (gf := 47) (lb := #[.pointer (some ⟨Bt, 0, none⟩)]) rfl trivial (enters_of Try.func47 (by kernel_rfl) rfl)
        (all_stops Fence.wide rfl 5 trivial trivial rfl Bt T S0 p0 u W0 (by have := HZ0.out; have := hBS0.out; omega) (by have := HZ0.out; have := hTS0.out; omega) (by have := HZ0.out; omega) NZ0.out.cell hp10.out htb0.out) belowK_t (belowK_b (by have := HZ0.out; omega)) (Below.refl _ _) (fun _ => rfl)
        (fun pre W => (Boxed W S0 3 (.int .i64 (pre.length : Int)) ∧ pre <+: u.toL) ∧ W0.grownBy W (some S0))
        (fun _ pre _ => ¬ pre <+: u.toL)
        (fun pre A B row hs hg hr => ⟨⟨hs.1.1.kept hg (fun e => by have h1 := (hr S0 e.symm).1; have h2 := HZ0.out; omega), hs.1.2⟩, gb_trans hs.2 hg (fun q e => by have := (hr q e).1; omega)⟩)
        (fun _ _ _ _ _ hs _ _ => hs)
        ⟨⟨X10.out, List.nil_prefix⟩, gb_refl _ _⟩
        ?a0 ?assign0 ?body0 ?done0 ?stop0
      case assign0 =>
        intro l x W K hK
        gi_wp2
        exact hK
      case body0 =>
        rintro l pre x W ⟨⟨hb, hpre⟩, hg⟩ hlt
        have hS := HZ0.out
        have c1 := hb.cell
        have c1f := hb.frozen
        have x2 := X20.out.kept hg (fun e => by injection e; omega)
        have c2 := x2.cell
        have r2 := (bx_bel R8.out B10.out (by rw [← HS0.out]; exact R8.out.lt)).kept hg (fun e => by have h1 := R8.out.lt; have h2 := HS0.out; injection e; omega)
        have c3 := r2.cell
        have c3f := r2.frozen
        obtain ⟨b, o, hy, d0, d1⟩ := (P10.out.kept hg ap0.out) pre.length hlt
        have hfg := pre_fg hlt
        have HPRE : Hid (pre <+: u.toL) := hpre
        have HFG : Hid (u.toL[pre.length]? = some (fL u.toL pre.length, gL u.toL pre.length)) := hfg
        have HB : Hid (Boxed W S0 3 (.int .i64 (pre.length : Int))) := hb
        have HGR : Hid (W0.grownBy W (some S0)) := hg
        clear hb hpre hfg hg x2 r2 hS
        subst hy
        have hl1 : (pre.length : Int) < ((u.toL.length : Nat) : Int) := by omega
        have hl2 : pre.length ≤ 1048580 := by omega
        by_cases hk : fL u.toL pre.length = x.1
        · have e1 : ((fL u.toL pre.length).toList != x.1.toList) = false := by rw [hk]; simp
          have e2 : ((fL u.toL pre.length).toList == x.1.toList) = true := by rw [hk]; simp
          have e3 : (fL u.toL pre.length).toList = x.1.toList := by rw [hk]
          by_cases hv : gL u.toL pre.length = x.2
          · have e4 : (gL u.toL pre.length != x.2) = false := by rw [hv]; simp
            have e5 : (gL u.toL pre.length == x.2) = true := by rw [hv]; simp
            have HX : Hid (u.toL[pre.length]? = some x) := by unfold Hid; rw [HFG.out, hk, hv]
            clear hk hv
            gi_wp2
            refine ⟨(KeepsOthers.setCell W _ _).from _, (Below.refl S0 W).setCell (p := ⟨S0, 0, none⟩) (Nat.le_refl _) _, ⟨?_, pre_snoc HPRE.out HX.out⟩, ?_⟩
            · have := HB.out.set (.int .i64 ((pre.length : Int) + 1))
              rw [List.length_append]
              exact this
            · exact gb_trans2 HGR.out
          · have e4 : (gL u.toL pre.length != x.2) = true := by rw [bne_iff_ne]; exact hv
            have e5 : (gL u.toL pre.length == x.2) = false := by rw [beq_eq_false_iff_ne]; exact hv
            have HX : Hid (¬ pre ++ [x] <+: u.toL) := fun h => hv (by have := pre_at h; rw [HFG.out] at this; injection this with this; rw [← this])
            clear hk hv
            gi_wp2
            exact ⟨(KeepsOthers.setCell W _ _).from _, HX.out⟩
        · have e1 : ((fL u.toL pre.length).toList != x.1.toList) = true := by rw [bne_iff_ne]; exact fun h => hk (of_toList _ _ h)
          have e2 : ((fL u.toL pre.length).toList == x.1.toList) = false := by rw [beq_eq_false_iff_ne]; exact fun h => hk (of_toList _ _ h)
          have e3 : ¬ (fL u.toL pre.length).toList = x.1.toList := fun h => hk (of_toList _ _ h)
          have HX : Hid (¬ pre ++ [x] <+: u.toL) := fun h => hk (by have := pre_at h; rw [HFG.out] at this; injection this with this; rw [← this])
          clear hk
          gi_wp2
          exact ⟨(KeepsOthers.setCell W _ _).from _, HX.out⟩
      case stop0 =>
        rintro D c pre W _ h1 h2 _
        exact absurd h1 h2
      rintro D0 ys0 WD0 hD0 rfl ⟨⟨hb0, _⟩, hg0⟩ hK0
      have c10 := hb0.cell
      have c20 := (X20.out.kept hg0 (fun e => by have := HZ0.out; injection e; omega)).cell
      have BD0 : Hid (Below w8.heap.size w8 WD0) := bel_eq B10.out HS0.out (gb_bel hg0 (fun q hq => by injection hq with hq; omega) (by have := HZ0.out; omega))
      have TD0 : Hid (Tab WD0 T u) := T8.out.below BD0.out (Nat.le_refl _)
      have OD0 : Hid (OwnP WD0 (T + 1) u6 L) := O8.out.below BD0.out (Nat.le_refl _)
      have RD0 : Hid (Boxed WD0 w.heap.size 4 (.bool false)) := bx_bel R8.out BD0.out R8.out.lt
      have ND0 : Hid (Boxed WD0 Bt 23 (.pointer (some ⟨T, 0, none⟩))) := bx_bel N8.out BD0.out N8.out.lt
      have BWD0 : Hid (Below w.heap.size w WD0) := B8.out.trans (BD0.out.mono B8.out.size)
      have KD0 : Hid (WD0.heap[D0]? = some (.deferred (some []))) := hK0
      have hDT0 : Hid (T < D0) := by have := hTS0.out; have := HZ0.out; unfold Hid; omega
      have hDl0 : Hid (w.heap.size ≤ D0) := by have := HT.out; have := hTS0.out; have := HZ0.out; unfold Hid; omega
      clear hb0 hg0 hK0 X10 X20 P10 ap0 TZ0 NZ0 hp10 htb0 B10 hTS0 hBS0 HZ0 HS0 T8 O8 R8 N8 B8 BD0 hD0
      have qn0 : (((u.toL.length : Nat) : Int) != ((u.toL.length : Nat) : Int)) = false := by simp
      have CC := put2_any T u k (0) WD0 TD0.out (by have := LV.out.cnt TD0.out.ok; omega)
      gi_wp2
      refine ⟨trivial, (callsIn_wide.2 CC).mono ?_⟩
      clear CC
      rintro e WP0 ⟨rfl, tp0, gp0⟩
      have OP0 : Hid (OwnP WP0 (T + 1) u6 L) := OD0.out.grown gp0 (by omega)
      have RP0 : Hid (Boxed WP0 w.heap.size 4 (.bool false)) := RD0.out.kept gp0 (fun e => by have := HT.out; injection e; omega)
      have NP0 : Hid (Boxed WP0 Bt 23 (.pointer (some ⟨T, 0, none⟩))) := ND0.out.kept gp0 (fun e => by have := hTB.out; injection e; omega)
      have BP0 : Hid (Below w.heap.size w WP0) := BWD0.out.trans (gb_bel gp0 (fun q hq => by injection hq with hq; rw [← hq]; have := HT.out; omega) BWD0.out.size)
      have KP0 : Hid (WP0.heap[D0]? = some (.deferred (some []))) := (gp0.block D0 (Array.getElem?_eq_some_iff.1 KD0.out).1 (fun e => by have := hDT0.out; injection e; omega)).trans KD0.out
      clear c10 c20 qn0 OD0 RD0 ND0 BWD0 TD0 gp0
      have LP0 : Hid (LU (BT.dl k L ++ [(k, (0))]) (BT.wth ltK k (0) u) (j + 1)) := LV.out.put k (0)
      have CC := putL_any u6 L k (0) WP0 OP0.out.at (by have := LV.out.len; omega)
      have hTP0 : T < WP0.heap.size := tp0.lt
      have hRP0 : w.heap.size < WP0.heap.size := RP0.out.lt
      have hNP0 : Bt < WP0.heap.size := NP0.out.lt
      generalize BT.wth ltK k (0) u = uN0 at tp0 LP0
      generalize BT.dl k L ++ [(k, (0))] = LN0 at CC LP0
      gi_wp2
      refine ⟨trivial, (callsIn_wide.2 CC).mono ?_⟩
      clear CC
      rintro e WN0 ⟨vN0, rfl, oN0, bN0⟩
      have TN0 : Hid (Tab WN0 T uN0) := tp0.below bN0 (Nat.le_refl _)
      have ON0 : Hid (OwnP WN0 (T + 1) vN0 LN0) := oN0.mono (by omega)
      have RN0 : Hid (Boxed WN0 w.heap.size 4 (.bool false)) := bx_bel RP0.out bN0 hRP0
      have NN0 : Hid (Boxed WN0 Bt 23 (.pointer (some ⟨T, 0, none⟩))) := bx_bel NP0.out bN0 hNP0
      have BN0 : Hid (Below w.heap.size w WN0) := BP0.out.trans (bN0.mono BP0.out.size)
      have KN0 : Hid (WN0.heap[D0]? = some (.deferred (some []))) := (bN0.block D0 (Array.getElem?_eq_some_iff.1 KP0.out).1).trans KP0.out
      clear oN0 bN0 tp0 OP0 RP0 NP0 BP0 hTP0 hRP0 hNP0 hm0
      gi_wp2
      rw [roundsIn_succ]
      -- @round1
      have hm1 : uN0.toL.length ≤ 1048580 := by rw [← LP0.out.br.len]; have := LP0.out.len; omega
      have BX1 : Hid (Boxed (WN0.alloc (.cells #[.int .i64 0] 3)) WN0.heap.size 3 (.int .i64 0)) := Boxed.new WN0 3 (.int .i64 0)
      have CC := sortL_any vN0 LN0 uN0.toL (WN0.alloc (.cells #[.int .i64 0] 3)) (ON0.out.alloc _).at (by have := LP0.out.len; omega) LP0.out.br
      gi_wp2
      refine ⟨trivial, (callsIn_wide.2 CC).mono ?_⟩
      clear CC
      rintro e wS1 ⟨yS1, rfl, aS1, bS1⟩
      obtain ⟨y1, cy1, rfl, pS1⟩ := aS1
      have z1 : (WN0.alloc (.cells #[.int .i64 0] 3)).heap.size = WN0.heap.size + 1 := World.size_alloc _ _
      have XS1 : Boxed wS1 WN0.heap.size 3 (.int .i64 0) := bx_bel BX1.out bS1 (by rw [z1]; omega)
      have BS1 : Below WN0.heap.size WN0 wS1 := ((Below.refl _ _).alloc (Nat.le_refl _) _).trans (bS1.mono (by rw [z1]; omega))
      have zS1 : WN0.heap.size < wS1.heap.size := by have := bS1.size; rw [z1] at this; omega
      have ap1 : Hid (∀ b o, y1 = some ⟨b, o, none⟩ → 0 < uN0.toL.length → b ≠ WN0.heap.size) := pS1.apart XS1
      have X11 : Hid (Boxed (wS1.alloc (.cells #[.slice y1 uN0.toL.length cy1] 26)) WN0.heap.size 3 (.int .i64 0)) := XS1.alloc _
      have X21 : Hid (Boxed (wS1.alloc (.cells #[.slice y1 uN0.toL.length cy1] 26)) wS1.heap.size 26 (.slice y1 uN0.toL.length cy1)) := Boxed.new _ _ _
      have B11 : Hid (Below WN0.heap.size WN0 (wS1.alloc (.cells #[.slice y1 uN0.toL.length cy1] 26))) := BS1.alloc BS1.size _
      have P11 : Hid (PIs (wS1.alloc (.cells #[.slice y1 uN0.toL.length cy1] 26)) y1 uN0.toL.length (fL uN0.toL) (gL uN0.toL)) := pS1.below ((Below.refl _ _).alloc (Nat.le_refl _) _) (Nat.le_refl _)
      have z11 : (wS1.alloc (.cells #[.slice y1 uN0.toL.length cy1] 26)).heap.size = wS1.heap.size + 1 := World.size_alloc _ _
      clear BX1 bS1 z1 XS1 BS1 pS1
      gi_wp2
      generalize wS1.alloc (.cells #[.slice y1 uN0.toL.length cy1] 26) = W1 at X11 X21 B11 P11 z11 ⊢
      obtain ⟨S1, hS1⟩ : ∃ S, WN0.heap.size = S := ⟨_, rfl⟩
      obtain ⟨Z1, hZ1⟩ : ∃ Z, wS1.heap.size = Z := ⟨_, rfl⟩
      have HZ1 : Hid (S1 < Z1 ∧ W1.heap.size = Z1 + 1) := by unfold Hid; rw [← hS1, ← hZ1]; exact ⟨zS1, z11⟩
      have HS1 : Hid (WN0.heap.size = S1) := hS1
      rw [hS1] at X11 B11 ap1 ⊢
      rw [hZ1] at X21 ⊢
      clear zS1 z11 hS1 hZ1
      have TZ1 : Hid (Tab W1 T uN0) := TN0.out.below B11.out (Nat.le_of_eq HS1.out)
      have hTS1 : Hid (T < S1) := by rw [← HS1.out]; exact TN0.out.lt
      have hBS1 : Hid (Bt < S1) := by rw [← HS1.out]; exact NN0.out.lt
      obtain ⟨p1, hp1, _, htr1, _⟩ := TN0.out
      have NZ1 : Hid (Boxed W1 Bt 23 (.pointer (some ⟨T, 0, none⟩))) := bx_bel NN0.out B11.out hBS1.out
      have hp11 : Hid (W1.cell? ⟨T, 0, none⟩ = some (.pointer p1)) := (B11.out.cell (p := ⟨T, 0, none⟩) hTS1.out).trans hp1
      have htb1 : Hid (TrB S1 W1 uN0 p1) := by rw [← HS1.out]; exact (htr1.bnd).below (by rw [HS1.out]; exact B11.out)
      clear hp1 htr1
      refine wpIn_rangeFunc_ownG rfl (by decide) (gf := 47) (lb := #[.pointer (some ⟨Bt, 0, none⟩)]) rfl trivial (enters_of Try.func47 (by kernel_rfl) rfl)
        (all_stops Fence.wide rfl 5 trivial trivial rfl Bt T S1 p1 uN0 W1 (by have := HZ1.out; have := hBS1.out; omega) (by have := HZ1.out; have := hTS1.out; omega) (by have := HZ1.out; omega) NZ1.out.cell hp11.out htb1.out) belowK_t (belowK_b (by have := HZ1.out; omega)) (Below.refl _ _) (fun _ => rfl)
        (fun pre W => (Boxed W S1 3 (.int .i64 (pre.length : Int)) ∧ pre <+: uN0.toL) ∧ W1.grownBy W (some S1))
        (fun _ pre _ => ¬ pre <+: uN0.toL)
        (fun pre A B row hs hg hr => ⟨⟨hs.1.1.kept hg (fun e => by have h1 := (hr S1 e.symm).1; have h2 := HZ1.out; omega), hs.1.2⟩, gb_trans hs.2 hg (fun q e => by have := (hr q e).1; omega)⟩)
        (fun _ _ _ _ _ hs _ _ => hs)
        ⟨⟨X11.out, List.nil_prefix⟩, gb_refl _ _⟩
        ?a1 ?assign1 ?body1 ?done1 ?stop1
      case assign1 =>
        intro l x W K hK
        gi_wp2
        exact hK
      case body1 =>
        rintro l pre x W ⟨⟨hb, hpre⟩, hg⟩ hlt
        have hS := HZ1.out
        have c1 := hb.cell
        have c1f := hb.frozen
        have x2 := X21.out.kept hg (fun e => by injection e; omega)
        have c2 := x2.cell
        have r2 := (bx_bel RN0.out B11.out (by rw [← HS1.out]; exact RN0.out.lt)).kept hg (fun e => by have h1 := RN0.out.lt; have h2 := HS1.out; injection e; omega)
        have c3 := r2.cell
        have c3f := r2.frozen
        obtain ⟨b, o, hy, d0, d1⟩ := (P11.out.kept hg ap1.out) pre.length hlt
        have hfg := pre_fg hlt
        have HPRE : Hid (pre <+: uN0.toL) := hpre
        have HFG : Hid (uN0.toL[pre.length]? = some (fL uN0.toL pre.length, gL uN0.toL pre.length)) := hfg
        have HB : Hid (Boxed W S1 3 (.int .i64 (pre.length : Int))) := hb
        have HGR : Hid (W1.grownBy W (some S1)) := hg
        clear hb hpre hfg hg x2 r2 hS
        subst hy
        have hl1 : (pre.length : Int) < ((uN0.toL.length : Nat) : Int) := by omega
        have hl2 : pre.length ≤ 1048580 := by omega
        by_cases hk : fL uN0.toL pre.length = x.1
        · have e1 : ((fL uN0.toL pre.length).toList != x.1.toList) = false := by rw [hk]; simp
          have e2 : ((fL uN0.toL pre.length).toList == x.1.toList) = true := by rw [hk]; simp
          have e3 : (fL uN0.toL pre.length).toList = x.1.toList := by rw [hk]
          by_cases hv : gL uN0.toL pre.length = x.2
          · have e4 : (gL uN0.toL pre.length != x.2) = false := by rw [hv]; simp
            have e5 : (gL uN0.toL pre.length == x.2) = true := by rw [hv]; simp
            have HX : Hid (uN0.toL[pre.length]? = some x) := by unfold Hid; rw [HFG.out, hk, hv]
            clear hk hv
            gi_wp2
            refine ⟨(KeepsOthers.setCell W _ _).from _, (Below.refl S1 W).setCell (p := ⟨S1, 0, none⟩) (Nat.le_refl _) _, ⟨?_, pre_snoc HPRE.out HX.out⟩, ?_⟩
            · have := HB.out.set (.int .i64 ((pre.length : Int) + 1))
              rw [List.length_append]
              exact this
            · exact gb_trans2 HGR.out
          · have e4 : (gL uN0.toL pre.length != x.2) = true := by rw [bne_iff_ne]; exact hv
            have e5 : (gL uN0.toL pre.length == x.2) = false := by rw [beq_eq_false_iff_ne]; exact hv
            have HX : Hid (¬ pre ++ [x] <+: uN0.toL) := fun h => hv (by have := pre_at h; rw [HFG.out] at this; injection this with this; rw [← this])
            clear hk hv
            gi_wp2
            exact ⟨(KeepsOthers.setCell W _ _).from _, HX.out⟩
        · have e1 : ((fL uN0.toL pre.length).toList != x.1.toList) = true := by rw [bne_iff_ne]; exact fun h => hk (of_toList _ _ h)
          have e2 : ((fL uN0.toL pre.length).toList == x.1.toList) = false := by rw [beq_eq_false_iff_ne]; exact fun h => hk (of_toList _ _ h)
          have e3 : ¬ (fL uN0.toL pre.length).toList = x.1.toList := fun h => hk (of_toList _ _ h)
          have HX : Hid (¬ pre ++ [x] <+: uN0.toL) := fun h => hk (by have := pre_at h; rw [HFG.out] at this; injection this with this; rw [← this])
          clear hk
          gi_wp2
          exact ⟨(KeepsOthers.setCell W _ _).from _, HX.out⟩
      case stop1 =>
        rintro D c pre W _ h1 h2 _
        exact absurd h1 h2
      rintro D1 ys1 WD1 hD1 rfl ⟨⟨hb1, _⟩, hg1⟩ hK1
      have c11 := hb1.cell
      have c21 := (X21.out.kept hg1 (fun e => by have := HZ1.out; injection e; omega)).cell
      have BD1 : Hid (Below WN0.heap.size WN0 WD1) := bel_eq B11.out HS1.out (gb_bel hg1 (fun q hq => by injection hq with hq; omega) (by have := HZ1.out; omega))
      have TD1 : Hid (Tab WD1 T uN0) := TN0.out.below BD1.out (Nat.le_refl _)
      have OD1 : Hid (OwnP WD1 (T + 1) vN0 LN0) := ON0.out.below BD1.out (Nat.le_refl _)
      have RD1 : Hid (Boxed WD1 w.heap.size 4 (.bool false)) := bx_bel RN0.out BD1.out RN0.out.lt
      have ND1 : Hid (Boxed WD1 Bt 23 (.pointer (some ⟨T, 0, none⟩))) := bx_bel NN0.out BD1.out NN0.out.lt
      have BWD1 : Hid (Below w.heap.size w WD1) := BN0.out.trans (BD1.out.mono BN0.out.size)
      have KD1 : Hid (WD1.heap[D1]? = some (.deferred (some []))) := hK1
      have hDT1 : Hid (T < D1) := by have := hTS1.out; have := HZ1.out; unfold Hid; omega
      have hDl1 : Hid (w.heap.size ≤ D1) := by have := HT.out; have := hTS1.out; have := HZ1.out; unfold Hid; omega
      have KD0_1 : Hid (WD1.heap[D0]? = some (.deferred (some []))) := (BD1.out.block D0 (Array.getElem?_eq_some_iff.1 KN0.out).1).trans KN0.out
      have hDD0_1 : Hid (D0 ≠ D1) := by have h1 := (Array.getElem?_eq_some_iff.1 KN0.out).1; have h2 := HS1.out; have h3 := HZ1.out; unfold Hid; omega
      clear hb1 hg1 hK1 X11 X21 P11 ap1 TZ1 NZ1 hp11 htb1 B11 hTS1 hBS1 HZ1 HS1 TN0 ON0 RN0 NN0 BN0 BD1 hD1
      have qn1 : (((uN0.toL.length : Nat) : Int) != ((uN0.toL.length : Nat) : Int)) = false := by simp
      have CC := put2_any T uN0 k (-1) WD1 TD1.out (by have := LP0.out.cnt TD1.out.ok; omega)
      gi_wp2
      refine ⟨trivial, (callsIn_wide.2 CC).mono ?_⟩
      clear CC
      rintro e WP1 ⟨rfl, tp1, gp1⟩
      have OP1 : Hid (OwnP WP1 (T + 1) vN0 LN0) := OD1.out.grown gp1 (by omega)
      have RP1 : Hid (Boxed WP1 w.heap.size 4 (.bool false)) := RD1.out.kept gp1 (fun e => by have := HT.out; injection e; omega)
      have NP1 : Hid (Boxed WP1 Bt 23 (.pointer (some ⟨T, 0, none⟩))) := ND1.out.kept gp1 (fun e => by have := hTB.out; injection e; omega)
      have BP1 : Hid (Below w.heap.size w WP1) := BWD1.out.trans (gb_bel gp1 (fun q hq => by injection hq with hq; rw [← hq]; have := HT.out; omega) BWD1.out.size)
      have KP0_1 : Hid (WP1.heap[D0]? = some (.deferred (some []))) := (gp1.block D0 (Array.getElem?_eq_some_iff.1 KD0_1.out).1 (fun e => by have := hDT0.out; injection e; omega)).trans KD0_1.out
      have KP1 : Hid (WP1.heap[D1]? = some (.deferred (some []))) := (gp1.block D1 (Array.getElem?_eq_some_iff.1 KD1.out).1 (fun e => by have := hDT1.out; injection e; omega)).trans KD1.out
      clear c11 c21 qn1 OD1 RD1 ND1 BWD1 TD1 gp1
      have LP1 : Hid (LU (BT.dl k LN0 ++ [(k, (-1))]) (BT.wth ltK k (-1) uN0) (j + 1 + 1)) := LP0.out.put k (-1)
      have CC := putL_any vN0 LN0 k (-1) WP1 OP1.out.at (by have := LP0.out.len; omega)
      have hTP1 : T < WP1.heap.size := tp1.lt
      have hRP1 : w.heap.size < WP1.heap.size := RP1.out.lt
      have hNP1 : Bt < WP1.heap.size := NP1.out.lt
      generalize BT.wth ltK k (-1) uN0 = uN1 at tp1 LP1
      generalize BT.dl k LN0 ++ [(k, (-1))] = LN1 at CC LP1
      gi_wp2
      refine ⟨trivial, (callsIn_wide.2 CC).mono ?_⟩
      clear CC
      rintro e WN1 ⟨vN1, rfl, oN1, bN1⟩
      have TN1 : Hid (Tab WN1 T uN1) := tp1.below bN1 (Nat.le_refl _)
      have ON1 : Hid (OwnP WN1 (T + 1) vN1 LN1) := oN1.mono (by omega)
      have RN1 : Hid (Boxed WN1 w.heap.size 4 (.bool false)) := bx_bel RP1.out bN1 hRP1
      have NN1 : Hid (Boxed WN1 Bt 23 (.pointer (some ⟨T, 0, none⟩))) := bx_bel NP1.out bN1 hNP1
      have BN1 : Hid (Below w.heap.size w WN1) := BP1.out.trans (bN1.mono BP1.out.size)
      have KN0_1 : Hid (WN1.heap[D0]? = some (.deferred (some []))) := (bN1.block D0 (Array.getElem?_eq_some_iff.1 KP0_1.out).1).trans KP0_1.out
      have KN1 : Hid (WN1.heap[D1]? = some (.deferred (some []))) := (bN1.block D1 (Array.getElem?_eq_some_iff.1 KP1.out).1).trans KP1.out
      clear oN1 bN1 tp1 OP1 RP1 NP1 BP1 hTP1 hRP1 hNP1 hm1
      gi_wp2
      rw [roundsIn_succ]
      have c9 := RN1.out.cell
      have f9 := RN1.out.frozen
      gi_wp2
      have hw0 : w.heap.size < D0 := by have h1 := HT.out; have h2 := hDT0.out; omega
      have hw1 : w.heap.size < D1 := by have h1 := HT.out; have h2 := hDT1.out; omega
      have k1 : (WN1.setCell ⟨w.heap.size, 0, none⟩ (.bool true)).heap[D1]? = some (.deferred (some [])) := (Below.heap_setCell WN1 ⟨w.heap.size, 0, none⟩ (.bool true) D1 (fun e => by simp only at e; omega)).trans KN1.out
      have k0 : (WN1.setCell ⟨w.heap.size, 0, none⟩ (.bool true)).heap[D0]? = some (.deferred (some [])) := (Below.heap_setCell WN1 ⟨w.heap.size, 0, none⟩ (.bool true) D0 (fun e => by simp only at e; omega)).trans KN0_1.out
      have r9 := RN1.out.set (.bool true)
      have b9 : Below w.heap.size w (WN1.setCell ⟨w.heap.size, 0, none⟩ (.bool true)) := BN1.out.setCell (p := ⟨w.heap.size, 0, none⟩) (Nat.le_refl _) _
      generalize WN1.setCell ⟨w.heap.size, 0, none⟩ (.bool true) = WE at k1 k0 r9 b9 ⊢
      have g1 := grownBy_putObj' WE D1 (.deferred none)
      have k0' := (g1.block D0 (Array.getElem?_eq_some_iff.1 k0).1 (fun e => by have := hDD0_1.out; injection e; omega)).trans k0
      have r9' := r9.kept g1 (fun e => by injection e; omega)
      have b9' : Below w.heap.size w (WE.putObj D1 (.deferred none)) := b9.trans (gb_bel g1 (fun q hq => by injection hq with hq; omega) b9.size)
      have g0 := grownBy_putObj' (WE.putObj D1 (.deferred none)) D0 (.deferred none)
      have r9'' := r9'.kept g0 (fun e => by injection e; omega)
      have b9'' : Below w.heap.size w ((WE.putObj D1 (.deferred none)).putObj D0 (.deferred none)) := b9'.trans (gb_bel g0 (fun q hq => by injection hq with hq; omega) b9'.size)
      refine ⟨by simp, .inl ⟨_, _, rfl, run_takeDeferred k1, ?_⟩⟩
      refine ⟨by simp, .inl ⟨_, _, rfl, run_takeDeferred k0', ?_⟩⟩
      exact ⟨_, results_cellB (fn := Try.f6) rfl _ _ w.heap.size (.bool true) rfl r9''.cell Try.underlying4, rfl, b9''⟩

end TS
end Go.Proofs.Ytpkalnjnjineoaa
