/- TvI TvJ TvL, gathered (own text of the verifier). -/
import Derived.Test.YtnggbemnblcnaaaDoorTvG
namespace Go.Proofs.YtnggbemnblcnaaaDoor
open Go.RowKit

/-- From w to w' nothing has turned but block g, rows of cells of type ty above it, and new blocks. -/
structure Fx (g : Nat) (ty : TypeId) (w w' : World) : Prop where
  os : w'.os = w.os
  tape : w'.tape = w.tape
  output : w'.output = w.output
  size : w.heap.size ≤ w'.heap.size
  low : ∀ k, k < g → w'.heap[k]? = w.heap[k]?
  mid : ∀ (k : Nat) (C : Array Value) (T : TypeId) (fz : Nat × Nat), w.heap[k]? = some (Obj.cells C T fz) → T ≠ ty → k ≠ g → w'.heap[k]? = w.heap[k]?
theorem Fx.refl (g : Nat) (ty : TypeId) (w : World) : Fx g ty w w := ⟨rfl, rfl, rfl, Nat.le_refl _, fun _ _ => rfl, fun _ _ _ _ _ _ _ => rfl⟩
theorem Fx.trans {g : Nat} {ty : TypeId} {a b c : World} (h : Fx g ty a b) (k : Fx g ty b c) : Fx g ty a c :=
  ⟨k.os.trans h.os, k.tape.trans h.tape, k.output.trans h.output, Nat.le_trans h.size k.size, fun i hi => (k.low i hi).trans (h.low i hi), fun i C T fz e1 e2 e3 => (k.mid i C T fz ((h.mid i C T fz e1 e2 e3).trans e1) e2 e3).trans (h.mid i C T fz e1 e2 e3)⟩
theorem Fx.of_below {g : Nat} {ty : TypeId} {w w' : World} (h : Below w.heap.size w w') (hg : g ≤ w.heap.size) : Fx g ty w w' :=
  ⟨h.os, h.tape, h.output, h.size, fun k hk => h.block k (by omega), fun k _ _ _ e _ _ => h.block k (heap_lt e)⟩
theorem Fx.of_fk {g B : Nat} {ty : TypeId} {w w' : World} (h : Fk B ty w w') (hg : g ≤ B) : Fx g ty w w' :=
  ⟨h.os, h.tape, h.output, h.size, fun k hk => h.low k (by omega), fun k C T fz e1 e2 _ => h.mid k C T fz e1 e2⟩
theorem Fx.setCell {g : Nat} {ty : TypeId} {a w : World} (h : Fx g ty a w) (j : Nat) (u : Value) : Fx g ty a (w.setCell ⟨g, j, none⟩ u) :=
  h.trans ⟨rfl, rfl, rfl, by rw [World.size_setCell]; exact Nat.le_refl _, fun k hk => Below.heap_setCell _ _ _ k (by show k ≠ g; omega), fun k _ _ _ _ _ hn => Below.heap_setCell _ _ _ k hn⟩
theorem Fx.below {g : Nat} {ty : TypeId} {w w' : World} (h : Fx g ty w w') : Below g w w' := ⟨h.os, h.tape, h.output, h.size, h.low⟩

/-- The two variables that gather holds: the rows so far, itself. -/
structure Gv (w : World) (rb gb : Nat) (x : Option Addr) (c : Nat) (L : List RW) : Prop where
  hr : w.heap[rb]? = some (.cells #[.slice x L.length c] 22 (0, 0))
  hg : w.heap[gb]? = some (.cells #[.func (.func 43) #[] #[.pointer (some ⟨rb, 0, none⟩), .pointer (some ⟨gb, 0, none⟩)]] 98 (0, 0))
  rows : Rws 27 w (rb + 1) (.slice x L.length c) L
theorem Gv.below {w w' : World} {rb gb : Nat} {x : Option Addr} {c : Nat} {L : List RW} (h : Gv w rb gb x c L) (b : Below w.heap.size w w') : Gv w' rb gb x c L :=
  ⟨(b.block rb (heap_lt h.hr)).trans h.hr, (b.block gb (heap_lt h.hg)).trans h.hg, h.rows.below b⟩
theorem Gv.app {w : World} {rb gb : Nat} {x : Option Addr} {c : Nat} {L : List RW} (h : Gv w rb gb x c L) (hne : gb ≠ rb) (r : RW) (hl : L.length ≤ 1073741824) :
    ∃ p c' w', (Builtin.append_ #[22, 22] 22 #[.slice x L.length c, .slice (some ⟨w.heap.size, 0, none⟩) 1 1]).run Tryd.prog (w.alloc (.cells #[.string r.1, .int .i64 r.2.1, .bool r.2.2.1, .string r.2.2.2] 27)) = .ok (.slice p (L.length + 1) c') w' ∧
      w'.heap[rb]? = some (.cells #[.slice x L.length c] 22 (0, 0)) ∧ Gv (w'.setCell ⟨rb, 0, none⟩ (.slice p (L.length + 1) c')) rb gb p c' (L ++ [r]) ∧ Fx rb 27 w (w'.setCell ⟨rb, 0, none⟩ (.slice p (L.length + 1) c')) := by
  have hlr := heap_lt h.hr
  obtain ⟨p, c', w', hrun, R, F⟩ := h.rows.app infoROW undLROW r (by omega) hl
  have k0 : w'.heap[rb]? = some (.cells #[.slice x L.length c] 22 (0, 0)) := (F.mid rb _ _ _ h.hr (by decide)).trans h.hr
  have k1 : w'.heap[gb]? = some (.cells #[.func (.func 43) #[] #[.pointer (some ⟨rb, 0, none⟩), .pointer (some ⟨gb, 0, none⟩)]] 98 (0, 0)) := (F.mid gb _ _ _ h.hg (by decide)).trans h.hg
  refine ⟨p, c', w', hrun, k0, ⟨?_, (Below.heap_setCell _ _ _ gb hne).trans k1, ?_⟩, (Fx.of_fk F (Nat.le_succ _)).setCell 0 _⟩
  · rw [List.length_append]
    simp [World.setCell, Array.getElem?_modify, k0]
  · rw [List.length_append]
    exact R.over k0 (by decide) 0 _
theorem chk_ne {s : ByteArray} (h : chk s = 0) : s.size ≠ 0 := fun h1 => by
  have : chk s = 50 := by unfold chk; rw [Lib.toList_data, data_nil s h1]; rfl
  rw [this] at h
  exact absurd h (by decide)
theorem app_empty (s : ByteArray) : (⟨#[]⟩ : ByteArray) ++ s = s := by apply ByteArray.ext; simp

def GtAt (f : Nat) : Prop := ∀ (u : Value) (T : Tr) (ns : List ByteArray) (b : Int) (rb gb : Nat) (x : Option Addr) (c : Nat) (L : List RW) (w0 w : World), At w0 f u T → smT T → Below w0.heap.size w0 w → w0.heap.size ≤ rb → rb < gb → Gv w rb gb x c L → (L.length : Int) ≤ b → 0 ≤ b → b ≤ 1048576 → (vT ns b T).off = none → (ns ≠ [] → (joinB ns).size ≠ 0) → (∀ s ∈ ns, s.size ≤ 1048576) → ns.length ≤ 32 →
  Calls Tryd.prog 43 #[.string (joinB ns), u, .pointer (some ⟨rb, 0, none⟩), .pointer (some ⟨gb, 0, none⟩)] w fun e w' => e = .returned (.tuple #[]) ∧ (∃ x' c', Gv w' rb gb x' c' (L ++ rwT ns T)) ∧ Fx rb 27 w w'

set_option maxHeartbeats 32000000 in
set_option maxRecDepth 20000 in
theorem gather_any (f : Nat) : GtAt f := by
  induction f with
  | zero => intro u T ns b rb gb x c L w0 w h; exact h.elim
  | succ f IH =>
    rintro u ⟨k, e, t, nms, ks⟩ ns b rb gb xv cv L w0 w ⟨x, n, c, rfl, l1, l2, l3, l4, hx⟩ hsm hB0 hw0 hrg hG hLb hb0 hb1 hoff hne hns hnl
    have EX : Hid (Ents w0 f x n nms ks) := At.ents hx
    have LL : Hid (nms.length = n ∧ ks.length = n) := ⟨l1, l2⟩
    have HSL : Hid (smL nms ks) := by unfold Hid; rw [smT] at hsm; exact hsm.2
    have HNS : Hid (∀ s ∈ ns, s.size ≤ 1048576) := hns
    have HIH : Hid (GtAt f) := IH
    have HB0 : Hid (Below w0.heap.size w0 w) := hB0
    have HM : Hid (rwT ns (.mk k e t nms ks) = (joinB ns, k, e, t) :: rwL ns nms ks) := by unfold Hid; rw [rwT]
    have hjs := joinB_size ns hns
    have hnb := nbP_bd k e t
    have hnp := nbP_pos k e t
    rw [vT] at hoff
    split at hoff
    · cases hoff
    rename_i hd
    split at hoff
    · cases hoff
    split at hoff
    · cases hoff
    rename_i hq
    have HO : Hid ((vL ns (b + nbP k e t) none nms ks).off = none) := hoff
    obtain ⟨b4, hb4e⟩ : ∃ b4, b4 = b + nbP k e t := ⟨_, rfl⟩
    rw [← hb4e] at HO hq
    have hd1 : ns.length + 1 ≤ 32 := by omega
    have hb40 : 0 ≤ b4 := by omega
    have hb41 : b4 ≤ 1048576 := by omega
    have hLn : (L.length : Int) + 1 ≤ b4 := by omega
    have HJ : Hid (∀ s, joinB (ns ++ [s]) = if ns.length = 0 then s else joinB ns ++ ⟨#[47]⟩ ++ s) := fun s => by
      by_cases h0 : ns.length = 0
      · rw [if_pos h0, List.eq_nil_of_length_eq_zero h0]; rfl
      · rw [if_neg h0]; exact joinB_snoc ns s (fun e => h0 (by rw [e]; rfl))
    have HJE : Hid (ns.length = 0 → joinB ns = ⟨#[]⟩) := fun h0 => by rw [List.eq_nil_of_length_eq_zero h0]; rfl
    have HNE : Hid (ns.length ≠ 0 → (joinB ns).size ≠ 0) := fun h0 => hne (fun e => h0 (by rw [e]; rfl))
    have hgl := heap_lt hG.hg
    have b1 : Below w.heap.size w (w.alloc (.cells #[.int .i64 k, .bool e, .string t, .slice x n c] 32)) := (Below.refl _ _).alloc (Nat.le_refl _) _
    have HN1 : Hid (NB (w.alloc (.cells #[.int .i64 k, .bool e, .string t, .slice x n c] 32)) w.heap.size k e t x n c) := NB.new w k e t x n c
    have HG1 : Hid (Gv (w.alloc (.cells #[.int .i64 k, .bool e, .string t, .slice x n c] 32)) rb gb xv cv L) := hG.below b1
    have HF1 : Hid (Fx rb 27 w (w.alloc (.cells #[.int .i64 k, .bool e, .string t, .slice x n c] 32))) := Fx.of_below b1 (by omega)
    clear hx hsm IH hns hB0 l1 l2 hG b1 hoff hne hb4e hnb hnp hd hq
    go_enter Tryd.func43, Tryd.ntmps43
    go_upto_region 1 with fail
    generalize w.alloc (.cells #[.int .i64 k, .bool e, .string t, .slice x n c] 32) = w1 at *
    generalize hKe : w.heap.size = K at *
    have hKr : K ≠ rb := by omega
    clear hKe
    obtain ⟨p5, c5, w5, hr5, k5, G5, F5⟩ := HG1.out.app (by omega) (joinB ns, k, e, t) (by omega)
    dsimp only at hr5
    have HF6 : Hid (Fx rb 27 w (w5.setCell ⟨rb, 0, none⟩ (.slice p5 (L.length + 1) c5))) := HF1.out.trans F5
    have HG6 : Hid (Gv (w5.setCell ⟨rb, 0, none⟩ (.slice p5 (L.length + 1) c5)) rb gb p5 c5 (L ++ [(joinB ns, k, e, t)])) := G5
    have HN6 : Hid (NB (w5.setCell ⟨rb, 0, none⟩ (.slice p5 (L.length + 1) c5)) K k e t x n c) := (F5.mid K _ _ _ HN1.out (by decide) hKr).trans HN1.out
    have a0 : w1.cell? ⟨rb, 0, none⟩ = some (.slice xv L.length cv) := by rw [Lib.cell_of_heap HG1.out.hr]; rfl
    have n0 := HN1.out.c0
    have n1 := HN1.out.c1
    have n2 := HN1.out.c2
    have n3 := HN1.out.c3
    have d0 : w5.cell? ⟨rb, 0, none⟩ = some (.slice xv L.length cv) := by rw [Lib.cell_of_heap k5]; rfl
    have df : w5.frozen? ⟨rb, 0, none⟩ = false := Lib.frozen_of_heap k5 0
    clear G5 F5 k5
    obtain ⟨JN, hJN⟩ : ∃ JN, JN = joinB ns := ⟨_, rfl⟩
    rw [← hJN] at hr5 HG6 HM hjs HJ HJE HNE
    rw [← hJN]
    have HJN : Hid (JN = joinB ns) := hJN
    clear hJN
    go_upto_region 2 with (first | (refine wpList_app_is (by rfl) 22 22 (.tmp 8) (.tmp 17) (by rfl) _ _ _ _ (by rfl) (by rfl) hr5 ?_))
    clear hr5 a0 n0 n1 n2 n3 d0 df HG1 HN1 HF1
    generalize w5.setCell ⟨rb, 0, none⟩ (.slice p5 (L.length + 1) c5) = w6 at *
    -- the path ahead of the kids' names
    obtain ⟨PP, HPP⟩ : ∃ PP, Hid (PP = if ns.length = 0 then ⟨#[]⟩ else JN ++ ⟨#[47]⟩) := ⟨_, rfl⟩
    have HPJ : Hid (∀ s, PP ++ s = joinB (ns ++ [s])) := fun s => by
      have hj := HJ.out s
      by_cases h0 : ns.length = 0
      · rw [if_pos h0] at hj
        rw [hj, HPP.out, if_pos h0, app_empty]
      · rw [if_neg h0] at hj
        rw [hj, HPP.out, if_neg h0]
    have hPs : PP.size ≤ 1048577 * 33 := by
      rw [HPP.out]
      split
      · show 0 ≤ _; omega
      · rw [ByteArray.size_append]
        show JN.size + 1 ≤ _
        omega
    go_upto_if 20 with fail
    go_cut [0] from 7 to 38 (fun v0 wx => v0 = .string PP ∧ wx = w6)
    case first =>
      by_cases h0 : ns.length = 0
      · have hj := HJE.out h0
        have hp := HPP.out
        rw [if_pos h0] at hp
        have HP2 : Hid (PP = JN) := by unfold Hid; rw [hp, hj]
        have he : JN.toList.isEmpty = true := by rw [empty_iff, hj]; rfl
        clear h0 hp hj
        rw [he]
        go_wp2_with fail
        go_meet
        exact ⟨by rw [HP2.out], rfl⟩
      · have hj := HNE.out h0
        have he : JN.toList.isEmpty = false := size_empty JN hj
        have hp := HPP.out
        rw [if_neg h0] at hp
        have HP2 : Hid (PP = JN ++ ⟨#[47]⟩) := hp
        clear hp h0 hj
        rw [he]
        go_wp2_with fail
        go_meet
        exact ⟨by rw [HP2.out], rfl⟩
    case rest =>
      obtain ⟨rfl, rfl⟩ := hcut
      have n3 := HN6.out.c3
      go_wp2
      clear n3
      go_loopw [7, 26] (fun _ ix wr => ∃ (i : Nat) (bi : Int) (x' : Option Addr) (c' : Nat) (M : List RW) (prev : Option ByteArray), i ≤ n ∧ ix = .int .i64 i ∧ 0 ≤ bi ∧ bi ≤ 1048576 ∧ ((M.length : Int) ≤ bi) ∧ Hid (M = L ++ (JN, k, e, t) :: rwL ns (nms.take i) (ks.take i)) ∧ Hid (Gv wr rb gb x' c' M) ∧ Hid (Fx rb 27 w wr) ∧ Hid ((vL ns bi prev (nms.drop i) (ks.drop i)).off = none)) (fun _ i _ => n - (intOf i).toNat)
      case atStart => exact ⟨0, b4, p5, c5, L ++ [(JN, k, e, t)], none, Nat.zero_le _, rfl, hb40, hb41, by rw [List.length_append]; simp; omega, by unfold Hid; simp [rwL], HG6, HF6, HO⟩
      case round =>
        obtain ⟨i, bi, x', c', M, prev, hi, rfl, hbi0, hbi1, hMl, hM, hGV, hFX, hV⟩ := hrel
        clear HG6 HF6 HO HN6
        by_cases hlt : i < n
        · obtain ⟨l1, l2⟩ := LL.out
          obtain ⟨s, hs⟩ : ∃ s, nms[i]? = some s := ⟨_, List.getElem?_eq_getElem (by omega)⟩
          obtain ⟨S, hS⟩ : ∃ s, ks[i]? = some s := ⟨_, List.getElem?_eq_getElem (by omega)⟩
          have hBr : Hid (Below w0.heap.size w0 wr) := HB0.out.trans (hFX.out.below.mono hw0)
          obtain ⟨q, o, a, b', d, fx, pp, q', rfl, hgq, d0, d1, d2, d3, d4, hA⟩ := EX.out i s S hlt hs hS
          have c0 : wr.cell? ⟨q, o + i * 5, none⟩ = some (.string s) := (hBr.out.cell (p := ⟨q, o + i * 5, none⟩) hgq).trans d0
          have c1 : wr.cell? ⟨q, o + i * 5 + 1, none⟩ = some (.int .i64 a) := (hBr.out.cell (p := ⟨q, o + i * 5 + 1, none⟩) hgq).trans d1
          have c2 : wr.cell? ⟨q, o + i * 5 + 2, none⟩ = some (.bool b') := (hBr.out.cell (p := ⟨q, o + i * 5 + 2, none⟩) hgq).trans d2
          have c3 : wr.cell? ⟨q, o + i * 5 + 3, none⟩ = some (.string d) := (hBr.out.cell (p := ⟨q, o + i * 5 + 3, none⟩) hgq).trans d3
          have c4 : wr.cell? ⟨q, o + i * 5 + 4, none⟩ = some (.slice fx pp q') := (hBr.out.cell (p := ⟨q, o + i * 5 + 4, none⟩) hgq).trans d4
          have HA : Hid (At w0 f (.agg #[.int .i64 a, .bool b', .string d, .slice fx pp q']) S) := hA
          obtain ⟨hsz, hST⟩ := smL_at nms ks i s S HSL.out hs hS
          have HST : Hid (smT S) := hST
          have hv := hV.out
          rw [vL_at ns bi prev nms ks i s S hs hS] at hv
          split at hv
          · cases hv
          rename_i hent
          have hent0 : entO prev s bi = 0 := by omega
          obtain ⟨hck, hbe⟩ := entO_ok prev s bi hent0
          have hss := chk_ne hck
          have heb := ebP_bd s
          cases hX : (vT (ns ++ [s]) (bi + ebP s) S).off with
          | some oo => rw [hX] at hv; cases hv
          | none =>
          rw [hX] at hv
          have HV2 : Hid ((vL ns (vT (ns ++ [s]) (bi + ebP s) S).bytes (some s) (nms.drop (i + 1)) (ks.drop (i + 1))).off = none) := hv
          have hbd := vT_bd (ns ++ [s]) (bi + ebP s) S hX (by omega) (by omega)
          have hrl := rw_le (ns ++ [s]) (bi + ebP s) S hX
          have HM9 : Hid (M ++ rwT (ns ++ [s]) S = L ++ (JN, k, e, t) :: rwL ns (nms.take (i + 1)) (ks.take (i + 1))) := by
            unfold Hid
            rw [rwL_take ns nms ks i s S hs hS, hM.out]
            simp
          have HE : Hid ((wr.alloc (.cells #[.string s, .int .i64 a, .bool b', .string d, .slice fx pp q'] 52)).heap[wr.heap.size]? = some (.cells #[.string s, .int .i64 a, .bool b', .string d, .slice fx pp q'] 52 (0, 0))) := Array.getElem?_push_size
          have bE : Below wr.heap.size wr (wr.alloc (.cells #[.string s, .int .i64 a, .bool b', .string d, .slice fx pp q'] 52)) := (Below.refl _ _).alloc (Nat.le_refl _) _
          have HGE : Hid (Gv (wr.alloc (.cells #[.string s, .int .i64 a, .bool b', .string d, .slice fx pp q'] 52)) rb gb x' c' M) := hGV.out.below bE
          have HFE : Hid (Fx rb 27 w (wr.alloc (.cells #[.string s, .int .i64 a, .bool b', .string d, .slice fx pp q'] 52))) := hFX.out.trans (Fx.of_below bE (by have := heap_lt hGV.out.hr; omega))
          clear hv hV hA hST hs hS d0 d1 d2 d3 d4 l1 l2 bE hGV hFX hent hent0 hck hM
          go_upto_region 7 with fail
          generalize wr.heap.size = E at *
          generalize wr.alloc (.cells #[.string s, .int .i64 a, .bool b', .string d, .slice fx pp q'] 52) = wE at *
          clear c0 c1 c2 c3 c4 hBr
          have hBE : Below w0.heap.size w0 wE := HB0.out.trans (HFE.out.below.mono hw0)
          have g9 : (ns ++ [s]).length = ns.length + 1 := by rw [List.length_append]; rfl
          have hNS2 : ∀ s_1 ∈ ns ++ [s], s_1.size ≤ 1048576 := fun z hz => by
            rcases List.mem_append.1 hz with hz | hz
            · exact HNS.out z hz
            · simp at hz; subst hz; exact hsz
          have hnj : ns ++ [s] ≠ [] → (joinB (ns ++ [s])).size ≠ 0 := fun _ => by rw [← HPJ.out s, ByteArray.size_append]; omega
          have NC := HIH.out _ S (ns ++ [s]) (bi + ebP s) rb gb x' c' M w0 wE HA.out HST.out hBE hw0 hrg HGE.out (by omega) (by omega) (by omega) hX hnj hNS2 (by rw [g9]; omega)
          rw [← HPJ.out s] at NC
          have e0 : wE.cell? ⟨E, 0, none⟩ = some (.string s) := by rw [Lib.cell_of_heap HE.out]; rfl
          have e1 : wE.cell? ⟨E, 1, none⟩ = some (.int .i64 a) := by rw [Lib.cell_of_heap HE.out]; rfl
          have e2 : wE.cell? ⟨E, 2, none⟩ = some (.bool b') := by rw [Lib.cell_of_heap HE.out]; rfl
          have e3 : wE.cell? ⟨E, 3, none⟩ = some (.string d) := by rw [Lib.cell_of_heap HE.out]; rfl
          have e4 : wE.cell? ⟨E, 4, none⟩ = some (.slice fx pp q') := by rw [Lib.cell_of_heap HE.out]; rfl
          have ga : wE.cell? ⟨gb, 0, none⟩ = some (.func (.func 43) #[] #[.pointer (some ⟨rb, 0, none⟩), .pointer (some ⟨gb, 0, none⟩)]) := by rw [Lib.cell_of_heap HGE.out.hg]; rfl
          generalize (vT (ns ++ [s]) (bi + ebP s) S).bytes = b9 at *
          generalize rwT (ns ++ [s]) S = MS at *
          clear hX hnj hNS2 g9 hBE
          go_wp2_with fail
          refine NC.mono ?_
          rintro e6 w11 ⟨rfl, ⟨x9, c9, G9⟩, F9⟩
          have HG9 : Hid (Gv w11 rb gb x9 c9 (M ++ MS)) := G9
          have HF9 : Hid (Fx rb 27 w w11) := HFE.out.trans F9
          have hl9 : ((M ++ MS).length : Int) ≤ b9 := by rw [List.length_append]; omega
          clear NC G9 F9 e0 e1 e2 e3 e4 ga HGE HFE HE
          generalize M ++ MS = M9 at *
          go_wp2
          go_roundw
          case rel => exact ⟨i + 1, b9, x9, c9, M9, some s, by omega, by go_num, hbd.1, hbd.2, hl9, HM9, HG9, HF9, HV2⟩
          case measure => simp [intOf]; omega
        · obtain rfl : i = n := by omega
          obtain ⟨l1, l2⟩ := LL.out
          have HMe : Hid (M = L ++ rwT ns (.mk k e t nms ks)) := by
            unfold Hid
            rw [hM.out, HM.out, List.take_of_length_le (by omega), List.take_of_length_le (by omega)]
          clear l1 l2
          go_wp2
          go_end0
          exact ⟨rfl, ⟨x', c', by rw [← HMe.out]; exact hGV.out⟩, hFX.out⟩

end Go.Proofs.YtnggbemnblcnaaaDoor
namespace Go.Proofs.YtnggbemnblcnaaaDoor
open Go.RowKit

theorem Rws.mono {ty : TypeId} {w : World} {B B' : Nat} {v : Value} {L : List RW} (h : Rws ty w B v L) (hb : B' ≤ B) : Rws ty w B' v L := ⟨h.1, h.2.imp id fun ⟨g, cap, cur, a, b, r⟩ => ⟨g, cap, cur, a, Nat.le_trans hb b, r⟩⟩
/-- What Walk leaves. -/
def WkR (T : Tr) (w : World) (e : Ending) (w' : World) : Prop := (if (ckT T).2 ≠ 0 then e = .returned (.tuple #[.slice none 0 0, .int .i64 (ckT T).2]) else ∃ x c, e = .returned (.tuple #[.slice x (rwT [] T).length c, .int .i64 0]) ∧ Rws 27 w' w.heap.size (.slice x (rwT [] T).length c) (rwT [] T)) ∧ Below w.heap.size w w'
theorem WkR.bad {T : Tr} {w w' : World} {e : Ending} {c : Int} (h : (ckT T).2 = c) (hc : c ≠ 0) (he : e = .returned (.tuple #[.slice none 0 0, .int .i64 c])) (b : Below w.heap.size w w') : WkR T w e w' := by
  refine ⟨?_, b⟩
  rw [if_pos (by rw [h]; exact hc), h]
  exact he
theorem WkR.fine {T : Tr} {w w' : World} {e : Ending} {x : Option Addr} {c : Nat} (h : (ckT T).2 = 0) (he : e = .returned (.tuple #[.slice x (rwT [] T).length c, .int .i64 0])) (r : Rws 27 w' w.heap.size (.slice x (rwT [] T).length c) (rwT [] T)) (b : Below w.heap.size w w') : WkR T w e w' := by
  refine ⟨?_, b⟩
  rw [if_neg (by rw [h]; decide)]
  exact ⟨x, c, he, r⟩

set_option maxHeartbeats 8000000 in
theorem walk_tree (f : Nat) (u : Value) (T : Tr) (w : World) (hA : At w f u T) (hsm : smT T) :
    Calls Tryd.prog 19 #[u] w fun e w' => WkR T w e w' := by
  have hmf : ∀ (fn : Fn) (first cap : Array Value) (w : World), (Instr.makeFunc fn first cap).run Tryd.prog w = .ok (.func fn first cap) w := fun _ _ _ _ => rfl
  have rsf : ∀ (a : Addr) (fn : Fn) (fs cp : Array Value) (w : World) (m : Mode), (store a (.func fn fs cp) m).run Tryd.prog w = stored Tryd.prog w a (.func fn fs cp) m := fun a fn fs cp w m => run_store Tryd.prog w a _ m rfl
  obtain ⟨k, e, t, nms, ks⟩ := T
  cases f with
  | zero => exact hA.elim
  | succ f =>
  obtain ⟨x, n, c, rfl, hrest⟩ := hA
  have HA : Hid (At w (f + 1) (.agg #[.int .i64 k, .bool e, .string t, .slice x n c]) (.mk k e t nms ks)) := ⟨x, n, c, rfl, hrest⟩
  clear hrest
  generalize (Tr.mk k e t nms ks) = T at HA hsm ⊢
  have b1 : Below w.heap.size w (w.alloc (.cells #[.int .i64 k, .bool e, .string t, .slice x n c] 32)) := (Below.refl _ _).alloc (Nat.le_refl _) _
  have N1 : NB (w.alloc (.cells #[.int .i64 k, .bool e, .string t, .slice x n c] 32)) w.heap.size k e t x n c := NB.new w k e t x n c
  have CC := check_tree (f + 1) _ T (w.alloc (.cells #[.int .i64 k, .bool e, .string t, .slice x n c] 32)) (HA.out.below b1) hsm
  have hz1 : w.heap.size < (w.alloc (.cells #[.int .i64 k, .bool e, .string t, .slice x n c] 32)).heap.size := by rw [World.size_alloc]; omega
  have HSM : Hid (smT T) := hsm
  have HB1 : Hid (Below w.heap.size w (w.alloc (.cells #[.int .i64 k, .bool e, .string t, .slice x n c] 32))) := b1
  have HN1 : Hid (NB (w.alloc (.cells #[.int .i64 k, .bool e, .string t, .slice x n c] 32)) w.heap.size k e t x n c) := N1
  clear b1 N1 hsm
  go_enter Tryd.func19, Tryd.ntmps19
  go_wp2_with fail
  refine CC.mono ?_
  rintro e5 w2 ⟨rfl, b2⟩
  have HB2 : Hid (Below w.heap.size w w2) := HB1.out.trans (b2.mono HB1.out.size)
  have HN2 : Hid (NB w2 w.heap.size k e t x n c) := (b2.block _ hz1).trans HN1.out
  clear b2 CC HB1 HN1 hz1
  obtain ⟨CV, hcv⟩ : ∃ CV, (ckT T).2 = CV := ⟨_, rfl⟩
  have HCV : Hid ((ckT T).2 = CV) := hcv
  rw [hcv]
  clear hcv
  generalize (ckT T).1 = CP
  by_cases hc : CV ≠ 0
  · have q1 : (CV != 0) = true := by simpa using hc
    go_wp2
    go_ret2
    exact WkR.bad HCV.out hc rfl HB2.out
  · obtain rfl : CV = 0 := by omega
    have hz2 : (w2.alloc (.cells #[.slice none 0 0] 22)).heap.size = w2.heap.size + 1 := World.size_alloc _ _
    have b3 : Below w2.heap.size w2 ((w2.alloc (.cells #[.slice none 0 0] 22)).alloc (.cells #[.func (.func 43) #[] #[.pointer (some ⟨w2.heap.size, 0, none⟩), .pointer (some ⟨w2.heap.size + 1, 0, none⟩)]] 98)) := ((Below.refl _ _).alloc (Nat.le_refl _) _).alloc (by rw [hz2]; omega) _
    have HG3 : Hid (Gv ((w2.alloc (.cells #[.slice none 0 0] 22)).alloc (.cells #[.func (.func 43) #[] #[.pointer (some ⟨w2.heap.size, 0, none⟩), .pointer (some ⟨w2.heap.size + 1, 0, none⟩)]] 98)) w2.heap.size (w2.heap.size + 1) none 0 []) := by
      refine ⟨(Below.heap_alloc _ _ _ (by rw [hz2]; omega)).trans Array.getElem?_push_size, ?_, World.ownsRow_nil _ _ _ _⟩
      rw [← hz2]
      exact Array.getElem?_push_size
    have HB3 : Hid (Below w.heap.size w ((w2.alloc (.cells #[.slice none 0 0] 22)).alloc (.cells #[.func (.func 43) #[] #[.pointer (some ⟨w2.heap.size, 0, none⟩), .pointer (some ⟨w2.heap.size + 1, 0, none⟩)]] 98))) := HB2.out.trans (b3.mono HB2.out.size)
    have HN3 : Hid (NB ((w2.alloc (.cells #[.slice none 0 0] 22)).alloc (.cells #[.func (.func 43) #[] #[.pointer (some ⟨w2.heap.size, 0, none⟩), .pointer (some ⟨w2.heap.size + 1, 0, none⟩)]] 98)) w.heap.size k e t x n c) := (b3.block _ (heap_lt HN2.out)).trans HN2.out
    have hrb : w.heap.size ≤ w2.heap.size := HB2.out.size
    clear b3 hz2 HB2 HN2 hc
    go_upto_region 7 with fail
    generalize (w2.alloc (.cells #[.slice none 0 0] 22)).alloc (.cells #[.func (.func 43) #[] #[.pointer (some ⟨w2.heap.size, 0, none⟩), .pointer (some ⟨w2.heap.size + 1, 0, none⟩)]] 98) = w3 at *
    generalize w2.heap.size = rb at *
    obtain ⟨gb, hgb⟩ : ∃ gb, gb = rb + 1 := ⟨_, rfl⟩
    rw [← hgb] at HG3
    rw [← hgb]
    have hrg : rb < gb := by omega
    clear hgb
    have hoff := ckT_zero HCV.out
    have NC := gather_any (f + 1) _ T [] 24 rb gb none 0 [] w w3 HA.out HSM.out HB3.out hrb hrg HG3.out (by decide) (by decide) (by decide) hoff (fun h => absurd rfl h) (by intro s hs; cases hs) (by decide)
    have y0 := HN3.out.c0
    have y1 := HN3.out.c1
    have y2 := HN3.out.c2
    have y3 := HN3.out.c3
    have ga : w3.cell? ⟨gb, 0, none⟩ = some (.func (.func 43) #[] #[.pointer (some ⟨rb, 0, none⟩), .pointer (some ⟨gb, 0, none⟩)]) := by rw [Lib.cell_of_heap HG3.out.hg]; rfl
    rw [show joinB [] = ⟨#[]⟩ from rfl] at NC
    clear hoff
    go_wp2_with fail
    refine NC.mono ?_
    rintro e6 w4 ⟨rfl, ⟨x4, c4, G4⟩, F4⟩
    rw [List.nil_append] at G4
    have HG4 : Hid (Gv w4 rb gb x4 c4 (rwT [] T)) := G4
    have HB4 : Hid (Below w.heap.size w w4) := HB3.out.trans (F4.below.mono hrb)
    have r0 : w4.cell? ⟨rb, 0, none⟩ = some (.slice x4 (rwT [] T).length c4) := by rw [Lib.cell_of_heap G4.hr]; rfl
    clear NC G4 F4 y0 y1 y2 y3 ga
    go_wp2
    go_ret2
    exact WkR.fine HCV.out rfl (HG4.out.rows.mono (by omega)) HB4.out

end Go.Proofs.YtnggbemnblcnaaaDoor
namespace Go.Proofs.YtnggbemnblcnaaaDoor
open Go.RowKit

/-- awake's tree. -/
def awT : Tr := .mk 3 false ⟨#[]⟩ [⟨#[97]⟩] [.mk 1 false ⟨#[120]⟩ [] []]
theorem aw_ck : ckT awT = (⟨#[]⟩, 0) := by decide +kernel
theorem aw_tb : tbT awT = 264 := by decide +kernel
theorem aw_sz : szA awT = (288, 0) := by
  unfold szA
  rw [aw_ck, aw_tb]
  rfl
theorem aw_rw : rwT [] awT = [(⟨#[]⟩, 3, false, ⟨#[]⟩), (⟨#[97]⟩, 1, false, ⟨#[120]⟩)] := by
  unfold awT
  rw [rwT, rwL, rwT, rwL, rwL] <;> simp <;> exact ⟨rfl, rfl⟩
theorem aw_sm : smT awT := by
  unfold awT
  rw [smT, smL, smT]
  refine ⟨by decide, by decide, ⟨by decide, ?_⟩, ?_⟩ <;> rw [smL] <;> simp

theorem leaf_any (t : ByteArray) (w : World) : Calls Tryd.prog 16 #[.string t] w fun e w' => e = .returned (.agg #[.int .i64 1, .bool false, .string t, .slice none 0 0]) ∧ Below w.heap.size w w' := by
  go_enter Tryd.func16, Tryd.ntmps16
  go_wp2
  have q : (w.alloc (.cells #[.int .i64 1, .bool false, .string t, .slice none 0 0] 32)).heap[w.heap.size]? = some (.cells #[.int .i64 1, .bool false, .string t, .slice none 0 0] 32 (0, 0)) := Array.getElem?_push_size
  have B : Below w.heap.size w (w.alloc (.cells #[.int .i64 1, .bool false, .string t, .slice none 0 0] 32)) := (Below.refl _ _).alloc (Nat.le_refl _) _
  generalize w.alloc (.cells #[.int .i64 1, .bool false, .string t, .slice none 0 0] 32) = W4 at q B ⊢
  generalize w.heap.size = Z at *
  have q0 : W4.cell? ⟨Z, 0, none⟩ = some (.int .i64 1) := by rw [Lib.cell_of_heap q]; rfl
  have q1 : W4.cell? ⟨Z, 1, none⟩ = some (.bool false) := by rw [Lib.cell_of_heap q]; rfl
  have q2 : W4.cell? ⟨Z, 2, none⟩ = some (.string t) := by rw [Lib.cell_of_heap q]; rfl
  have q3 : W4.cell? ⟨Z, 3, none⟩ = some (.slice none 0 0) := by rw [Lib.cell_of_heap q]; rfl
  exact bodyPost_ret (v := .agg #[.int .i64 1, .bool false, .string t, .slice none 0 0]) (by simp [results, Tryd.results16, go_sem, q0, q1, q2, q3]) rfl ⟨rfl, B⟩

set_option maxHeartbeats 8000000 in
set_option maxRecDepth 10000 in
theorem awake_any (w : World) : Calls Tryd.prog 6 #[] w fun e w' => e = .returned (.bool true) ∧ Below w.heap.size w w' := by
  go_enter Tryd.func6, Tryd.ntmps6
  go_wp2_with fail
  refine (leaf_any ⟨#[120]⟩ w).mono ?_
  rintro e5 w1 ⟨rfl, b1⟩
  have HB1 : Hid (Below w.heap.size w w1) := b1
  have s1 : (w1.alloc (.cells #[.string ⟨#[97]⟩, .int .i64 1, .bool false, .string ⟨#[120]⟩, .slice none 0 0] 52)).heap.size = w1.heap.size + 1 := World.size_alloc _ _
  have b2 : Below w1.heap.size w1 ((w1.alloc (.cells #[.string ⟨#[97]⟩, .int .i64 1, .bool false, .string ⟨#[120]⟩, .slice none 0 0] 52)).alloc (.cells #[.int .i64 3, .bool false, .string ⟨#[]⟩, .slice (some ⟨w1.heap.size, 0, none⟩) 1 1] 32)) := ((Below.refl _ _).alloc (Nat.le_refl _) _).alloc (by rw [s1]; omega) _
  have HN2 : Hid (NB ((w1.alloc (.cells #[.string ⟨#[97]⟩, .int .i64 1, .bool false, .string ⟨#[120]⟩, .slice none 0 0] 52)).alloc (.cells #[.int .i64 3, .bool false, .string ⟨#[]⟩, .slice (some ⟨w1.heap.size, 0, none⟩) 1 1] 32)) (w1.heap.size + 1) 3 false ⟨#[]⟩ (some ⟨w1.heap.size, 0, none⟩) 1 1) := by
    have h := NB.new (w1.alloc (.cells #[.string ⟨#[97]⟩, .int .i64 1, .bool false, .string ⟨#[120]⟩, .slice none 0 0] 52)) 3 false ⟨#[]⟩ (some ⟨w1.heap.size, 0, none⟩) 1 1
    rw [s1] at h
    exact h
  have hE : ((w1.alloc (.cells #[.string ⟨#[97]⟩, .int .i64 1, .bool false, .string ⟨#[120]⟩, .slice none 0 0] 52)).alloc (.cells #[.int .i64 3, .bool false, .string ⟨#[]⟩, .slice (some ⟨w1.heap.size, 0, none⟩) 1 1] 32)).heap[w1.heap.size]? = some (.cells #[.string ⟨#[97]⟩, .int .i64 1, .bool false, .string ⟨#[120]⟩, .slice none 0 0] 52 (0, 0)) := (Below.heap_alloc _ _ _ (by rw [s1]; omega)).trans Array.getElem?_push_size
  have HA2 : Hid (At ((w1.alloc (.cells #[.string ⟨#[97]⟩, .int .i64 1, .bool false, .string ⟨#[120]⟩, .slice none 0 0] 52)).alloc (.cells #[.int .i64 3, .bool false, .string ⟨#[]⟩, .slice (some ⟨w1.heap.size, 0, none⟩) 1 1] 32)) 2 (.agg #[.int .i64 3, .bool false, .string ⟨#[]⟩, .slice (some ⟨w1.heap.size, 0, none⟩) 1 1]) awT) := by
    refine ⟨_, _, _, rfl, rfl, rfl, Nat.le_refl _, by omega, Or.inr ⟨w1.heap.size, 0, rfl, heap_lt hE, fun j s T hs hT => ?_⟩⟩
    have hj : j = 0 := by
      have := (List.getElem?_eq_some_iff.1 hs).1
      simp at this
      exact this
    subst hj
    simp at hs hT
    subst hs hT
    exact ⟨1, false, ⟨#[120]⟩, none, 0, 0, by rw [Lib.cell_of_heap hE]; rfl, by rw [Lib.cell_of_heap hE]; rfl, by rw [Lib.cell_of_heap hE]; rfl, by rw [Lib.cell_of_heap hE]; rfl, by rw [Lib.cell_of_heap hE]; rfl, _, _, _, rfl, rfl, rfl, Nat.le_refl _, by omega, Or.inl rfl⟩
  have HB2 : Hid (Below w.heap.size w ((w1.alloc (.cells #[.string ⟨#[97]⟩, .int .i64 1, .bool false, .string ⟨#[120]⟩, .slice none 0 0] 52)).alloc (.cells #[.int .i64 3, .bool false, .string ⟨#[]⟩, .slice (some ⟨w1.heap.size, 0, none⟩) 1 1] 32))) := b1.trans (b2.mono b1.size)
  clear b1 b2 s1 hE HB1
  go_upto_region 2 with fail
  generalize (w1.alloc (.cells #[.string ⟨#[97]⟩, .int .i64 1, .bool false, .string ⟨#[120]⟩, .slice none 0 0] 52)).alloc (.cells #[.int .i64 3, .bool false, .string ⟨#[]⟩, .slice (some ⟨w1.heap.size, 0, none⟩) 1 1] 32) = w2 at *
  generalize w1.heap.size = E at *
  have SC := size_tree 2 _ awT w2 HA2.out aw_sm
  rw [aw_sz] at SC
  have y0 := HN2.out.c0
  have y1 := HN2.out.c1
  have y2 := HN2.out.c2
  have y3 := HN2.out.c3
  go_wp2_with fail
  refine SC.mono ?_
  rintro e6 w3 ⟨rfl, b3⟩
  have HB3 : Hid (Below w.heap.size w w3) := HB2.out.trans (b3.mono HB2.out.size)
  have HA3 : Hid (At w3 2 (.agg #[.int .i64 3, .bool false, .string ⟨#[]⟩, .slice (some ⟨E, 0, none⟩) 1 1]) awT) := HA2.out.below b3
  have HN3 : Hid (NB w3 (E + 1) 3 false ⟨#[]⟩ (some ⟨E, 0, none⟩) 1 1) := (b3.block _ (heap_lt HN2.out)).trans HN2.out
  clear SC b3 HB2 HA2 HN2 y0 y1 y2 y3
  have CC := check_tree 2 _ awT w3 HA3.out aw_sm
  rw [aw_ck] at CC
  have y0 := HN3.out.c0
  have y1 := HN3.out.c1
  have y2 := HN3.out.c2
  have y3 := HN3.out.c3
  go_wp2_with fail
  refine CC.mono ?_
  rintro e6 w4 ⟨rfl, b4⟩
  have HB4 : Hid (Below w.heap.size w w4) := HB3.out.trans (b4.mono HB3.out.size)
  have HA4 : Hid (At w4 2 (.agg #[.int .i64 3, .bool false, .string ⟨#[]⟩, .slice (some ⟨E, 0, none⟩) 1 1]) awT) := HA3.out.below b4
  have HN4 : Hid (NB w4 (E + 1) 3 false ⟨#[]⟩ (some ⟨E, 0, none⟩) 1 1) := (b4.block _ (heap_lt HN3.out)).trans HN3.out
  clear CC b4 HB3 HA3 HN3 y0 y1 y2 y3
  have WC := walk_tree 2 _ awT w4 HA4.out aw_sm
  have y0 := HN4.out.c0
  have y1 := HN4.out.c1
  have y2 := HN4.out.c2
  have y3 := HN4.out.c3
  go_wp2_with fail
  refine WC.mono ?_
  rintro e6 w5 ⟨h5, b5⟩
  rw [aw_ck, if_neg (by decide), aw_rw] at h5
  obtain ⟨x5, c5, rfl, R5⟩ := h5
  have HB5 : Hid (Below w.heap.size w w5) := HB4.out.trans (b5.mono HB4.out.size)
  obtain ⟨g5, c5', e5, -, -, r0, r1, r2, r3⟩ := R5.at (i := 1) rfl
  injection e5 with e5 _ e5'
  subst e5 e5'
  dsimp only at r0 r3
  clear WC b5 HB4 HA4 HN4 y0 y1 y2 y3 R5
  go_wp2
  go_ret
  exact ⟨rfl, HB5.out⟩

end Go.Proofs.YtnggbemnblcnaaaDoor
