/- TkA TkB TkC TkP, gathered (own text of the verifier; made by joint.py). -/
import Derived.Test.YtmknnblogfpifaaDoorYR
import Derived.Test.YtmknnblogfpifaaDoorTvL
import Derived.Test.YtmknnblogfpifaaDoorTqR
namespace Go.Proofs.YtmknnblogfpifaaDoor
open Go.RowKit

/-- An append whose run is known, as a step of a region that draws its order. -/
theorem step_append_runI {P : Program} {ops : Array Oper} {o : Oper} {a : Act} {w : World} {K : Act → World → Prop} {Q : Exit → Act → World → Prop} {E : Prop} (hg : o.guard = none) (s x : Operand) (t tn : TypeId) (hop : o.op = Op.call { callee := Callee.builtin Builtin.append, args := #[s, x], argTypes := #[t, tn] })
    (vs vx : Value) (hs : a.eval s = vs) (hx : a.eval x = vx) {v' : Value} {w' : World} (hr : (Builtin.append_ #[t, tn] o.type #[vs, vx]).run P w = .ok v' w') (hK : K (a.put o.dst v') w') :
    if Region.wanted o (yielded ops a.tmps) = true then Oper.wp P o a w K Q else E := by
  have hw : Region.wanted o (yielded ops a.tmps) = true := by simp [Region.wanted, hg]
  rw [if_pos hw]
  exact Lib.wp_append_run w s x t tn hop vs vx hs hx v' w' hr hK

theorem lnL_at : ∀ (ks : List Tr) (i : Nat) (K : Tr), lnL ks → ks[i]? = some K → lnT K
  | [], i, K, _, h => by simp at h
  | T :: ks, 0, K, hl, h => by
    rw [lnL] at hl
    simp at h
    rw [← h]; exact hl.1
  | T :: ks, i + 1, K, hl, h => by
    rw [lnL] at hl
    exact lnL_at ks i K hl.2 (by simpa using h)
/-- Between two rounds of Clone: i kids are cloned. -/
def ClI (w0 : World) (G : Nat) (A : Array Value) (k : Int) (e : Bool) (t : ByteArray) (ns : List ByteArray) (ks : List Tr) (i : Nat) (y : Option Addr) (cp : Nat) (fp : List Nat) (w : World) : Prop :=
  w.heap[G]? = some (.cells A 25 (0, 0)) ∧ w.heap[G + 1]? = some (.cells #[Value.int IntKind.i64 0, Value.bool false, Value.string ⟨#[]⟩, Value.slice none 0 0] 25 (0, 0)) ∧ w.heap[G + 1 + 1]? = some (.cells #[Value.int IntKind.i64 k, Value.bool e, Value.string t, Value.slice y i cp] 25 (0, 0)) ∧
  TrV w (G + 1 + 1 + 1) (.mk k e t (ns.take i) (ks.take i)) (.slice y i cp) fp ∧ fp.Nodup ∧ G + 1 + 1 < w.heap.size ∧ Below G w0 w
theorem ClI.on {w0 w w' : World} {G : Nat} {A : Array Value} {k : Int} {e : Bool} {t : ByteArray} {ns : List ByteArray} {ks : List Tr} {i : Nat} {y : Option Addr} {cp : Nat} {fp : List Nat} (h : ClI w0 G A k e t ns ks i y cp fp w) (b : Below w.heap.size w w') : ClI w0 G A k e t ns ks i y cp fp w' := by
  obtain ⟨h1, h2, h3, h4, h5, h6, h7⟩ := h
  exact ⟨(b.block _ (by omega)).trans h1, (b.block _ (by omega)).trans h2, (b.block _ (by omega)).trans h3, TrV.same _ _ _ h4 (fun x hx => b.block x (TrV.lt _ _ _ h4 x hx).2), h5, Nat.lt_of_lt_of_le h6 b.size, h7.trans (b.mono (by omega))⟩

set_option maxHeartbeats 8000000 in
set_option maxRecDepth 10000 in
theorem clone_any (m : Nat) : ∀ (v : Value) (T : Tr) (w : World), At w m v T → lnT T → Calls Tryd.prog 16 #[v] w (CvP T w) := by
  induction m with
  | zero => intro v T w h; exact h.elim
  | succ m IH =>
    rintro v ⟨k, e, t, ns, ks⟩ w ⟨x, n, c, rfl, l1, l2, l3, l4, hx⟩ hln
    have EX : Hid (Ents w m x n ns ks) := At.ents hx
    have LL : Hid (ns.length = n ∧ ks.length = n ∧ n ≤ 1073741824 ∧ lnL ks) := by
      rw [lnT] at hln
      exact ⟨l1, l2, by omega, hln.2⟩
    clear hx l1 l2 hln
    go_enter Tryd.func16, Tryd.ntmps16
    go_wp2
    have hs1 : (w.alloc (Obj.cells #[Value.int IntKind.i64 k, Value.bool e, Value.string t, Value.slice x n c] 25)).heap.size = w.heap.size + 1 := World.size_alloc _ _
    have hs2 : ((w.alloc (Obj.cells #[Value.int IntKind.i64 k, Value.bool e, Value.string t, Value.slice x n c] 25)).alloc (Obj.cells #[Value.int IntKind.i64 0, Value.bool false, Value.string ⟨#[]⟩, Value.slice none 0 0] 25)).heap.size = w.heap.size + 1 + 1 := by rw [World.size_alloc, hs1]
    have b1 : Below w.heap.size w (w.alloc (Obj.cells #[Value.int IntKind.i64 k, Value.bool e, Value.string t, Value.slice x n c] 25)) := (Below.refl _ _).alloc (Nat.le_refl _) _
    have I0 : Hid (ClI w w.heap.size #[Value.int IntKind.i64 k, Value.bool e, Value.string t, Value.slice x n c] k e t ns ks 0 none 0 [] (((w.alloc (Obj.cells #[Value.int IntKind.i64 k, Value.bool e, Value.string t, Value.slice x n c] 25)).alloc (Obj.cells #[Value.int IntKind.i64 0, Value.bool false, Value.string ⟨#[]⟩, Value.slice none 0 0] 25)).alloc (Obj.cells #[Value.int IntKind.i64 k, Value.bool e, Value.string t, Value.slice none 0 0] 25))) := by
      refine ⟨?_, ?_, ?_, TrV.zero _ _ _ _ _ rfl rfl, List.nodup_nil, by rw [World.size_alloc, hs2]; omega, (b1.alloc (by rw [hs1]; omega) _).alloc (by rw [hs2]; omega) _⟩
      · rw [Below.heap_alloc _ _ _ (by rw [hs2]; omega), Below.heap_alloc _ _ _ (by rw [hs1]; omega)]; exact heap_alloc_new w _
      · rw [Below.heap_alloc _ _ _ (by rw [hs2]; omega), ← hs1]; exact heap_alloc_new _ _
      · rw [← hs2]; exact heap_alloc_new _ _
    clear hs1 hs2 b1
    obtain ⟨G, hG⟩ : ∃ G, w.heap.size = G := ⟨_, rfl⟩
    have HG : Hid (w.heap.size = G) := hG
    generalize (((w.alloc (Obj.cells #[Value.int IntKind.i64 k, Value.bool e, Value.string t, Value.slice x n c] 25)).alloc (Obj.cells #[Value.int IntKind.i64 0, Value.bool false, Value.string ⟨#[]⟩, Value.slice none 0 0] 25)).alloc (Obj.cells #[Value.int IntKind.i64 k, Value.bool e, Value.string t, Value.slice none 0 0] 25)) = w2 at *
    rw [hG] at I0 ⊢
    clear hG
    go_loopw [4] (fun xi wr => ∃ (i : Nat) (y : Option Addr) (cp : Nat) (fp : List Nat), i ≤ n ∧ xi = .int .i64 i ∧ Hid (ClI w G #[Value.int IntKind.i64 k, Value.bool e, Value.string t, Value.slice x n c] k e t ns ks i y cp fp wr)) (fun i _ => n - (intOf i).toNat)
    case atStart => exact ⟨0, none, 0, [], Nat.zero_le _, rfl, I0⟩
    case round =>
      obtain ⟨i, y, cp, fp, hi, rfl, hI⟩ := hrel
      by_cases hlt : i < n
      · obtain ⟨l1, l2, _, l4'⟩ := LL.out
        obtain ⟨s, hs⟩ : ∃ s, ns[i]? = some s := ⟨_, List.getElem?_eq_getElem (by omega)⟩
        obtain ⟨K, hK⟩ : ∃ s, ks[i]? = some s := ⟨_, List.getElem?_eq_getElem (by omega)⟩
        have HE : Hid (ns[i]? = some s ∧ ks[i]? = some K ∧ lnT K) := ⟨hs, hK, lnL_at _ _ _ l4' hK⟩
        have hB : Below w.heap.size w wr := by rw [HG.out]; exact hI.out.2.2.2.2.2.2
        obtain ⟨g, o, a, b, d, f, p, q, rfl, hg, c0, c1, c2, c3, c4, hA⟩ := EX.out.below hB i s K hlt hs hK
        have HA : Hid (At wr m (.agg #[.int .i64 a, .bool b, .string d, .slice f p q]) K) := hA
        have HC0 : Hid (wr.cell? ⟨g, o + i * 5, none⟩ = some (.string s) ∧ g < wr.heap.size) := ⟨c0, hg⟩
        clear hA hs hK l1 l2 l4' hB
        obtain ⟨u0, u1, u2, u3, _⟩ := cell4 hI.out.1
        go_wp2_with fail
        refine (IH _ K wr HA.out HE.out.2.2).mono ?_
        rintro e5 w5 ⟨⟨v5, fp5, rfl, hv, hnd⟩, b5⟩
        obtain ⟨x5, q5, rfl⟩ := hv.shape
        have I5 := hI.out.on b5
        have HV5 : Hid (TrV w5 wr.heap.size K (.slice x5 K.nms.length q5) fp5 ∧ fp5.Nodup ∧ (∀ b ∈ fp, b < wr.heap.size) ∧ G + 1 + 1 < wr.heap.size) := ⟨hv, hnd, fun b hb => (TrV.lt _ _ _ hI.out.2.2.2.1 b hb).2, hI.out.2.2.2.2.2.1⟩
        have HC5 : Hid (w5.cell? ⟨g, o + i * 5, none⟩ = some (.string s) ∧ g < w5.heap.size ∧ wr.heap.size ≤ w5.heap.size) := ⟨(b5.cell (p := ⟨g, o + i * 5, none⟩) HC0.out.2).trans HC0.out.1, Nat.lt_of_lt_of_le HC0.out.2 b5.size, b5.size⟩
        have HI5 : Hid (ClI w G #[Value.int IntKind.i64 k, Value.bool e, Value.string t, Value.slice (some ⟨g, o, none⟩) n c] k e t ns ks i y cp fp w5) := I5
        clear hv hnd b5 I5 c0 c1 c2 c3 c4 u0 u1 u2 u3 hg HA HC0 hI
        go_upto_region 6 with fail
        have bE : Below w5.heap.size w5 (w5.alloc (Obj.cells #[Value.int IntKind.i64 K.k, Value.bool K.e, Value.string K.t, Value.slice x5 K.nms.length q5] 25)) := (Below.refl _ _).alloc (Nat.le_refl _) _
        have HI6 : Hid (ClI w G #[Value.int IntKind.i64 k, Value.bool e, Value.string t, Value.slice (some ⟨g, o, none⟩) n c] k e t ns ks i y cp fp (w5.alloc (Obj.cells #[Value.int IntKind.i64 K.k, Value.bool K.e, Value.string K.t, Value.slice x5 K.nms.length q5] 25))) := HI5.out.on bE
        have hE6 : (w5.alloc (Obj.cells #[Value.int IntKind.i64 K.k, Value.bool K.e, Value.string K.t, Value.slice x5 K.nms.length q5] 25)).heap[w5.heap.size]? = some (.cells #[Value.int IntKind.i64 K.k, Value.bool K.e, Value.string K.t, Value.slice x5 K.nms.length q5] 25 (0, 0)) := heap_alloc_new _ _
        have HV6 : Hid (TrV (w5.alloc (Obj.cells #[Value.int IntKind.i64 K.k, Value.bool K.e, Value.string K.t, Value.slice x5 K.nms.length q5] 25)) wr.heap.size K (.slice x5 K.nms.length q5) fp5) := TrV.same _ _ _ HV5.out.1 (fun b hb => bE.block b (TrV.lt _ _ _ HV5.out.1 b hb).2)
        have a0 : (w5.alloc (Obj.cells #[Value.int IntKind.i64 K.k, Value.bool K.e, Value.string K.t, Value.slice x5 K.nms.length q5] 25)).cell? ⟨g, o + i * 5, none⟩ = some (.string s) := (bE.cell (p := ⟨g, o + i * 5, none⟩) HC5.out.2.1).trans HC5.out.1
        have hg6 : g < (w5.alloc (Obj.cells #[Value.int IntKind.i64 K.k, Value.bool K.e, Value.string K.t, Value.slice x5 K.nms.length q5] 25)).heap.size := Nat.lt_of_lt_of_le HC5.out.2.1 bE.size
        have HS6 : Hid (wr.heap.size ≤ w5.heap.size ∧ w5.heap.size < (w5.alloc (Obj.cells #[Value.int IntKind.i64 K.k, Value.bool K.e, Value.string K.t, Value.slice x5 K.nms.length q5] 25)).heap.size) := ⟨HC5.out.2.2, by rw [World.size_alloc]; omega⟩
        clear bE HI5 HC5
        obtain ⟨E, hE⟩ : ∃ E, w5.heap.size = E := ⟨_, rfl⟩
        rw [hE] at hE6 HS6 ⊢
        clear hE
        generalize w5.alloc (Obj.cells #[Value.int IntKind.i64 K.k, Value.bool K.e, Value.string K.t, Value.slice x5 K.nms.length q5] 25) = w6 at *
        obtain ⟨y0, y1, y2, y3, yf⟩ := cell4 HI6.out.2.2.1
        have yf3 := yf 3
        obtain ⟨u0, u1, u2, u3, _⟩ := cell4 HI6.out.1
        obtain ⟨q0, q1, q2, q3, _⟩ := cell4 hE6
        have HL : Hid ((ns.take i).length = i) := by show (ns.take i).length = i; rw [List.length_take, LL.out.1]; omega
        have bN : Below w6.heap.size w6 (w6.alloc (Obj.cells #[Value.string s, Value.int IntKind.i64 K.k, Value.bool K.e, Value.string K.t, Value.slice x5 K.nms.length q5] 54)).drew := ((Below.refl _ _).alloc (Nat.le_refl _) _).trans ⟨rfl, rfl, rfl, Nat.le_refl _, fun _ _ => rfl⟩
        have hz6 := HI6.out.2.2.2.2.2.1
        obtain ⟨g2, cap, w8, hr, ⟨fp8, hV8, hn8, hs8⟩, hgr, hcap⟩ := TrV.app (w := (w6.alloc (Obj.cells #[Value.string s, Value.int IntKind.i64 K.k, Value.bool K.e, Value.string K.t, Value.slice x5 K.nms.length q5] 54)).drew) (B := G + 1 + 1 + 1) (T := .mk k e t (ns.take i) (ks.take i)) (v := .slice y i cp) (fp := fp) (TrV.same _ _ _ HI6.out.2.2.2.1 (fun b hb => bN.block b (TrV.lt _ _ _ HI6.out.2.2.2.1 b hb).2)) s K (.slice x5 K.nms.length q5) fp5 (TrV.low (by have := HV5.out.2.2.2; omega) _ _ _ (TrV.same _ _ _ HV6.out (fun b hb => bN.block b (TrV.lt _ _ _ HV6.out b hb).2))) (List.nodup_append.2 ⟨HI6.out.2.2.2.2.1, HV5.out.2.1, fun a ha b hb hab => by
          have p1 := HV5.out.2.2.1 a ha
          have p2 := (TrV.lt _ _ _ HV6.out b hb).1
          omega⟩) ⟨w6.heap.size, 0, none⟩ 1 (fun j x hj => by
            rw [Addr.add_lit, Nat.zero_add]
            show (w6.alloc (Obj.cells #[Value.string s, Value.int IntKind.i64 K.k, Value.bool K.e, Value.string K.t, Value.slice x5 K.nms.length q5] 54)).cell? ⟨w6.heap.size, j, none⟩ = some x
            rw [World.cell?_alloc_new, ← Array.getElem?_toList]; exact hj) (by have := bN.size; omega) (by show (ns.take i).length ≤ _; have := HL.out; have := LL.out.2.2.1; omega)
        have hr' : (Builtin.append_ #[23, 23] 23 #[.slice y i cp, .slice (some ⟨w6.heap.size, 0, none⟩) 1 1]).run Tryd.prog (w6.alloc (Obj.cells #[Value.string s, Value.int IntKind.i64 K.k, Value.bool K.e, Value.string K.t, Value.slice x5 K.nms.length q5] 54)).drew = .ok (.slice (some ⟨g2, 0, none⟩) (i + 1) cap) w8 := by
          have := hr
          rw [show (Tr.mk k e t (ns.take i) (ks.take i)).nms.length = i from HL.out] at this
          exact this
        have hyo : ∀ b, b < w6.heap.size → b ∉ fp → w8.heap[b]? = w6.heap[b]? := fun b hb hbf => by
          have := bN.size
          refine (hgr.block b (by omega) (fun hh => hbf ?_)).trans (bN.block b hb)
          have h4 := HI6.out.2.2.2.1
          rw [TrV] at h4
          obtain ⟨_, fq, _, _, rfl⟩ := h4
          simp [blkL, ← hh]
        have HF : ∀ b, b ∈ fp → G + 1 + 1 + 1 ≤ b := fun b hb => (TrV.lt _ _ _ HI6.out.2.2.2.1 b hb).1
        have HGG : w8.heap[G + 1 + 1]? = w6.heap[G + 1 + 1]? := hyo _ (by omega) (fun hh => by have := HF _ hh; omega)
        obtain ⟨_, _, _, z3, zf⟩ := cell4 (HGG.trans HI6.out.2.2.1)
        have zf3 := zf 3
        have HN : Hid (ClI w G #[Value.int IntKind.i64 k, Value.bool e, Value.string t, Value.slice (some ⟨g, o, none⟩) n c] k e t ns ks (i + 1) (some ⟨g2, 0, none⟩) cap fp8 (w8.setCell ⟨G + 1 + 1, 3, none⟩ (.slice (some ⟨g2, 0, none⟩) (i + 1) cap))) := by
          have b8 : Below G w6 w8 := ⟨hgr.os.trans bN.os, hgr.tape.trans bN.tape, hgr.output.trans bN.output, Nat.le_trans bN.size hgr.size, fun b hb => hyo b (by omega) (fun hh => by have := HF _ hh; omega)⟩
          refine ⟨?_, ?_, ?_, ?_, hn8, ?_, ?_⟩
          · exact (Below.heap_setCell _ ⟨G + 1 + 1, 3, none⟩ _ G (by show G ≠ G + 1 + 1; omega)).trans ((hyo G (by omega) (fun hh => by have := HF _ hh; omega)).trans HI6.out.1)
          · exact (Below.heap_setCell _ ⟨G + 1 + 1, 3, none⟩ _ (G + 1) (by show G + 1 ≠ G + 1 + 1; omega)).trans ((hyo (G + 1) (by omega) (fun hh => by have := HF _ hh; omega)).trans HI6.out.2.1)
          · exact Go.Joins.block_setCell (i := 3) (HGG.trans HI6.out.2.2.1) _
          · rw [List.take_add_one, HE.out.1, List.take_add_one, HE.out.2.1]
            have h9 := TrV.same (w' := w8.setCell ⟨G + 1 + 1, 3, none⟩ (.slice (some ⟨g2, 0, none⟩) (i + 1) cap)) _ _ _ hV8 (fun b hb => Below.heap_setCell _ ⟨G + 1 + 1, 3, none⟩ _ b (fun hh => by have := (TrV.lt _ _ _ hV8 b hb).1; have : b = G + 1 + 1 := hh; omega))
            rw [show (Tr.mk k e t (ns.take i) (ks.take i)).nms.length = i from HL.out] at h9
            exact h9
          · rw [World.size_setCell]
            have := bN.size
            have := hgr.size
            omega
          · exact (HI6.out.2.2.2.2.2.2.trans b8).setCell (by show G ≤ G + 1 + 1; omega) _
        clear hr hV8 hn8 hs8 hgr hcap hyo HF HGG bN yf zf
        go_region_law (refine step_append_runI rfl (.tmp 28) (.tmp 37) 23 23 rfl _ _ (by simp [Act.eval]) (by simp [Act.eval]) hr' ?_)
        all_goals
          clear hr' z3 zf3 a0 q0 q1 q2 q3 y0 y1 y2 y3 yf3 u0 u1 u2 u3
          generalize w8.setCell ⟨G + 1 + 1, 3, none⟩ (.slice (some ⟨g2, 0, none⟩) (i + 1) cap) = w9 at *
          go_wp2
          go_roundw
          case rel => exact ⟨i + 1, some ⟨g2, 0, none⟩, cap, fp8, by omega, by go_num, HN⟩
          case measure => simp [intOf]; omega
      · obtain rfl : i = n := by omega
        obtain ⟨y0, y1, y2, y3, _⟩ := cell4 hI.out.2.2.1
        obtain ⟨u0, u1, u2, u3, uf⟩ := cell4 hI.out.2.1
        obtain ⟨_, _, _, a3, _⟩ := cell4 hI.out.1
        have v0 := uf 0
        have v1 := uf 1
        have v2 := uf 2
        have v3 := uf 3
        clear uf
        go_wp2
        have hq := put4 hI.out.2.1 (Value.int .i64 k) (.bool e) (.string t) (.slice y i cp)
        have hB : Below w.heap.size w (wr.setCells (G + 1) 0 [Value.int .i64 k, .bool e, .string t, .slice y i cp]) := belowE_setCells _ _ _ (by rw [HG.out]; omega) (by rw [HG.out]; exact hI.out.2.2.2.2.2.2)
        have hVE := TrV.low (show w.heap.size ≤ G + 1 + 1 + 1 by rw [HG.out]; omega) _ _ _ (TrV.same (w' := wr.setCells (G + 1) 0 [Value.int .i64 k, .bool e, .string t, .slice y i cp]) _ _ _ hI.out.2.2.2.1 (fun b hb => heapE_setCells (G + 1) _ _ b (fun hh => by have := (TrV.lt _ _ _ hI.out.2.2.2.1 b hb).1; omega) wr))
        rw [List.take_of_length_le (by rw [LL.out.1]; exact Nat.le_refl _), List.take_of_length_le (by rw [LL.out.2.1]; exact Nat.le_refl _)] at hVE
        change bodyPost _ _ _ _ _ (wr.setCells (G + 1) 0 [Value.int .i64 k, .bool e, .string t, .slice y i cp])
        generalize wr.setCells (G + 1) 0 [Value.int .i64 k, .bool e, .string t, .slice y i cp] = W at *
        obtain ⟨z0, z1, z2, z3, _⟩ := cell4 hq
        exact bodyPost_ret (v := .agg #[.int .i64 k, .bool e, .string t, .slice y i cp]) (by simp [results, Tryd.results16, go_sem, z0, z1, z2, z3]) rfl ⟨⟨_, fp, rfl, hVE, hI.out.2.2.2.2.1⟩, hB⟩

/-- Nothing was turned but the blocks fp. -/
structure SpF (fp : List Nat) (w w' : World) : Prop where
  os : w'.os = w.os
  tape : w'.tape = w.tape
  output : w'.output = w.output
  size : w.heap.size ≤ w'.heap.size
  keep : ∀ b, b < w.heap.size → b ∉ fp → w'.heap[b]? = w.heap[b]?
theorem SpF.refl (fp : List Nat) (w : World) : SpF fp w w := ⟨rfl, rfl, rfl, Nat.le_refl _, fun _ _ _ => rfl⟩
theorem SpF.trans {fp fq : List Nat} {a b c : World} (h : SpF fp a b) (h' : SpF fq b c) (hq : ∀ x ∈ fq, x ∈ fp ∨ a.heap.size ≤ x) : SpF fp a c :=
  ⟨h'.os.trans h.os, h'.tape.trans h.tape, h'.output.trans h.output, Nat.le_trans h.size h'.size, fun x hx hf => (h'.keep x (Nat.lt_of_lt_of_le hx h.size) (fun hm => by
    rcases hq x hm with hm | hm
    · exact hf hm
    · omega)).trans (h.keep x hx hf)⟩
theorem SpF.of {fp : List Nat} {w w' : World} (b : Below w.heap.size w w') : SpF fp w w' := ⟨b.os, b.tape, b.output, b.size, fun x hx _ => b.block x hx⟩
theorem SpF.set {fp : List Nat} {a w : World} (h : SpF fp a w) (q o : Nat) (vs : List Value) (hq : q ∈ fp ∨ a.heap.size ≤ q) : SpF fp a (w.setCells q o vs) := by
  have hb : Below q w (w.setCells q o vs) := belowE_setCells _ _ _ (Nat.le_refl _) (Below.refl _ _)
  refine ⟨hb.os.trans h.os, hb.tape.trans h.tape, hb.output.trans h.output, by rw [sizeE_setCells]; exact h.size, fun x hx hf => (heapE_setCells q vs o x (fun hh => ?_) w).trans (h.keep x hx hf)⟩
  rcases hq with hq | hq
  · exact hf (by rw [hh]; exact hq)
  · omega
theorem SpF.same {fp fq : List Nat} {w w' : World} {B : Nat} {T : Tr} {v : Value} (h : SpF fp w w') (hV : TrV w B T v fq) (hd : ∀ b ∈ fq, b ∉ fp) : TrV w' B T v fq := TrV.same _ _ _ hV (fun b hb => h.keep b (TrV.lt _ _ _ hV b hb).2 (hd b hb))

/-- What spoil leaves in an entry. -/
def spS : ByteArray := ⟨#[115, 112, 111, 105, 108, 116]⟩
def sp9 : Tr := .mk 9 false ⟨#[]⟩ [] []
def spE : List Value := [.string ⟨#[115, 112, 111, 105, 108, 116]⟩, .int .i64 9, .bool false, .string ⟨#[]⟩, .slice none 0 0]
def spK (T : Tr) (i : Nat) : Tr := .mk T.k T.e T.t (T.nms.set i spS) (T.ks.set i sp9)
theorem KidV.ren {w : World} {B : Nat} (s' : ByteArray) : ∀ (nms : List ByteArray) (ks : List Tr) (cs1 cs2 : List Value) (fq : List Nat) (i : Nat) (s : ByteArray) (K : Tr) (u : Value), KidV w B nms ks (cs1 ++ entV s K u ++ cs2) fq → cs1.length = i * 5 → i < nms.length → KidV w B (nms.set i s') ks (cs1 ++ (.string s' :: (entV s K u).drop 1) ++ cs2) fq
  | [], _, _, _, _, i, _, _, _, _, _, hi => by simp at hi
  | _ :: _, [], _, _, _, _, _, _, _, h, _, _ => by simp [KidV] at h
  | a :: nms, T :: ks, cs1, cs2, fq, 0, s, K, u, h, hc, _ => by
    obtain rfl := List.length_eq_zero_iff.1 (by omega : cs1.length = 0)
    rw [KidV] at h
    obtain ⟨v, cs', fp, fq', h1, h2, h3, h4⟩ := h
    rw [List.nil_append] at h1
    rw [List.set_cons_zero, KidV]
    unfold entV at h1
    simp at h1
    obtain ⟨_, e2, e3, e4, e5, e6⟩ := h1
    refine ⟨v, cs', fp, fq', ?_, h2, h3, h4⟩
    unfold entV
    simp
    exact ⟨e2, e3, e4, e5, e6⟩
  | a :: nms, T :: ks, cs1, cs2, fq, i + 1, s, K, u, h, hc, hi => by
    rw [KidV] at h
    obtain ⟨v, cs', fp, fq', h1, h2, h3, h4⟩ := h
    have hl : 5 ≤ cs1.length := by omega
    obtain ⟨cs3, rfl⟩ : ∃ cs3, cs1 = entV a T v ++ cs3 := by
      refine ⟨cs1.drop 5, ?_⟩
      have e : (cs1 ++ entV s K u ++ cs2).take 5 = entV a T v := by rw [h1, List.take_append_of_le_length (by rw [entV_len]; omega), List.take_of_length_le (by rw [entV_len]; omega)]
      rw [List.append_assoc, List.take_append_of_le_length hl] at e
      rw [← e, List.take_append_drop]
    rw [List.append_assoc, List.append_assoc] at h1
    have h1' := List.append_cancel_left h1
    rw [List.set_cons_succ, KidV]
    refine ⟨v, cs3 ++ (.string s' :: (entV s K u).drop 1) ++ cs2, fp, fq', by simp, h2, KidV.ren s' nms ks cs3 cs2 fq' i s K u (by rw [List.append_assoc, h1']; exact h3) (by rw [List.length_append, entV_len] at hc; omega) (by simpa using hi), h4⟩

theorem TrV.spoil {w : World} {B q n cap i : Nat} {T K : Tr} {fp : List Nat} {s : ByteArray} (h : TrV w B T (.slice (some ⟨q, 0, none⟩) n cap) fp) (hn : fp.Nodup) (hs : T.nms[i]? = some s) (hK : T.ks[i]? = some K) :
    ∃ y cy fk, TrV w B K (.slice y K.nms.length cy) fk ∧ fk.Nodup ∧ (∀ b ∈ fk, b ∈ fp) ∧ q ∉ fk ∧ q ∈ fp ∧ w.cell? ⟨q, i * 5 + 1, none⟩ = some (.int .i64 K.k) ∧ w.cell? ⟨q, i * 5 + 2, none⟩ = some (.bool K.e) ∧ w.cell? ⟨q, i * 5 + 3, none⟩ = some (.string K.t) ∧ w.cell? ⟨q, i * 5 + 4, none⟩ = some (.slice y K.nms.length cy) ∧ w.cell? ⟨q, i * 5, none⟩ = some (.string s) ∧
      ∀ w5, SpF fk w w5 → ∃ fp2, TrV (w5.setCells q (i * 5) spE) B (spK T i) (.slice (some ⟨q, 0, none⟩) n cap) fp2 ∧ fp2.Nodup ∧ (∀ b ∈ fp2, b ∈ fp) := by
  obtain ⟨x0, c0, hx⟩ := h.shape
  obtain ⟨k, e, t, nms, ks⟩ := T
  injection hx with e1 e2 e3
  change n = nms.length at e2
  subst e2
  rw [TrV] at h
  obtain ⟨cs, fq, h1, h2, rfl⟩ := h
  change nms[i]? = some s at hs
  change ks[i]? = some K at hK
  have hi : i < nms.length := (List.getElem?_eq_some_iff.1 hs).1
  have hlt := KidV.lt _ _ _ _ h2
  obtain ⟨u0, fk0, cs1, cs2, fa, fb, rfl, g2, rfl, g4, g5⟩ := KidV.rep nms ks cs fq h2 i s K hs hK
  obtain ⟨y, cy, rfl⟩ := g4.shape
  have hbl : blkL (Value.slice (some ⟨q, 0, none⟩) nms.length cap) = [q] := rfl
  rw [hbl] at hn ⊢
  have hqn : q ∉ fa ++ (fk0 ++ fb) := (List.nodup_cons.1 hn).1
  have hn2 : (fa ++ (fk0 ++ fb)).Nodup := (List.nodup_cons.1 hn).2
  have hql : q < w.heap.size := by
    obtain ⟨cur, _, hq, _⟩ := own_heapC h1
    exact heap_lt hq
  have hcell : ∀ j, j < 5 → w.cell? ⟨q, i * 5 + j, none⟩ = (entV s K (.slice y K.nms.length cy))[j]? := fun j hj => by
    rw [World.ownsRow.cellAt h1 (i * 5 + j) (by omega), List.append_assoc, List.getElem?_append_right (by omega), g2, List.getElem?_append_left (by rw [entV_len]; omega)]
    congr 1; omega
  have hqk : q ∉ fk0 := fun hm => hqn (by simp [hm])
  have hab : ∀ x ∈ fa ++ fb, x ∈ fa ++ (fk0 ++ fb) ∧ x ∉ fk0 := fun x hm => by
    rcases List.mem_append.1 hm with hm | hm
    · exact ⟨by simp [hm], fun hk => (List.nodup_append.1 hn2).2.2 x hm x (by simp [hk]) rfl⟩
    · exact ⟨by simp [hm], fun hk => (List.nodup_append.1 (List.nodup_append.1 hn2).2.1).2.2 x hk x hm rfl⟩
  refine ⟨y, cy, fk0, g4, (List.nodup_append.1 (List.nodup_append.1 hn2).2.1).1, fun b hb => by simp [hb], hqk, by simp, hcell 1 (by omega), hcell 2 (by omega), hcell 3 (by omega), hcell 4 (by omega), hcell 0 (by omega), fun w5 hsp => ⟨q :: (fa ++ ([] ++ fb)), ?_, ?_, ?_⟩⟩
  · have r1 := own_same (w' := w5) h1 (fun x hx => by rw [hbl] at hx; simp at hx; rw [hx]; exact hsp.keep q hql hqk)
    have s1 := (World.ownsRow.stored r1 (i * 5) (.string ⟨#[115, 112, 111, 105, 108, 116]⟩)).1
    have s2 := (World.ownsRow.stored s1 (i * 5 + 1) (.int .i64 9)).1
    have s3 := (World.ownsRow.stored s2 (i * 5 + 2) (.bool false)).1
    have s4 := (World.ownsRow.stored s3 (i * 5 + 3) (.string ⟨#[]⟩)).1
    have s5 := (World.ownsRow.stored s4 (i * 5 + 4) (.slice none 0 0)).1
    have key : (((((cs1 ++ entV s K (.slice y K.nms.length cy) ++ cs2).set (i * 5) (.string ⟨#[115, 112, 111, 105, 108, 116]⟩)).set (i * 5 + 1) (.int .i64 9)).set (i * 5 + 2) (.bool false)).set (i * 5 + 3) (.string ⟨#[]⟩)).set (i * 5 + 4) (.slice none 0 0) = cs1 ++ (.string spS :: (entV s sp9 (.slice none 0 0)).drop 1) ++ cs2 := by
      rw [List.append_assoc, List.set_append_right _ _ (by omega), List.set_append_right _ _ (by omega), List.set_append_right _ _ (by omega), List.set_append_right _ _ (by omega), List.set_append_right _ _ (by omega), g2]
      rw [Nat.sub_self, show i * 5 + 1 - i * 5 = 1 by omega, show i * 5 + 2 - i * 5 = 2 by omega, show i * 5 + 3 - i * 5 = 3 by omega, show i * 5 + 4 - i * 5 = 4 by omega]
      unfold entV
      simp [spS, sp9, Tr.k, Tr.e, Tr.t]
    rw [key] at s5
    have hKV := g5 (w5.setCells q (i * 5) spE) sp9 (.slice none 0 0) [] (TrV.zero _ _ _ _ _ rfl rfl) (fun x hx => (heapE_setCells q _ _ x (fun hh => hqn (by rw [← hh]; exact (hab x hx).1)) w5).trans (hsp.keep x (hlt x (hab x hx).1).2 (hab x hx).2))
    have hKR := KidV.ren spS _ _ _ _ _ i s sp9 (.slice none 0 0) hKV g2 hi
    show TrV _ B (.mk k e t (nms.set i spS) (ks.set i sp9)) _ _
    rw [TrV]
    refine ⟨_, _, ?_, hKR, rfl⟩
    rw [List.length_set]
    exact s5
  · have hx : (fa ++ ([] ++ fb)).Nodup := List.nodup_append.2 ⟨(List.nodup_append.1 hn2).1, (List.nodup_append.1 (List.nodup_append.1 hn2).2.1).2.1, fun x hx y hy hxy => (List.nodup_append.1 hn2).2.2 x hx y (by simp [show y ∈ fb from hy]) hxy⟩
    exact List.nodup_cons.2 ⟨fun hm => hqn (hab q hm).1, hx⟩
  · intro x hx
    rcases List.mem_cons.1 hx with rfl | hx
    · simp
    · exact List.mem_cons_of_mem _ (hab x hx).1

/-- Between two rounds of spoil. -/
def SpI (w0 : World) (G B : Nat) (A : Array Value) (T : Tr) (fp : List Nat) (v : Value) (i : Nat) (Ti : Tr) (fpi : List Nat) (w : World) : Prop :=
  w.heap[G]? = some (.cells A 25 (0, 0)) ∧ TrV w B Ti v fpi ∧ fpi.Nodup ∧ (∀ b ∈ fpi, b ∈ fp) ∧ (∀ j, i ≤ j → Ti.ks[j]? = T.ks[j]?) ∧ SpF fp w0 w ∧ G < w.heap.size
def SpJ (w0 : World) (G B : Nat) (A : Array Value) (fp : List Nat) (v : Value) (Ti : Tr) (fpi : List Nat) (w : World) : Prop :=
  w.heap[G]? = some (.cells A 25 (0, 0)) ∧ TrV w B Ti v fpi ∧ fpi.Nodup ∧ (∀ b ∈ fpi, b ∈ fp ∨ G + 1 ≤ b) ∧ SpF fp w0 w ∧ G < w.heap.size

set_option maxHeartbeats 8000000 in
set_option maxRecDepth 10000 in
theorem spoil_any (m : Nat) : ∀ (T : Tr), SizeOf.sizeOf T ≤ m → ∀ (B : Nat) (y : Option Addr) (n c : Nat) (fp : List Nat) (w : World), TrV w B T (.slice y n c) fp → fp.Nodup → lnB 1048576 T → B ≤ w.heap.size → Calls Tryd.prog 18 #[.agg #[.int .i64 T.k, .bool T.e, .string T.t, .slice y n c]] w fun en w' => en = .returned (.tuple #[]) ∧ SpF fp w w' := by
  induction m with
  | zero =>
    intro T h
    obtain ⟨k, e, t, nms, ks⟩ := T
    simp at h
  | succ m IH =>
    intro T hsz B y n c fp w hV hn hl hB
    have hlen : n = T.nms.length := by
      obtain ⟨x0, c0, hx⟩ := hV.shape
      injection hx
    have HT : Hid (n = T.nms.length ∧ SizeOf.sizeOf T ≤ m + 1 ∧ lnB 1048576 T ∧ B ≤ w.heap.size ∧ (∀ b ∈ fp, B ≤ b ∧ b < w.heap.size) ∧ T.nms.length = T.ks.length) := ⟨hlen, hsz, hl, hB, TrV.lt _ _ _ hV, hV.lenE⟩
    have hnb : n ≤ 1048576 := by
      rw [hlen]
      obtain ⟨_, _, _, _, _⟩ := T
      rw [lnB] at hl
      exact hl.1
    obtain ⟨k, hk⟩ : ∃ k, T.k = k := ⟨_, rfl⟩
    obtain ⟨e, he⟩ : ∃ k, T.e = k := ⟨_, rfl⟩
    obtain ⟨t, ht⟩ : ∃ k, T.t = k := ⟨_, rfl⟩
    rw [hk, he, ht]
    clear hk he ht
    have b1 : Below w.heap.size w (w.alloc (Obj.cells #[Value.int IntKind.i64 k, Value.bool e, Value.string t, Value.slice y n c] 25)) := (Below.refl _ _).alloc (Nat.le_refl _) _
    have I0 : Hid (SpI w w.heap.size B #[Value.int IntKind.i64 k, Value.bool e, Value.string t, Value.slice y n c] T fp (.slice y n c) 0 T fp (w.alloc (Obj.cells #[Value.int IntKind.i64 k, Value.bool e, Value.string t, Value.slice y n c] 25))) := ⟨heap_alloc_new w _, TrV.same _ _ _ hV (fun b hb => b1.block b (TrV.lt _ _ _ hV b hb).2), hn, fun b hb => hb, fun _ _ => rfl, SpF.of b1, by rw [World.size_alloc]; omega⟩
    clear b1 hV hn hl hB hsz hlen
    go_enter Tryd.func18, Tryd.ntmps18
    go_wp2
    obtain ⟨G, hG⟩ : ∃ G, w.heap.size = G := ⟨_, rfl⟩
    have HG : Hid (w.heap.size = G) := hG
    generalize w.alloc (Obj.cells #[Value.int IntKind.i64 k, Value.bool e, Value.string t, Value.slice y n c] 25) = w2 at *
    rw [hG] at I0 ⊢
    clear hG
    go_loopw [7] (fun xi wr => ∃ (i : Nat) (Ti : Tr) (fpi : List Nat), i ≤ n ∧ xi = .int .i64 i ∧ Hid (SpI w G B #[Value.int IntKind.i64 k, Value.bool e, Value.string t, Value.slice y n c] T fp (.slice y n c) i Ti fpi wr)) (fun i _ => n - (intOf i).toNat)
    case atStart => exact ⟨0, T, fp, Nat.zero_le _, rfl, I0⟩
    case round =>
      obtain ⟨i, Ti, fpi, hi, rfl, hI⟩ := hrel
      by_cases hlt : i < n
      · have hln : n = Ti.nms.length := by
          obtain ⟨x0, c0, hx⟩ := hI.out.2.1.shape
          injection hx
        have hle := hI.out.2.1.lenE
        obtain ⟨s, hs⟩ : ∃ s, Ti.nms[i]? = some s := ⟨_, List.getElem?_eq_getElem (by omega)⟩
        obtain ⟨K, hK⟩ : ∃ s, Ti.ks[i]? = some s := ⟨_, List.getElem?_eq_getElem (by omega)⟩
        obtain ⟨q, capq, uq, fkq, hvq, hrest⟩ := hI.out.2.1.get i s K hs hK
        clear hrest
        obtain rfl : y = some ⟨q, 0, none⟩ := by injection hvq
        obtain ⟨yk, ck, fk, hVk, hnk, hsub, hqk, hqf, c1, c2, c3, c4, c0, haft⟩ := TrV.spoil hI.out.2.1 hI.out.2.2.1 hs hK
        have HKT : Hid (SizeOf.sizeOf K ≤ m ∧ lnB 1048576 K) := by
          have hm : T.ks[i]? = some K := by rw [← hI.out.2.2.2.2.1 i (Nat.le_refl _)]; exact hK
          have h2 := HT.out.2.1
          have h3 := HT.out.2.2.1
          obtain ⟨k0, e0, t0, nms, ks⟩ := T
          change ks[i]? = some K at hm
          have hmem := List.mem_of_getElem? hm
          have hlt2 := List.sizeOf_lt_of_mem hmem
          simp at h2
          rw [lnB] at h3
          exact ⟨by omega, lnBL_iff.1 h3.2 K hmem⟩
        have HBW : Hid (B ≤ wr.heap.size) := Nat.le_trans HT.out.2.2.2.1 hI.out.2.2.2.2.2.1.size
        have HVK : Hid (TrV wr B K (.slice yk K.nms.length ck) fk ∧ fk.Nodup ∧ (∀ b ∈ fk, b ∈ fpi) ∧ q ∉ fk ∧ q ∈ fpi) := ⟨hVk, hnk, hsub, hqk, hqf⟩
        have HAF : Hid (∀ w5, SpF fk wr w5 → ∃ fp2, TrV (w5.setCells q (i * 5) spE) B (spK Ti i) (.slice (some ⟨q, 0, none⟩) n c) fp2 ∧ fp2.Nodup ∧ (∀ b ∈ fp2, b ∈ fpi)) := haft
        obtain ⟨_, _, _, g3, _⟩ := cell4 hI.out.1
        have z0 := hI.out.2.1.unfrozen q (i * 5) hqf
        have z1 := hI.out.2.1.unfrozen q (i * 5 + 1) hqf
        have z2 := hI.out.2.1.unfrozen q (i * 5 + 2) hqf
        have z3 := hI.out.2.1.unfrozen q (i * 5 + 3) hqf
        have z4 := hI.out.2.1.unfrozen q (i * 5 + 4) hqf
        have hqw := (TrV.lt _ _ _ hI.out.2.1 q hqf).2
        clear hVk hnk hsub hqk hqf haft hs hK hvq hle hln
        go_wp2_with fail
        refine (IH K HKT.out.1 B yk _ ck fk wr HVK.out.1 HVK.out.2.1 HKT.out.2 HBW.out).mono ?_
        rintro e5 w5 ⟨rfl, hsp⟩
        have HSP : Hid (SpF fk wr w5) := hsp
        have hGk : G ∉ fk := fun hm => by
          have h1 := hI.out.2.2.2.1 _ (HVK.out.2.2.1 _ hm)
          have h2 := (HT.out.2.2.2.2.1 _ h1).2
          rw [HG.out] at h2
          omega
        have hG5 := hsp.keep G hI.out.2.2.2.2.2.2 hGk
        have hq5 := hsp.keep q hqw HVK.out.2.2.2.1
        have g3' : w5.cell? ⟨G, 3, none⟩ = some (.slice (some ⟨q, 0, none⟩) n c) := (cell_same hG5).trans g3
        have d0 := (cell_same (o := i * 5) hq5).trans c0
        have d1 := (cell_same (o := i * 5 + 1) hq5).trans c1
        have d2 := (cell_same (o := i * 5 + 2) hq5).trans c2
        have d3 := (cell_same (o := i * 5 + 3) hq5).trans c3
        have d4 := (cell_same (o := i * 5 + 4) hq5).trans c4
        have y0 := (World.frozen?_of_block (w := wr) (w' := w5) (a := ⟨q, i * 5, none⟩) hq5).trans z0
        have y1 := (World.frozen?_of_block (w := wr) (w' := w5) (a := ⟨q, i * 5 + 1, none⟩) hq5).trans z1
        have y2 := (World.frozen?_of_block (w := wr) (w' := w5) (a := ⟨q, i * 5 + 2, none⟩) hq5).trans z2
        have y3 := (World.frozen?_of_block (w := wr) (w' := w5) (a := ⟨q, i * 5 + 3, none⟩) hq5).trans z3
        have y4 := (World.frozen?_of_block (w := wr) (w' := w5) (a := ⟨q, i * 5 + 4, none⟩) hq5).trans z4
        clear c0 c1 c2 c3 c4 z0 z1 z2 z3 z4 g3 hsp
        have HG5 : Hid (w5.heap[G]? = wr.heap[G]?) := hG5
        clear hG5 hq5
        go_upto_region 6 with fail
        obtain ⟨fp2, hV2, hn2, hs2⟩ := HAF.out w5 HSP.out
        have hGq : G ≠ q := fun hh => by
          have h1 := hI.out.2.2.2.1 _ HVK.out.2.2.2.2
          have h2 := (HT.out.2.2.2.2.1 _ h1).2
          rw [HG.out] at h2
          omega
        have HN : Hid (SpI w G B #[Value.int IntKind.i64 k, Value.bool e, Value.string t, Value.slice (some ⟨q, 0, none⟩) n c] T fp (.slice (some ⟨q, 0, none⟩) n c) (i + 1) (spK Ti i) fp2 (w5.setCells q (i * 5) spE)) := by
          refine ⟨(heapE_setCells q _ _ G hGq w5).trans (HG5.out.trans hI.out.1), hV2, hn2, fun b hb => hI.out.2.2.2.1 b (hs2 b hb), fun j hj => ?_, ?_, ?_⟩
          · rw [← hI.out.2.2.2.2.1 j (by omega)]
            show (Ti.ks.set i sp9)[j]? = _
            rw [List.getElem?_set_ne (by omega)]
          · exact (hI.out.2.2.2.2.2.1.trans HSP.out (fun b hb => .inl (hI.out.2.2.2.1 b (HVK.out.2.2.1 b hb)))).set q _ _ (.inl (hI.out.2.2.2.1 _ HVK.out.2.2.2.2))
          · rw [sizeE_setCells]
            exact Nat.lt_of_lt_of_le hI.out.2.2.2.2.2.2 HSP.out.size
        change Code.wp _ _ _ _ (w5.setCells q (i * 5) spE)
        clear hV2 hn2 hs2 d0 d1 d2 d3 d4 y0 y1 y2 y3 y4 g3' HAF HSP HG5
        generalize w5.setCells q (i * 5) spE = w9 at *
        go_wp2
        go_roundw
        case rel => exact ⟨i + 1, spK Ti i, fp2, by omega, by go_num, HN⟩
        case measure => simp [intOf]; omega
      · obtain rfl : i = n := by omega
        have J0 : Hid (SpJ w G B #[Value.int IntKind.i64 k, Value.bool e, Value.string t, Value.slice y (i + 0) c] fp (.slice y (i + 0) c) Ti fpi wr) := ⟨hI.out.1, hI.out.2.1, hI.out.2.2.1, fun b hb => .inl (hI.out.2.2.2.1 b hb), hI.out.2.2.2.2.2.1, hI.out.2.2.2.2.2.2⟩
        clear hI
        go_wp2
        go_loopw [3] (fun xj wj => ∃ (j : Nat) (Tj : Tr) (fpj : List Nat) (yj : Option Addr) (cj : Nat), j ≤ 3 ∧ xj = .int .i64 j ∧ Hid (SpJ w G B #[Value.int IntKind.i64 k, Value.bool e, Value.string t, Value.slice yj (i + j) cj] fp (.slice yj (i + j) cj) Tj fpj wj)) (fun j _ => 3 - (intOf j).toNat)
        case atStart => exact ⟨0, Ti, fpi, y, c, by omega, rfl, J0⟩
        case round =>
          obtain ⟨j, Tj, fpj, yj, cj, hj, rfl, hJ⟩ := hrel
          by_cases hlt3 : j < 3
          · have hlj : i + j = Tj.nms.length := by
              obtain ⟨x0, c0, hx⟩ := hJ.out.2.1.shape
              injection hx
            obtain ⟨_, _, _, g3, _⟩ := cell4 hJ.out.1
            have bN : Below wr.heap.size wr (wr.alloc (Obj.cells #[Value.string ⟨#[109, 111, 114, 101]⟩, Value.int IntKind.i64 0, Value.bool false, Value.string ⟨#[]⟩, Value.slice none 0 0] 54)) := (Below.refl _ _).alloc (Nat.le_refl _) _
            have hBj : B ≤ wr.heap.size := Nat.le_trans HT.out.2.2.2.1 hJ.out.2.2.2.2.1.size
            obtain ⟨g2, cap, w8, hr, ⟨fp8, hV8, hn8, hs8⟩, hgr, hcap⟩ := TrV.app (w := wr.alloc (Obj.cells #[Value.string ⟨#[109, 111, 114, 101]⟩, Value.int IntKind.i64 0, Value.bool false, Value.string ⟨#[]⟩, Value.slice none 0 0] 54)) (B := B) (TrV.same _ _ _ hJ.out.2.1 (fun b hb => bN.block b (TrV.lt _ _ _ hJ.out.2.1 b hb).2)) ⟨#[109, 111, 114, 101]⟩ zT (.slice none 0 0) [] (TrV.zero _ _ _ _ _ rfl rfl) (by rw [List.append_nil]; exact hJ.out.2.2.1) ⟨wr.heap.size, 0, none⟩ 1 (fun j x hj => by
                rw [Addr.add_lit, Nat.zero_add, World.cell?_alloc_new, ← Array.getElem?_toList]; exact hj) (by have := bN.size; omega) (by omega)
            have hr' : (Builtin.append_ #[23, 23] 23 #[.slice yj (i + j) cj, .slice (some ⟨wr.heap.size, 0, none⟩) 1 1]).run Tryd.prog (wr.alloc (Obj.cells #[Value.string ⟨#[109, 111, 114, 101]⟩, Value.int IntKind.i64 0, Value.bool false, Value.string ⟨#[]⟩, Value.slice none 0 0] 54)) = .ok (.slice (some ⟨g2, 0, none⟩) (i + j + 1) cap) w8 := by
              have := hr
              rw [← hlj] at this
              exact this
            have hyo : ∀ b, b < wr.heap.size → b ∉ fpj → w8.heap[b]? = wr.heap[b]? := fun b hb hbf => by
              have := bN.size
              refine (hgr.block b (by omega) (fun hh => hbf ?_)).trans (bN.block b hb)
              have h4 := hJ.out.2.1
              obtain ⟨k4, e4, t4, nms4, ks4⟩ := Tj
              rw [TrV] at h4
              obtain ⟨_, fq, _, _, rfl⟩ := h4
              simp [blkL, ← hh]
            have hGf : G ∉ fpj := fun hm => by
              rcases hJ.out.2.2.2.1 _ hm with hm | hm
              · have h2 := (HT.out.2.2.2.2.1 _ hm).2
                rw [HG.out] at h2
                omega
              · omega
            have hG8 := hyo G hJ.out.2.2.2.2.2 hGf
            obtain ⟨_, _, _, z3, zf⟩ := cell4 (hG8.trans hJ.out.1)
            have zf3 := zf 3
            have HN : Hid (SpJ w G B #[Value.int IntKind.i64 k, Value.bool e, Value.string t, Value.slice (some ⟨g2, 0, none⟩) (i + (j + 1)) cap] fp (.slice (some ⟨g2, 0, none⟩) (i + (j + 1)) cap) (.mk Tj.k Tj.e Tj.t (Tj.nms ++ [⟨#[109, 111, 114, 101]⟩]) (Tj.ks ++ [zT])) fp8 (w8.setCell ⟨G, 3, none⟩ (.slice (some ⟨g2, 0, none⟩) (i + (j + 1)) cap))) := by
              have hgw : wr.heap.size ≤ w8.heap.size := Nat.le_trans bN.size hgr.size
              have hsp8 : SpF fpj wr w8 := ⟨hgr.os.trans bN.os, hgr.tape.trans bN.tape, hgr.output.trans bN.output, hgw, hyo⟩
              have hgG : ∀ b ∈ fp8, b ∈ fp ∨ G + 1 ≤ b := fun b hb => by
                rcases hs8 b hb with hm | hm
                · rw [List.append_nil] at hm
                  exact hJ.out.2.2.2.1 b hm
                · have := bN.size
                  have := hJ.out.2.2.2.2.2
                  exact .inr (by omega)
              refine ⟨Go.Joins.block_setCell (i := 3) (hG8.trans hJ.out.1) _, ?_, hn8, hgG, ?_, ?_⟩
              · have h9 := TrV.same (w' := w8.setCell ⟨G, 3, none⟩ (.slice (some ⟨g2, 0, none⟩) (i + (j + 1)) cap)) _ _ _ hV8 (fun b hb => Below.heap_setCell _ ⟨G, 3, none⟩ _ b (fun hh => by
                  have hh' : b = G := hh
                  rcases hgG b hb with hm | hm
                  · have h2 := (HT.out.2.2.2.2.1 _ hm).2
                    rw [HG.out] at h2
                    omega
                  · omega))
                rw [← hlj, Nat.add_assoc] at h9
                exact h9
              · exact (hJ.out.2.2.2.2.1.trans hsp8 (fun b hb => by
                  rcases hJ.out.2.2.2.1 b hb with hm | hm
                  · exact .inl hm
                  · exact .inr (by rw [HG.out]; omega))).set G 3 [.slice (some ⟨g2, 0, none⟩) (i + (j + 1)) cap] (.inr (by rw [HG.out]; exact Nat.le_refl _))
              · rw [World.size_setCell]
                exact Nat.lt_of_lt_of_le hJ.out.2.2.2.2.2 hgw
            have HR8 : Hid ((Builtin.append_ #[23, 23] 23 #[.slice yj (i + j) cj, .slice (some ⟨wr.heap.size, 0, none⟩) 1 1]).run Tryd.prog (wr.alloc (Obj.cells #[Value.string ⟨#[109, 111, 114, 101]⟩, Value.int IntKind.i64 0, Value.bool false, Value.string ⟨#[]⟩, Value.slice none 0 0] 54)) = .ok (.slice (some ⟨g2, 0, none⟩) (i + (j + 1)) cap) w8) := hr'
            clear hr hr' hV8 hn8 hs8 hgr hcap hyo hG8 bN zf hBj hlj
            go_wp2_with (at_builtin; refine Lib.wpList_append_run _ rfl _ _ _ _ rfl _ _ rfl rfl _ _ HR8.out ?_)
            generalize w8.setCell ⟨G, 3, none⟩ (.slice (some ⟨g2, 0, none⟩) (i + (j + 1)) cap) = w9 at *
            go_roundw
            case rel => exact ⟨j + 1, _, fp8, some ⟨g2, 0, none⟩, cap, by omega, by go_num, HN⟩
            case measure => simp [intOf]; omega
          · go_wp2
            exact bodyPost_end (v := .tuple #[]) (by simp [results, Tryd.results18]) rfl ⟨rfl, hJ.out.2.2.2.2.1⟩

theorem lnB_zero (c : Nat) : lnB c zT := by
  unfold zT
  rw [lnB, lnBL]
  exact ⟨by simp, trivial⟩
theorem getT_lnB {c : Nat} {T : Tr} (p : ByteArray) (h : lnB c T) : lnB c (getT T p).2 := by
  unfold getT
  split
  · exact lnB_zero c
  · split
    · exact lnB_zero c
    · exact lnB_rch _ h
theorem cutN_lnB {c : Nat} {T : Tr} (L : List ByteArray) (s : ByteArray) (h : lnB c T) : lnB c (cutN T L s).2 := by
  unfold cutN
  split
  · exact lnB_zero c
  · split
    · exact lnB_zero c
    · exact lnB_rep L h (lnB_del _ (lnB_rch L h))
theorem cutT_lnB {c : Nat} {T : Tr} (p : ByteArray) (h : lnB c T) : lnB c (cutT T p).2 := by
  unfold cutT
  split
  · exact lnB_zero c
  · split
    · exact lnB_zero c
    · exact cutN_lnB _ _ h
theorem putT_lnB {c : Nat} {T U : Tr} (p : ByteArray) (h : lnB c T) (hU : lnB c U) : lnB (c + 1) (putT T p U).2 := by
  unfold putT
  split
  · exact lnB_zero _
  · split
    · exact lnB_mono (Nat.le_succ c) _ hU
    · unfold putN
      split
      · exact lnB_zero _
      · unfold putE
        split
        · exact lnB_zero _
        · exact lnB_rep _ (lnB_mono (Nat.le_succ c) _ h) (lnB_put (lnB_rch _ h) (lnB_mono (Nat.le_succ c) _ hU))
theorem vT_k {T : Tr} {ns : List ByteArray} {b : Int} (h : (vT ns b T).off = none) : T.k ≠ 0 := by
  obtain ⟨k, e, t, nms, ks⟩ := T
  obtain ⟨_, h2, _⟩ := vT_parts h
  intro hk
  have hk : k = 0 := hk
  subst hk
  unfold cfP at h2
  rw [if_neg (by decide), if_neg (by decide), if_neg (by decide)] at h2
  cases h2
theorem vL_kid : ∀ (nms : List ByteArray) (ks : List Tr) (ns : List ByteArray) (b : Int) (prev : Option ByteArray), (vL ns b prev nms ks).off = none → ∀ (i : Nat) (s : ByteArray) (K : Tr), nms[i]? = some s → ks[i]? = some K → ∃ ns b, (vT ns b K).off = none
  | [], _, _, _, _, _, i, s, K, h, _ => by simp at h
  | _ :: _, [], _, _, _, _, i, s, K, _, h => by simp at h
  | a :: nms, T :: ks, ns, b, prev, h, 0, s, K, h1, h2 => by
    simp at h2
    subst h2
    exact ⟨_, _, (vL_parts h).2.2.2.1⟩
  | a :: nms, T :: ks, ns, b, prev, h, i + 1, s, K, h1, h2 => vL_kid nms ks ns _ _ (vL_parts h).2.2.2.2 i s K (by simpa using h1) (by simpa using h2)
theorem rch_k {T : Tr} (L : List ByteArray) (h : (vT [] 24 T).off = none) : (rch L T).2.k ≠ 0 := by
  obtain ⟨ns, b, hv⟩ := rch_keeps (fun T => ∃ ns b, (vT ns b T).off = none) (fun k e t nms ks hh i s K h1 h2 => by
    obtain ⟨ns, b, hv⟩ := hh
    exact vL_kid nms ks ns _ _ (vT_parts hv).2.2.2 i s K h1 h2) L T ⟨[], 24, h⟩
  exact vT_k hv
theorem getT_k {T : Tr} {p : ByteArray} (h : (getT T p).1 = 0) : (getT T p).2.k ≠ 0 := by
  unfold getT at h ⊢
  by_cases h1 : nmO [T] p ≠ 0
  · rw [if_pos h1] at h; exact absurd h h1
  · rw [if_neg h1] at h ⊢
    by_cases h2 : (rch (pathN p) T).1 ≠ 0
    · rw [if_pos h2] at h; exact absurd h h2
    · rw [if_neg h2]
      exact rch_k _ (ckS_off (nmO_ck (by omega : nmO [T] p = 0)).1 (by simp))
theorem putT_k {T U : Tr} {p : ByteArray} (h : (putT T p U).1 = 0) : (putT T p U).2.k ≠ 0 := by
  unfold putT at h ⊢
  by_cases h1 : nmO [T, U] p ≠ 0
  · rw [if_pos h1] at h; exact absurd h h1
  · rw [if_neg h1] at h ⊢
    cases hr : (pathN p).reverse with
    | nil => exact vT_k (ckS_off (T := U) (nmO_ck (by omega : nmO [T, U] p = 0)).1 (by simp))
    | cons s r =>
      rw [hr] at h
      have h : (putN T U r.reverse s).1 = 0 := h
      show (putN T U r.reverse s).2.k ≠ 0
      unfold putN at h ⊢
      by_cases h2 : (rchH r.reverse T).1 ≠ 0
      · rw [if_pos h2] at h; exact absurd h h2
      · rw [if_neg h2] at h ⊢
        unfold putE at h ⊢
        by_cases h3 : (ckT (repT r.reverse T (putK (rch r.reverse T).2 s U))).2 ≠ 0
        · rw [if_pos h3] at h; exact absurd h h3
        · rw [if_neg h3]
          exact vT_k (ckT_zero (Decidable.not_not.1 h3))
theorem rchH_k {L : List ByteArray} {T : Tr} (h : (rchH L T).1 = 0) : (rch L T).1 = 0 ∧ (rch L T).2.k = 3 := by
  unfold rchH at h
  by_cases h1 : (rch L T).1 ≠ 0
  · rw [if_pos h1] at h; exact absurd h h1
  · rw [if_neg h1] at h
    by_cases h2 : (rch L T).2.k ≠ 3
    · rw [if_pos h2] at h; exact absurd (show (65 : Int) = 0 from h) (by decide)
    · exact ⟨by omega, by omega⟩
theorem cutT_k {T : Tr} {p : ByteArray} (h : (cutT T p).1 = 0) : (cutT T p).2.k = 3 := by
  unfold cutT at h ⊢
  by_cases h1 : nmO [T] p ≠ 0
  · rw [if_pos h1] at h; exact absurd h h1
  · rw [if_neg h1] at h ⊢
    cases hr : (pathN p).reverse with
    | nil => rw [hr] at h; exact absurd (show (66 : Int) = 0 from h) (by decide)
    | cons s r =>
      rw [hr] at h
      have h : (cutN T r.reverse s).1 = 0 := h
      show (cutN T r.reverse s).2.k = 3
      unfold cutN at h ⊢
      by_cases h2 : (rchH r.reverse T).1 ≠ 0
      · rw [if_pos h2] at h; exact absurd h h2
      · rw [if_neg h2] at h ⊢
        obtain ⟨g1, g2⟩ := rchH_k (by omega : (rchH r.reverse T).1 = 0)
        cases hf : (rch r.reverse T).2.nms.findIdx? (fun n => decide (n = s)) with
        | none => rw [hf] at h; exact absurd (show (3 : Int) = 0 from h) (by decide)
        | some i =>
          show (repT r.reverse T (delK (rch r.reverse T).2 i)).k = 3
          cases hL : r.reverse with
          | nil => rw [hL] at g2; exact g2
          | cons a l =>
            rw [hL] at g1
            obtain ⟨k, e, t, nms, ks⟩ := T
            obtain ⟨hk, _, _, _, _, _, _, h3⟩ := rch_cons g1
            rw [h3]
            exact hk

/-- A node in a box, its rows between two bounds. -/
def ND (w : World) (L M G : Nat) (T : Tr) (y : Option Addr) (c : Nat) (fp : List Nat) : Prop := w.heap[G]? = some (.cells #[Value.int IntKind.i64 T.k, Value.bool T.e, Value.string T.t, Value.slice y T.nms.length c] 25 (0, 0)) ∧ TrV w L T (.slice y T.nms.length c) fp ∧ fp.Nodup ∧ (∀ b ∈ fp, L ≤ b ∧ b < M)
theorem ND.on {w w' : World} {L M G : Nat} {T : Tr} {y : Option Addr} {c : Nat} {fp : List Nat} (h : ND w L M G T y c fp) (b : Below w.heap.size w w') : ND w' L M G T y c fp :=
  ⟨(b.block G (heap_lt h.1)).trans h.1, TrV.same _ _ _ h.2.1 (fun x hx => b.block x (TrV.lt _ _ _ h.2.1 x hx).2), h.2.2⟩
theorem ND.sp {w w' : World} {L M G : Nat} {T : Tr} {y : Option Addr} {c : Nat} {fp fq : List Nat} (h : ND w L M G T y c fp) (s : SpF fq w w') (hd : ∀ b ∈ fp, b ∉ fq) (hG : G ∉ fq) : ND w' L M G T y c fp :=
  ⟨(s.keep G (heap_lt h.1) hG).trans h.1, s.same h.2.1 hd, h.2.2⟩
theorem ND.at {w : World} {L M G : Nat} {T : Tr} {y : Option Addr} {c : Nat} {fp : List Nat} (h : ND w L M G T y c fp) (ln : lnT T) : ∃ f, At w f (.agg #[.int .i64 T.k, .bool T.e, .string T.t, .slice y T.nms.length c]) T := TrV.at T _ _ h.2.1 ln
theorem ND.new {w : World} {L : Nat} {T : Tr} {y : Option Addr} {c : Nat} {fp : List Nat} (hV : TrV w L T (.slice y T.nms.length c) fp) (hn : fp.Nodup) : ND (w.alloc (.cells #[Value.int IntKind.i64 T.k, Value.bool T.e, Value.string T.t, Value.slice y T.nms.length c] 25)) L w.heap.size w.heap.size T y c fp :=
  ⟨heap_alloc_new _ _, TrV.same _ _ _ hV (fun x hx => Below.heap_alloc _ _ _ (TrV.lt _ _ _ hV x hx).2), hn, TrV.lt _ _ _ hV⟩
theorem SpF.below {K : Nat} {fp : List Nat} {w w' : World} (s : SpF fp w w') (h : ∀ b ∈ fp, K ≤ b) (hK : K ≤ w.heap.size) : Below K w w' :=
  ⟨s.os, s.tape, s.output, s.size, fun b hb => s.keep b (by omega) (fun hm => by have := h b hm; omega)⟩
theorem NdP.out2 {R : Int × Tr} {w : World} {e : Ending} {w' : World} (h : NdP R w e w') : ∃ y cp fp, e = .returned (.tuple #[.agg #[.int .i64 R.2.k, .bool R.2.e, .string R.2.t, .slice y R.2.nms.length cp], .int .i64 R.1]) ∧ TrV w' w.heap.size R.2 (.slice y R.2.nms.length cp) fp ∧ fp.Nodup ∧ Below w.heap.size w w' := by
  obtain ⟨⟨x, fp, h1, h2, h3⟩, h4⟩ := h
  obtain ⟨y, cp, rfl⟩ := TrV.shape (T := R.2) h2
  exact ⟨y, cp, fp, h1, h2, h3, h4⟩
theorem CvP.out2 {T : Tr} {w : World} {e : Ending} {w' : World} (h : CvP T w e w') : ∃ y cp fp, e = .returned (.agg #[.int .i64 T.k, .bool T.e, .string T.t, .slice y T.nms.length cp]) ∧ TrV w' w.heap.size T (.slice y T.nms.length cp) fp ∧ fp.Nodup ∧ Below w.heap.size w w' := by
  obtain ⟨⟨x, fp, h1, h2, h3⟩, h4⟩ := h
  obtain ⟨y, cp, rfl⟩ := h2.shape
  exact ⟨y, cp, fp, h1, h2, h3, h4⟩
end Go.Proofs.YtmknnblogfpifaaDoor
