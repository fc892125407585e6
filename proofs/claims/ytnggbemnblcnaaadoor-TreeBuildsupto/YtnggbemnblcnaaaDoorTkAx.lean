/- The document's Clone, walked (own text of the verifier). -/
import Derived.Test.YtnggbemnblcnaaaDoorXL
import Derived.Test.YtnggbemnblcnaaaDoorXN
import Derived.Test.YtnggbemnblcnaaaDoorTqR
namespace Go.Proofs.YtnggbemnblcnaaaDoor
open Go.RowKit

/-- An append whose run is known, as a step of a region that draws its order. -/
theorem step_append_runI {P : Program} {ops : Array Oper} {o : Oper} {a : Act} {w : World} {K : Act → World → Prop} {Q : Exit → Act → World → Prop} {E : Prop} (hg : o.guard = none) (s x : Operand) (t tn : TypeId) (hop : o.op = Op.call { callee := Callee.builtin Builtin.append, args := #[s, x], argTypes := #[t, tn] })
    (vs vx : Value) (hs : a.eval s = vs) (hx : a.eval x = vx) {v' : Value} {w' : World} (hr : (Builtin.append_ #[t, tn] o.type #[vs, vx]).run P w = .ok v' w') (hK : K (a.put o.dst v') w') :
    if Region.wanted o (yielded ops a.tmps) = true then Oper.wp P o a w K Q else E := by
  have hw : Region.wanted o (yielded ops a.tmps) = true := by simp [Region.wanted, hg]
  rw [if_pos hw]
  exact Lib.wp_append_run w s x t tn hop vs vx hs hx v' w' hr hK

theorem lnL_at : ∀ (ks : List Tr) (i : Nat) (K : Tr), lnL ks → ks[i]? = some K → lnT K
  | [], i, K, _, h => by simp at h
  | T :: ks, 0, K, hl, h => by
    rw [lnL] at hl
    simp at h
    rw [← h]; exact hl.1
  | T :: ks, i + 1, K, hl, h => by
    rw [lnL] at hl
    exact lnL_at ks i K hl.2 (by simpa using h)
/-- Between two rounds of Clone: i kids are cloned. -/
def ClI (w0 : World) (G : Nat) (A : Array Value) (k : Int) (e : Bool) (t : ByteArray) (ns : List ByteArray) (ks : List Tr) (i : Nat) (y : Option Addr) (cp : Nat) (fp : List Nat) (w : World) : Prop :=
  w.heap[G]? = some (.cells A 32 (0, 0)) ∧ w.heap[G + 1]? = some (.cells #[Value.int IntKind.i64 0, Value.bool false, Value.string ⟨#[]⟩, Value.slice none 0 0] 32 (0, 0)) ∧ w.heap[G + 1 + 1]? = some (.cells #[Value.int IntKind.i64 k, Value.bool e, Value.string t, Value.slice y i cp] 32 (0, 0)) ∧
  TrV w (G + 1 + 1 + 1) (.mk k e t (ns.take i) (ks.take i)) (.slice y i cp) fp ∧ fp.Nodup ∧ G + 1 + 1 < w.heap.size ∧ Below G w0 w
theorem ClI.on {w0 w w' : World} {G : Nat} {A : Array Value} {k : Int} {e : Bool} {t : ByteArray} {ns : List ByteArray} {ks : List Tr} {i : Nat} {y : Option Addr} {cp : Nat} {fp : List Nat} (h : ClI w0 G A k e t ns ks i y cp fp w) (b : Below w.heap.size w w') : ClI w0 G A k e t ns ks i y cp fp w' := by
  obtain ⟨h1, h2, h3, h4, h5, h6, h7⟩ := h
  exact ⟨(b.block _ (by omega)).trans h1, (b.block _ (by omega)).trans h2, (b.block _ (by omega)).trans h3, TrV.same _ _ _ h4 (fun x hx => b.block x (TrV.lt _ _ _ h4 x hx).2), h5, Nat.lt_of_lt_of_le h6 b.size, h7.trans (b.mono (by omega))⟩

set_option maxHeartbeats 8000000 in
set_option maxRecDepth 10000 in
theorem clone_any (m : Nat) : ∀ (v : Value) (T : Tr) (w : World), At w m v T → lnT T → Calls Tryd.prog 62 #[v] w (CvP T w) := by
  induction m with
  | zero => intro v T w h; exact h.elim
  | succ m IH =>
    rintro v ⟨k, e, t, ns, ks⟩ w ⟨x, n, c, rfl, l1, l2, l3, l4, hx⟩ hln
    have EX : Hid (Ents w m x n ns ks) := At.ents hx
    have LL : Hid (ns.length = n ∧ ks.length = n ∧ n ≤ 1073741824 ∧ lnL ks) := by
      rw [lnT] at hln
      exact ⟨l1, l2, by omega, hln.2⟩
    clear hx l1 l2 hln
    go_enter Tryd.func62, Tryd.ntmps62
    go_wp2
    have hs1 : (w.alloc (Obj.cells #[Value.int IntKind.i64 k, Value.bool e, Value.string t, Value.slice x n c] 32)).heap.size = w.heap.size + 1 := World.size_alloc _ _
    have hs2 : ((w.alloc (Obj.cells #[Value.int IntKind.i64 k, Value.bool e, Value.string t, Value.slice x n c] 32)).alloc (Obj.cells #[Value.int IntKind.i64 0, Value.bool false, Value.string ⟨#[]⟩, Value.slice none 0 0] 32)).heap.size = w.heap.size + 1 + 1 := by rw [World.size_alloc, hs1]
    have b1 : Below w.heap.size w (w.alloc (Obj.cells #[Value.int IntKind.i64 k, Value.bool e, Value.string t, Value.slice x n c] 32)) := (Below.refl _ _).alloc (Nat.le_refl _) _
    have I0 : Hid (ClI w w.heap.size #[Value.int IntKind.i64 k, Value.bool e, Value.string t, Value.slice x n c] k e t ns ks 0 none 0 [] (((w.alloc (Obj.cells #[Value.int IntKind.i64 k, Value.bool e, Value.string t, Value.slice x n c] 32)).alloc (Obj.cells #[Value.int IntKind.i64 0, Value.bool false, Value.string ⟨#[]⟩, Value.slice none 0 0] 32)).alloc (Obj.cells #[Value.int IntKind.i64 k, Value.bool e, Value.string t, Value.slice none 0 0] 32))) := by
      refine ⟨?_, ?_, ?_, TrV.zero _ _ _ _ _ rfl rfl, List.nodup_nil, by rw [World.size_alloc, hs2]; omega, (b1.alloc (by rw [hs1]; omega) _).alloc (by rw [hs2]; omega) _⟩
      · rw [Below.heap_alloc _ _ _ (by rw [hs2]; omega), Below.heap_alloc _ _ _ (by rw [hs1]; omega)]; exact heap_alloc_new w _
      · rw [Below.heap_alloc _ _ _ (by rw [hs2]; omega), ← hs1]; exact heap_alloc_new _ _
      · rw [← hs2]; exact heap_alloc_new _ _
    clear hs1 hs2 b1
    obtain ⟨G, hG⟩ : ∃ G, w.heap.size = G := ⟨_, rfl⟩
    have HG : Hid (w.heap.size = G) := hG
    generalize (((w.alloc (Obj.cells #[Value.int IntKind.i64 k, Value.bool e, Value.string t, Value.slice x n c] 32)).alloc (Obj.cells #[Value.int IntKind.i64 0, Value.bool false, Value.string ⟨#[]⟩, Value.slice none 0 0] 32)).alloc (Obj.cells #[Value.int IntKind.i64 k, Value.bool e, Value.string t, Value.slice none 0 0] 32)) = w2 at *
    rw [hG] at I0 ⊢
    clear hG
    go_loopw [4] (fun xi wr => ∃ (i : Nat) (y : Option Addr) (cp : Nat) (fp : List Nat), i ≤ n ∧ xi = .int .i64 i ∧ Hid (ClI w G #[Value.int IntKind.i64 k, Value.bool e, Value.string t, Value.slice x n c] k e t ns ks i y cp fp wr)) (fun i _ => n - (intOf i).toNat)
    case atStart => exact ⟨0, none, 0, [], Nat.zero_le _, rfl, I0⟩
    case round =>
      obtain ⟨i, y, cp, fp, hi, rfl, hI⟩ := hrel
      by_cases hlt : i < n
      · obtain ⟨l1, l2, _, l4'⟩ := LL.out
        obtain ⟨s, hs⟩ : ∃ s, ns[i]? = some s := ⟨_, List.getElem?_eq_getElem (by omega)⟩
        obtain ⟨K, hK⟩ : ∃ s, ks[i]? = some s := ⟨_, List.getElem?_eq_getElem (by omega)⟩
        have HE : Hid (ns[i]? = some s ∧ ks[i]? = some K ∧ lnT K) := ⟨hs, hK, lnL_at _ _ _ l4' hK⟩
        have hB : Below w.heap.size w wr := by rw [HG.out]; exact hI.out.2.2.2.2.2.2
        obtain ⟨g, o, a, b, d, f, p, q, rfl, hg, c0, c1, c2, c3, c4, hA⟩ := EX.out.below hB i s K hlt hs hK
        have HA : Hid (At wr m (.agg #[.int .i64 a, .bool b, .string d, .slice f p q]) K) := hA
        have HC0 : Hid (wr.cell? ⟨g, o + i * 5, none⟩ = some (.string s) ∧ g < wr.heap.size) := ⟨c0, hg⟩
        clear hA hs hK l1 l2 l4' hB
        obtain ⟨u0, u1, u2, u3, _⟩ := cell4 hI.out.1
        go_wp2_with fail
        refine (IH _ K wr HA.out HE.out.2.2).mono ?_
        rintro e5 w5 ⟨⟨v5, fp5, rfl, hv, hnd⟩, b5⟩
        obtain ⟨x5, q5, rfl⟩ := hv.shape
        have I5 := hI.out.on b5
        have HV5 : Hid (TrV w5 wr.heap.size K (.slice x5 K.nms.length q5) fp5 ∧ fp5.Nodup ∧ (∀ b ∈ fp, b < wr.heap.size) ∧ G + 1 + 1 < wr.heap.size) := ⟨hv, hnd, fun b hb => (TrV.lt _ _ _ hI.out.2.2.2.1 b hb).2, hI.out.2.2.2.2.2.1⟩
        have HC5 : Hid (w5.cell? ⟨g, o + i * 5, none⟩ = some (.string s) ∧ g < w5.heap.size ∧ wr.heap.size ≤ w5.heap.size) := ⟨(b5.cell (p := ⟨g, o + i * 5, none⟩) HC0.out.2).trans HC0.out.1, Nat.lt_of_lt_of_le HC0.out.2 b5.size, b5.size⟩
        have HI5 : Hid (ClI w G #[Value.int IntKind.i64 k, Value.bool e, Value.string t, Value.slice (some ⟨g, o, none⟩) n c] k e t ns ks i y cp fp w5) := I5
        clear hv hnd b5 I5 c0 c1 c2 c3 c4 u0 u1 u2 u3 hg HA HC0 hI
        go_upto_region 6 with fail
        have bE : Below w5.heap.size w5 (w5.alloc (Obj.cells #[Value.int IntKind.i64 K.k, Value.bool K.e, Value.string K.t, Value.slice x5 K.nms.length q5] 32)) := (Below.refl _ _).alloc (Nat.le_refl _) _
        have HI6 : Hid (ClI w G #[Value.int IntKind.i64 k, Value.bool e, Value.string t, Value.slice (some ⟨g, o, none⟩) n c] k e t ns ks i y cp fp (w5.alloc (Obj.cells #[Value.int IntKind.i64 K.k, Value.bool K.e, Value.string K.t, Value.slice x5 K.nms.length q5] 32))) := HI5.out.on bE
        have hE6 : (w5.alloc (Obj.cells #[Value.int IntKind.i64 K.k, Value.bool K.e, Value.string K.t, Value.slice x5 K.nms.length q5] 32)).heap[w5.heap.size]? = some (.cells #[Value.int IntKind.i64 K.k, Value.bool K.e, Value.string K.t, Value.slice x5 K.nms.length q5] 32 (0, 0)) := heap_alloc_new _ _
        have HV6 : Hid (TrV (w5.alloc (Obj.cells #[Value.int IntKind.i64 K.k, Value.bool K.e, Value.string K.t, Value.slice x5 K.nms.length q5] 32)) wr.heap.size K (.slice x5 K.nms.length q5) fp5) := TrV.same _ _ _ HV5.out.1 (fun b hb => bE.block b (TrV.lt _ _ _ HV5.out.1 b hb).2)
        have a0 : (w5.alloc (Obj.cells #[Value.int IntKind.i64 K.k, Value.bool K.e, Value.string K.t, Value.slice x5 K.nms.length q5] 32)).cell? ⟨g, o + i * 5, none⟩ = some (.string s) := (bE.cell (p := ⟨g, o + i * 5, none⟩) HC5.out.2.1).trans HC5.out.1
        have hg6 : g < (w5.alloc (Obj.cells #[Value.int IntKind.i64 K.k, Value.bool K.e, Value.string K.t, Value.slice x5 K.nms.length q5] 32)).heap.size := Nat.lt_of_lt_of_le HC5.out.2.1 bE.size
        have HS6 : Hid (wr.heap.size ≤ w5.heap.size ∧ w5.heap.size < (w5.alloc (Obj.cells #[Value.int IntKind.i64 K.k, Value.bool K.e, Value.string K.t, Value.slice x5 K.nms.length q5] 32)).heap.size) := ⟨HC5.out.2.2, by rw [World.size_alloc]; omega⟩
        clear bE HI5 HC5
        obtain ⟨E, hE⟩ : ∃ E, w5.heap.size = E := ⟨_, rfl⟩
        rw [hE] at hE6 HS6 ⊢
        clear hE
        generalize w5.alloc (Obj.cells #[Value.int IntKind.i64 K.k, Value.bool K.e, Value.string K.t, Value.slice x5 K.nms.length q5] 32) = w6 at *
        obtain ⟨y0, y1, y2, y3, yf⟩ := cell4 HI6.out.2.2.1
        have yf3 := yf 3
        obtain ⟨u0, u1, u2, u3, _⟩ := cell4 HI6.out.1
        obtain ⟨q0, q1, q2, q3, _⟩ := cell4 hE6
        have HL : Hid ((ns.take i).length = i) := by show (ns.take i).length = i; rw [List.length_take, LL.out.1]; omega
        have bN : Below w6.heap.size w6 (w6.alloc (Obj.cells #[Value.string s, Value.int IntKind.i64 K.k, Value.bool K.e, Value.string K.t, Value.slice x5 K.nms.length q5] 52)).drew := ((Below.refl _ _).alloc (Nat.le_refl _) _).trans ⟨rfl, rfl, rfl, Nat.le_refl _, fun _ _ => rfl⟩
        have hz6 := HI6.out.2.2.2.2.2.1
        obtain ⟨g2, cap, w8, hr, ⟨fp8, hV8, hn8, hs8⟩, hgr, hcap⟩ := TrV.app (w := (w6.alloc (Obj.cells #[Value.string s, Value.int IntKind.i64 K.k, Value.bool K.e, Value.string K.t, Value.slice x5 K.nms.length q5] 52)).drew) (B := G + 1 + 1 + 1) (T := .mk k e t (ns.take i) (ks.take i)) (v := .slice y i cp) (fp := fp) (TrV.same _ _ _ HI6.out.2.2.2.1 (fun b hb => bN.block b (TrV.lt _ _ _ HI6.out.2.2.2.1 b hb).2)) s K (.slice x5 K.nms.length q5) fp5 (TrV.low (by have := HV5.out.2.2.2; omega) _ _ _ (TrV.same _ _ _ HV6.out (fun b hb => bN.block b (TrV.lt _ _ _ HV6.out b hb).2))) (List.nodup_append.2 ⟨HI6.out.2.2.2.2.1, HV5.out.2.1, fun a ha b hb hab => by
          have p1 := HV5.out.2.2.1 a ha
          have p2 := (TrV.lt _ _ _ HV6.out b hb).1
          omega⟩) ⟨w6.heap.size, 0, none⟩ 1 (fun j x hj => by
            rw [Addr.add_lit, Nat.zero_add]
            show (w6.alloc (Obj.cells #[Value.string s, Value.int IntKind.i64 K.k, Value.bool K.e, Value.string K.t, Value.slice x5 K.nms.length q5] 52)).cell? ⟨w6.heap.size, j, none⟩ = some x
            rw [World.cell?_alloc_new, ← Array.getElem?_toList]; exact hj) (by have := bN.size; omega) (by show (ns.take i).length ≤ _; have := HL.out; have := LL.out.2.2.1; omega)
        have hr' : (Builtin.append_ #[30, 30] 30 #[.slice y i cp, .slice (some ⟨w6.heap.size, 0, none⟩) 1 1]).run Tryd.prog (w6.alloc (Obj.cells #[Value.string s, Value.int IntKind.i64 K.k, Value.bool K.e, Value.string K.t, Value.slice x5 K.nms.length q5] 52)).drew = .ok (.slice (some ⟨g2, 0, none⟩) (i + 1) cap) w8 := by
          have := hr
          rw [show (Tr.mk k e t (ns.take i) (ks.take i)).nms.length = i from HL.out] at this
          exact this
        have hyo : ∀ b, b < w6.heap.size → b ∉ fp → w8.heap[b]? = w6.heap[b]? := fun b hb hbf => by
          have := bN.size
          refine (hgr.block b (by omega) (fun hh => hbf ?_)).trans (bN.block b hb)
          have h4 := HI6.out.2.2.2.1
          rw [TrV] at h4
          obtain ⟨_, fq, _, _, rfl⟩ := h4
          simp [blkL, ← hh]
        have HF : ∀ b, b ∈ fp → G + 1 + 1 + 1 ≤ b := fun b hb => (TrV.lt _ _ _ HI6.out.2.2.2.1 b hb).1
        have HGG : w8.heap[G + 1 + 1]? = w6.heap[G + 1 + 1]? := hyo _ (by omega) (fun hh => by have := HF _ hh; omega)
        obtain ⟨_, _, _, z3, zf⟩ := cell4 (HGG.trans HI6.out.2.2.1)
        have zf3 := zf 3
        have HN : Hid (ClI w G #[Value.int IntKind.i64 k, Value.bool e, Value.string t, Value.slice (some ⟨g, o, none⟩) n c] k e t ns ks (i + 1) (some ⟨g2, 0, none⟩) cap fp8 (w8.setCell ⟨G + 1 + 1, 3, none⟩ (.slice (some ⟨g2, 0, none⟩) (i + 1) cap))) := by
          have b8 : Below G w6 w8 := ⟨hgr.os.trans bN.os, hgr.tape.trans bN.tape, hgr.output.trans bN.output, Nat.le_trans bN.size hgr.size, fun b hb => hyo b (by omega) (fun hh => by have := HF _ hh; omega)⟩
          refine ⟨?_, ?_, ?_, ?_, hn8, ?_, ?_⟩
          · exact (Below.heap_setCell _ ⟨G + 1 + 1, 3, none⟩ _ G (by show G ≠ G + 1 + 1; omega)).trans ((hyo G (by omega) (fun hh => by have := HF _ hh; omega)).trans HI6.out.1)
          · exact (Below.heap_setCell _ ⟨G + 1 + 1, 3, none⟩ _ (G + 1) (by show G + 1 ≠ G + 1 + 1; omega)).trans ((hyo (G + 1) (by omega) (fun hh => by have := HF _ hh; omega)).trans HI6.out.2.1)
          · exact Go.Joins.block_setCell (i := 3) (HGG.trans HI6.out.2.2.1) _
          · rw [List.take_add_one, HE.out.1, List.take_add_one, HE.out.2.1]
            have h9 := TrV.same (w' := w8.setCell ⟨G + 1 + 1, 3, none⟩ (.slice (some ⟨g2, 0, none⟩) (i + 1) cap)) _ _ _ hV8 (fun b hb => Below.heap_setCell _ ⟨G + 1 + 1, 3, none⟩ _ b (fun hh => by have := (TrV.lt _ _ _ hV8 b hb).1; have : b = G + 1 + 1 := hh; omega))
            rw [show (Tr.mk k e t (ns.take i) (ks.take i)).nms.length = i from HL.out] at h9
            exact h9
          · rw [World.size_setCell]
            have := bN.size
            have := hgr.size
            omega
          · exact (HI6.out.2.2.2.2.2.2.trans b8).setCell (by show G ≤ G + 1 + 1; omega) _
        clear hr hV8 hn8 hs8 hgr hcap hyo HF HGG bN yf zf
        go_region_law (refine step_append_runI rfl (.tmp 28) (.tmp 37) 30 30 rfl _ _ (by simp [Act.eval]) (by simp [Act.eval]) hr' ?_)
        all_goals
          clear hr' z3 zf3 a0 q0 q1 q2 q3 y0 y1 y2 y3 yf3 u0 u1 u2 u3
          generalize w8.setCell ⟨G + 1 + 1, 3, none⟩ (.slice (some ⟨g2, 0, none⟩) (i + 1) cap) = w9 at *
          go_wp2
          go_roundw
          case rel => exact ⟨i + 1, some ⟨g2, 0, none⟩, cap, fp8, by omega, by go_num, HN⟩
          case measure => simp [intOf]; omega
      · obtain rfl : i = n := by omega
        obtain ⟨y0, y1, y2, y3, _⟩ := cell4 hI.out.2.2.1
        obtain ⟨u0, u1, u2, u3, uf⟩ := cell4 hI.out.2.1
        obtain ⟨_, _, _, a3, _⟩ := cell4 hI.out.1
        have v0 := uf 0
        have v1 := uf 1
        have v2 := uf 2
        have v3 := uf 3
        clear uf
        go_wp2
        have hq := put4 hI.out.2.1 (Value.int .i64 k) (.bool e) (.string t) (.slice y i cp)
        have hB : Below w.heap.size w (wr.setCells (G + 1) 0 [Value.int .i64 k, .bool e, .string t, .slice y i cp]) := belowE_setCells _ _ _ (by rw [HG.out]; omega) (by rw [HG.out]; exact hI.out.2.2.2.2.2.2)
        have hVE := TrV.low (show w.heap.size ≤ G + 1 + 1 + 1 by rw [HG.out]; omega) _ _ _ (TrV.same (w' := wr.setCells (G + 1) 0 [Value.int .i64 k, .bool e, .string t, .slice y i cp]) _ _ _ hI.out.2.2.2.1 (fun b hb => heapE_setCells (G + 1) _ _ b (fun hh => by have := (TrV.lt _ _ _ hI.out.2.2.2.1 b hb).1; omega) wr))
        rw [List.take_of_length_le (by rw [LL.out.1]; exact Nat.le_refl _), List.take_of_length_le (by rw [LL.out.2.1]; exact Nat.le_refl _)] at hVE
        change bodyPost _ _ _ _ _ (wr.setCells (G + 1) 0 [Value.int .i64 k, .bool e, .string t, .slice y i cp])
        generalize wr.setCells (G + 1) 0 [Value.int .i64 k, .bool e, .string t, .slice y i cp] = W at *
        obtain ⟨z0, z1, z2, z3, _⟩ := cell4 hq
        exact bodyPost_ret (v := .agg #[.int .i64 k, .bool e, .string t, .slice y i cp]) (by simp [results, Tryd.results62, go_sem, z0, z1, z2, z3]) rfl ⟨⟨_, fp, rfl, hVE, hI.out.2.2.2.2.1⟩, hB⟩
end Go.Proofs.YtnggbemnblcnaaaDoor
