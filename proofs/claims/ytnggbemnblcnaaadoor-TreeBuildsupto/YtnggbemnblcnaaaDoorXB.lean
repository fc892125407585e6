/- UhA UhD UhKB, gathered (own text of the verifier). -/
import Derived.Test.YtnggbemnblcnaaaDoorTyD
import Derived.Deep.QuietTactic
import Derived.BigQuiet
import Derived.Lib.Strings
import Derived.Test.YtnggbemnblcnaaaDoorTkAx
import Derived.Test.YtnggbemnblcnaaaDoorXA
namespace Go.Proofs.YtnggbemnblcnaaaDoor
open Go.RowKit

theorem btl_inj {a b : ByteArray} (h : a.toList = b.toList) : a = b := by
  rw [Lib.toList_data, Lib.toList_data] at h
  apply ByteArray.ext; exact Array.toList_inj.1 h
theorem pre_iff {L M : List ByteArray} (h : M.length ≤ L.length) : M <+: L ↔ ∀ i, i < M.length → M[i]? = L[i]? := by
  constructor
  · rintro ⟨r, rfl⟩ i hi
    rw [List.getElem?_append_left hi]
  · intro ha
    refine ⟨L.drop M.length, List.ext_getElem? fun i => ?_⟩
    by_cases hi : i < M.length
    · rw [List.getElem?_append_left hi]; exact ha i hi
    · rw [List.getElem?_append_right (by omega), List.getElem?_drop]
      congr 1; omega
set_option maxHeartbeats 1000000 in
theorem rbegins_any (x y : Option Addr) (n c m d : Nat) (L M : List ByteArray) (w : World) (hx : Tns w x L) (hy : Tns w y M) (lx : L.length = n) (ly : M.length = m) (hn : n ≤ 1152921504606846976) :
    Calls Tryd.prog 51 #[.slice x n c, .slice y m d] w fun e w' => e = .returned (.bool (decide (M <+: L))) ∧ Below w.heap.size w w' := by
  generalize hE : decide (M <+: L) = E
  by_cases hl : n < m
  · have hE' : E = false := by
      rw [← hE]
      exact decide_eq_false (fun c => by have := c.length_le; omega)
    subst hE'
    have hee : decide (((n : Nat) : Int) < ((m : Nat) : Int)) = true := decide_eq_true (by omega)
    clear hx hy hE
    go_enter Tryd.func51, Tryd.ntmps51
    go_wp2
    try rw [Exit.noGoto_ret]
    go_ret
    exact ⟨rfl, Below.refl _ _⟩
  · have hle : M.length ≤ L.length := by omega
    have hle' : m ≤ n := by omega
    have hee : decide (((n : Nat) : Int) < ((m : Nat) : Int)) = false := decide_eq_false (by omega)
    have HX : Hid (Tns w x L) := hx
    have HY : Hid (Tns w y M) := hy
    clear hx hy
    go_enter Tryd.func51, Tryd.ntmps51
    go_wp2
    go_loopw [5] (fun xi wr => ∃ k : Nat, k ≤ m ∧ xi = .int .i64 k ∧ Hid (∀ i, i < k → M[i]? = L[i]?) ∧ Hid (∃ q, wr = w.drewN q)) (fun i _ => m - (intOf i).toNat)
    case atStart => exact ⟨0, Nat.zero_le _, rfl, fun i hi => absurd hi (by omega), 0, rfl⟩
    case round =>
      obtain ⟨k, hk, rfl, hA, hq⟩ := hrel
      by_cases hlt : k < m
      · have hlt2 : k < L.length := by omega
        have hlt3 : k < M.length := by omega
        obtain ⟨g1, o1, rfl, _, c1⟩ := HX.out k _ (List.getElem?_eq_getElem hlt2)
        obtain ⟨g2, o2, rfl, _, c2⟩ := HY.out k _ (List.getElem?_eq_getElem hlt3)
        generalize hb1 : L[k] = b1 at *
        generalize hb2 : M[k] = b2 at *
        obtain ⟨q, hwr⟩ := hq.out
        have d1 : wr.cell? ⟨g1, o1 + k, none⟩ = some (.string b1) := by rw [hwr]; exact c1
        have d2 : wr.cell? ⟨g2, o2 + k, none⟩ = some (.string b2) := by rw [hwr]; exact c2
        clear c1 c2 hwr
        by_cases hfe : b1 = b2
        · have hA2 : Hid (∀ i, i < k + 1 → M[i]? = L[i]?) := fun i hi => by
            by_cases e : i = k
            · rw [e, List.getElem?_eq_getElem hlt3, List.getElem?_eq_getElem hlt2, hb1, hb2, hfe]
            · exact hA.out i (by omega)
          rw [hfe] at d1
          have he : (b2.toList == b2.toList) = true := by simp
          clear hfe
          go_wp2
          go_quiet (fail)
          go_wp2
          go_roundw
          case rel => exact ⟨k + 1, by omega, by go_num, hA2, by obtain ⟨q, hw⟩ := hq.out; exact ⟨_, by rw [hw, World.drewN_drewN]⟩⟩
          case measure => simp [intOf]; omega
        · have hE2 : E = false := by
            rw [← hE]
            refine decide_eq_false (fun c => hfe ?_)
            have := (pre_iff hle).1 c k hlt3
            rw [List.getElem?_eq_getElem hlt3, List.getElem?_eq_getElem hlt2, hb1, hb2] at this
            injection this with this
            exact this.symm
          subst hE2
          have he : (b1.toList == b2.toList) = false := by
            rw [beq_eq_false_iff_ne]; intro e; exact hfe (btl_inj e)
          go_wp2
          go_quiet (fail)
          go_wp2
          try rw [Exit.noGoto_ret]
          go_ret
          obtain ⟨q, rfl⟩ := hq.out
          exact ⟨rfl, bel_drewN (bel_drewN (Below.refl _ _) _) _⟩
      · obtain ⟨q, rfl⟩ := hq.out
        have hE2 : E = true := by
          rw [← hE]
          exact decide_eq_true ((pre_iff hle).2 (fun i hi => hA.out i (by omega)))
        subst hE2
        go_wp2
        go_ret
        exact ⟨rfl, bel_drewN (Below.refl _ _) _⟩
end Go.Proofs.YtnggbemnblcnaaaDoor
namespace Go.Proofs.YtnggbemnblcnaaaDoor
open Go.RowKit

/-- Between two rounds of graft: the kids so far. -/
def GrI (w0 : World) (G : Nat) (A A' : Array Value) (ns : List ByteArray) (ks : List Tr) (y : Option Addr) (cp : Nat) (fp : List Nat) (w : World) : Prop :=
  w.heap[G]? = some (.cells A 32 (0, 0)) ∧ w.heap[G + 1]? = some (.cells A' 32 (0, 0)) ∧ w.heap[G + 1 + 1]? = some (.cells #[Value.int IntKind.i64 0, Value.bool false, Value.string ⟨#[]⟩, Value.slice none 0 0] 32 (0, 0)) ∧ w.heap[G + 1 + 1 + 1]? = some (.cells #[Value.int IntKind.i64 3, Value.bool false, Value.string ⟨#[]⟩, Value.slice y ns.length cp] 32 (0, 0)) ∧
  TrV w (G + 1 + 1 + 1 + 1) (.mk 3 false ⟨#[]⟩ ns ks) (.slice y ns.length cp) fp ∧ fp.Nodup ∧ G + 1 + 1 + 1 < w.heap.size ∧ Below G w0 w
theorem GrI.on {w0 w w' : World} {G : Nat} {A A' : Array Value} {ns : List ByteArray} {ks : List Tr} {y : Option Addr} {cp : Nat} {fp : List Nat} (h : GrI w0 G A A' ns ks y cp fp w) (b : Below w.heap.size w w') : GrI w0 G A A' ns ks y cp fp w' := by
  obtain ⟨h1, h2, h3, h3', h4, h5, h6, h7⟩ := h
  exact ⟨(b.block _ (by omega)).trans h1, (b.block _ (by omega)).trans h2, (b.block _ (by omega)).trans h3, (b.block _ (by omega)).trans h3', TrV.same _ _ _ h4 (fun x hx => b.block x (TrV.lt _ _ _ h4 x hx).2), h5, Nat.lt_of_lt_of_le h6 b.size, h7.trans (b.mono (by omega))⟩
/-- A kid more. -/
theorem GrI.app {w0 w : World} {G : Nat} {A A' : Array Value} {ns : List ByteArray} {ks : List Tr} {y : Option Addr} {cp : Nat} {fp : List Nat} (h : GrI w0 G A A' ns ks y cp fp w) (s : ByteArray) (K : Tr) (x5 : Option Addr) (q5 : Nat) (fp5 : List Nat) (B5 : Nat) (hV : TrV w B5 K (.slice x5 K.nms.length q5) fp5) (hn5 : fp5.Nodup) (hB5 : G + 1 + 1 + 1 < B5) (hfp : ∀ b ∈ fp, b < B5) (hl : ns.length ≤ 1073741824) :
    ∃ g2 cap w8 fp8, (Builtin.append_ #[30, 30] 30 #[.slice y ns.length cp, .slice (some ⟨w.heap.size, 0, none⟩) 1 1]).run Tryd.prog (w.alloc (Obj.cells #[Value.string s, Value.int IntKind.i64 K.k, Value.bool K.e, Value.string K.t, Value.slice x5 K.nms.length q5] 52)) = .ok (.slice (some ⟨g2, 0, none⟩) (ns.length + 1) cap) w8 ∧
      (w8.cell? ⟨G + 1 + 1 + 1, 3, none⟩ = some (.slice y ns.length cp) ∧ w8.frozen? ⟨G + 1 + 1 + 1, 3, none⟩ = false) ∧ (∀ b, b < w.heap.size → b ∉ fp → w8.heap[b]? = w.heap[b]?) ∧ Below G w0 w8 ∧
      GrI w0 G A A' (ns ++ [s]) (ks ++ [K]) (some ⟨g2, 0, none⟩) cap fp8 (w8.setCell ⟨G + 1 + 1 + 1, 3, none⟩ (.slice (some ⟨g2, 0, none⟩) (ns.length + 1) cap)) := by
  have bN : Below w.heap.size w (w.alloc (Obj.cells #[Value.string s, Value.int IntKind.i64 K.k, Value.bool K.e, Value.string K.t, Value.slice x5 K.nms.length q5] 52)) := (Below.refl _ _).alloc (Nat.le_refl _) _
  obtain ⟨i1, i2, i3, i4, i5, i6, i7, i8⟩ := h
  obtain ⟨g2, cap, w8, hr, ⟨fp8, hV8, hn8, hs8⟩, hgr, hcap⟩ := TrV.app (w := w.alloc (Obj.cells #[Value.string s, Value.int IntKind.i64 K.k, Value.bool K.e, Value.string K.t, Value.slice x5 K.nms.length q5] 52)) (B := G + 1 + 1 + 1 + 1) (T := .mk 3 false ⟨#[]⟩ ns ks) (v := .slice y ns.length cp) (fp := fp) (TrV.same _ _ _ i5 (fun b hb => bN.block b (TrV.lt _ _ _ i5 b hb).2)) s K (.slice x5 K.nms.length q5) fp5 (TrV.low (by omega) _ _ _ (TrV.same _ _ _ hV (fun b hb => bN.block b (TrV.lt _ _ _ hV b hb).2))) (List.nodup_append.2 ⟨i6, hn5, fun a ha b hb hab => by
    have p1 := hfp a ha
    have p2 := (TrV.lt _ _ _ hV b hb).1
    omega⟩) ⟨w.heap.size, 0, none⟩ 1 (fun j x hj => by
      rw [Addr.add_lit, Nat.zero_add, World.cell?_alloc_new, ← Array.getElem?_toList]; exact hj) (by have := bN.size; omega) (by exact hl)
  have hyo : ∀ b, b < w.heap.size → b ∉ fp → w8.heap[b]? = w.heap[b]? := fun b hb hbf => by
    have := bN.size
    refine (hgr.block b (by omega) (fun hh => hbf ?_)).trans (bN.block b hb)
    have h4 := i5
    rw [TrV] at h4
    obtain ⟨_, fq, _, _, rfl⟩ := h4
    simp [blkL, ← hh]
  have HF : ∀ b, b ∈ fp → G + 1 + 1 + 1 + 1 ≤ b := fun b hb => (TrV.lt _ _ _ i5 b hb).1
  have HGG : w8.heap[G + 1 + 1 + 1]? = w.heap[G + 1 + 1 + 1]? := hyo _ (by omega) (fun hh => by have := HF _ hh; omega)
  obtain ⟨_, _, _, z3, zf⟩ := cell4 (HGG.trans i4)
  have zf3 := zf 3
  have b8 : Below G w w8 := ⟨hgr.os.trans bN.os, hgr.tape.trans bN.tape, hgr.output.trans bN.output, Nat.le_trans bN.size hgr.size, fun b hb => hyo b (by omega) (fun hh => by have := HF _ hh; omega)⟩
  refine ⟨g2, cap, w8, fp8, hr, ⟨z3, zf3⟩, hyo, i8.trans b8, ?_, ?_, ?_, ?_, ?_, hn8, ?_, ?_⟩
  · exact (Below.heap_setCell _ ⟨G + 1 + 1 + 1, 3, none⟩ _ G (by show G ≠ G + 1 + 1 + 1; omega)).trans ((hyo G (by omega) (fun hh => by have := HF _ hh; omega)).trans i1)
  · exact (Below.heap_setCell _ ⟨G + 1 + 1 + 1, 3, none⟩ _ (G + 1) (by show G + 1 ≠ G + 1 + 1 + 1; omega)).trans ((hyo (G + 1) (by omega) (fun hh => by have := HF _ hh; omega)).trans i2)
  · exact (Below.heap_setCell _ ⟨G + 1 + 1 + 1, 3, none⟩ _ (G + 1 + 1) (by show G + 1 + 1 ≠ G + 1 + 1 + 1; omega)).trans ((hyo (G + 1 + 1) (by omega) (fun hh => by have := HF _ hh; omega)).trans i3)
  · rw [List.length_append]
    exact Go.Joins.block_setCell (i := 3) (HGG.trans i4) _
  · rw [List.length_append]
    exact TrV.same (w' := w8.setCell ⟨G + 1 + 1 + 1, 3, none⟩ (.slice (some ⟨g2, 0, none⟩) (ns.length + 1) cap)) _ _ _ hV8 (fun b hb => Below.heap_setCell _ ⟨G + 1 + 1 + 1, 3, none⟩ _ b (fun hh => by have := (TrV.lt _ _ _ hV8 b hb).1; have : b = G + 1 + 1 + 1 := hh; omega))
  · rw [World.size_setCell]
    have := bN.size
    have := hgr.size
    omega
  · exact (i8.trans b8).setCell (by show G ≤ G + 1 + 1 + 1; omega) _
end Go.Proofs.YtnggbemnblcnaaaDoor
namespace Go.Proofs.YtnggbemnblcnaaaDoor
open Go.RowKit

/-- These blocks are in W as in W0. -/
def KB (B : List Nat) (W0 W : World) : Prop := ∀ b ∈ B, W.heap[b]? = W0.heap[b]?
theorem KB.refl (B : List Nat) (W : World) : KB B W W := fun _ _ => rfl
theorem KB.below {B : List Nat} {W0 W W' : World} (h : KB B W0 W) (hl : ∀ b ∈ B, b < W.heap.size) (b : Below W.heap.size W W') : KB B W0 W' := fun x hx => (b.block x (hl x hx)).trans (h x hx)
theorem KB.keep {B fp : List Nat} {W0 W W' : World} (h : KB B W0 W) (hl : ∀ b ∈ B, b < W.heap.size) (hf : ∀ b ∈ B, b ∉ fp) (k : ∀ b, b < W.heap.size → b ∉ fp → W'.heap[b]? = W.heap[b]?) : KB B W0 W' := fun x hx => (k x (hl x hx) (hf x hx)).trans (h x hx)
theorem KB.set {B : List Nat} {W0 W : World} (h : KB B W0 W) (a : Addr) (v : Value) (ha : ∀ b ∈ B, b ≠ a.block) : KB B W0 (W.setCell a v) := fun x hx => (Below.heap_setCell _ a v x (ha x hx)).trans (h x hx)
theorem KB.cell {B : List Nat} {W0 W : World} (h : KB B W0 W) {b o : Nat} {v : Value} (c : W0.cell? ⟨b, o, none⟩ = some v) (hb : b ∈ B) : W.cell? ⟨b, o, none⟩ = some v := (World.cell?_of_block (w := W0) (a := ⟨b, o, none⟩) (h b hb)).trans c
theorem gOut_len {α : Type} {l : List α} {a : α} {p q i : Nat} (h : p ≤ q) : (gOut l a p q i).length ≤ i + 1 := by
  unfold gOut
  split
  · rw [List.length_take]; omega
  · rw [List.length_append, List.length_cons, List.length_drop, List.length_take, List.length_take]; omega
theorem Tns.tail {w : World} {gy oy d : Nat} {s : ByteArray} {l : List ByteArray} {pa : Option Addr} (h : Tns w (some ⟨gy, oy, none⟩) (s :: l)) (hd : l.length + 1 ≤ d) (hpa : (if d = 1 then some (⟨gy, oy, none⟩ : Addr) else some ⟨gy, oy + 1, none⟩) = pa) : Tns w pa l := fun i z hz => by
  have hl : i < l.length := (List.getElem?_eq_some_iff.1 hz).1
  obtain ⟨g, o, h1, h2, h3⟩ := h (i + 1) z (by simpa using hz)
  injection h1 with h1
  injection h1 with e1 e2
  subst e1 e2
  rw [if_neg (by omega)] at hpa
  exact ⟨gy, oy + 1, hpa.symm, h2, by rw [show oy + 1 + i = oy + (i + 1) by omega]; exact h3⟩
theorem GrI.setE {w0 w : World} {G E : Nat} {A A' : Array Value} {ns : List ByteArray} {ks : List Tr} {y : Option Addr} {cp : Nat} {fp : List Nat} (h : GrI w0 G A A' ns ks y cp fp w) (hE : G + 1 + 1 + 1 < E) (hf : E ∉ fp) (l : List Value) : GrI w0 G A A' ns ks y cp fp (w.setCells E 0 l) := by
  obtain ⟨h1, h2, h3, h3', h4, h5, h6, h7⟩ := h
  exact ⟨(heapE_setCells E l 0 G (by omega) w).trans h1, (heapE_setCells E l 0 (G + 1) (by omega) w).trans h2, (heapE_setCells E l 0 (G + 1 + 1) (by omega) w).trans h3, (heapE_setCells E l 0 (G + 1 + 1 + 1) (by omega) w).trans h3', TrV.same _ _ _ h4 (fun x hx => heapE_setCells E l 0 x (fun e => hf (e ▸ hx)) w), h5, by rw [sizeE_setCells]; exact h6, belowE_setCells _ _ _ (by omega) h7⟩
theorem zT_at (w : World) : At w 1 (.agg #[Value.int IntKind.i64 0, Value.bool false, Value.string ⟨#[]⟩, Value.slice none 0 0]) zT := ⟨none, 0, 0, rfl, rfl, rfl, Nat.le_refl _, by omega, Or.inl rfl⟩
theorem zT_all : lnT zT ∧ smT zT ∧ ascT zT := by
  refine ⟨?_, ?_, ?_⟩
  · unfold zT; rw [lnT]; exact ⟨by simp, trivial⟩
  · unfold zT; rw [smT]; exact ⟨by decide, trivial⟩
  · unfold zT; rw [ascT]; exact ⟨List.Pairwise.nil, trivial⟩
end Go.Proofs.YtnggbemnblcnaaaDoor
