/- One node more in the builder: the memory (own text of the verifier). -/
import Derived.Test.YtmknnblogfpifaaDoorTxD
namespace Go.Proofs.YtmknnblogfpifaaDoor
open Go.RowKit

/-- What the putting of one node needs and leaves. -/
structure Psh (wr : World) (g B : Nat) (S : List OE) (b : Int) (xo : Option Addr) (co : Nat) (fp : List Nat) (s : ByteArray) (k : Int) (e : Bool) (t : ByteArray) (g2 cap2 : Nat) (w' : World) : Prop where
  hap : (Builtin.append_ #[23, 23] 23 #[.slice xo S.length co, .slice (some ⟨wr.heap.size, 0, none⟩) 1 1]).run Tryd.prog ((wr.alloc (.cells #[.string ⟨#[]⟩, .int .i64 0, .bool false, .string ⟨#[]⟩, .slice none 0 0] 54)).drew) = .ok (.slice (some ⟨g2, 0, none⟩) (S.length + 1) cap2) w'
  hcap2 : S.length + 1 ≤ cap2
  z0 : w'.cell? ⟨g2, S.length * 5, none⟩ = some (.string ⟨#[]⟩)
  z1 : w'.cell? ⟨g2, S.length * 5 + 1, none⟩ = some (.int .i64 0)
  z2 : w'.cell? ⟨g2, S.length * 5 + 2, none⟩ = some (.bool false)
  z3 : w'.cell? ⟨g2, S.length * 5 + 3, none⟩ = some (.string ⟨#[]⟩)
  z4 : w'.cell? ⟨g2, S.length * 5 + 4, none⟩ = some (.slice none 0 0)
  f : ∀ i, w'.frozen? ⟨g2, i, none⟩ = false
  kg : w'.heap[g]? = wr.heap[g]?
  hgg2 : g ≠ g2
  keep : ∀ x, x < wr.heap.size → x ∉ fp → w'.heap[x]? = wr.heap[x]? ∧ x ≠ g2
  out : ∃ fpn, Bst ((set5 w' g2 (S.length * 5) [.string s, .int .i64 k, .bool e, .string t, .slice none 0 0]).setCell ⟨g, 0, none⟩ (.slice (some ⟨g2, 0, none⟩) (S.length + 1) cap2)) g B (⟨s, k, e, t, [], []⟩ :: S) b (.slice (some ⟨g2, 0, none⟩) (S.length + 1) cap2) fpn ∧ Ff g fp wr ((set5 w' g2 (S.length * 5) [.string s, .int .i64 k, .bool e, .string t, .slice none 0 0]).setCell ⟨g, 0, none⟩ (.slice (some ⟨g2, 0, none⟩) (S.length + 1) cap2)) ∧ ∀ x ∈ fpn, x ∈ fp ∨ wr.heap.size ≤ x

set_option maxHeartbeats 4000000 in
theorem Bst.push {wr : World} {g B : Nat} {S : List OE} {b : Int} {xo : Option Addr} {co : Nat} {fp : List Nat} (hB : Bst wr g B S b (.slice xo S.length co) fp) (hS : S.length ≤ 1073741823) (s : ByteArray) (k : Int) (e : Bool) (t : ByteArray) :
    ∃ g2 cap2 w', Psh wr g B S b xo co fp s k e t g2 cap2 w' := by
  have hT : TrV wr B (.mk k e t [] []) (.slice none 0 0) [] := by
    rw [TrV]
    exact ⟨[], [], World.ownsRow_nil _ _ _ _, by rw [KidV]; exact ⟨rfl, rfl⟩, rfl⟩
  have eL : (Tr.mk 0 false ⟨#[]⟩ (S.reverse.map OE.nm) (S.reverse.map OE.tr)).nms.length = S.length := by show (S.reverse.map OE.nm).length = _; simp
  have hlts := hB.op.lt
  have hgB := hB.lt
  have hBw := hB.hB
  obtain ⟨g2, cap2, w', hap, hcap2, hz, hfz, hkeep, hsz, o1, o2, o3, fp2, hT2, hn2, hg2, hfp2⟩ := TrV.appZ hB.op.1 s (.mk k e t [] []) (.slice none 0 0) [] hT (by rw [List.append_nil]; exact hB.op.2) hBw (by rw [eL]; omega)
  rw [eL] at hap hcap2 hz hT2
  rw [List.append_nil] at hfp2
  have hgw : g < wr.heap.size := Nat.lt_of_lt_of_le hgB hBw
  have hgf : g ∉ fp := fun hm => by have := (hlts g hm).1; omega
  have hgg2 : g ≠ g2 := fun h => by
    rcases hfp2 g2 hg2 with hx | hx
    · exact hgf (by rw [h]; exact hx)
    · omega
  have hT3 : TrV (set5 w' g2 (S.length * 5) [.string s, .int .i64 k, .bool e, .string t, .slice none 0 0]) B (.mk 0 false ⟨#[]⟩ ((⟨s, k, e, t, [], []⟩ :: S).reverse.map OE.nm) ((⟨s, k, e, t, [], []⟩ :: S).reverse.map OE.tr)) (.slice (some ⟨g2, 0, none⟩) (S.length + 1) cap2) fp2 := by
    rw [List.reverse_cons, List.map_append, List.map_append]
    exact hT2
  have hXo := set5_meta w' g2 (S.length * 5) (.string s) (.int .i64 k) (.bool e) (.string t) (.slice none 0 0)
  have hXk := fun x hx => set5_other w' g2 (S.length * 5) (.string s) (.int .i64 k) (.bool e) (.string t) (.slice none 0 0) x hx
  have kg := hkeep g hgw hgf
  refine ⟨g2, cap2, w', hap, hcap2, hz 0 (by decide), hz 1 (by decide), hz 2 (by decide), hz 3 (by decide), hz 4 (by decide), hfz, kg, hgg2, fun x h1 h2 => ⟨hkeep x h1 h2, fun h => ?_⟩, ⟨fp2, ?_, ?_, hfp2⟩⟩
  · rcases hfp2 g2 hg2 with hx | hx
    · exact h2 (by rw [h]; exact hx)
    · omega
  · clear hT2
    generalize set5 w' g2 (S.length * 5) [.string s, .int .i64 k, .bool e, .string t, .slice none 0 0] = X at hT3 hXo hXk ⊢
    refine ⟨?_, ?_, hgB, ?_⟩
    · have h9 : X.heap[g]? = some (.cells #[.slice xo S.length co, .int .i64 b] 65 (0, 0)) := (hXk g hgg2).trans (kg.trans hB.hg)
      simp [World.setCell, Array.getElem?_modify, h9]
    · refine Opn.same (w := X) ⟨hT3, hn2⟩ (fun x hx => Below.heap_setCell _ _ _ x (fun h => ?_))
      have h : x = g := h
      rcases hfp2 x hx with hm | hm
      · exact hgf (by rw [← h]; exact hm)
      · omega
    · rw [World.size_setCell, hXo.2.2.2]
      omega
  · clear hT2 hT3
    generalize set5 w' g2 (S.length * 5) [.string s, .int .i64 k, .bool e, .string t, .slice none 0 0] = X at hXo hXk ⊢
    refine ⟨hXo.1.trans o1, hXo.2.1.trans o2, hXo.2.2.1.trans o3, by rw [World.size_setCell, hXo.2.2.2]; exact hsz, fun x hx h1 h2 => ?_⟩
    refine (Below.heap_setCell _ _ _ x h1).trans ((hXk x (fun h => ?_)).trans (hkeep x hx h2))
    rcases hfp2 g2 hg2 with hm | hm
    · exact h2 (by rw [h]; exact hm)
    · omega

/-- The names of a path, or none. -/
def spN (p : ByteArray) : Option (List ByteArray) := if (pathF p).1 = 0 then some (pathN p) else none
/-- What add answers and leaves. -/
def AddP (r : RW) (S : List OE) (b : Int) (g B : Nat) (fp : List Nat) (w : World) (e : Ending) (w' : World) : Prop :=
  match addR spN r S b with
  | none => e = .returned (.bool false)
  | some (S', b') => e = .returned (.bool true) ∧ ∃ v' fp', Bst w' g B S' b' v' fp' ∧ ∀ x ∈ fp', x ∈ fp ∨ w.heap.size ≤ x
/-- The bytes so far, turned. -/
theorem Bst.bytes {w : World} {g B : Nat} {S : List OE} {b : Int} {v : Value} {fp : List Nat} (h : Bst w g B S b v fp) (b' : Int) : Bst (w.setCell ⟨g, 1, none⟩ (.int .i64 b')) g B S b' v fp ∧ Ff g fp w (w.setCell ⟨g, 1, none⟩ (.int .i64 b')) := by
  refine ⟨⟨?_, h.op.same (fun x hx => Below.heap_setCell _ _ _ x (fun e => ?_)), h.lt, by rw [World.size_setCell]; exact h.hB⟩, rfl, rfl, rfl, by rw [World.size_setCell]; exact Nat.le_refl _, fun x hx h1 h2 => Below.heap_setCell _ _ _ x h1⟩
  · have := h.hg
    simp [World.setCell, Array.getElem?_modify, this]
  · have e : x = g := e
    have h1 := (h.op.lt x hx).1
    have h2 := h.lt
    omega

end Go.Proofs.YtmknnblogfpifaaDoor
