/- The document's walk of a tree: its two blocks and what it leaves. -/
import Derived.Test.YthlioedahoiahaaTvF
namespace Go.Proofs.Ythlioedahoiahaa
open Go.RowKit

/-- The three blocks of visit: what was seen so far, the node, the result. -/
structure VS (w : World) (P N Z : Nat) (v : Value) (b code : Int) (p : ByteArray) (k : Int) (e : Bool) (t : ByteArray) (x : Option Addr) (n c : Nat) : Prop where
  hp : w.heap[P]? = some (.cells #[v, .int .i64 b, .int .i64 code, .string p] 61 (0, 0))
  hn : NB w N k e t x n c
  hz : w.heap[Z]? = some (.cells #[.slice none 0 0, .int .i64 0, .int .i64 0, .string ⟨#[]⟩] 61 (0, 0))
section
variable {w : World} {P N Z : Nat} {v : Value} {b code : Int} {p : ByteArray} {k : Int} {e : Bool} {t : ByteArray} {x : Option Addr} {n c : Nat}
theorem VS.p0 (h : VS w P N Z v b code p k e t x n c) : w.cell? ⟨P, 0, none⟩ = some v := by rw [Lib.cell_of_heap h.hp]; rfl
theorem VS.p1 (h : VS w P N Z v b code p k e t x n c) : w.cell? ⟨P, 1, none⟩ = some (.int .i64 b) := by rw [Lib.cell_of_heap h.hp]; rfl
theorem VS.p2 (h : VS w P N Z v b code p k e t x n c) : w.cell? ⟨P, 2, none⟩ = some (.int .i64 code) := by rw [Lib.cell_of_heap h.hp]; rfl
theorem VS.p3 (h : VS w P N Z v b code p k e t x n c) : w.cell? ⟨P, 3, none⟩ = some (.string p) := by rw [Lib.cell_of_heap h.hp]; rfl
theorem VS.pf (h : VS w P N Z v b code p k e t x n c) (j : Nat) : w.frozen? ⟨P, j, none⟩ = false := Lib.frozen_of_heap h.hp j
theorem VS.z0 (h : VS w P N Z v b code p k e t x n c) : w.cell? ⟨Z, 0, none⟩ = some (.slice none 0 0) := by rw [Lib.cell_of_heap h.hz]; rfl
theorem VS.z1 (h : VS w P N Z v b code p k e t x n c) : w.cell? ⟨Z, 1, none⟩ = some (.int .i64 0) := by rw [Lib.cell_of_heap h.hz]; rfl
theorem VS.z2 (h : VS w P N Z v b code p k e t x n c) : w.cell? ⟨Z, 2, none⟩ = some (.int .i64 0) := by rw [Lib.cell_of_heap h.hz]; rfl
theorem VS.z3 (h : VS w P N Z v b code p k e t x n c) : w.cell? ⟨Z, 3, none⟩ = some (.string ⟨#[]⟩) := by rw [Lib.cell_of_heap h.hz]; rfl
theorem VS.zf (h : VS w P N Z v b code p k e t x n c) (j : Nat) : w.frozen? ⟨Z, j, none⟩ = false := Lib.frozen_of_heap h.hz j
theorem VS.fk {B : Nat} {w' : World} (h : VS w P N Z v b code p k e t x n c) (F : Fk B 64 w w') : VS w' P N Z v b code p k e t x n c :=
  ⟨(F.mid P _ _ _ h.hp (by decide)).trans h.hp, (F.mid N _ _ _ h.hn (by decide)).trans h.hn, (F.mid Z _ _ _ h.hz (by decide)).trans h.hz⟩
theorem VS.below {w' : World} (h : VS w P N Z v b code p k e t x n c) (F : Below w.heap.size w w') : VS w' P N Z v b code p k e t x n c :=
  ⟨(F.block P (heap_lt h.hp)).trans h.hp, (F.block N (heap_lt h.hn)).trans h.hn, (F.block Z (heap_lt h.hz)).trans h.hz⟩
theorem VS.set0 (h : VS w P N Z v b code p k e t x n c) (h1 : N ≠ P) (h2 : Z ≠ P) (v' : Value) : VS (w.setCell ⟨P, 0, none⟩ v') P N Z v' b code p k e t x n c := by
  refine ⟨?_, (Below.heap_setCell _ _ _ N h1).trans h.hn, (Below.heap_setCell _ _ _ Z h2).trans h.hz⟩
  have := h.hp
  simp [World.setCell, Array.getElem?_modify, this]
theorem VS.set1 (h : VS w P N Z v b code p k e t x n c) (h1 : N ≠ P) (h2 : Z ≠ P) (b' : Int) : VS (w.setCell ⟨P, 1, none⟩ (.int .i64 b')) P N Z v b' code p k e t x n c := by
  refine ⟨?_, (Below.heap_setCell _ _ _ N h1).trans h.hn, (Below.heap_setCell _ _ _ Z h2).trans h.hz⟩
  have := h.hp
  simp [World.setCell, Array.getElem?_modify, this]
theorem VS.set2 (h : VS w P N Z v b code p k e t x n c) (h1 : N ≠ P) (h2 : Z ≠ P) (b' : Int) : VS (w.setCell ⟨P, 2, none⟩ (.int .i64 b')) P N Z v b b' p k e t x n c := by
  refine ⟨?_, (Below.heap_setCell _ _ _ N h1).trans h.hn, (Below.heap_setCell _ _ _ Z h2).trans h.hz⟩
  have := h.hp
  simp [World.setCell, Array.getElem?_modify, this]
theorem VS.set3 (h : VS w P N Z v b code p k e t x n c) (h1 : N ≠ P) (h2 : Z ≠ P) (p' : ByteArray) : VS (w.setCell ⟨P, 3, none⟩ (.string p')) P N Z v b code p' k e t x n c := by
  refine ⟨?_, (Below.heap_setCell _ _ _ N h1).trans h.hn, (Below.heap_setCell _ _ _ Z h2).trans h.hz⟩
  have := h.hp
  simp [World.setCell, Array.getElem?_modify, this]
end
theorem four_set {W : World} {Z : Nat} {a0 a1 a2 a3 a b c d : Value} {T : TypeId} (h : W.heap[Z]? = some (.cells #[a0, a1, a2, a3] T (0, 0))) : ((((W.setCell ⟨Z, 0, none⟩ a).setCell ⟨Z, 1, none⟩ b).setCell ⟨Z, 2, none⟩ c).setCell ⟨Z, 3, none⟩ d).heap[Z]? = some (.cells #[a, b, c, d] T (0, 0)) := by
  simp [World.setCell, Array.getElem?_modify, h]
theorem exit_seen {W : World} {Z : Nat} {a0 a1 a2 a3 a b c d : Value} {tmps : Array Value} {R : Ending → World → Prop} (h : W.heap[Z]? = some (.cells #[a0, a1, a2, a3] 61 (0, 0))) (ht : tmps[8]?.getD undef = .pointer (some ⟨Z, 0, none⟩))
    (hR : R (.returned (.agg #[a, b, c, d])) ((((W.setCell ⟨Z, 0, none⟩ a).setCell ⟨Z, 1, none⟩ b).setCell ⟨Z, 2, none⟩ c).setCell ⟨Z, 3, none⟩ d)) :
    bodyPost Try.prog Try.f29 R .ret { tmps := tmps, defers := [] } ((((W.setCell ⟨Z, 0, none⟩ a).setCell ⟨Z, 1, none⟩ b).setCell ⟨Z, 2, none⟩ c).setCell ⟨Z, 3, none⟩ d) := by
  have q := four_set (a := a) (b := b) (c := c) (d := d) h
  generalize (((W.setCell ⟨Z, 0, none⟩ a).setCell ⟨Z, 1, none⟩ b).setCell ⟨Z, 2, none⟩ c).setCell ⟨Z, 3, none⟩ d = W4 at q hR ⊢
  have q0 : W4.cell? ⟨Z, 0, none⟩ = some a := by rw [Lib.cell_of_heap q]; rfl
  have q1 : W4.cell? ⟨Z, 1, none⟩ = some b := by rw [Lib.cell_of_heap q]; rfl
  have q2 : W4.cell? ⟨Z, 2, none⟩ = some c := by rw [Lib.cell_of_heap q]; rfl
  have q3 : W4.cell? ⟨Z, 3, none⟩ = some d := by rw [Lib.cell_of_heap q]; rfl
  exact bodyPost_ret (v := .agg #[a, b, c, d]) (by simp [results, Try.results29, go_sem, ht, q0, q1, q2, q3]) rfl hR

/-- What visit leaves: M: the rows so far and those of the tree. -/
def VsR (r : VR) (B : Nat) (M : List RW) (w : World) (e : Ending) (w' : World) : Prop := (match r.off with
  | none => ∃ x c p, e = .returned (.agg #[.slice x M.length c, .int .i64 r.bytes, .int .i64 0, .string p]) ∧ Rws 64 w' B (.slice x M.length c) M
  | some o => ∃ x n c b, e = .returned (.agg #[.slice x n c, .int .i64 b, .int .i64 o.2, .string o.1])) ∧ Fk B 64 w w'
theorem VsR.bad {r : VR} {B : Nat} {M : List RW} {w w' : World} {x : Option Addr} {n c : Nat} {b : Int} {p : ByteArray} {code : Int} (h : r.off = some (p, code)) (hf : Fk B 64 w w') : VsR r B M w (.returned (.agg #[.slice x n c, .int .i64 b, .int .i64 code, .string p])) w' := by
  refine ⟨?_, hf⟩
  rw [h]
  exact ⟨x, n, c, b, rfl⟩
theorem VsR.fine {r : VR} {B : Nat} {M : List RW} {w w' : World} {x : Option Addr} {c : Nat} {p : ByteArray} (h : r.off = none) (hf : Fk B 64 w w') (hr : Rws 64 w' B (.slice x M.length c) M) : VsR r B M w (.returned (.agg #[.slice x M.length c, .int .i64 r.bytes, .int .i64 0, .string p])) w' := by
  refine ⟨?_, hf⟩
  rw [h]
  exact ⟨x, c, p, rfl, hr⟩
def VsAt (f : Nat) : Prop := ∀ (u : Value) (T : Tr) (ns : List ByteArray) (b : Int) (xv : Option Addr) (cv : Nat) (L : List RW) (p0 : ByteArray) (B : Nat) (w0 w : World), At w0 f u T → smT T → Below w0.heap.size w0 w → w0.heap.size ≤ B → B ≤ w.heap.size → Rws 64 w B (.slice xv L.length cv) L → (L.length : Int) ≤ b → ns.length ≤ 32 → (∀ s ∈ ns, s.size ≤ 1048576) → 0 ≤ b → b ≤ 1048576 →
  Calls Try.prog 29 #[.agg #[.slice xv L.length cv, .int .i64 b, .int .i64 0, .string p0], .string (joinB ns), u, .int .i64 ((ns.length : Int) + 1)] w fun e w' => VsR (vT ns b T) B (L ++ rwT ns T) w e w'

theorem joinB_size (ns : List ByteArray) (h : ∀ s ∈ ns, s.size ≤ 1048576) : (joinB ns).size ≤ 1048577 * ns.length := by
  induction ns with
  | nil => exact Nat.le_refl _
  | cons a ns ih =>
    have ha := h a (by simp)
    cases ns with
    | nil => show a.size ≤ _; simp; omega
    | cons s ns =>
      have := ih (fun z hz => h z (by simp [hz]))
      show (a ++ ⟨#[47]⟩ ++ joinB (s :: ns)).size ≤ _
      rw [ByteArray.size_append, ByteArray.size_append]
      have e : (⟨#[47]⟩ : ByteArray).size = 1 := rfl
      simp at this ⊢
      omega

mutual
/-- Each row is paid for by a byte. -/
theorem rw_le (ns : List ByteArray) (b : Int) : ∀ T : Tr, (vT ns b T).off = none → ((rwT ns T).length : Int) + b ≤ (vT ns b T).bytes
  | .mk k e t nms ks => fun h => by
    have hn := nbP_pos k e t
    rw [vT] at h ⊢
    rw [rwT]
    split at h
    · cases h
    · rename_i h1
      rw [if_neg h1]
      split at h
      · cases h
      · rename_i h2
        rw [if_neg h2]
        split at h
        · cases h
        · rename_i h3
          rw [if_neg h3]
          have := rwL_le ns (b + nbP k e t) none nms ks h
          rw [List.length_cons]
          omega
theorem rwL_le (ns : List ByteArray) (b : Int) (prev : Option ByteArray) : ∀ (nms : List ByteArray) (ks : List Tr), (vL ns b prev nms ks).off = none → ((rwL ns nms ks).length : Int) + b ≤ (vL ns b prev nms ks).bytes
  | s :: nms, T :: ks => fun h => by
    rw [vL] at h ⊢
    rw [rwL]
    split at h
    · cases h
    · rename_i h2
      rw [if_neg h2]
      have hb := ebP_bd s
      cases hv : (vT (ns ++ [s]) (b + ebP s) T).off with
      | some o => rw [hv] at h; cases h
      | none =>
        rw [hv] at h
        have e1 := rw_le (ns ++ [s]) (b + ebP s) T hv
        have e2 := rwL_le ns (vT (ns ++ [s]) (b + ebP s) T).bytes (some s) nms ks h
        rw [List.length_append]
        show _ ≤ (vL ns (vT (ns ++ [s]) (b + ebP s) T).bytes (some s) nms ks).bytes
        omega
  | [], ks => fun _ => by rw [vL_end, rwL] <;> simp
  | s :: nms, [] => fun _ => by
    have h9 : vL ns b prev (s :: nms) [] = ⟨b, none⟩ := by rw [vL]; simp
    rw [h9, rwL] <;> simp
end

end Go.Proofs.Ythlioedahoiahaa
