/- closeTo, walked. -/
import Derived.Test.YtmknnblogfpifaaDoorTwF
namespace Go.Proofs.YtmknnblogfpifaaDoor
open Go.RowKit

/-- Block g is a builder. -/
structure Bst (w : World) (g B : Nat) (S : List OE) (b : Int) (v : Value) (fp : List Nat) : Prop where
  hg : w.heap[g]? = some (.cells #[v, .int .i64 b] 65 (0, 0))
  op : Opn w B S v fp
  lt : g < B
  hB : B ≤ w.heap.size
/-- From w to w' nothing has turned but block g, the blocks fp, and new ones. -/
structure Ff (g : Nat) (fp : List Nat) (w w' : World) : Prop where
  os : w'.os = w.os
  tape : w'.tape = w.tape
  output : w'.output = w.output
  size : w.heap.size ≤ w'.heap.size
  keep : ∀ k, k < w.heap.size → k ≠ g → k ∉ fp → w'.heap[k]? = w.heap[k]?
theorem Ff.refl (g : Nat) (fp : List Nat) (w : World) : Ff g fp w w := ⟨rfl, rfl, rfl, Nat.le_refl _, fun _ _ _ _ => rfl⟩
theorem Ff.trans {g : Nat} {fp fp1 : List Nat} {a b c : World} (h : Ff g fp a b) (k : Ff g fp1 b c) (hf : ∀ x ∈ fp1, x ∈ fp ∨ a.heap.size ≤ x) : Ff g fp a c :=
  ⟨k.os.trans h.os, k.tape.trans h.tape, k.output.trans h.output, Nat.le_trans h.size k.size, fun i hi h1 h2 => (k.keep i (Nat.lt_of_lt_of_le hi h.size) h1 (fun hm => by rcases hf i hm with h | h; exact h2 h; omega)).trans (h.keep i hi h1 h2)⟩
theorem set_comm (w : World) (a b : Addr) (u v : Value) (h : a.block ≠ b.block) : (w.setCell a u).setCell b v = (w.setCell b v).setCell a u := by
  have e : ((w.setCell a u).setCell b v).heap = ((w.setCell b v).setCell a u).heap := by
    apply Array.ext_getElem?
    intro i
    simp only [World.setCell, Array.getElem?_modify]
    by_cases h1 : b.block = i
    · by_cases h2 : a.block = i
      · exact absurd (h2.trans h1.symm) h
      · simp [h1, h2]
    · by_cases h2 : a.block = i
      · simp [h1, h2]
      · simp [h1, h2]
  cases hw : (w.setCell a u).setCell b v
  cases hw2 : (w.setCell b v).setCell a u
  rw [hw, hw2] at e
  simp only [World.setCell] at hw hw2
  injection hw
  injection hw2
  simp_all
theorem set5_comm (w : World) (g o : Nat) (a b c d e : Value) (p : Addr) (v : Value) (h : p.block ≠ g) : set5 (w.setCell p v) g o [a, b, c, d, e] = (set5 w g o [a, b, c, d, e]).setCell p v := by
  dsimp only [set5]
  rw [set_comm w p ⟨g, o, none⟩ v a h, set_comm _ p ⟨g, o + 1, none⟩ v b h, set_comm _ p ⟨g, o + 2, none⟩ v c h, set_comm _ p ⟨g, o + 3, none⟩ v d h, set_comm _ p ⟨g, o + 4, none⟩ v e h]

theorem nms_le {S : List OE} {o : OE} (h : o ∈ S) (hl : lenS S) : o.nms.length ≤ (rowsS S).length := by
  induction S with
  | nil => cases h
  | cons a S ih =>
    rw [rowsS, List.length_append, List.length_cons]
    rcases List.mem_cons.1 h with rfl | h
    · have := lnL_len (way (o :: S)) o.nms o.ks (hl o (by simp))
      omega
    · have := ih h (fun z hz => hl z (by simp [hz]))
      omega

end Go.Proofs.YtmknnblogfpifaaDoor
