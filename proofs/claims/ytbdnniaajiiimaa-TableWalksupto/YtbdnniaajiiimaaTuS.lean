/- Tables and lists through calls that change one block; what the laws keep track of. -/
import Derived.Test.YtbdnniaajiiimaaRkS
import Derived.Test.YtbdnniaajiiimaaToS
import Derived.Test.YtbdnniaajiiimaaTpS
import Derived.Test.YtbdnniaajiiimaaBuf
namespace Go.Proofs.Ytbdnniaajiiimaa
namespace TS
open Go.RowKit

theorem Tr.grown {w w' : World} {t : BT ByteArray} {p q : Option Addr} {T : Nat} (h : Tr w t p) (g : w.grownBy w' (some T)) (c : w.cell? ⟨T, 0, none⟩ = some (.pointer q)) : Tr w' t p := by
  induction t generalizing p with
  | E => exact h
  | N k x s l r il ir =>
    obtain ⟨b, pl, pr, e, c0, c1, c2, c3, c4, hl, hr⟩ := h
    have hg : b ≠ T := fun e => by rw [e, c] at c0; cases c0
    have hb : b < w.heap.size := World.block_lt_of_cell? _ _ c0
    have o : ∀ i, w'.cell? ⟨b, i, none⟩ = w.cell? ⟨b, i, none⟩ := fun i => World.cell?_of_block (w := w) (w' := w') (a := ⟨b, i, none⟩) (g.block b hb (fun q => hg (by injection q)))
    exact ⟨b, pl, pr, e, (o 0).trans c0, (o 1).trans c1, (o 2).trans c2, (o 3).trans c3, (o 4).trans c4, il hl, ir hr⟩
/-- Another table's change leaves a table as it was. -/
theorem Tab.grown {w w' : World} {t : BT ByteArray} {T U : Nat} (h : Tab w U t) (g : w.grownBy w' (some T)) (hne : U ≠ T) {q : Option Addr} (c : w.cell? ⟨T, 0, none⟩ = some (.pointer q)) : Tab w' U t := by
  obtain ⟨p, cu, fu, tr, ok⟩ := h
  have hU : U < w.heap.size := World.block_lt_of_cell? _ _ cu
  have e := g.block U hU (fun q => hne (by injection q))
  exact ⟨p, (World.cell?_of_block (w := w) (w' := w') (a := ⟨U, 0, none⟩) e).trans cu, (World.frozen?_of_block (w := w) (w' := w') (a := ⟨U, 0, none⟩) e).trans fu, tr.grown g c, ok⟩
theorem Tab.ptr {w : World} {t : BT ByteArray} {T : Nat} (h : Tab w T t) : ∃ p, w.cell? ⟨T, 0, none⟩ = some (.pointer p) := by obtain ⟨p, c, _⟩ := h; exact ⟨p, c⟩
theorem Tab.ok {w : World} {t : BT ByteArray} {T : Nat} (h : Tab w T t) : t.Ok := by obtain ⟨_, _, _, _, ok⟩ := h; exact ok
theorem Tab.lt {w : World} {t : BT ByteArray} {T : Nat} (h : Tab w T t) : T < w.heap.size := by obtain ⟨_, c, _⟩ := h; exact World.block_lt_of_cell? _ _ c
theorem OwnP.grown {w w' : World} {B T : Nat} {v : Value} {L : PL} (h : OwnP w B v L) (g : w.grownBy w' (some T)) (hT : T < B) : OwnP w' B v L :=
  h.same (fun k hk => g.block k (h.lt k hk).2 (fun q => by have := (h.lt k hk).1; injection q; omega))
theorem OwnP.below {w w' : World} {B C : Nat} {v : Value} {L : PL} (h : OwnP w B v L) (b : Below C w w') (hC : w.heap.size ≤ C) : OwnP w' B v L :=
  h.same (fun k hk => b.block k (by have := (h.lt k hk).2; omega))

/-- The list L stands for the tree u; neither has more than j pairs. -/
structure LU (L : PL) (u : BT ByteArray) (j : Nat) : Prop where
  br : BT.Br ltK L u.toL
  len : L.length ≤ j
theorem LU.nil : LU [] .E 0 := ⟨BT.Br.nil, Nat.le_refl _⟩
theorem dl_len (k : ByteArray) (L : PL) : (BT.dl k L).length ≤ L.length := List.length_filter_le _ _
theorem LU.put {L : PL} {u : BT ByteArray} {j : Nat} (h : LU L u j) (k : ByteArray) (v : Int) : LU (BT.dl k L ++ [(k, v)]) (BT.wth ltK k v u) (j + 1) := by
  refine ⟨?_, ?_⟩
  · rw [BT.wth_toL ltK ordS k v u h.br.srt]; exact h.br.put ordS k v
  · rw [List.length_append]; have := dl_len k L; have := h.len; simp; omega
theorem LU.cut {L : PL} {u : BT ByteArray} {j : Nat} (h : LU L u j) (ho : u.Ok) (k : ByteArray) : LU (BT.dl k L) (BT.wtout ltK u k) j := by
  refine ⟨?_, Nat.le_trans (dl_len k L) h.len⟩
  rw [BT.wtout_toL ltK ordS u ho h.br.srt k]; exact h.br.cut ordS k
theorem LU.cnt {L : PL} {u : BT ByteArray} {j : Nat} (h : LU L u j) (ho : u.Ok) : u.cnt ≤ j := by
  rw [BT.cnt_toL u ho, ← h.br.len]; exact h.len
theorem LU.mono {L : PL} {u : BT ByteArray} {j i : Nat} (h : LU L u j) (hi : j ≤ i) : LU L u i := ⟨h.br, Nat.le_trans h.len hi⟩

/-- Get's answers by look. -/
theorem get_none {u : BT ByteArray} {k : ByteArray} (h : BT.Srt ltK u.toL) (e : BT.look k u.toL = none) : gb (BT.fnd ltK k u) = false := by
  have := BT.fnd_look ordS k u h
  rw [e] at this
  cases q : BT.fnd ltK k u with
  | E => rfl
  | N a b c d e => rw [q] at this; cases this
theorem get_some {u : BT ByteArray} {k : ByteArray} {v : Int} (h : BT.Srt ltK u.toL) (e : BT.look k u.toL = some v) : gb (BT.fnd ltK k u) = true ∧ gv (BT.fnd ltK k u) = v := by
  have := BT.fnd_look ordS k u h
  rw [e] at this
  cases q : BT.fnd ltK k u with
  | E => rw [q] at this; cases this
  | N a b c d e => rw [q] at this; exact ⟨rfl, (show b = v from by simpa [BT.pr] using this)⟩

/-- Fork: the new table points where the old one does. -/
theorem fork2_any (T : Nat) (p : Option Addr) (w : World) (c : w.cell? ⟨T, 0, none⟩ = some (.pointer p)) :
    Calls Try.prog 12 #[.pointer (some ⟨T, 0, none⟩)] w fun e w' => e = .returned (.pointer (some ⟨w.heap.size, 0, none⟩)) ∧ w' = w.alloc (.cells #[.pointer p] 50) := by
  go_enter Try.func12, Try.ntmps12
  go_wp2
  go_ret
  exact ⟨rfl, rfl⟩

end TS
end Go.Proofs.Ytbdnniaajiiimaa
