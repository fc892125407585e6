/- A slice of one-cell values that the call itself made, gathered by append: also one that began as the bytes of a string (own text of the verifier). -/
import Derived.Test.YtljcbibcdajhiaaMem
import Derived.Laws.IdiomStrings
import Derived.Laws.AppendOwn
import Derived.Laws.IdiomCopy
namespace Go.Proofs.Ytljcbibcdajhiaa
open Go.RowKit

/-- v is a slice of the n values F 0, .. F (n-1), which the call itself made (its block lies from B on). -/
def Buf (w : World) (B : Nat) (v : Value) (n : Nat) (F : Nat → Value) : Prop :=
  (v = .slice none 0 0 ∧ n = 0) ∨
   ∃ g cap, v = .slice (some ⟨g, 0, none⟩) n cap ∧ B ≤ g ∧ g < w.heap.size ∧ n ≤ cap ∧ cap ≤ maxLen ∧ (∀ j, j < n → w.cell? ⟨g, j, none⟩ = some (F j)) ∧ (∀ j, j < cap → (w.cell? ⟨g, j, none⟩).isSome = true ∧ w.frozen? ⟨g, j, none⟩ = false)

theorem Buf.nil (w : World) (B : Nat) (F : Nat → Value) : Buf w B (.slice none 0 0) 0 F := .inl ⟨rfl, rfl⟩

theorem Buf.same {w w' : World} {B : Nat} {v : Value} {n : Nat} {F : Nat → Value} (h : Buf w B v n F) (hs : w.heap.size ≤ w'.heap.size) (e : ∀ g, v.ownBlock = some g → w'.heap[g]? = w.heap[g]?) : Buf w' B v n F := by
  rcases h with h | ⟨g, cap, rfl, hb, hg, hn, hm, hc, hf⟩
  · exact .inl h
  · have e' := e g rfl
    refine .inr ⟨g, cap, rfl, hb, by omega, hn, hm, fun j hj => ?_, fun j hj => ?_⟩
    · rw [World.cell?_of_block (w := w) (a := ⟨g, j, none⟩) e']; exact hc j hj
    · rw [World.cell?_of_block (w := w) (a := ⟨g, j, none⟩) e', World.frozen?_of_block (w := w) (a := ⟨g, j, none⟩) e']; exact hf j hj

theorem Buf.lt {w : World} {B : Nat} {v : Value} {n : Nat} {F : Nat → Value} (h : Buf w B v n F) : ∀ k, v.ownBlock = some k → B ≤ k ∧ k < w.heap.size := by
  intro k hk
  rcases h with ⟨rfl, _⟩ | ⟨g, cap, rfl, hb, hg, _⟩
  · cases hk
  · cases hk; exact ⟨hb, hg⟩

theorem Buf.alloc {w : World} {B : Nat} {v : Value} {n : Nat} {F : Nat → Value} (h : Buf w B v n F) (o : Obj) : Buf (w.alloc o) B v n F :=
  h.same (by simp) (fun g hg => Below.heap_alloc w o g (h.lt g hg).2)

theorem Buf.drew {w : World} {B : Nat} {v : Value} {n : Nat} {F : Nat → Value} (h : Buf w B v n F) : Buf w.drew B v n F :=
  h.same (Nat.le_refl _) (fun _ _ => rfl)

theorem Buf.below {w w' : World} {B C : Nat} {v : Value} {n : Nat} {F : Nat → Value} (h : Buf w B v n F) (b : Below C w w') (hC : w.heap.size ≤ C) : Buf w' B v n F :=
  h.same b.size (fun g hg => b.block g (by have := (h.lt g hg).2; omega))

theorem Buf.congr {w : World} {B : Nat} {v : Value} {n : Nat} {F F' : Nat → Value} (h : Buf w B v n F) (e : ∀ j, j < n → F j = F' j) : Buf w B v n F' := by
  rcases h with h | ⟨g, cap, rfl, hb, hg, hn, hm, hc, hf⟩
  · exact .inl h
  · exact .inr ⟨g, cap, rfl, hb, hg, hn, hm, fun j hj => by rw [← e j hj]; exact hc j hj, hf⟩

theorem run_append_buf {P : Program} (w : World) (B : Nat) (t ty e : TypeId) (i : TypeInfo) (z : Value) (bytes : Nat) (ht : P.underlying t = some (.slice e)) (hi : P.info? e = some i) (hz : i.zero = some z)
    (hsize : i.size = 1) (hby : i.bytes = bytes) (hb8 : bytes ≤ 64) (hzs : z.cells.size = 1)
    (v : Value) (n : Nat) (F : Nat → Value) (hown : Buf w B v n F)
    (ad : Addr) (c : Nat) (hnew : w.cell? ad = some (F n)) (had : ad.add 0 = ad) (h1 : (F n).oneCell' = true) (hn : n ≤ 2199023255551) (hbase : B ≤ w.heap.size) :
    ∃ v' w', (Builtin.append_ #[t, t] ty #[v, .slice (some ad) 1 c]).run P w = .ok v' w' ∧ Buf w' B v' (n + 1) F ∧ w.grownBy w' v.ownBlock ∧ ∀ k, v'.ownBlock = some k → v.ownBlock = some k ∨ k = w.heap.size := by
  have hl : ([F n] : List Value).length = 1 * i.size := by rw [hsize]; rfl
  have hnews : ∀ j u, ([F n] : List Value)[j]? = some u → w.cell? (ad.add j) = some u := by
    intro j u hj
    match j, hj with
    | 0, hj => simp at hj; subst hj; rw [had]; exact hnew
  have hfit : (n + 1) * i.bytes ≤ 2199023255552 * 64 := Nat.mul_le_mul (by omega) (by omega)
  have grown : ∀ (old : Nat) (olds : List Value), olds.length = n → (∀ j, j < n → olds[j]? = some (F j)) →
      Buf (w.drew.alloc (.cells (olds.toArray ++ [F n].toArray ++ Builtin.zeroCells z.cells (grownCap w (n + 1) old e - (n + 1))) e)) B (.slice (some ⟨w.heap.size, 0, none⟩) (n + 1) (grownCap w (n + 1) old e)) (n + 1) F := by
    intro old olds ho hF
    have hge := grownCap_ge w (n + 1) old e
    have hcm : grownCap w (n + 1) old e ≤ maxLen := grownCap_le_maxLen w (n + 1) old e (by unfold maxLen; omega)
    have hcell : ∀ j, (w.drew.alloc (.cells (olds.toArray ++ [F n].toArray ++ Builtin.zeroCells z.cells (grownCap w (n + 1) old e - (n + 1))) e)).cell? ⟨w.heap.size, j, none⟩ = (olds.toArray ++ [F n].toArray ++ Builtin.zeroCells z.cells (grownCap w (n + 1) old e - (n + 1)))[j]? := fun j => World.cell?_alloc_new w.drew _ _ _
    refine .inr ⟨w.heap.size, _, rfl, hbase, by simp, hge, hcm, fun j hj => ?_, fun j hj => ⟨?_, World.frozen?_alloc_new w.drew _ _ _⟩⟩
    · rw [hcell, Array.getElem?_append_left (by simp [ho]; omega)]
      by_cases hjn : j < n
      · rw [Array.getElem?_append_left (by simp [ho]; omega)]
        simpa using hF j hjn
      · obtain rfl : j = n := by omega
        rw [Array.getElem?_append_right (by simp [ho])]
        simp [ho]
    · rw [hcell]
      have : j < (olds.toArray ++ [F n].toArray ++ Builtin.zeroCells z.cells (grownCap w (n + 1) old e - (n + 1))).size := by
        simp only [Array.size_append, List.size_toArray, size_zeroCells, hzs, ho, List.length_cons, List.length_nil]
        omega
      rw [Array.getElem?_eq_getElem this]; rfl
  have gb : ∀ (cs : Array Value) (row : Option Nat), w.grownBy (w.drew.alloc (.cells cs e)) row := fun cs row => ⟨rfl, rfl, rfl, by simp, fun k hk _ => Below.heap_alloc w.drew _ k hk⟩
  rcases hown with ⟨rfl, rfl⟩ | ⟨g, cap, rfl, hb, hg, hnc, hcm, hc, hf⟩
  · have hr := run_append_nil (P := P) w t ty e i z ht hi hz ad 1 c [F 0] hl hnews (by omega) (by omega) (by omega)
    refine ⟨_, _, hr, ?_, gb _ _, fun k hk => .inr (by cases hk; rfl)⟩
    have := grown 0 [] rfl (fun j hj => by omega)
    simpa using this
  · by_cases hroom : n + 1 ≤ cap
    · have hff := run_firstCells_some (P := P) w i.size 1 ad 1 c [F n] hl hnews
      have hst := run_storeCells_cells (P := P) g (n * i.size) [F n] 0 w (fun j hj => by
          have : j = 0 := by simpa using hj
          subst this; rw [hsize]; simpa using (hf n (by omega)).1) (fun j hj => by
          have : j = 0 := by simpa using hj
          subst this; rw [hsize]; simpa using (hf n (by omega)).2) (fun u hu => by simp at hu; subst hu; exact h1)
      have hr : (Builtin.append_ #[t, t] ty #[.slice (some ⟨g, 0, none⟩) n cap, .slice (some ad) 1 c]).run P w = .ok (.slice (some ⟨g, 0, none⟩) (n + 1) cap) (w.setCells g (n * i.size + 0) [F n]) := by
        simp only [Nat.add_zero] at hst ⊢
        simp [Builtin.append_, run_underlying ht, sizeOf, typeInfo, hi, Builtin.lenOf, hroom, hff, Addr.add_lit, hst]
      have hsc : w.setCells g (n * i.size + 0) [F n] = w.setCell ⟨g, n, none⟩ (F n) := by
        rw [hsize]; simp [World.setCells]
      rw [hsc] at hr
      refine ⟨_, _, hr, ?_, ?_, fun k hk => .inl hk⟩
      · refine .inr ⟨g, cap, rfl, hb, by simpa using hg, hroom, hcm, fun j hj => ?_, fun j hj => ?_⟩
        · by_cases hjn : j = n
          · subst hjn
            exact World.cell?_setCell_same' w _ _ (hf j (by omega)).1
          · rw [World.cell?_setCell_other _ _ _ _ (by intro h; injection h; omega)]
            exact hc j (by omega)
        · rw [World.frozen?_setCell]
          refine ⟨?_, (hf j hj).2⟩
          by_cases hjn : j = n
          · subst hjn
            rw [World.cell?_setCell_same' w _ _ (hf j (by omega)).1]; rfl
          · rw [World.cell?_setCell_other _ _ _ _ (by intro h; injection h; omega)]
            exact (hf j hj).1
      · exact ⟨rfl, rfl, rfl, by simp, fun k _ hk => Below.heap_setCell w _ _ k (fun e => hk (by simp [Value.ownBlock, e]))⟩
    · have hr := run_append_grow (P := P) w t ty e i z ht hi hz ⟨g, 0, none⟩ n cap ((List.range n).map F) (by simp [hsize]) (fun j u hj => by
          simp only [List.getElem?_map] at hj
          by_cases hjn : j < n
          · rw [List.getElem?_range hjn] at hj
            simp at hj; subst hj
            have := hc j hjn
            unfold Addr.add
            split
            · rename_i h0; subst h0; exact this
            · simpa using this
          · rw [List.getElem?_eq_none (by simpa using hjn)] at hj
            simp at hj) ad 1 c [F n] hl hnews (by omega) (by omega) (growslice_fits (by omega) (by omega))
      exact ⟨_, _, hr, grown cap _ (by simp) (fun j hj => by simp [hj]), gb _ _, fun k hk => .inr (by cases hk; rfl)⟩

/-- append(s, y), s the call's own. -/
theorem wpList_append_buf {P : Program} (w : World) {ops : Array Oper} {rest : List Oper} {o : Oper} {a : Act} {Q : Exit → Act → World → Prop} (hgd : o.guard = none) (s x : Operand) (t : TypeId)
    (ho : o.op = .call { callee := .builtin .append, args := #[s, x], argTypes := #[t, t] })
    (B : Nat) (e : TypeId) (i : TypeInfo) (z : Value) (bytes : Nat) (ht : P.underlying t = some (.slice e)) (hi : P.info? e = some i) (hz : i.zero = some z)
    (hsize : i.size = 1) (hby : i.bytes = bytes) (hb8 : bytes ≤ 64) (hzs : z.cells.size = 1)
    (v : Value) (n : Nat) (F : Nat → Value) (hs : a.eval s = v) (hown : Buf w B v n F)
    (g c : Nat) (hx : a.eval x = .slice (some ⟨g, 0, none⟩) 1 c) (hc : w.cell? ⟨g, 0, none⟩ = some (F n)) (h1 : (F n).oneCell' = true) (hn : n ≤ 2199023255551) (hbase : B ≤ w.heap.size)
    (h : ∀ v' w', Buf w' B v' (n + 1) F → Below B w w' → w.grownBy w' v.ownBlock → wpList P ops Q rest (a.put o.dst v') w') : wpList P ops Q (o :: rest) a w := by
  obtain ⟨v', w', hr, h2, h3, _⟩ := run_append_buf (P := P) w B t o.type e i z bytes ht hi hz hsize hby hb8 hzs v n F hown ⟨g, 0, none⟩ c hc rfl h1 hn hbase
  refine wpList_plain hgd fun _ hK => ?_
  unfold Oper.wp execOp
  simp only [ho, resolve, invoke, builtin, Sem.run_bind, Sem.run_pure, Result.andThen_ok, List.map_toArray, List.map_cons, List.map_nil, hs, hx, hr]
  exact hK _ _ (h v' w' h2 ((Below.refl B w).grown h3 hbase (fun k hk => (hown.lt k hk).1)) h3)

/-- append(s, y), s the call's own; where it lies. -/
theorem wpList_append_bufN {P : Program} (w : World) {ops : Array Oper} {rest : List Oper} {o : Oper} {a : Act} {Q : Exit → Act → World → Prop} (hgd : o.guard = none) (s x : Operand) (t : TypeId)
    (ho : o.op = .call { callee := .builtin .append, args := #[s, x], argTypes := #[t, t] })
    (B : Nat) (e : TypeId) (i : TypeInfo) (z : Value) (bytes : Nat) (ht : P.underlying t = some (.slice e)) (hi : P.info? e = some i) (hz : i.zero = some z)
    (hsize : i.size = 1) (hby : i.bytes = bytes) (hb8 : bytes ≤ 64) (hzs : z.cells.size = 1)
    (v : Value) (n : Nat) (F : Nat → Value) (hs : a.eval s = v) (hown : Buf w B v n F)
    (g c : Nat) (hx : a.eval x = .slice (some ⟨g, 0, none⟩) 1 c) (hc : w.cell? ⟨g, 0, none⟩ = some (F n)) (h1 : (F n).oneCell' = true) (hn : n ≤ 2199023255551) (hbase : B ≤ w.heap.size)
    (h : ∀ v' w', Buf w' B v' (n + 1) F → Below B w w' → w.grownBy w' v.ownBlock → (∀ k, v'.ownBlock = some k → v.ownBlock = some k ∨ k = w.heap.size) → wpList P ops Q rest (a.put o.dst v') w') : wpList P ops Q (o :: rest) a w := by
  obtain ⟨v', w', hr, h2, h3, h4⟩ := run_append_buf (P := P) w B t o.type e i z bytes ht hi hz hsize hby hb8 hzs v n F hown ⟨g, 0, none⟩ c hc rfl h1 hn hbase
  refine wpList_plain hgd fun _ hK => ?_
  unfold Oper.wp execOp
  simp only [ho, resolve, invoke, builtin, Sem.run_bind, Sem.run_pure, Result.andThen_ok, List.map_toArray, List.map_cons, List.map_nil, hs, hx, hr]
  exact hK _ _ (h v' w' h2 ((Below.refl B w).grown h3 hbase (fun k hk => (hown.lt k hk).1)) h3 h4)

/-- The bytes of a string, as a slice. -/
theorem Buf.bytes (w : World) (e : TypeId) (s : ByteArray) (B : Nat) (hB : B ≤ w.heap.size) (hs : s.size ≤ 2199023255551) :
    Buf (w.drew.alloc (.cells (bytesRow s (grownCap w s.size 0 e)) e ((bytesRow s (grownCap w s.size 0 e)).size, (bytesRow s (grownCap w s.size 0 e)).size + 1))) B (.slice (some ⟨w.heap.size, 0, none⟩) s.size (grownCap w s.size 0 e)) s.size (fun j => .int .u8 (bt s j)) := by
  have hge := grownCap_ge w s.size 0 e
  have hcm : grownCap w s.size 0 e ≤ maxLen := grownCap_le_maxLen w s.size 0 e (by unfold maxLen; omega)
  have hsz : (bytesRow s (grownCap w s.size 0 e)).size = grownCap w s.size 0 e := by
    unfold bytesRow
    rw [Array.size_append, Array.size_map, Array.size_replicate]
    have : s.data.size = s.size := rfl
    omega
  generalize hC : bytesRow s (grownCap w s.size 0 e) = C at hsz ⊢
  have hhp : (w.drew.alloc (.cells C e (C.size, C.size + 1))).heap[w.heap.size]? = some (.cells C e (C.size, C.size + 1)) := by
    show (w.heap.push _)[w.heap.size]? = _
    simp
  have hcell : ∀ j, (w.drew.alloc (.cells C e (C.size, C.size + 1))).cell? ⟨w.heap.size, j, none⟩ = C[j]? := fun j => by
    unfold World.cell?
    rw [hhp]
    rfl
  refine .inr ⟨w.heap.size, _, rfl, hB, by simp, hge, hcm, fun j hj => ?_, fun j hj => ⟨?_, ?_⟩⟩
  · rw [hcell, ← hC]
    unfold bytesRow
    have hj' : j < s.data.size := hj
    rw [Array.getElem?_append_left (by simpa using hj'), Array.getElem?_map, Array.getElem?_eq_getElem hj']
    show some (Value.int .u8 _) = some (Value.int .u8 (bt s j))
    unfold bt
    rw [dif_pos hj]
    rfl
  · rw [hcell, Array.getElem?_eq_getElem (by omega)]; rfl
  · unfold World.frozen?
    rw [hhp]
    simp
    omega

end Go.Proofs.Ytljcbibcdajhiaa
