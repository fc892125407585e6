/- A slice of texts gathered by append; info.readSign; walked. -/
import Derived.Test.YtjhbfkckkinfjaaDoorInY
import Derived.Deep.OwnRows
namespace Go.Proofs.YtjhbfkckkinfjaaDoor
open Go.RowKit Go.Shelf

/-- v is a slice of these texts, which the call itself made (blocks from B on). -/
def OwnS (w : World) (B : Nat) (v : Value) (L : List ByteArray) : Prop := w.ownsRow B 9 1 v L.length (L.map Value.string)
theorem OwnS.nil (w : World) (B : Nat) : OwnS w B (.slice none 0 0) [] := World.ownsRow_nil _ _ _ _
theorem OwnS.alloc {w : World} {B : Nat} {v : Value} {L : List ByteArray} (h : OwnS w B v L) (o : Obj) : OwnS (w.alloc o) B v L := World.ownsRow.alloc h o
theorem OwnS.shape {w : World} {B : Nat} {v : Value} {L : List ByteArray} (h : OwnS w B v L) : ∃ x c, v = .slice x L.length c ∧ L.length ≤ c ∧ SIs w x L.length (Sq.nth L) := by
  obtain ⟨_, ⟨h1, h2⟩ | ⟨g, cap, cur, hv, hb, hg, hnc, _, _, htake⟩⟩ := h
  · rw [h2]
    exact ⟨none, 0, h1, Nat.le_refl _, fun i hi => absurd hi (by omega)⟩
  · refine ⟨_, cap, hv, hnc, fun j hj => ⟨_, rfl, ?_⟩⟩
    rw [Addr.add_lit, Nat.zero_add, cell_of_row w g j cur 9 (0, 0) hg]
    have h2 : (cur.toList.take (L.length * 1))[j]? = some (Value.string (Sq.nth L j)) := by
      rw [htake]; simp [hj, Sq.nth]
    rw [List.getElem?_take] at h2
    split at h2
    · simpa using h2
    · cases h2
/-- Another world in which the slice's own block is as it was. -/
theorem OwnS.same {w w' : World} {B : Nat} {v : Value} {L : List ByteArray} (h : OwnS w B v L) (e : ∀ g, v.ownBlock = some g → w'.heap[g]? = w.heap[g]?) : OwnS w' B v L := by
  obtain ⟨h0, ⟨h1, h2⟩ | ⟨g, cap, cur, hv, hb, hg, hr⟩⟩ := h
  · exact ⟨h0, Or.inl ⟨h1, h2⟩⟩
  · exact ⟨h0, Or.inr ⟨g, cap, cur, hv, hb, (e g (by rw [hv]; rfl)).trans hg, hr⟩⟩
theorem OwnS.ge {w : World} {B : Nat} {v : Value} {L : List ByteArray} (h : OwnS w B v L) {g : Nat} (e : v.ownBlock = some g) : B ≤ g ∧ g < w.heap.size := by
  obtain ⟨h0, ⟨h1, h2⟩ | ⟨g', cap, cur, hv, hb, hg, hr⟩⟩ := h
  · rw [h1] at e; cases e
  · rw [hv] at e
    cases e
    exact ⟨hb, (Array.getElem?_eq_some_iff.1 hg).1⟩

/-- append(s, y), s the call's own. -/
theorem wpList_append_s (w : World) {ops : Array Oper} {rest : List Oper} {o : Oper} {a : Act} {Q : Exit → Act → World → Prop} (hgd : o.guard = none) (s x : Operand)
    (ho : o.op = .call { callee := .builtin .append, args := #[s, x], argTypes := #[24, 24] })
    (B : Nat) (v : Value) (L : List ByteArray) (hs : a.eval s = v) (hown : OwnS w B v L)
    (g c : Nat) (y : ByteArray) (hx : a.eval x = .slice (some ⟨g, 0, none⟩) 1 c) (hc : w.cell? ⟨g, 0, none⟩ = some (.string y)) (hn : L.length ≤ 8796093022000) (hbase : B ≤ w.heap.size)
    (h : ∀ v' w', OwnS w' B v' (L ++ [y]) → w.grownBy w' v.ownBlock → wpList Tryd.prog ops Q rest (a.put o.dst v') w') : wpList Tryd.prog ops Q (o :: rest) a w := by
  obtain ⟨i0, hi, hz0, hz1, hz2⟩ := info_parts Sq.info_str
  refine wpList_append_own w hgd s x 24 ho B 9 i0 (.string ByteArray.empty) 1 16 Tryd.underlying24 hi hz0 hz1 hz2 rfl (by decide) v L.length _ hs hown ⟨g, 0, none⟩ 1 c [.string y] hx rfl ?_ ?_ (by unfold maxLen; omega) ?_ hbase ?_
  · intro j u hj
    match j, hj with
    | 0, hj => simp at hj; subst hj; simpa [Addr.add] using hc
  · intro u hu; simp at hu; subst hu; rfl
  · omega
  · intro v' w' h1 h2 _
    refine h v' w' ?_ h2
    unfold OwnS
    rw [List.length_append, List.map_append]
    exact h1

theorem grown_below {w w' : World} (r : Option Nat) (b : Below w.heap.size w w') : w.grownBy w' r := ⟨b.os, b.tape, b.output, b.size, fun k hk _ => b.block k hk⟩
theorem grown_trans {w w1 w2 : World} {r : Option Nat} (a : w.grownBy w1 r) (b : w1.grownBy w2 r) : w.grownBy w2 r :=
  ⟨b.os.trans a.os, b.tape.trans a.tape, b.output.trans a.output, Nat.le_trans a.size b.size, fun k hk hne => (b.block k (Nat.lt_of_lt_of_le hk a.size) hne).trans (a.block k hk hne)⟩
theorem grown_alloc (w : World) (o : Obj) (r : Option Nat) : w.grownBy (w.alloc o) r := grown_below r ((Below.refl _ _).alloc (Nat.le_refl _) _)

/-- The signature of a line; the error's number. -/
def rsS (l : ByteArray) : ByteArray := cpQ l hdS
def rsC (L : List ByteArray) (l : ByteArray) : Int := if hpQ l hdS = true then nxC (Sq.nth L) L.length (rsS l) else 150
theorem rsS_size (l : ByteArray) : (rsS l).size ≤ l.size := by
  unfold rsS cpQ
  split
  · rw [ByteArray.size_extract]; omega
  · exact Nat.le_refl _

set_option maxRecDepth 100000 in
set_option maxHeartbeats 2000000 in
theorem rdS_any (B : Nat) (v : Value) (L : List ByteArray) (l : ByteArray) (w : World) (hown : OwnS w B v L) (hB : B ≤ w.heap.size) (hn : L.length ≤ 8796093022000) (hl : l.size ≤ 140737488351232) :
    Calls Tryd.prog 39 #[v, .string l] w fun e w' => (∃ v', e = .returned (.tuple #[v', .int .i64 (rsC L l)]) ∧ (rsC L l = 0 → OwnS w' B v' (L ++ [rsS l])) ∧ (rsC L l ≠ 0 → v' = .slice none 0 0)) ∧ w.grownBy w' v.ownBlock := by
  obtain ⟨x, c, rfl, hc, hS⟩ := hown.shape
  have C0 := fun W => cutQ_any l hdS W
  have HO : Hid (OwnS w B (.slice x L.length c) L) := hown
  cases hp : hpQ l hdS
  · have hC : Hid (rsC L l = 150) := by unfold Hid rsC; rw [hp]; rfl
    rw [hp] at C0
    rw [hC.out]
    go_enter Tryd.func39, Tryd.ntmps39
    rw [show (⟨#[83, 105, 103, 110, 58, 32]⟩ : ByteArray) = hdS from rfl]
    go_wp2_with fail
    refine (C0 _).mono ?_
    rintro e w1 ⟨rfl, rfl⟩
    go_wp2
    go_ret2
    exact ⟨⟨_, rfl, fun h => absurd h (by decide), fun _ => rfl⟩, grown_below _ (Below.refl _ _)⟩
  · have hC : Hid (rsC L l = nxC (Sq.nth L) L.length (rsS l)) := by unfold Hid rsC; rw [hp]; rfl
    have hss := rsS_size l
    have C1 := ckN_any x L.length c (Sq.nth L) (rsS l) w hS (by omega) (by omega)
    rw [hp] at C0
    rw [hC.out]
    change ∀ W, Calls Tryd.prog 29 #[.string l, .string hdS] W fun e w' => e = .returned (.tuple #[.string (rsS l), .bool true]) ∧ w' = W at C0
    clear hown hS hp hss
    generalize rsS l = s at C0 C1 ⊢
    by_cases h0 : nxC (Sq.nth L) L.length s = 0
    · rw [h0] at C1 ⊢
      go_enter Tryd.func39, Tryd.ntmps39
      rw [show (⟨#[83, 105, 103, 110, 58, 32]⟩ : ByteArray) = hdS from rfl]
      go_wp2_with fail
      refine (C0 _).mono ?_
      rintro e w1 ⟨rfl, rfl⟩
      go_wp2_with fail
      refine C1.mono ?_
      rintro e w2 ⟨rfl, b2⟩
      have O2 : Hid (OwnS (w2.alloc (.cells #[.string s] 9)) B (.slice x L.length c) L) := (HO.out.same (fun g hg => b2.block g (HO.out.ge hg).2)).alloc _
      have hB2 : Hid (B ≤ w2.heap.size) := Nat.le_trans hB b2.size
      clear C0 C1
      go_wp2_with (refine wpList_append_s _ (by rfl) (.tmp 22) (.tmp 24) (by rfl) B (.slice x L.length c) L (by rfl) O2.out w2.heap.size 1 s (by rfl) (by rw [World.cell?_alloc_new]; rfl) hn (by rw [World.size_alloc]; have := hB2.out; omega) ?_; intro v' w5 O5 G5; refine Hid.out ?_)
      unfold Hid
      go_wp2
      go_ret2
      exact ⟨⟨_, rfl, fun _ => O5, fun h => absurd rfl h⟩, grown_trans (grown_trans (grown_below _ b2) (grown_alloc _ _ _)) G5⟩
    · have h0' : (nxC (Sq.nth L) L.length s != 0) = true := by rw [bne_iff_ne]; exact h0
      generalize nxC (Sq.nth L) L.length s = d at C1 h0 h0' ⊢
      go_enter Tryd.func39, Tryd.ntmps39
      rw [show (⟨#[83, 105, 103, 110, 58, 32]⟩ : ByteArray) = hdS from rfl]
      go_wp2_with fail
      refine (C0 _).mono ?_
      rintro e w1 ⟨rfl, rfl⟩
      go_wp2_with fail
      refine C1.mono ?_
      rintro e w2 ⟨rfl, b2⟩
      clear C0 C1
      go_wp2
      go_ret2
      exact ⟨⟨_, rfl, fun h => absurd h h0, fun _ => rfl⟩, grown_below _ b2⟩

end Go.Proofs.YtjhbfkckkinfjaaDoor
