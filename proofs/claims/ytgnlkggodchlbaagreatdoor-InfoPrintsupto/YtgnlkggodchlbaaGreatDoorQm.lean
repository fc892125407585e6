/- Gathered: InZ Ap LtA LtB LtC LtD. -/
import Derived.Deep.OwnRows
import Derived.Test.YtgnlkggodchlbaaGreatDoorQa
import Derived.Test.YtgnlkggodchlbaaGreatDoorQb
import Derived.Test.YtgnlkggodchlbaaGreatDoorQl
/- A slice of texts gathered by append; info.readSign; walked. -/
namespace Go.Proofs.YtgnlkggodchlbaaGreatDoor
open Go.RowKit Go.Shelf

/-- v is a slice of these texts, which the call itself made (blocks from B on). -/
def OwnS (w : World) (B : Nat) (v : Value) (L : List ByteArray) : Prop := w.ownsRow B 9 1 v L.length (L.map Value.string)
theorem OwnS.nil (w : World) (B : Nat) : OwnS w B (.slice none 0 0) [] := World.ownsRow_nil _ _ _ _
theorem OwnS.alloc {w : World} {B : Nat} {v : Value} {L : List ByteArray} (h : OwnS w B v L) (o : Obj) : OwnS (w.alloc o) B v L := World.ownsRow.alloc h o
theorem OwnS.shape {w : World} {B : Nat} {v : Value} {L : List ByteArray} (h : OwnS w B v L) : ∃ x c, v = .slice x L.length c ∧ L.length ≤ c ∧ SIs w x L.length (Sq.nth L) := by
  obtain ⟨_, ⟨h1, h2⟩ | ⟨g, cap, cur, hv, hb, hg, hnc, _, _, htake⟩⟩ := h
  · rw [h2]
    exact ⟨none, 0, h1, Nat.le_refl _, fun i hi => absurd hi (by omega)⟩
  · refine ⟨_, cap, hv, hnc, fun j hj => ⟨_, rfl, ?_⟩⟩
    rw [Addr.add_lit, Nat.zero_add, cell_of_row w g j cur 9 (0, 0) hg]
    have h2 : (cur.toList.take (L.length * 1))[j]? = some (Value.string (Sq.nth L j)) := by
      rw [htake]; simp [hj, Sq.nth]
    rw [List.getElem?_take] at h2
    split at h2
    · simpa using h2
    · cases h2
/-- Another world in which the slice's own block is as it was. -/
theorem OwnS.same {w w' : World} {B : Nat} {v : Value} {L : List ByteArray} (h : OwnS w B v L) (e : ∀ g, v.ownBlock = some g → w'.heap[g]? = w.heap[g]?) : OwnS w' B v L := by
  obtain ⟨h0, ⟨h1, h2⟩ | ⟨g, cap, cur, hv, hb, hg, hr⟩⟩ := h
  · exact ⟨h0, Or.inl ⟨h1, h2⟩⟩
  · exact ⟨h0, Or.inr ⟨g, cap, cur, hv, hb, (e g (by rw [hv]; rfl)).trans hg, hr⟩⟩
theorem OwnS.ge {w : World} {B : Nat} {v : Value} {L : List ByteArray} (h : OwnS w B v L) {g : Nat} (e : v.ownBlock = some g) : B ≤ g ∧ g < w.heap.size := by
  obtain ⟨h0, ⟨h1, h2⟩ | ⟨g', cap, cur, hv, hb, hg, hr⟩⟩ := h
  · rw [h1] at e; cases e
  · rw [hv] at e
    cases e
    exact ⟨hb, (Array.getElem?_eq_some_iff.1 hg).1⟩

/-- append(s, y), s the call's own. -/
theorem wpList_append_s (w : World) {ops : Array Oper} {rest : List Oper} {o : Oper} {a : Act} {Q : Exit → Act → World → Prop} (hgd : o.guard = none) (s x : Operand)
    (ho : o.op = .call { callee := .builtin .append, args := #[s, x], argTypes := #[24, 24] })
    (B : Nat) (v : Value) (L : List ByteArray) (hs : a.eval s = v) (hown : OwnS w B v L)
    (g c : Nat) (y : ByteArray) (hx : a.eval x = .slice (some ⟨g, 0, none⟩) 1 c) (hc : w.cell? ⟨g, 0, none⟩ = some (.string y)) (hn : L.length ≤ 8796093022000) (hbase : B ≤ w.heap.size)
    (h : ∀ v' w', OwnS w' B v' (L ++ [y]) → w.grownBy w' v.ownBlock → wpList Tryz.prog ops Q rest (a.put o.dst v') w') : wpList Tryz.prog ops Q (o :: rest) a w := by
  obtain ⟨i0, hi, hz0, hz1, hz2⟩ := info_parts Sq.info_str
  refine wpList_append_own w hgd s x 24 ho B 9 i0 (.string ByteArray.empty) 1 16 Tryz.underlying24 hi hz0 hz1 hz2 rfl (by decide) v L.length _ hs hown ⟨g, 0, none⟩ 1 c [.string y] hx rfl ?_ ?_ (by unfold maxLen; omega) ?_ hbase ?_
  · intro j u hj
    match j, hj with
    | 0, hj => simp at hj; subst hj; simpa [Addr.add] using hc
  · intro u hu; simp at hu; subst hu; rfl
  · omega
  · intro v' w' h1 h2 _
    refine h v' w' ?_ h2
    unfold OwnS
    rw [List.length_append, List.map_append]
    exact h1

theorem grown_below {w w' : World} (r : Option Nat) (b : Below w.heap.size w w') : w.grownBy w' r := ⟨b.os, b.tape, b.output, b.size, fun k hk _ => b.block k hk⟩
theorem grown_trans {w w1 w2 : World} {r : Option Nat} (a : w.grownBy w1 r) (b : w1.grownBy w2 r) : w.grownBy w2 r :=
  ⟨b.os.trans a.os, b.tape.trans a.tape, b.output.trans a.output, Nat.le_trans a.size b.size, fun k hk hne => (b.block k (Nat.lt_of_lt_of_le hk a.size) hne).trans (a.block k hk hne)⟩
theorem grown_alloc (w : World) (o : Obj) (r : Option Nat) : w.grownBy (w.alloc o) r := grown_below r ((Below.refl _ _).alloc (Nat.le_refl _) _)

/-- The signature of a line; the error's number. -/
def rsS (l : ByteArray) : ByteArray := cpQ l hdS
def rsC (L : List ByteArray) (l : ByteArray) : Int := if hpQ l hdS = true then nxC (Sq.nth L) L.length (rsS l) else 150
theorem rsS_size (l : ByteArray) : (rsS l).size ≤ l.size := by
  unfold rsS cpQ
  split
  · rw [ByteArray.size_extract]; omega
  · exact Nat.le_refl _

set_option maxRecDepth 100000 in
set_option maxHeartbeats 2000000 in
theorem rdS_any (B : Nat) (v : Value) (L : List ByteArray) (l : ByteArray) (w : World) (hown : OwnS w B v L) (hB : B ≤ w.heap.size) (hn : L.length ≤ 8796093022000) (hl : l.size ≤ 140737488351232) :
    Calls Tryz.prog 44 #[v, .string l] w fun e w' => (∃ v', e = .returned (.tuple #[v', .int .i64 (rsC L l)]) ∧ (rsC L l = 0 → OwnS w' B v' (L ++ [rsS l])) ∧ (rsC L l ≠ 0 → v' = .slice none 0 0)) ∧ w.grownBy w' v.ownBlock := by
  obtain ⟨x, c, rfl, hc, hS⟩ := hown.shape
  have C0 := fun W => cutQ_any l hdS W
  have HO : Hid (OwnS w B (.slice x L.length c) L) := hown
  cases hp : hpQ l hdS
  · have hC : Hid (rsC L l = 150) := by unfold Hid rsC; rw [hp]; rfl
    rw [hp] at C0
    rw [hC.out]
    go_enter Tryz.func44, Tryz.ntmps44
    rw [show (⟨#[83, 105, 103, 110, 58, 32]⟩ : ByteArray) = hdS from rfl]
    go_wp2_with fail
    refine (C0 _).mono ?_
    rintro e w1 ⟨rfl, rfl⟩
    go_wp2
    go_ret2
    exact ⟨⟨_, rfl, fun h => absurd h (by decide), fun _ => rfl⟩, grown_below _ (Below.refl _ _)⟩
  · have hC : Hid (rsC L l = nxC (Sq.nth L) L.length (rsS l)) := by unfold Hid rsC; rw [hp]; rfl
    have hss := rsS_size l
    have C1 := ckN_any x L.length c (Sq.nth L) (rsS l) w hS (by omega) (by omega)
    rw [hp] at C0
    rw [hC.out]
    change ∀ W, Calls Tryz.prog 45 #[.string l, .string hdS] W fun e w' => e = .returned (.tuple #[.string (rsS l), .bool true]) ∧ w' = W at C0
    clear hown hS hp hss
    generalize rsS l = s at C0 C1 ⊢
    by_cases h0 : nxC (Sq.nth L) L.length s = 0
    · rw [h0] at C1 ⊢
      go_enter Tryz.func44, Tryz.ntmps44
      rw [show (⟨#[83, 105, 103, 110, 58, 32]⟩ : ByteArray) = hdS from rfl]
      go_wp2_with fail
      refine (C0 _).mono ?_
      rintro e w1 ⟨rfl, rfl⟩
      go_wp2_with fail
      refine C1.mono ?_
      rintro e w2 ⟨rfl, b2⟩
      have O2 : Hid (OwnS (w2.alloc (.cells #[.string s] 9)) B (.slice x L.length c) L) := (HO.out.same (fun g hg => b2.block g (HO.out.ge hg).2)).alloc _
      have hB2 : Hid (B ≤ w2.heap.size) := Nat.le_trans hB b2.size
      clear C0 C1
      go_wp2_with (refine wpList_append_s _ (by rfl) (.tmp 22) (.tmp 24) (by rfl) B (.slice x L.length c) L (by rfl) O2.out w2.heap.size 1 s (by rfl) (by rw [World.cell?_alloc_new]; rfl) hn (by rw [World.size_alloc]; have := hB2.out; omega) ?_; intro v' w5 O5 G5; refine Hid.out ?_)
      unfold Hid
      go_wp2
      go_ret2
      exact ⟨⟨_, rfl, fun _ => O5, fun h => absurd rfl h⟩, grown_trans (grown_trans (grown_below _ b2) (grown_alloc _ _ _)) G5⟩
    · have h0' : (nxC (Sq.nth L) L.length s != 0) = true := by rw [bne_iff_ne]; exact h0
      generalize nxC (Sq.nth L) L.length s = d at C1 h0 h0' ⊢
      go_enter Tryz.func44, Tryz.ntmps44
      rw [show (⟨#[83, 105, 103, 110, 58, 32]⟩ : ByteArray) = hdS from rfl]
      go_wp2_with fail
      refine (C0 _).mono ?_
      rintro e w1 ⟨rfl, rfl⟩
      go_wp2_with fail
      refine C1.mono ?_
      rintro e w2 ⟨rfl, b2⟩
      clear C0 C1
      go_wp2
      go_ret2
      exact ⟨⟨_, rfl, fun h => absurd h h0, fun _ => rfl⟩, grown_below _ b2⟩

end Go.Proofs.YtgnlkggodchlbaaGreatDoor
/- A slice of numbers that the call gathers by append (own text of the verifier). -/
namespace Go.Proofs.YtgnlkggodchlbaaGreatDoor
open Go.RowKit

/-- v is a slice of n numbers f 0, .. f (n-1) of kind k, which the call itself made (blocks from B on). -/
def Own (k : IntKind) (e : TypeId) (w : World) (B : Nat) (v : Value) (n : Nat) (f : Nat → Int) : Prop :=
  w.ownsRow B e 1 v n ((List.range n).map (fun i => Value.int k (f i)))

theorem Own.nil (k : IntKind) (e : TypeId) (w : World) (B : Nat) (f : Nat → Int) : Own k e w B (.slice none 0 0) 0 f := World.ownsRow_nil _ _ _ _

theorem Own.alloc {k : IntKind} {e : TypeId} {w : World} {B : Nat} {v : Value} {n : Nat} {f : Nat → Int} (h : Own k e w B v n f) (o : Obj) : Own k e (w.alloc o) B v n f := World.ownsRow.alloc h o

theorem Own.open {k : IntKind} {e : TypeId} {w : World} {B : Nat} {v : Value} {n : Nat} {f : Nat → Int} (h : Own k e w B v n f) (hn : 0 < n) :
    ∃ g cap, v = .slice (some ⟨g, 0, none⟩) n cap ∧ B ≤ g ∧ g < w.heap.size ∧ n ≤ cap ∧ Row k w g n f := by
  obtain ⟨_, h | ⟨g, cap, cur, hv, hb, hg, hnc, _, _, htake⟩⟩ := h
  · omega
  · refine ⟨g, cap, hv, hb, (Array.getElem?_eq_some_iff.1 hg).1, hnc, ⟨fun j hj => ?_, fun j hj => ?_⟩⟩
    · rw [cell_of_row w g j cur e (0, 0) hg]
      have h2 : (cur.toList.take (n * 1))[j]? = some (Value.int k (f j)) := by rw [htake]; simp [hj]
      rw [List.getElem?_take] at h2
      split at h2
      · simpa using h2
      · cases h2
    · simp [World.frozen?, hg]

/-- append(s, y), s the call's own. -/
theorem wpList_append_one {P : Program} (w : World) {ops : Array Oper} {rest : List Oper} {o : Oper} {a : Act} {Q : Exit → Act → World → Prop} (hgd : o.guard = none) (s x : Operand) (t : TypeId)
    (ho : o.op = .call { callee := .builtin .append, args := #[s, x], argTypes := #[t, t] })
    (B : Nat) (e : TypeId) (i : TypeInfo) (k : IntKind) (bytes : Nat) (ht : P.underlying t = some (.slice e)) (hi : P.info? e = some i) (hz : i.zero = some (.int k 0))
    (hsize : i.size = 1) (hby : i.bytes = bytes) (hb8 : bytes ≤ 8)
    (v : Value) (n : Nat) (f : Nat → Int) (hs : a.eval s = v) (hown : Own k e w B v n f)
    (g c : Nat) (y : Int) (hx : a.eval x = .slice (some ⟨g, 0, none⟩) 1 c) (hc : w.cell? ⟨g, 0, none⟩ = some (.int k y)) (hy : y = f n) (hn : n ≤ 17592186044415) (hbase : B ≤ w.heap.size)
    (h : ∀ v' w', Own k e w' B v' (n + 1) f → Below B w w' → w.grownBy w' v.ownBlock → wpList P ops Q rest (a.put o.dst v') w') : wpList P ops Q (o :: rest) a w := by
  refine wpList_append_own w hgd s x t ho B e i (.int k 0) 1 bytes ht hi hz hsize hby rfl (by decide) v n _ hs hown ⟨g, 0, none⟩ 1 c [.int k y] hx rfl ?_ ?_ (by unfold maxLen; omega) ?_ hbase ?_
  · intro j u hj
    match j, hj with
    | 0, hj => simp at hj; subst hj; simpa [Addr.add] using hc
  · intro u hu; simp at hu; subst hu; rfl
  · have : (n + 1) * bytes ≤ 17592186044416 * 8 := Nat.mul_le_mul (by omega) hb8
    omega
  · intro v' w' h1 h2 _
    refine h v' w' ?_ ((Below.refl B w).grown h2 hbase (fun k hk => (World.ownsRow.lt hown k hk).1)) h2
    unfold Own
    rw [List.range_succ, List.map_append, List.map_cons, List.map_nil, ← hy]
    exact h1

#print axioms wpList_append_one
end Go.Proofs.YtgnlkggodchlbaaGreatDoor
/- The bits of a text. -/
namespace Go.Proofs.YtgnlkggodchlbaaGreatDoor
open Go.RowKit
theorem Tryz.hinfo3 : (Tryz.prog.info? 3).map (fun i => (i.zero, i.size, i.bytes)) = some (some (.int .i64 0), 1, 8) := by kernel_rfl

/-- Bit j of a text, the lowest of the first byte first. -/
def bitF (s : ByteArray) (j : Nat) : Int := bt s (j / 8) / 2 ^ (j % 8) % 2

theorem bitF_at (s : ByteArray) (i k : Nat) (hk : k < 8) (y : Int) (hy : y = bt s i / 2 ^ k) : y % 2 = bitF s (8 * i + k) := by
  unfold bitF
  rw [show (8 * i + k) / 8 = i from by omega, show (8 * i + k) % 8 = k from by omega, hy]

theorem half_at (a : Int) (k : Nat) (y : Int) (hy : y = a / 2 ^ k) : y / 2 = a / 2 ^ (k + 1) := by
  rw [hy, Int.pow_succ, Int.ediv_ediv_of_nonneg (Int.pow_nonneg (by omega))]

end Go.Proofs.YtgnlkggodchlbaaGreatDoor
/- What the document's own bits answers. -/
namespace Go.Proofs.YtgnlkggodchlbaaGreatDoor
open Go.RowKit
set_option maxHeartbeats 1000000 in
set_option maxRecDepth 100000 in
theorem bits_any (s : ByteArray) (w : World) (hs : s.size ≤ 1048576) :
    Calls Tryz.prog 37 #[.string s] w fun e w' => ∃ v, e = .returned v ∧ Own .i64 3 w' w.heap.size v (8 * s.size) (bitF s) ∧ (s.size = 0 → v = .slice none 0 0) ∧ Below w.heap.size w w' := by
  obtain ⟨i0, hi, hz0, hz1, hz2⟩ := info_parts Tryz.hinfo3
  have hb := get_bt s
  go_enter Tryz.func37, Tryz.ntmps37
  go_wp2
  go_loopw [3, 4] (fun v i wr => ∃ k : Nat, k ≤ s.size ∧ i = .int .i64 k ∧ Own .i64 3 wr w.heap.size v (8 * k) (bitF s) ∧ (k = 0 → v = .slice none 0 0) ∧ Below w.heap.size w wr) (fun _ i _ => s.size - (intOf i).toNat)
  case atStart => exact ⟨0, Nat.zero_le _, rfl, Own.nil _ _ _ _ _, fun _ => rfl, Below.refl _ _⟩
  case round =>
    obtain ⟨k, hk, rfl, O, hnil, B⟩ := hrel
    by_cases hlt : k < s.size
    · have hbd := bt_bd s k
      clear hnil
      go_wp2
      go_loopw [3, 5, 6] (fun v x j wi => ∃ (d : Nat) (y : Int), d ≤ 8 ∧ j = .int .i64 d ∧ x = .int .i64 y ∧ 0 ≤ y ∧ y < 256 ∧ y = bt s k / 2 ^ d ∧ Own .i64 3 wi w.heap.size v (8 * k + d) (bitF s) ∧ Below w.heap.size w wi) (fun _ _ j _ => 8 - (intOf j).toNat)
      case atStart => exact ⟨0, bt s k, by omega, rfl, rfl, hbd.1, hbd.2, by simp, O, B⟩
      case round =>
        obtain ⟨d, y, hd, rfl, rfl, hy0, hy1, hy, O, B⟩ := hrel
        have HY : Hid (y = bt s k / 2 ^ d) := hy
        clear hy hbd
        by_cases hdl : d < 8
        · have hbit : Hid (y % 2 = bitF s (8 * k + d)) := bitF_at s k d hdl y HY.out
          have hhalf : Hid (y / 2 = bt s k / 2 ^ (d + 1)) := half_at _ d y HY.out
          have hsz := B.size
          go_wp2_with (at_builtin; refine wpList_append_one _ rfl _ _ 74 rfl w.heap.size 3 i0 .i64 8 Tryz.underlying74 hi hz0 hz1 hz2 (by decide) _ (8 * k + d) (bitF s) rfl (O.alloc _) _ 1 (y % 2) rfl ?c1 hbit.out (by omega) (by simp; omega) ?_)
          case c1 => simp
          intro v' w1 O' b' _
          have B' : Below w.heap.size w w1 := (B.alloc hsz _).trans b'
          clear O B b'
          go_wp2
          go_roundw
          case rel => exact ⟨d + 1, y / 2, by omega, by go_num, by go_num, by omega, by omega, hhalf.out, O', B'⟩
          case measure => simp [intOf]; omega
        · obtain rfl : d = 8 := by omega
          go_wp2
          go_roundw
          case rel => exact ⟨k + 1, by omega, by go_num, by rw [show 8 * (k + 1) = 8 * k + 8 from by omega]; exact O, fun h => absurd h (by omega), B⟩
          case measure => simp [intOf]; omega
    · obtain rfl : k = s.size := by omega
      go_wp2
      go_ret
      exact ⟨_, rfl, O, hnil, B⟩
#print axioms bits_any
end Go.Proofs.YtgnlkggodchlbaaGreatDoor
/- What the document's own Base32 answers: as the program's. -/
namespace Go.Proofs.YtgnlkggodchlbaaGreatDoor
open Go.RowKit

theorem bitF_bd (s : ByteArray) (j : Nat) : 0 ≤ bitF s j ∧ bitF s j < 2 := by unfold bitF; omega

theorem bitF_zero (s : ByteArray) (j : Nat) (h : 8 * s.size ≤ j) : bitF s j = 0 := by
  unfold bitF bt
  rw [dif_neg (by omega)]
  simp

theorem bitF_two (s : ByteArray) (q m : Nat) (hm : m < 16) : bitF s (8 * q + m) = (bt s q + 256 * bt s (q + 1)) / 2 ^ m % 2 := by
  unfold bitF
  have h0 := bt_bd s q
  have h1 := bt_bd s (q + 1)
  by_cases h : m < 8
  · rw [show (8 * q + m) / 8 = q from by omega, show (8 * q + m) % 8 = m from by omega]
    generalize bt s q = a at h0 ⊢
    generalize bt s (q + 1) = b at h1 ⊢
    rcases (show m = 0 ∨ m = 1 ∨ m = 2 ∨ m = 3 ∨ m = 4 ∨ m = 5 ∨ m = 6 ∨ m = 7 from by omega) with rfl | rfl | rfl | rfl | rfl | rfl | rfl | rfl
    all_goals omega
  · rw [show (8 * q + m) / 8 = q + 1 from by omega, show (8 * q + m) % 8 = m - 8 from by omega]
    generalize bt s q = a at h0 ⊢
    generalize bt s (q + 1) = b at h1 ⊢
    rcases (show m = 8 ∨ m = 9 ∨ m = 10 ∨ m = 11 ∨ m = 12 ∨ m = 13 ∨ m = 14 ∨ m = 15 from by omega) with rfl | rfl | rfl | rfl | rfl | rfl | rfl | rfl
    all_goals simp only [Nat.reduceSub]
    all_goals omega

/-- The letter's value when c of its five bits have been taken, the highest first. -/
def accF (s : ByteArray) (at_ : Nat) : Nat → Int
  | 0 => 0
  | c + 1 => accF s at_ c * 2 + bitF s (at_ + (4 - c))

theorem accF_bd (s : ByteArray) (at_ c : Nat) (h : c ≤ 5) : 0 ≤ accF s at_ c ∧ accF s at_ c < 32 := by
  have h0 := bitF_bd s (at_ + 4)
  have h1 := bitF_bd s (at_ + 3)
  have h2 := bitF_bd s (at_ + 2)
  have h3 := bitF_bd s (at_ + 1)
  have h4 := bitF_bd s (at_ + 0)
  rcases (show c = 0 ∨ c = 1 ∨ c = 2 ∨ c = 3 ∨ c = 4 ∨ c = 5 from by omega) with rfl | rfl | rfl | rfl | rfl | rfl
  all_goals simp only [accF, Nat.reduceSub]
  all_goals omega

theorem accF_fb (s : ByteArray) (k : Nat) : accF s k 5 = fb s k := by
  have e : ∀ j, j < 5 → bitF s (k + j) = (bt s (k / 8) + 256 * bt s (k / 8 + 1)) / 2 ^ (k % 8 + j) % 2 := fun j hj => by
    rw [← bitF_two s (k / 8) (k % 8 + j) (by omega)]
    congr 1
    omega
  simp only [accF, Nat.reduceSub]
  rw [e 0 (by omega), e 1 (by omega), e 2 (by omega), e 3 (by omega), e 4 (by omega)]
  unfold fb
  have h0 := bt_bd s (k / 8)
  have h1 := bt_bd s (k / 8 + 1)
  generalize bt s (k / 8) + 256 * bt s (k / 8 + 1) = X
  have hr : k % 8 < 8 := Nat.mod_lt _ (by omega)
  generalize k % 8 = r at hr ⊢
  rcases (show r = 0 ∨ r = 1 ∨ r = 2 ∨ r = 3 ∨ r = 4 ∨ r = 5 ∨ r = 6 ∨ r = 7 from by omega) with rfl | rfl | rfl | rfl | rfl | rfl | rfl | rfl
  all_goals simp only [Nat.reduceAdd]
  all_goals omega

set_option maxRecDepth 100000 in
set_option maxHeartbeats 1000000 in
theorem rb32_zero (s : ByteArray) (w : World) (hs : s.size = 0) :
    Calls Tryz.prog 22 #[.string s] w fun e w' => e = .returned (.string ⟨#[]⟩) ∧ Below w.heap.size w w' := by
  obtain ⟨i0, hi, hz0, hz1, hz2⟩ := info_parts Tryz.hinfo5
  go_enter Tryz.func22, Tryz.ntmps22
  go_wp2_with fail
  refine (bits_any s w (by omega)).mono ?_
  rintro e w1 ⟨v, rfl, -, hv, B⟩
  obtain rfl := hv hs
  clear hs
  go_wp2
  go_loopw [4, 5] (fun v i wr => v = .slice none 0 0 ∧ i = .int .i64 0 ∧ wr = w1) (fun _ _ _ => 0)
  case atStart => exact ⟨rfl, rfl, rfl⟩
  case round =>
    obtain ⟨rfl, rfl, rfl⟩ := hrel
    go_wp2_with fail
    rw [run_make (P := Tryz.prog) wr 43 5 i0 (.int .u8 0) Tryz.underlying43 hi hz0 .i64 .i64 _ _ (by omega) (by omega) (by rw [hz2]; omega) (by omega)]
    have R0 : Row .u8 (wr.alloc (.cells (madeCells (Value.int .u8 0).cells ((0 : Int).toNat * i0.size)) 5)) wr.heap.size 0 (fun _ => 0) := Row.made (by rw [hz1]; omega)
    have B0 : Below w.heap.size w (wr.alloc (.cells (madeCells (Value.int .u8 0).cells ((0 : Int).toNat * i0.size)) 5)) := B.alloc B.size _
    generalize wr.alloc (.cells (madeCells (Value.int .u8 0).cells ((0 : Int).toNat * i0.size)) 5) = W1 at R0 B0 ⊢
    clear hi hz0 hz1 hz2 B
    have c1 := run_string_row (P := Tryz.prog) (src := 43) (dst := 9) (c := 0) Tryz.underlying43 Tryz.underlying5 Tryz.underlying9 R0
    go_wp2
    go_loopw [9] (fun i wr => i = .int .i64 0 ∧ wr = W1) (fun _ _ => 0)
    case atStart => exact ⟨rfl, rfl⟩
    case round =>
      obtain ⟨rfl, rfl⟩ := hrel
      go_wp2
      go_ret
      exact ⟨rfl, B0⟩
#print axioms accF_fb
#print axioms rb32_zero
end Go.Proofs.YtgnlkggodchlbaaGreatDoor
/- What the document's own Base32 answers: as the program's. -/
namespace Go.Proofs.YtgnlkggodchlbaaGreatDoor
open Go.RowKit

set_option maxHeartbeats 2000000 in
set_option maxRecDepth 100000 in
theorem rb32_go (s : ByteArray) (w : World) (hs : s.size ≤ 1048576) (hp : 0 < s.size) :
    Calls Tryz.prog 22 #[.string s] w fun e w' => e = .returned (.string (b32Str s)) ∧ Below w.heap.size w w' := by
  obtain ⟨i0, hi, hz0, hz1, hz2⟩ := info_parts Tryz.hinfo5
  have hl : 5 * lf s.size ≤ 8 * s.size + 4 := by unfold lf; omega
  have hl2 : 8 * s.size ≤ 5 * lf s.size := by unfold lf; omega
  go_enter Tryz.func22, Tryz.ntmps22
  go_wp2_with fail
  refine (bits_any s w hs).mono ?_
  rintro e w1 ⟨v, rfl, O1, -, B1⟩
  obtain ⟨g, cap, rfl, hg0, hg1, hcap, RA⟩ := O1.open (by omega)
  clear O1
  have hd : Hid (b32Str s = strFn (lf s.size) (b32Fn s)) := rfl
  have hfn : Hid (∀ i, b32Fn s i = lt32 (fb s (5 * (lf s.size - 1 - i)))) := fun i => rfl
  generalize lf s.size = m at hl hl2 hd hfn
  go_wp2
  go_loopw [4, 5] (fun v i wr => ∃ k : Nat, k ≤ m ∧ i = .int .i64 (5 * (k : Int)) ∧ Own .u8 5 wr w1.heap.size v k (fun t => lt32 (fb s (5 * t))) ∧ Below w1.heap.size w1 wr) (fun _ i _ => 5 * m - (intOf i).toNat)
  case atStart => exact ⟨0, Nat.zero_le _, by simp, Own.nil _ _ _ _ _, Below.refl _ _⟩
  case round =>
    obtain ⟨k, hk, rfl, O, B⟩ := hrel
    have R := RA.below B hg1
    by_cases hlt : k < m
    · go_wp2
      go_loop [6, 7] (fun x j => ∃ c : Nat, c ≤ 5 ∧ j = .int .i64 (4 - (c : Int)) ∧ x = .int .i64 (accF s (5 * k) c)) (fun _ j => ((intOf j) + 1).toNat)
      case atStart => exact ⟨0, by omega, rfl, rfl⟩
      case round =>
        obtain ⟨c, hc, rfl, rfl⟩ := hrel
        have hy := accF_bd s (5 * k) c hc
        by_cases hc5 : c < 5
        · obtain ⟨d, hcd⟩ : ∃ d : Nat, c + d = 4 := ⟨4 - c, by omega⟩
          have hstep : Hid (accF s (5 * k) (c + 1) = accF s (5 * k) c * 2 + bitF s (5 * k + d)) := by
            unfold Hid; rw [accF, show 4 - c = d from by omega]
          rw [show (4 - (c : Int)) = (d : Int) from by omega]
          have hbb := bitF_bd s (5 * k + d)
          by_cases hin : 5 * k + d < 8 * s.size
          · have c1 := R.cell (5 * k + d) hin
            generalize accF s (5 * k) c = y at hy hstep ⊢
            generalize bitF s (5 * k + d) = z at hbb hstep c1 ⊢
            go_wp2
            go_round
            case rel => exact ⟨c + 1, by omega, by congr 1; omega, by rw [hstep.out]⟩
            case measure => simp [intOf]
          · have hz : Hid (bitF s (5 * k + d) = 0) := bitF_zero s _ (by omega)
            generalize accF s (5 * k) c = y at hy hstep ⊢
            go_wp2
            go_round
            case rel => exact ⟨c + 1, by omega, by congr 1; omega, by rw [hstep.out, hz.out, Int.add_zero]⟩
            case measure => simp [intOf]
        · obtain rfl : c = 5 := by omega
          have hd2 := get_bt ⟨#[48, 49, 50, 51, 52, 53, 54, 55, 56, 57, 97, 98, 99, 100, 102, 103, 104, 105, 106, 107, 108, 109, 110, 112, 113, 114, 115, 118, 119, 120, 121, 122]⟩
          have he : Hid (bt ⟨#[48, 49, 50, 51, 52, 53, 54, 55, 56, 57, 97, 98, 99, 100, 102, 103, 104, 105, 106, 107, 108, 109, 110, 112, 113, 114, 115, 118, 119, 120, 121, 122]⟩ (accF s (5 * k) 5).toNat = lt32 (fb s (5 * k))) := by
            unfold Hid
            rw [accF_fb]
            rfl
          generalize accF s (5 * k) 5 = y at hy he ⊢
          have hsz := B.size
          go_wp2_with (at_builtin; refine wpList_append_one _ rfl _ _ 43 rfl w1.heap.size 5 i0 .u8 1 Tryz.underlying43 hi hz0 hz1 hz2 (by decide) _ k _ rfl (O.alloc _) _ 1 _ rfl ?c1 he.out (by omega) (by simp; omega) ?_)
          intro v' w2 O' b' _
          have B' : Below w1.heap.size w1 w2 := (B.alloc hsz _).trans b'
          clear O B b' R
          go_wp2
          go_roundw
          case rel => exact ⟨k + 1, by omega, by congr 1, O', B'⟩
          case measure => simp [intOf]; omega
    · obtain rfl : k = m := by omega
      obtain ⟨gt, capt, rfl, hgt0, hgt1, hcapt, RT⟩ := O.open (by omega)
      have BW : Below w.heap.size w wr := B1.trans (B.mono B1.size)
      clear O B R
      go_wp2_with fail
      rw [run_make (P := Tryz.prog) wr 43 5 i0 (.int .u8 0) Tryz.underlying43 hi hz0 .i64 .i64 _ _ (by omega) (by omega) (by rw [hz2]; omega) (by omega)]
      have R0 : Row .u8 (wr.alloc (.cells (madeCells (Value.int .u8 0).cells ((k : Int).toNat * i0.size)) 5)) wr.heap.size k (fun _ => 0) := Row.made (by rw [hz1]; omega)
      have RT0 : Row .u8 (wr.alloc (.cells (madeCells (Value.int .u8 0).cells ((k : Int).toNat * i0.size)) 5)) gt k (fun t => lt32 (fb s (5 * t))) := RT.alloc hgt1 _
      have B0 : Below w.heap.size w (wr.alloc (.cells (madeCells (Value.int .u8 0).cells ((k : Int).toNat * i0.size)) 5)) := BW.alloc BW.size _
      have hG : w.heap.size ≤ wr.heap.size := BW.size
      generalize wr.alloc (.cells (madeCells (Value.int .u8 0).cells ((k : Int).toNat * i0.size)) 5) = W1 at R0 B0 RT0 ⊢
      rw [Int.toNat_natCast]
      clear hi hz0 hz1 hz2 RT BW RA B1
      generalize wr.heap.size = go_ at *
      go_wp2
      go_loopw [9] (fun i wq => ∃ j : Nat, j ≤ k ∧ i = .int .i64 j ∧ Row .u8 wq go_ k (fun t => if k - j ≤ t then b32Fn s t else 0) ∧ Row .u8 wq gt k (fun t => lt32 (fb s (5 * t))) ∧ Below w.heap.size w wq) (fun i _ => k - (intOf i).toNat)
      case atStart => exact ⟨0, Nat.zero_le _, rfl, R0.congr (fun j hj => by rw [if_neg (by omega)]), RT0, B0⟩
      case round =>
        obtain ⟨j, hj, rfl, R, RT, B⟩ := hrel
        by_cases hjl : j < k
        · have c1 := R.cell (k - 1 - j) (by omega)
          have f1 := R.free (k - 1 - j) (by omega)
          have c2 := RT.cell j hjl
          have he : Hid (lt32 (fb s (5 * j)) = b32Fn s (k - 1 - j)) := by
            unfold Hid
            rw [hfn.out, show k - 1 - (k - 1 - j) = j from by omega]
          go_wp2
          go_roundw
          case rel =>
            rw [he.out]
            refine ⟨j + 1, by omega, by go_num, (R.set (k - 1 - j) _ (by omega)).congr (fun t ht => ?_), RT.other _ _ (by simp; omega), B.setCell hG _⟩
            by_cases a1 : t = k - 1 - j
            · rw [if_pos a1, if_pos (by omega), a1]
            · rw [if_neg a1]
              by_cases h : k - j ≤ t
              · rw [if_pos h, if_pos (by omega)]
              · rw [if_neg h, if_neg (by omega)]
          case measure => simp [intOf]; omega
        · have c1 := run_string_row (P := Tryz.prog) (src := 43) (dst := 9) (c := k) Tryz.underlying43 Tryz.underlying5 Tryz.underlying9 R
          obtain rfl : j = k := by omega
          rw [show strFn j (fun t => if j - j ≤ t then b32Fn s t else 0) = b32Str s from by rw [hd.out]; exact strFn_congr (fun t ht => by rw [if_pos (by omega)])] at c1
          go_wp2
          go_ret
          exact ⟨rfl, B⟩

theorem rb32_any (s : ByteArray) (w : World) (hs : s.size ≤ 1048576) :
    Calls Tryz.prog 22 #[.string s] w fun e w' => e = .returned (.string (b32Str s)) ∧ Below w.heap.size w w' := by
  by_cases h : s.size = 0
  · have e : b32Str s = ⟨#[]⟩ := by unfold b32Str; rw [h]; rfl
    rw [e]
    exact rb32_zero s w h
  · exact rb32_go s w hs (by omega)
#print axioms rb32_any
end Go.Proofs.YtgnlkggodchlbaaGreatDoor
