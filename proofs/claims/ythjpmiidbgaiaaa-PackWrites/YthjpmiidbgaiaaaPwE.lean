/- The document's Pack: its pure half and its appends (for PackWrites). -/
import Derived.Test.YthjpmiidbgaiaaaPwD
import Derived.Laws.OwnMore
import Derived.Lib.AppendStr
namespace Go.Proofs.Ythjpmiidbgaiaaa
open Go.RowKit Go.Maps

/-- A place of the chain as the document holds it. -/
def cvI : Option Nat → Int
  | some p => (p : Int)
  | none => -1
theorem pvF_cv (s : List UInt8) (j : Nat) : pvF s j = cvI (prv s j) := by
  unfold pvF cvI
  cases prv s j <;> rfl
theorem prv_some {s : List UInt8} {i p : Nat} (h : prv s i = some p) : p < i ∧ p + 1 < s.length :=
  ⟨(lastTwo_some h).1, (lastTwo_some h).2.1⟩
theorem pkGo_tail (s : List UInt8) : ∀ (f i p : Nat), s.length - i ≤ f → ¬ i + 4 ≤ s.length → pkGo s f i p = plT (s.length + 1) (cutL s p s.length) := by
  intro f
  induction f with
  | zero => intro i p h _; exact pkGo_end s 0 i p (by omega)
  | succ f ih =>
    intro i p h h4
    by_cases hi : i < s.length
    · rw [pkGo_none s f i p hi (by unfold findB; rw [if_neg h4])]
      exact ih (i + 1) p (by omega) (by omega)
    · exact pkGo_end s _ i p hi
theorem cutL_le (s : List UInt8) (p i : Nat) : (cutL s p i).length ≤ s.length := by
  unfold cutL
  rw [List.length_take, List.length_drop]
  omega
theorem plT_cut (s : List UInt8) (p i : Nat) : plT ((cutL s p i).length + 1) (cutL s p i) = plT (s.length + 1) (cutL s p i) :=
  plT_fuel _ _ _ (by omega) (by have := cutL_le s p i; omega)

/-- v holds the bytes l, and the call itself made it. -/
def BB (w : World) (B : Nat) (v : Value) (l : List UInt8) : Prop := Buf w B v l.length (fun j => .int .u8 (bt (ba l) j))

theorem bt_left (a b : List UInt8) (j : Nat) (h : j < a.length) : bt (ba (a ++ b)) j = bt (ba a) j := by
  rw [bt_get _ _ (by rw [List.length_append]; omega), bt_get _ _ h, List.getD_eq_getElem?_getD, List.getD_eq_getElem?_getD, List.getElem?_append_left h]
theorem bt_right (a b : List UInt8) (j : Nat) (h : j < b.length) : bt (ba (a ++ b)) (a.length + j) = bt (ba b) j := by
  rw [bt_get _ _ (by rw [List.length_append]; omega), bt_get _ _ h, List.getD_eq_getElem?_getD, List.getD_eq_getElem?_getD, List.getElem?_append_right (by omega), Nat.add_sub_cancel_left]
theorem bcell (l : List UInt8) (j : Nat) (h : j < l.length) : (Lib.byteCells l)[j]? = some (.int .u8 (bt (ba l) j)) := by
  rw [bt_get _ _ h, List.getD_eq_getElem?_getD, List.getElem?_eq_getElem h]
  unfold Lib.byteCells
  rw [List.getElem?_map, List.getElem?_eq_getElem h]
  rfl
theorem bcell_len (l : List UInt8) : (Lib.byteCells l).length = l.length := by simp [Lib.byteCells]
theorem szS (w : World) (b o : Nat) (vs : List Value) : (w.setCells b o vs).heap.size = w.heap.size := by
  induction vs generalizing o w with
  | nil => rfl
  | cons v vs ih => exact (ih _ (o + 1)).trans (World.size_setCell _ _ _)
theorem gbS (w : World) (b o : Nat) (vs : List Value) : w.grownBy (w.setCells b o vs) (some b) := by
  induction vs generalizing o w with
  | nil => exact ⟨rfl, rfl, rfl, Nat.le_refl _, fun _ _ _ => rfl⟩
  | cons v vs ih =>
    have h := ih (w.setCell ⟨b, o, none⟩ v) (o + 1)
    refine ⟨h.os, h.tape, h.output, by have := h.size; rw [World.size_setCell] at this; exact this, fun k hk hne => ?_⟩
    exact (h.block k (by simpa using hk) hne).trans (Below.heap_setCell w _ _ k (fun e => hne (congrArg some e)))

/-- Bytes that lie anywhere, put to a slice of bytes. -/
theorem app_bb (w : World) (B : Nat) (v : Value) (l : List UInt8) (O : BB w B v l) (ad : Addr) (c : Nat) (k : List UInt8) (hk : 0 < k.length) (hnews : ∀ j u, (Lib.byteCells k)[j]? = some u → w.cell? (ad.add j) = some u) (hn : l.length + k.length ≤ 1073741824) (hbase : B ≤ w.heap.size) :
    ∃ v' w', (Builtin.append_ #[45, 45] 45 #[v, .slice (some ad) k.length c]).run Try.prog w = .ok v' w' ∧ BB w' B v' (l ++ k) ∧ w.grownBy w' v.ownBlock := by
  obtain ⟨i, hi, hz, hsize, hby⟩ := info_parts infoU8
  have ht := undTB
  have hsl := bcell_len k
  have hl : (Lib.byteCells k).length = k.length * i.size := by rw [hsl, hsize, Nat.mul_one]
  have h1 : ∀ u ∈ Lib.byteCells k, u.oneCell' = true := by intro u hu; simp [Lib.byteCells] at hu; obtain ⟨b, -, rfl⟩ := hu; rfl
  have grown : ∀ (old : Nat) (olds : List Value) (C : Array Value), C = olds.toArray ++ (Lib.byteCells k).toArray ++ Builtin.zeroCells (Value.int .u8 0).cells (grownCap w (l.length + k.length) old 5 - (l.length + k.length)) → olds.length = l.length → (∀ j, j < l.length → olds[j]? = some (.int .u8 (bt (ba l) j))) →
      BB (w.drew.alloc (.cells C 5)) B (.slice (some ⟨w.heap.size, 0, none⟩) (l.length + k.length) (grownCap w (l.length + k.length) old 5)) (l ++ k) := by
    intro old olds C hC ho hOF
    have hge := grownCap_ge w (l.length + k.length) old 5
    have hcm : grownCap w (l.length + k.length) old 5 ≤ maxLen := grownCap_le_maxLen w (l.length + k.length) old 5 (by unfold maxLen; omega)
    have hcell : ∀ j, (w.drew.alloc (.cells C 5)).cell? ⟨w.heap.size, j, none⟩ = C[j]? := fun j => World.cell?_alloc_new w.drew _ _ _
    unfold BB
    rw [List.length_append]
    refine .inr ⟨w.heap.size, _, rfl, hbase, by simp, hge, hcm, fun j hj => ?_, fun j hj => ⟨?_, World.frozen?_alloc_new w.drew _ _ _⟩⟩
    · rw [hcell, hC, Array.getElem?_append_left (by simp [ho, hsl]; omega)]
      by_cases hjn : j < l.length
      · rw [Array.getElem?_append_left (by simp [ho]; omega)]
        show olds.toArray[j]? = some (.int .u8 (bt (ba (l ++ k)) j))
        rw [bt_left _ _ _ hjn]
        simpa using hOF j hjn
      · rw [Array.getElem?_append_right (by simp [ho]; omega)]
        simp only [List.size_toArray, ho, List.getElem?_toArray]
        rw [bcell k (j - l.length) (by omega), ← bt_right l k (j - l.length) (by omega), show l.length + (j - l.length) = j by omega]
    · rw [hcell, hC]
      have : j < (olds.toArray ++ (Lib.byteCells k).toArray ++ Builtin.zeroCells (Value.int .u8 0).cells (grownCap w (l.length + k.length) old 5 - (l.length + k.length))).size := by
        simp only [Array.size_append, List.size_toArray, size_zeroCells, ho, hsl]
        show j < l.length + k.length + (grownCap w (l.length + k.length) old 5 - (l.length + k.length)) * 1
        omega
      rw [Array.getElem?_eq_getElem this]; rfl
  have gb : ∀ (cs : Array Value) (row : Option Nat), w.grownBy (w.drew.alloc (.cells cs 5)) row := fun cs row => ⟨rfl, rfl, rfl, by simp, fun k hk _ => Below.heap_alloc w.drew _ k hk⟩
  rcases O with ⟨rfl, h0⟩ | ⟨g, cap, rfl, hb, hg, hnc, hcm, hc, hf⟩
  · have hr := run_append_nil (P := Try.prog) w 45 45 5 i (.int .u8 0) ht hi hz ad k.length c (Lib.byteCells k) hl hnews (by omega) (by omega) (by rw [hby]; omega)
    refine ⟨_, _, hr, ?_, gb _ _⟩
    have := grown 0 [] _ rfl (by simp [h0]) (fun j hj => by omega)
    simpa [h0] using this
  · by_cases hroom : l.length + k.length ≤ cap
    · have hff := run_firstCells_some (P := Try.prog) w i.size k.length ad k.length c (Lib.byteCells k) hl hnews
      have hst := run_storeCells_cells (P := Try.prog) g (l.length * i.size) (Lib.byteCells k) 0 w (fun j hj => by
          rw [hsl] at hj
          rw [hsize, Nat.mul_one]
          exact (hf (l.length + j) (by omega)).1) (fun j hj => by
          rw [hsl] at hj
          rw [hsize, Nat.mul_one]
          exact (hf (l.length + j) (by omega)).2) h1
      have hr : (Builtin.append_ #[45, 45] 45 #[.slice (some ⟨g, 0, none⟩) l.length cap, .slice (some ad) k.length c]).run Try.prog w = .ok (.slice (some ⟨g, 0, none⟩) (l.length + k.length) cap) (w.setCells g l.length (Lib.byteCells k)) := by
        simp only [Nat.add_zero, hsize, Nat.mul_one] at hst hff ⊢
        simp [Builtin.append_, run_underlying ht, sizeOf, typeInfo, hi, hsize, Builtin.lenOf, hroom, hff, Addr.add_lit, hst]
      have hin := World.cell?_setCells_in g (Lib.byteCells k) l.length w (fun j hj => by rw [hsl] at hj; exact (hf (l.length + j) (by omega)).1)
      have hout : ∀ j, (j < l.length ∨ l.length + k.length ≤ j) → (w.setCells g l.length (Lib.byteCells k)).cell? ⟨g, j, none⟩ = w.cell? ⟨g, j, none⟩ := fun j hj => World.cell?_setCells_out g _ _ w _ (fun _ _ => by rw [hsl]; exact hj)
      refine ⟨_, _, hr, ?_, gbS w g l.length (Lib.byteCells k)⟩
      unfold BB
      rw [List.length_append]
      refine .inr ⟨g, cap, rfl, hb, by rw [szS]; exact hg, hroom, hcm, fun j hj => ?_, fun j hj => ?_⟩
      · by_cases hjn : j < l.length
        · rw [hout j (.inl hjn)]
          show w.cell? ⟨g, j, none⟩ = some (.int .u8 (bt (ba (l ++ k)) j))
          rw [bt_left _ _ _ hjn]; exact hc j hjn
        · have h1 := hin (j - l.length) (by rw [hsl]; omega)
          rw [show l.length + (j - l.length) = j by omega] at h1
          rw [h1]
          have h2 := bcell k (j - l.length) (by omega)
          rw [List.getElem?_eq_getElem (by rw [hsl]; omega)] at h2
          rw [Option.some.inj h2, ← bt_right l k (j - l.length) (by omega), show l.length + (j - l.length) = j by omega]
      · rw [World.frozen?_setCells]
        refine ⟨?_, (hf j hj).2⟩
        by_cases hjn : j < l.length ∨ l.length + k.length ≤ j
        · rw [hout j hjn]; exact (hf j hj).1
        · have h1 := hin (j - l.length) (by rw [hsl]; omega)
          rw [show l.length + (j - l.length) = j by omega] at h1
          rw [h1]; rfl
    · have hr := run_append_grow (P := Try.prog) w 45 45 5 i (.int .u8 0) ht hi hz ⟨g, 0, none⟩ l.length cap (Lib.byteCells l) (by rw [bcell_len, hsize, Nat.mul_one]) (fun j u hj => by
          have hjl : j < l.length := by rw [← bcell_len l]; exact (List.getElem?_eq_some_iff.mp hj).1
          rw [bcell l j hjl] at hj
          injection hj with hj
          subst hj
          have := hc j hjl
          unfold Addr.add
          split
          · rename_i h0; subst h0; exact this
          · simpa using this) ad k.length c (Lib.byteCells k) hl hnews (by omega) (by omega) (by rw [hby]; exact growslice_fits (by omega) (by omega))
      exact ⟨_, _, hr, grown cap _ _ rfl (bcell_len l) (fun j hj => bcell l j hj), gb _ _⟩

theorem BB.shape {w : World} {B : Nat} {v : Value} {l : List UInt8} (h : BB w B v l) : ∃ p c, v = .slice p l.length c := by
  rcases h with ⟨rfl, e⟩ | ⟨k, c, rfl, _⟩
  · exact ⟨none, 0, by rw [e]⟩
  · exact ⟨_, _, rfl⟩
/-- A row put to it. -/
theorem row_row {w : World} {B B2 : Nat} {v r : Value} {out l : List UInt8} (h : BB w B v out) (h2 : w.ownsRow B2 5 1 r l.length (Lib.byteCells l)) (hB : B ≤ w.heap.size) (hl : out.length + l.length ≤ 1073741824) :
    ∃ p c w', (Builtin.append_ #[45, 45] 45 #[v, r]).run Try.prog w = .ok (.slice p (out ++ l).length c) w' ∧ BB w' B (.slice p (out ++ l).length c) (out ++ l) ∧ w.grownBy w' v.ownBlock := by
  obtain ⟨i0, hi, hz0, hz1, hz2⟩ := info_parts infoU8
  by_cases e : l.length = 0
  · have el : l = [] := List.eq_nil_of_length_eq_zero e
    subst el
    rw [List.append_nil]
    obtain ⟨p, c, rfl⟩ := h.shape
    refine ⟨p, c, w, ?_, h, ⟨rfl, rfl, rfl, Nat.le_refl _, fun _ _ _ => rfl⟩⟩
    have hoc : out.length ≤ c := by
      rcases h with ⟨hv, h0⟩ | ⟨k, c', hv, _, _, hn, _⟩
      · rw [h0]; exact Nat.zero_le _
      · injection hv with _ _ hc; omega
    rcases h2.2 with ⟨rfl, _⟩ | ⟨g, cap, cur, rfl, _⟩ <;> cases p <;> simp [Builtin.append_, run_underlying undTB, sizeOf, typeInfo, hi, Builtin.lenOf, Builtin.firstCells, loadCells, loadCellsFrom, hoc, storeCells]
  · rcases h2.2 with ⟨rfl, e'⟩ | ⟨g, cap, cur, rfl, hbg, hg, hnc, hcm, hcs, htake⟩
    · exact absurd e' e
    · obtain ⟨v', w2, hr, hown', hgrow⟩ := app_bb w B v out h ⟨g, 0, none⟩ cap l (by omega) (fun j u hj => by
          have hjl : j < l.length * 1 := by
            rw [← h2.1]
            exact (List.getElem?_eq_some_iff.mp hj).1
          rw [show (⟨g, 0, none⟩ : Addr).add j = ⟨g, j, none⟩ by simp [Addr.add]; exact fun h => h.symm, h2.cellAt j hjl]
          exact hj) hl hB
      obtain ⟨p, c, rfl⟩ := hown'.shape
      exact ⟨p, c, w2, hr, hown', hgrow⟩
/-- Three bytes put to it. -/
theorem row_three {w : World} {B : Nat} {v : Value} {out : List UInt8} (h : BB w B v out) (hB : B ≤ w.heap.size) (a b c : UInt8) (hl : out.length ≤ 1073741821) :
    ∃ p c' w', (Builtin.append_ #[45, 45] 45 #[v, .slice (some ⟨w.heap.size, 0, none⟩) 3 3]).run Try.prog (w.alloc (.cells #[.int .u8 (a.toNat : Int), .int .u8 (b.toNat : Int), .int .u8 (c.toNat : Int)] 5)) = .ok (.slice p (out ++ [a, b, c]).length c') w' ∧ BB w' B (.slice p (out ++ [a, b, c]).length c') (out ++ [a, b, c]) ∧ w.grownBy w' v.ownBlock := by
  obtain ⟨p, c', w', h1, h2, h3⟩ := row_row (w := w.alloc (.cells #[.int .u8 (a.toNat : Int), .int .u8 (b.toNat : Int), .int .u8 (c.toNat : Int)] 5)) (r := .slice (some ⟨w.heap.size, 0, none⟩) 3 3) (l := [a, b, c]) (Buf.alloc h _) (World.ownsRow_lit w _ 3 (base := w.heap.size) (Nat.le_refl _) (by unfold maxLen; omega) rfl) (by rw [World.size_alloc]; omega) (by show out.length + 3 ≤ _; omega)
  exact ⟨p, c', w', h1, h2, (World.grownBy_alloc w _ _).trans h3⟩
/-- Its bytes, as a string. -/
theorem BB.str {w : World} {B : Nat} {v : Value} {l : List UInt8} (h : BB w B v l) : (convert 45 9 v).run Try.prog w = .ok (.string (ba l)) w := by
  rcases h with ⟨rfl, h0⟩ | ⟨k, cap, rfl, _, _, _, _, hc, hf⟩
  · have e : l = [] := List.eq_nil_of_length_eq_zero h0
    rw [e]
    exact run_convert_bytes_nil w 45 5 Try.underlying45 Try.underlying5 0 0 9 Try.underlying9
  · have r := run_string_row (P := Try.prog) (src := 45) (dst := 9) (c := cap) Try.underlying45 Try.underlying5 Try.underlying9 (f := bt (ba l)) (g := k) (n := l.length) ⟨hc, fun j hj => (hf j (by omega)).2⟩
    rw [r, ← ba_size, strFn_bt]
/-- The bytes of a string. -/
theorem BB.conv (w : World) (l : List UInt8) (B : Nat) (hB : B ≤ w.heap.size) (hl : l.length ≤ 1073741824) : ∃ c w', (convert 9 45 (.string (ba l))).run Try.prog w = .ok (.slice (some ⟨w.heap.size, 0, none⟩) l.length c) w' ∧ BB w' B (.slice (some ⟨w.heap.size, 0, none⟩) l.length c) l ∧ Below w.heap.size w w' := by
  have h0 := run_bytes_of_string (P := Try.prog) w 9 45 5 (ba l) Try.underlying9 Try.underlying45 Try.underlying5
  have h1 := Buf.bytes w 5 (ba l) B hB (by rw [ba_size]; omega)
  rw [ba_size] at h0 h1
  exact ⟨_, _, h0, h1, ((Below.refl _ _).drew).alloc (Nat.le_refl _) _⟩

end Go.Proofs.Ythjpmiidbgaiaaa
