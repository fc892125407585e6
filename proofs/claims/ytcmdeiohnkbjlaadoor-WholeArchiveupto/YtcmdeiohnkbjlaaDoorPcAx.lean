/- depottop's pieces, walked (own text of the verifier; made by mkpc.py). -/
import Derived.Test.YtcmdeiohnkbjlaaDoorNa7x
import Derived.Test.YtcmdeiohnkbjlaaDoorTvFx
namespace Go.Proofs.YtcmdeiohnkbjlaaDoor
open Go.RowKit

theorem infoSTR : (Tryd.prog.info? 9).map (fun i => (i.zero, i.size, i.bytes)) = some (some (.string ⟨#[]⟩), 1, 16) := by kernel_rfl
theorem undLSTR : Tryd.prog.underlying 35 = some (.slice 9) := by kernel_rfl
/-- v is a slice of these texts, which the call itself made from block B on. -/
def Srr (w : World) (B : Nat) (v : Value) (L : List (List UInt8)) : Prop := w.ownsRow B 9 1 v L.length (L.map (fun s => Value.string (NB.ba s)))
theorem Srr.shape {w : World} {B : Nat} {v : Value} {L : List (List UInt8)} (h : Srr w B v L) : ∃ x c, v = .slice x L.length c := by
  rcases h.2 with ⟨hv, h0⟩ | ⟨q, cap, cur, hv, _⟩
  · exact ⟨none, 0, by rw [hv, h0]⟩
  · exact ⟨_, _, hv⟩
theorem Srr.at {w : World} {B : Nat} {v : Value} {L : List (List UInt8)} (h : Srr w B v L) {i : Nat} {s : List UInt8} (hr : L[i]? = some s) : ∃ g c, v = .slice (some ⟨g, 0, none⟩) L.length c ∧ B ≤ g ∧ g < w.heap.size ∧ w.cell? ⟨g, i, none⟩ = some (.string (NB.ba s)) := by
  have hi : i < L.length := (List.getElem?_eq_some_iff.1 hr).1
  obtain ⟨g, c, rfl, hb, hl⟩ := World.ownsRow.form h (by omega)
  refine ⟨g, c, rfl, hb, hl, (World.ownsRow.cellAt h _ (by omega)).trans ?_⟩
  rw [List.getElem?_map, hr]
  rfl
theorem Srr.app {w : World} {B : Nat} {v : Value} {L : List (List UInt8)} (h : Srr w B v L) (s : List UInt8) (hB : B ≤ w.heap.size) (hl : L.length ≤ 1073741824) :
    ∃ p c w', (Builtin.append_ #[35, 35] 35 #[v, .slice (some ⟨w.heap.size, 0, none⟩) 1 1]).run Tryd.prog (w.alloc (.cells #[.string (NB.ba s)] 9)) = .ok (.slice p (L.length + 1) c) w' ∧ Srr w' B (.slice p (L.length + 1) c) (L ++ [s]) ∧ Below B w w' := by
  obtain ⟨i0, hi, hz0, hz1, hz2⟩ := info_parts infoSTR
  have hown : (w.alloc (.cells #[.string (NB.ba s)] 9)).ownsRow B 9 1 v L.length (L.map (fun s => Value.string (NB.ba s))) := World.ownsRow.alloc h _
  obtain ⟨g, cap, w', hr, ho, hg, hat, hlt⟩ := run_append_lies (P := Tryd.prog) (w.alloc (.cells #[.string (NB.ba s)] 9)) 35 35 B 9 i0 (.string ⟨#[]⟩) 1 16 undLSTR hi hz0 hz1 hz2 rfl (by decide) v L.length (L.map (fun s => Value.string (NB.ba s))) hown ⟨w.heap.size, 0, none⟩ 1 1 [.string (NB.ba s)] rfl (fun j u hj => by
      rw [Addr.add_lit, Nat.zero_add]
      match j, hj with
      | 0, hj => exact (World.cell?_alloc_new w _ _ 0).trans hj) (by intro u hu; simp at hu; rcases hu with rfl; rfl) (by decide) (by unfold maxLen; omega) (by omega) (by rw [World.size_alloc]; omega) _ rfl
  refine ⟨some ⟨g, 0, none⟩, cap, w', hr, ?_, ?_⟩
  · unfold Srr
    rw [List.length_append, List.map_append]
    exact ho
  · exact ((Fk.of_below (ty := 9) ((Below.refl _ _).alloc (Nat.le_refl _) _) hB).trans (Fk.grown hown hg (by rw [World.size_alloc]; omega))).below
/-- A row of ints that is read. -/
def ISr (w : World) (x : Option Addr) (n : Nat) (f : Nat → Int) : Prop := ∀ i, i < n → ∃ a, x = some a ∧ w.cell? (a.add i) = some (.int .i64 (f i))
theorem ISr.below {w w' : World} {x : Option Addr} {n : Nat} {f : Nat → Int} (h : ISr w x n f) (b : Below w.heap.size w w') : ISr w' x n f := fun i hi => by
  obtain ⟨a, h1, h2⟩ := h i hi
  exact ⟨a, h1, (b.cell (World.block_lt_of_cell? _ _ h2)).trans h2⟩
def PcP (l : List UInt8) (m : Nat) (w : World) (e : Ending) (w' : World) : Prop := ∃ (x : Option Addr) (c : Nat) (L : List (List UInt8)), e = .returned (.slice x L.length c) ∧ Srr w' w.heap.size (.slice x L.length c) L ∧ L.flatten = l ∧ L.length = m + 1 ∧ Below w.heap.size w w'
theorem cutP (s : List UInt8) (p e : Nat) : (NB.ba s).extract p e = NB.ba ((s.drop p).take (e - p)) := by
  rw [Go.Lib.extract_eq]
  rfl
theorem take_cutP (s : List UInt8) (p e : Nat) (h1 : p ≤ e) : s.take p ++ (s.drop p).take (e - p) = s.take e := by
  have := List.take_add (l := s) (i := p) (j := e - p)
  rw [show p + (e - p) = e by omega] at this
  exact this.symm

set_option maxHeartbeats 8000000 in
set_option maxRecDepth 10000 in
theorem pieces_any (l : List UInt8) (x : Option Addr) (n cp : Nat) (f : Nat → Int) (w : World) (hx : ISr w x n f) (hb : l.length ≤ 1048576) (hn : n ≤ 1048576) :
    Calls Tryd.prog 9 #[.string (NB.ba l), .slice x n cp] w (PcP l n w) := by
  have hz : (NB.ba l).size = l.length := NB.ba_size l
  have HX : Hid (ISr w x n f) := hx
  clear hx
  go_enter Tryd.func9, Tryd.ntmps9
  go_wp2
  go_loopw [5, 6, 11] (fun v pv iv wr => ∃ (i p : Nat) (L : List (List UInt8)), iv = .int .i64 (i : Int) ∧ pv = .int .i64 (p : Int) ∧ i ≤ n ∧ p ≤ l.length ∧ Hid (Srr wr w.heap.size v L ∧ L.flatten = l.take p ∧ L.length = i ∧ Below w.heap.size w wr)) (fun _ _ iv _ => n - (intOf iv).toNat)
  case atStart => exact ⟨0, 0, [], rfl, rfl, Nat.zero_le _, Nat.zero_le _, ⟨by decide, Or.inl ⟨rfl, rfl⟩⟩, rfl, rfl, Below.refl _ _⟩
  case round =>
    obtain ⟨i, p, L, rfl, rfl, hi, hp, HS⟩ := hrel
    obtain ⟨xv, cv, hv⟩ := HS.out.1.shape
    have hLi : Hid (L.length = i) := HS.out.2.2.1
    rw [hLi.out] at hv
    subst hv
    by_cases hlt : i < n
    · obtain ⟨a, ha, hc⟩ := (HX.out.below HS.out.2.2.2) i hlt
      subst ha
      obtain ⟨d, hd⟩ : ∃ d : Nat, l.length = p + d := ⟨l.length - p, by omega⟩
      have hdI : (l.length : Int) - (p : Int) = (d : Int) := by omega
      by_cases hbad : f i < 0 ∨ (d : Int) < f i
      · have hE : (p : Int) + (d : Int) = (l.length : Int) := by omega
        clear hd
        by_cases hneg : f i < 0
        · skip
          have hex := cutP l p l.length
          obtain ⟨p2, c2, w2, hap, hS2, hB2⟩ := HS.out.1.app ((l.drop p).take (l.length - p)) HS.out.2.2.2.size (by rw [hLi.out]; omega)
          rw [hLi.out] at hap
          have H2 : Hid (Srr w2 w.heap.size (.slice p2 (i + 1) c2) (L ++ [(l.drop p).take (l.length - p)]) ∧ (L ++ [(l.drop p).take (l.length - p)]).flatten = l.take l.length ∧ (L ++ [(l.drop p).take (l.length - p)]).length = i + 1 ∧ Below w.heap.size w w2) := by
            refine ⟨by rw [← hLi.out]; exact hS2, ?_, by rw [List.length_append, hLi.out]; rfl, HS.out.2.2.2.trans hB2⟩
            rw [List.flatten_append, HS.out.2.1]
            show _ ++ ((l.drop p).take (l.length - p) ++ []) = _
            rw [List.append_nil, take_cutP l p l.length (by omega)]
          clear hS2 hB2
          generalize (l.drop p).take (l.length - p) = sx at *
          go_wp2_with (first | (refine wpList_app_is (by rfl) 35 35 (.tmp 29) (.tmp 36) (by rfl) _ _ _ _ (by rfl) (by rfl) hap ?_))
          go_roundw
          case rel => exact ⟨i + 1, l.length, L ++ [sx], by go_num, by first | go_num | rfl, by omega, by omega, H2.out⟩
          case measure => simp [intOf]; omega
        · have hbig : (d : Int) < f i := hbad.resolve_left hneg
          have hex := cutP l p l.length
          obtain ⟨p2, c2, w2, hap, hS2, hB2⟩ := HS.out.1.app ((l.drop p).take (l.length - p)) HS.out.2.2.2.size (by rw [hLi.out]; omega)
          rw [hLi.out] at hap
          have H2 : Hid (Srr w2 w.heap.size (.slice p2 (i + 1) c2) (L ++ [(l.drop p).take (l.length - p)]) ∧ (L ++ [(l.drop p).take (l.length - p)]).flatten = l.take l.length ∧ (L ++ [(l.drop p).take (l.length - p)]).length = i + 1 ∧ Below w.heap.size w w2) := by
            refine ⟨by rw [← hLi.out]; exact hS2, ?_, by rw [List.length_append, hLi.out]; rfl, HS.out.2.2.2.trans hB2⟩
            rw [List.flatten_append, HS.out.2.1]
            show _ ++ ((l.drop p).take (l.length - p) ++ []) = _
            rw [List.append_nil, take_cutP l p l.length (by omega)]
          clear hS2 hB2
          generalize (l.drop p).take (l.length - p) = sx at *
          go_wp2_with (first | (refine wpList_app_is (by rfl) 35 35 (.tmp 29) (.tmp 36) (by rfl) _ _ _ _ (by rfl) (by rfl) hap ?_))
          go_roundw
          case rel => exact ⟨i + 1, l.length, L ++ [sx], by go_num, by first | go_num | rfl, by omega, by omega, H2.out⟩
          case measure => simp [intOf]; omega
      · obtain ⟨q, hq⟩ : ∃ q : Nat, f i = (q : Int) := ⟨(f i).toNat, by omega⟩
        rw [hq] at hc hbad
        obtain ⟨e, he⟩ : ∃ e : Nat, e = p + q := ⟨_, rfl⟩
        have hE : (p : Int) + (q : Int) = (e : Int) := by omega
        have hn1 : ¬ (q : Int) < 0 := by omega
        have hn2 : ¬ (d : Int) < (q : Int) := by omega
        have hpe : p ≤ e := by omega
        have hel : e ≤ l.length := by omega
        clear hbad he hq hd
        have hex := cutP l p e
        obtain ⟨p2, c2, w2, hap, hS2, hB2⟩ := HS.out.1.app ((l.drop p).take (e - p)) HS.out.2.2.2.size (by rw [hLi.out]; omega)
        rw [hLi.out] at hap
        have H2 : Hid (Srr w2 w.heap.size (.slice p2 (i + 1) c2) (L ++ [(l.drop p).take (e - p)]) ∧ (L ++ [(l.drop p).take (e - p)]).flatten = l.take e ∧ (L ++ [(l.drop p).take (e - p)]).length = i + 1 ∧ Below w.heap.size w w2) := by
          refine ⟨by rw [← hLi.out]; exact hS2, ?_, by rw [List.length_append, hLi.out]; rfl, HS.out.2.2.2.trans hB2⟩
          rw [List.flatten_append, HS.out.2.1]
          show _ ++ ((l.drop p).take (e - p) ++ []) = _
          rw [List.append_nil, take_cutP l p e (by omega)]
        clear hS2 hB2
        generalize (l.drop p).take (e - p) = sx at *
        go_wp2_with (first | (refine wpList_app_is (by rfl) 35 35 (.tmp 29) (.tmp 36) (by rfl) _ _ _ _ (by rfl) (by rfl) hap ?_))
        go_roundw
        case rel => exact ⟨i + 1, e, L ++ [sx], by go_num, by first | go_num | rfl, by omega, by omega, H2.out⟩
        case measure => simp [intOf]; omega
    · obtain rfl : i = n := by omega
      have hex := cutP l p l.length
      obtain ⟨p2, c2, w2, hap, hS2, hB2⟩ := HS.out.1.app ((l.drop p).take (l.length - p)) HS.out.2.2.2.size (by rw [hLi.out]; omega)
      rw [hLi.out] at hap
      have H2 : Hid (Srr w2 w.heap.size (.slice p2 (L.length + 1) c2) (L ++ [(l.drop p).take (l.length - p)]) ∧ Below w.heap.size w w2) := ⟨hS2, HS.out.2.2.2.trans hB2⟩
      have HF : Hid ((L ++ [(l.drop p).take (l.length - p)]).flatten = l ∧ (L ++ [(l.drop p).take (l.length - p)]).length = i + 1) := by
        refine ⟨?_, by rw [List.length_append, hLi.out]; rfl⟩
        rw [List.flatten_append, HS.out.2.1]
        show _ ++ ((l.drop p).take (l.length - p) ++ []) = l
        rw [List.append_nil, take_cutP l p l.length hp, List.take_length]
      clear hS2 hB2
      generalize (l.drop p).take (l.length - p) = sx at *
      go_wp2_with (first | (refine wpList_app_is (by rfl) 35 35 (.tmp 42) (.tmp 46) (by rfl) _ _ _ _ (by rfl) (by rfl) hap ?_))
      go_ret
      refine ⟨p2, c2, L ++ [sx], ?_, ?_, HF.out.1, HF.out.2, H2.out.2⟩
      · rw [HF.out.2]; rfl
      · have := H2.out.1
        rw [hLi.out] at this
        rw [HF.out.2]
        exact this
end Go.Proofs.YtcmdeiohnkbjlaaDoor
