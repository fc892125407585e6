/- ApS SpR, gathered (own text of the verifier). -/
import Derived.Test.YtnggbemnblcnaaaDoorSpB
import Derived.Deep.OwnRows
namespace Go.Proofs.YtnggbemnblcnaaaDoor
open Go.RowKit

/-- v is a slice of these texts, which the call itself made (blocks from B on). -/
def OwnS (w : World) (B : Nat) (v : Value) (L : List ByteArray) : Prop := w.ownsRow B 9 1 v L.length (L.map Value.string)

theorem OwnS.nil (w : World) (B : Nat) : OwnS w B (.slice none 0 0) [] := World.ownsRow_nil _ _ _ _
theorem OwnS.alloc {w : World} {B : Nat} {v : Value} {L : List ByteArray} (h : OwnS w B v L) (o : Obj) : OwnS (w.alloc o) B v L := World.ownsRow.alloc h o

theorem OwnS.list {w : World} {B : Nat} {v : Value} {L : List ByteArray} (h : OwnS w B v L) : SL w v L ∨ L = [] := by
  obtain ⟨_, h | ⟨g, cap, cur, hv, hb, hg, hnc, _, _, htake⟩⟩ := h
  · right
    exact List.eq_nil_of_length_eq_zero (by first | exact h.2 | exact h.2.1 | omega)
  · left; right
    refine ⟨g, cap, hv, hnc, ⟨fun j hj => ?_, fun j hj => ?_⟩⟩
    · rw [cell_of_row w g j cur 9 (0, 0) hg]
      have h2 : (cur.toList.take (L.length * 1))[j]? = some (Value.string (nth L j)) := by
        rw [htake]; simp [hj, nth]
      rw [List.getElem?_take] at h2
      split at h2
      · simpa using h2
      · cases h2
    · simp [World.frozen?, hg]

/-- append(s, y), s the call's own. -/
theorem wpList_append_s (w : World) {ops : Array Oper} {rest : List Oper} {o : Oper} {a : Act} {Q : Exit → Act → World → Prop} (hgd : o.guard = none) (s x : Operand)
    (ho : o.op = .call { callee := .builtin .append, args := #[s, x], argTypes := #[69, 69] })
    (B : Nat) (v : Value) (L : List ByteArray) (hs : a.eval s = v) (hown : OwnS w B v L)
    (g c : Nat) (y : ByteArray) (hx : a.eval x = .slice (some ⟨g, 0, none⟩) 1 c) (hc : w.cell? ⟨g, 0, none⟩ = some (.string y)) (hn : L.length ≤ 1000000) (hbase : B ≤ w.heap.size)
    (h : ∀ v' w', OwnS w' B v' (L ++ [y]) → Below B w w' → wpList Tryd.prog ops Q rest (a.put o.dst v') w') : wpList Tryd.prog ops Q (o :: rest) a w := by
  obtain ⟨i0, hi, hz0, hz1, hz2⟩ := info_parts info_str
  refine wpList_append_own w hgd s x 69 ho B 9 i0 (.string ByteArray.empty) 1 16 Tryd.underlying69 hi hz0 hz1 hz2 rfl (by decide) v L.length _ hs hown ⟨g, 0, none⟩ 1 c [.string y] hx rfl ?_ ?_ (by unfold maxLen; omega) ?_ hbase ?_
  · intro j u hj
    match j, hj with
    | 0, hj => simp at hj; subst hj; simpa [Addr.add] using hc
  · intro u hu; simp at hu; subst hu; rfl
  · omega
  · intro v' w' h1 h2 _
    refine h v' w' ?_ ((Below.refl B w).grown h2 hbase (fun k hk => (World.ownsRow.lt hown k hk).1))
    unfold OwnS
    rw [List.length_append, List.map_append]
    exact h1

end Go.Proofs.YtnggbemnblcnaaaDoor
namespace Go.Proofs.YtnggbemnblcnaaaDoor
open Go.RowKit

/-- Where the document's Split stands: running, or done. -/
def RSt (p : ByteArray) (D : List ByteArray) (f j : Nat) : Prop :=
  (D.length ≤ 31 ∧ f ≤ j ∧ j ≤ p.size ∧ (∀ t, f ≤ t → t < j → bt p t ≠ 47) ∧ pathF p = scan (pcs p (31 - D.length) f) D.length f ∧ pcs p 31 0 = D ++ pcs p (31 - D.length) f) ∨
  (j = p.size + 1 ∧ D.length ≤ 32 ∧ f ≤ p.size + 1 ∧ pathF p = (0, 0) ∧ pcs p 31 0 = D)
theorem RSt.go {p : ByteArray} {D : List ByteArray} {f j : Nat} (h : RSt p D f j) (hj : j < p.size) (hb : bt p j ≠ 47) : RSt p D f (j + 1) := by
  rcases h with ⟨h1, h2, h3, h4, h5, h6⟩ | ⟨h1, _⟩
  · refine Or.inl ⟨h1, by omega, by omega, fun t t1 t2 => ?_, h5, h6⟩
    by_cases e : t = j
    · rw [e]; exact hb
    · exact h4 t t1 (by omega)
  · omega
theorem RSt.at {p : ByteArray} {D : List ByteArray} {f j : Nat} (h : RSt p D f j) (hj : j ≤ p.size) (hb : j < p.size → bt p j = 47) :
    D.length ≤ 31 ∧ f ≤ j ∧ nx p f = j ∧ (D.length = 31 → pathF p = (61, (f : Int))) ∧ (D.length < 31 → chk (p.extract f j) ≠ 0 → pathF p = (chk (p.extract f j), (f : Int))) ∧ (D.length < 31 → chk (p.extract f j) = 0 → RSt p (D ++ [p.extract f j]) (j + 1) (j + 1)) := by
  rcases h with ⟨h1, h2, h3, h4, h5, h6⟩ | ⟨h1, _⟩
  · have hn : nx p f = j := nx_is p f j h2 h3 h4 hb
    refine ⟨h1, h2, hn, fun e => ?_, fun e hc => ?_, fun e hc => ?_⟩
    · rw [h5, e, Nat.sub_self]; exact scan_deep _ _ _ _ (by omega)
    · rw [h5]
      by_cases hl : j = p.size
      · rw [pcs_last p _ f (by omega), ← hl]; exact scan_bad _ _ _ _ e hc
      · rw [show 31 - D.length = (31 - (D.length + 1)) + 1 by omega, pcs_more p _ f (by omega), hn]; exact scan_bad _ _ _ _ e hc
    · by_cases hl : j = p.size
      · rw [pcs_last p _ f (by omega), ← hl] at h5 h6
        rw [scan_good _ _ _ _ e hc] at h5
        exact Or.inr ⟨by omega, by simp; omega, by omega, h5, h6⟩
      · rw [show 31 - D.length = (31 - (D.length + 1)) + 1 by omega, pcs_more p _ f (by omega), hn] at h5 h6
        rw [scan_good _ _ _ _ e hc, ext_size2 p f j h2 h3, show f + (j - f + 1) = j + 1 by omega] at h5
        refine Or.inl ⟨by simp; omega, Nat.le_refl _, by omega, fun t t1 t2 => by omega, ?_, ?_⟩
        · rw [List.length_append, List.length_singleton]; exact h5
        · rw [List.length_append, List.length_singleton, h6]; simp
  · omega

set_option maxHeartbeats 2000000 in
theorem rsplit_any (p : ByteArray) (w : World) (hp : p.size ≤ 140737488351232) :
    Calls Tryd.prog 30 #[.string p] w fun e w' => ∃ v, e = .returned (.tuple #[v, .int .i64 (pathF p).1, .int .i64 (pathF p).2]) ∧ SL w' v (pathN p) ∧ Below w.heap.size w w' := by
  cases h0 : p.toList.isEmpty
  · have hz : p.size ≠ 0 := empty_size p h0
    have HN : Hid (pathN p = if (pathF p).1 = 0 then pcs p 31 0 else []) := by unfold Hid pathN; rw [if_neg hz]
    have ST : Hid (RSt p [] 0 0) := Or.inl ⟨by decide, Nat.le_refl _, Nat.zero_le _, fun t t1 t2 => by omega, by unfold pathF; rw [if_neg hz]; rfl, rfl⟩
    have HP : Hid (0 < (pcs p 31 0).length) := pcs_pos p 31 0
    clear hz
    have CK := fun (s : ByteArray) (w : World) => rcheck_any s w
    go_enter Tryd.func30, Tryd.ntmps30
    go_wp2
    go_loopw [5, 6, 7] (fun xv xf xi wr => ∃ (D : List ByteArray) (f j : Nat), j ≤ p.size + 1 ∧ f ≤ p.size + 1 ∧ D.length ≤ 32 ∧ xf = .int .i64 f ∧ xi = .int .i64 j ∧ Hid (RSt p D f j) ∧ Hid (OwnS wr w.heap.size xv D) ∧ Hid (∃ g c, xv = .slice g D.length c) ∧ Below w.heap.size w wr) (fun _ _ i _ => p.size + 1 - (intOf i).toNat)
    case atStart => exact ⟨[], 0, 0, by omega, by omega, by decide, rfl, rfl, ST, OwnS.nil _ _, ⟨none, 0, rfl⟩, Below.refl _ _⟩
    case round =>
      obtain ⟨D, f, j, hj, hf, hD, rfl, rfl, hst, hown, hsh, B⟩ := hrel
      obtain ⟨g, c, hv⟩ := hsh.out
      subst hv
      by_cases hlt : j ≤ p.size
      · have hb := get_bt p
        have hbd := bt_bd p j
        by_cases hgo : j < p.size ∧ bt p j ≠ 47
        · obtain ⟨hj1, hj2⟩ := hgo
          have HS : Hid (RSt p D f (j + 1)) := hst.out.go hj1 hj2
          have hb2 : (bt p j != 47) = true := by rw [bne_iff_ne]; exact hj2
          clear hj2 CK
          go_wp2
          go_roundw
          case rel => exact ⟨D, f, j + 1, by omega, hf, hD, rfl, by go_num, HS, hown, hsh, B⟩
          case measure => simp [intOf]; omega
        · obtain ⟨a1, a2, a3, a4, a5, a6⟩ := hst.out.at hlt (fun h => by
            by_cases e : bt p j = 47
            · exact e
            · exact absurd ⟨h, e⟩ hgo)
          have A4 : Hid (D.length = 31 → pathF p = (61, (f : Int))) := a4
          have A5 : Hid (D.length < 31 → chk (p.extract f j) ≠ 0 → pathF p = (chk (p.extract f j), (f : Int))) := a5
          have A6 : Hid (D.length < 31 → chk (p.extract f j) = 0 → RSt p (D ++ [p.extract f j]) (j + 1) (j + 1)) := a6
          have hcut : (j < p.size ∧ (bt p j != 47) = false) ∨ ¬ j < p.size := by
            by_cases e : j < p.size
            · left; refine ⟨e, ?_⟩
              rw [bne_eq_false_iff_eq]
              by_cases e2 : bt p j = 47
              · exact e2
              · exact absurd ⟨e, e2⟩ hgo
            · right; exact e
          clear a3 a4 a5 a6 hgo hst
          by_cases h31 : D.length = 31
          · have HR : Hid (pathF p = (61, (f : Int))) := A4.out h31
            have HE : Hid (pathN p = []) := by unfold Hid; rw [HN.out, HR.out, if_neg (show ¬ (61 : Int) = 0 by decide)]
            have hd31 : (((D.length : Nat) : Int) == 31) = true := by rw [h31]; rfl
            clear h31 CK
            rcases hcut with ⟨h1, h2⟩ | h1
            all_goals
              go_wp2
              go_ret3
              exact ⟨_, by rw [HR.out]; rfl, Or.inl ⟨rfl, HE.out⟩, B⟩
          · have hd31 : (((D.length : Nat) : Int) == 31) = false := by rw [beq_eq_false_iff_ne]; omega
            have hdl : D.length < 31 := by omega
            have CKX := CK (p.extract f j)
            clear CK h31
            have cv := chk_vals (p.extract f j)
            by_cases hc : chk (p.extract f j) = 0
            · have HS : Hid (RSt p (D ++ [p.extract f j]) (j + 1) (j + 1)) := A6.out hdl hc
              rw [hc] at CKX
              clear A4 A5 A6 hc cv
              rcases hcut with ⟨h1, h2⟩ | h1
              all_goals
                go_wp2_with (first
                  | (go_at_call 56; refine (CKX _).mono ?_; rintro e w' ⟨rfl, rfl⟩)
                  | (refine wpList_append_s _ (by rfl) (.tmp 40) (.tmp 45) (by rfl) w.heap.size _ D (by rfl) (hown.out.alloc _) _ _ (p.extract f j) (by rfl) (by rw [World.cell?_alloc_new]; rfl) (by omega) (by rw [World.size_alloc]; have := B.size; omega) ?_; intro v2 w2 O2 b2))
                go_roundw
                case rel =>
                  have hne : D ++ [p.extract f j] ≠ [] := by simp
                  refine ⟨D ++ [p.extract f j], j + 1, j + 1, by omega, by omega, by simp; omega, by go_num, by go_num, HS, O2, ?_, (B.alloc B.size _).trans b2⟩
                  rcases O2.list with h | h
                  · rcases h with ⟨_, h⟩ | ⟨g, c, h, _⟩
                    · exact absurd h hne
                    · exact ⟨_, c, h⟩
                  · exact absurd h hne
                case measure => simp [intOf]; omega
            · have HR : Hid (pathF p = (chk (p.extract f j), (f : Int))) := A5.out hdl hc
              have HE : Hid (pathN p = []) := by unfold Hid; rw [HN.out, HR.out, if_neg hc]
              have hcb : (chk (p.extract f j) != 0) = true := by rw [bne_iff_ne]; exact hc
              clear A4 A5 A6 hc
              generalize chk (p.extract f j) = C at *
              rcases hcut with ⟨h1, h2⟩ | h1
              all_goals
                go_wp2_with (first | (go_at_call 56; refine (CKX _).mono ?_; rintro e w' ⟨rfl, rfl⟩))
                go_ret3
                exact ⟨_, by rw [HR.out]; rfl, Or.inl ⟨rfl, HE.out⟩, B⟩
      · have hd : pathF p = (0, 0) ∧ pcs p 31 0 = D := by
          rcases hst.out with ⟨_, _, h3, _⟩ | ⟨_, _, _, h4, h5⟩
          · omega
          · exact ⟨h4, h5⟩
        have HR : Hid (pathF p = (0, 0)) := hd.1
        have HE : Hid (pathN p = D) := by unfold Hid; rw [HN.out, HR.out, if_pos rfl, hd.2]
        have HL : Hid (SL wr (.slice g D.length c) D) := by
          rcases hown.out.list with h | h
          · exact h
          · have := HP.out
            rw [hd.2, h] at this
            exact absurd this (by simp)
        clear hd CK hst
        go_wp2
        go_ret3
        exact ⟨_, by rw [HR.out]; rfl, by rw [HE.out]; exact HL.out, B⟩
  · have hz : p.size = 0 := by
      rw [Lib.toList_data, List.isEmpty_iff] at h0
      rw [Lib.size_eq, h0]; rfl
    have HF : Hid (pathF p = (0, 0)) := by unfold Hid pathF; rw [if_pos hz]
    have HN : Hid (pathN p = []) := by unfold Hid pathN; rw [if_pos hz]
    clear hz
    go_enter Tryd.func30, Tryd.ntmps30
    go_wp2
    go_ret3
    exact ⟨_, by rw [HF.out]; rfl, Or.inl ⟨rfl, HN.out⟩, Below.refl _ _⟩

end Go.Proofs.YtnggbemnblcnaaaDoor
