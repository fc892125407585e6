/- Gathered: ItB ItC ItD ItE ItF ItG ItH ItI ItJ. -/
import Derived.Deep.AppendLies
import Derived.Laws.OwnMore
import Derived.Test.YtgnlkggodchlbaaDoorQj
import Derived.Test.YtgnlkggodchlbaaDoorQm
import Derived.Test.YtgnlkggodchlbaaDoorQt
/- The document's pieces; walked. -/
namespace Go.Proofs.YtgnlkggodchlbaaDoor
open Go.RowKit Go.Shelf

/-- Where the piece begins that byte k belongs to; the pieces ahead of it. -/
def pfB (s : ByteArray) : Nat → Nat
  | 0 => 0
  | k + 1 => if bt s k = 32 then k + 1 else pfB s k
def pfA (s : ByteArray) : Nat → List ByteArray
  | 0 => []
  | k + 1 => if bt s k = 32 then pfA s k ++ [s.extract (pfB s k) k] else pfA s k
def pf (s : ByteArray) (k : Nat) : List ByteArray := pfA s k ++ [s.extract (pfB s k) k]
theorem pfB_le (s : ByteArray) : ∀ k, pfB s k ≤ k
  | 0 => Nat.le_refl _
  | k + 1 => by rw [pfB]; have := pfB_le s k; split <;> omega
theorem pfA_len (s : ByteArray) : ∀ k, (pfA s k).length ≤ k
  | 0 => Nat.le_refl _
  | k + 1 => by rw [pfA]; have := pfA_len s k; split <;> simp <;> omega
theorem pfB_no (s : ByteArray) : ∀ k j, pfB s k ≤ j → j < k → bt s j ≠ 32
  | 0, j, _, h => absurd h (Nat.not_lt_zero _)
  | k + 1, j, h1, h2 => by
    rw [pfB] at h1
    split at h1
    · omega
    · rename_i hb
      by_cases e : j = k
      · subst e; exact hb
      · exact pfB_no s k j h1 (by omega)
theorem pf_len (s : ByteArray) (k : Nat) : (pf s k).length = (pfA s k).length + 1 := by unfold pf; simp
theorem pf_yes {s : ByteArray} {k : Nat} (h : bt s k = 32) : pf s (k + 1) = pf s k ++ [⟨#[]⟩] := by
  unfold pf
  rw [pfA, if_pos h, pfB, if_pos h]
  congr 2
  exact bytes_ext (by rw [ByteArray.size_extract]; show _ = 0; omega) (fun j hj => absurd hj (by rw [ByteArray.size_extract]; omega))
theorem pf_no {s : ByteArray} {k : Nat} (h : bt s k ≠ 32) : pf s (k + 1) = pfA s k ++ [s.extract (pfB s k) (k + 1)] := by
  unfold pf
  rw [pfA, if_neg h, pfB, if_neg h]
theorem ext_snoc (s : ByteArray) (a k : Nat) (h : a ≤ k) : s.extract a k ++ s.extract k (k + 1) = s.extract a (k + 1) := by
  apply ByteArray.ext
  simp
  rw [Nat.min_eq_left h]
theorem pf_zero (s : ByteArray) : pf s 0 = [⟨#[]⟩] := by
  have e : s.extract 0 0 = (⟨#[]⟩ : ByteArray) := bytes_ext (by rw [ByteArray.size_extract]; show _ = 0; omega) (fun j hj => absurd hj (by rw [ByteArray.size_extract]; omega))
  show [] ++ [s.extract 0 0] = _
  rw [e]
  rfl

set_option maxRecDepth 100000 in
set_option maxHeartbeats 4000000 in
theorem rpie_any (s : ByteArray) (w : World) (hs : s.size ≤ 1048576) :
    Calls Tryd.prog 73 #[.string s] w fun e w' => (∃ v, e = .returned v ∧ OwnS w' w.heap.size v (pf s s.size)) ∧ Below w.heap.size w w' := by
  have hgb := get_bt s
  have O0 : OwnS (w.alloc (.cells #[.string ⟨#[]⟩] 9)) w.heap.size (.slice (some ⟨w.heap.size, 0, none⟩) 1 1) (pf s 0) := by
    rw [pf_zero]
    exact World.ownsRow_lit w #[.string ⟨#[]⟩] 1 (Nat.le_refl _) (by decide) rfl
  have B0 : Below w.heap.size w (w.alloc (.cells #[.string ⟨#[]⟩] 9)) := (Below.refl _ _).alloc (Nat.le_refl _) _
  go_enter Tryd.func73, Tryd.ntmps73
  go_wp2
  go_loopw [3, 4] (fun v i wr => ∃ k : Nat, k ≤ s.size ∧ i = .int .i64 k ∧ Hid (OwnS wr w.heap.size v (pf s k)) ∧ Hid (Below w.heap.size w wr)) (fun _ i _ => s.size - (intOf i).toNat)
  case atStart => exact ⟨0, Nat.zero_le _, rfl, O0, B0⟩
  case round =>
    obtain ⟨k, hk, rfl, O, B⟩ := hrel
    have hlen := pf_len s k
    have hlA := pfA_len s k
    obtain ⟨g, cap, hv, hg1, hg2⟩ := World.ownsRow.form O.out (by omega)
    rw [hlen] at hv
    subst hv
    by_cases hlt : k < s.size
    · have hs1 := hgb k hlt
      by_cases hb : bt s k = 32
      · have e1 : (bt s k == 32) = true := by rw [hb]; rfl
        have e2 : Hid (pf s (k + 1) = pf s k ++ [⟨#[]⟩]) := pf_yes hb
        have Ow : Hid (OwnS (wr.alloc (.cells #[.string ⟨#[]⟩] 9)) w.heap.size (.slice (some ⟨g, 0, none⟩) ((pfA s k).length + 1) cap) (pf s k)) := O.out.alloc _
        have hz := B.out.size
        clear O0 B0
        go_wp2_with (refine wpList_append_s _ (by rfl) (.tmp 16) (.tmp 17) (by rfl) w.heap.size (.slice (some ⟨g, 0, none⟩) ((pfA s k).length + 1) cap) (pf s k) (by rfl) Ow.out wr.heap.size 1 ⟨#[]⟩ (by rfl) (by rw [World.cell?_alloc_new]; rfl) (by omega) (by rw [World.size_alloc]; omega) ?_; intro v' w5 O5 G5; refine Hid.out ?_)
        unfold Hid
        go_wp2
        go_roundw
        case rel =>
          refine ⟨k + 1, by omega, by go_num, by rw [e2.out]; exact O5, ?_⟩
          have b1 : Below w.heap.size w (wr.alloc (.cells #[.string ⟨#[]⟩] 9)) := B.out.alloc hz _
          exact ⟨G5.os.trans b1.os, G5.tape.trans b1.tape, G5.output.trans b1.output, Nat.le_trans b1.size G5.size, fun i hi => (G5.block i (by rw [World.size_alloc]; omega) (fun e => by simp [Value.ownBlock] at e; omega)).trans (b1.block i hi)⟩
        case measure => simp [intOf]; omega
      · have e1 : (bt s k == 32) = false := by rw [beq_eq_false_iff_ne]; exact hb
        have e2 : Hid (pf s (k + 1) = pfA s k ++ [s.extract (pfB s k) (k + 1)]) := pf_no hb
        have O' : World.ownsRow wr w.heap.size 9 1 (.slice (some ⟨g, 0, none⟩) ((pfA s k).length + 1) cap) ((pfA s k).length + 1) ((pf s k).map Value.string) := by have := O.out; unfold OwnS at this; rw [hlen] at this; exact this
        have c1 := World.ownsRow.cellAt O' (pfA s k).length (by omega)
        have e3 : ((pf s k).map Value.string)[(pfA s k).length]? = some (.string (s.extract (pfB s k) k)) := by unfold pf; simp
        rw [e3] at c1
        have f1 := World.ownsRow.frozenAt O' (pfA s k).length
        have hle := pfB_le s k
        have hsn := ext_snoc s (pfB s k) k hle
        have hz1 : (s.extract (pfB s k) k).size ≤ 1048576 := by rw [ByteArray.size_extract]; omega
        have ST : Hid (OwnS (wr.setCell ⟨g, (pfA s k).length, none⟩ (.string (s.extract (pfB s k) (k + 1)))) w.heap.size (.slice (some ⟨g, 0, none⟩) ((pfA s k).length + 1) cap) (pf s (k + 1))) := by
          have h1 := (World.ownsRow.stored O' (pfA s k).length (.string (s.extract (pfB s k) (k + 1)))).1
          unfold Hid OwnS
          rw [pf_no hb]
          have e4 : (pfA s k ++ [s.extract (pfB s k) (k + 1)]).map Value.string = ((pf s k).map Value.string).set (pfA s k).length (.string (s.extract (pfB s k) (k + 1))) := by unfold pf; simp
          rw [e4, List.length_append]
          exact h1
        have BT : Hid (Below w.heap.size w (wr.setCell ⟨g, (pfA s k).length, none⟩ (.string (s.extract (pfB s k) (k + 1))))) := B.out.setCell (p := ⟨g, (pfA s k).length, none⟩) hg1 _
        have HCAP : Hid ((pfA s k).length + 1 ≤ cap) := by
          rcases O'.2 with ⟨h', _⟩ | ⟨g', cap', cur, h', _, _, hnc, _⟩
          · cases h'
          · injection h' with _ _ h3; subst h3; exact hnc
        have hcap := HCAP.out
        rw [← hsn] at ST BT
        clear O0 B0 O' e3 hsn
        generalize (pfA s k).length = m at c1 f1 ST BT hlen hlA hcap ⊢
        generalize s.extract (pfB s k) k = x at c1 ST BT hz1
        -- @7
        go_wp2
        go_region
        go_wp2
        go_roundw
        case rel => exact ⟨k + 1, by omega, by go_num, ST.out.same (fun _ _ => rfl), BT.out.trans ⟨rfl, rfl, rfl, Nat.le_refl _, fun _ _ => rfl⟩⟩
        case measure => simp [intOf]; omega
    · obtain rfl : k = s.size := by omega
      go_wp2
      go_ret
      exact ⟨⟨_, rfl, O.out⟩, B.out⟩
end Go.Proofs.YtgnlkggodchlbaaDoor
/- The document's references; walked. -/
namespace Go.Proofs.YtgnlkggodchlbaaDoor
open Go.RowKit Go.Shelf

theorem pf_pcs (p : ByteArray) (R : Nat) (hR : p.size ≤ R) : ∀ k, k ≤ p.size → Sq.pcs p R 0 = pfA p k ++ Sq.pcs p (R - (pfA p k).length) (pfB p k)
  | 0, _ => rfl
  | k + 1, h => by
    rw [pf_pcs p R hR k (by omega), pfA, pfB]
    by_cases hb : bt p k = 32
    · have hl := pfA_len p k
      have hn : Sq.nx p (pfB p k) = k := Sq.nx_is p _ _ (pfB_le p k) (by omega) (fun j h1 h2 => pfB_no p k j h1 h2) (fun _ => hb)
      obtain ⟨r, hr⟩ : ∃ r, R - (pfA p k).length = r + 1 := ⟨R - (pfA p k).length - 1, by omega⟩
      rw [if_pos hb, if_pos hb, hr, Sq.pcs_more p r _ (by omega), hn, List.length_append, show R - ((pfA p k).length + [p.extract (pfB p k) k].length) = r from by simp; omega]
      simp
    · rw [if_neg hb, if_neg hb]
theorem pf_all (p : ByteArray) : pf p p.size = Sq.pcs p p.size 0 := by
  rw [pf_pcs p p.size (Nat.le_refl _) p.size (Nat.le_refl _)]
  have hn : Sq.nx p (pfB p p.size) = p.size := Sq.nx_is p _ _ (pfB_le p _) (Nat.le_refl _) (fun j h1 h2 => pfB_no p _ j h1 h2) (fun h => by omega)
  rw [Sq.pcs_last p _ _ hn]
  rfl
theorem pcs_lim (p : ByteArray) : ∀ r R f, r ≤ R → ((Sq.pcs p R f).length ≤ r + 1 → Sq.pcs p r f = Sq.pcs p R f) ∧ (r + 1 < (Sq.pcs p R f).length → (Sq.pcs p r f).length = r + 1)
  | 0, R, f, h => by
    by_cases e : Sq.nx p f = p.size
    · rw [Sq.pcs_last p _ f e, Sq.pcs_last p _ f e]
      exact ⟨fun _ => rfl, fun h => by simp at h⟩
    · refine ⟨fun hl => ?_, fun _ => rfl⟩
      cases R with
      | zero => rfl
      | succ R =>
        rw [Sq.pcs_more p R f e, List.length_cons] at hl
        have := Sq.pcs_pos p R (Sq.nx p f + 1)
        omega
  | r + 1, R, f, h => by
    obtain ⟨R, rfl⟩ : ∃ q, R = q + 1 := ⟨R - 1, by omega⟩
    by_cases e : Sq.nx p f = p.size
    · rw [Sq.pcs_last p _ f e, Sq.pcs_last p _ f e]
      exact ⟨fun _ => rfl, fun h => by simp at h⟩
    · obtain ⟨a, b⟩ := pcs_lim p r R (Sq.nx p f + 1) (by omega)
      rw [Sq.pcs_more p R f e, Sq.pcs_more p r f e, List.length_cons, List.length_cons]
      exact ⟨fun hl => by rw [a (by omega)], fun hl => by rw [b (by omega)]⟩
/-- The references behind their key: the error's number, the list. -/
def rfP (s : ByteArray) : List ByteArray := pf (s.extract 1 s.size) (s.extract 1 s.size).size
def rfC (s : ByteArray) : Int := if s.size = 0 then 0 else if bt s 0 = 32 then crf (fun j => dirR ++ Sq.nth (rfP s) j) (rfP s).length else 150
def rfL (s : ByteArray) : List ByteArray := if s.size = 0 then [] else (rfP s).map (fun x => dirR ++ x)
theorem of_toL (s t : ByteArray) (h : s.toList = t.toList) : s = t := by
  rw [Lib.toList_data, Lib.toList_data] at h
  rw [← Lib.mk_data s, ← Lib.mk_data t, h]
theorem hp_blk (s : ByteArray) : hpQ s blk1 = true ↔ 0 < s.size ∧ bt s 0 = 32 := by
  constructor
  · intro h
    have hl := hpQ_le h
    have hl' : 1 ≤ s.size := hl
    unfold hpQ at h
    rw [Bool.and_eq_true] at h
    have h2 := h.2
    rw [beq_iff_eq] at h2
    have h3 : s.extract 0 1 = blk1 := of_toL _ _ h2
    refine ⟨by omega, ?_⟩
    have h4 := bt_extract s 0 1 0 (by omega) hl'
    rw [Nat.zero_add, h3] at h4
    exact h4.symm
  · rintro ⟨h1, h2⟩
    unfold hpQ
    have h3 : s.extract 0 1 = blk1 := bytes_ext (by rw [ByteArray.size_extract]; show _ = 1; omega) (fun k hk => by
      rw [ByteArray.size_extract] at hk
      obtain rfl : k = 0 := by omega
      rw [bt_extract s 0 1 0 (by omega) h1, Nat.zero_add, h2]
      rfl)
    rw [Bool.and_eq_true]
    exact ⟨decide_eq_true h1, by rw [beq_iff_eq]; exact congrArg _ h3⟩
theorem rf_rr {l : ByteArray} (h : hpQ l hdR = true) : rfC (cpQ l hdR) = rrC l ∧ (rrC l = 0 → rfL (cpQ l hdR) = rrL l) := by
  unfold rfC rrC rfL rrL rrN
  by_cases hz : (cpQ l hdR).size = 0
  · rw [if_pos hz, if_pos ⟨h, hz⟩, if_pos hz, if_pos hz]
    exact ⟨rfl, fun _ => rfl⟩
  · rw [if_neg hz, if_neg (show ¬ (hpQ l hdR = true ∧ (cpQ l hdR).size = 0) from fun c => hz c.2), if_neg hz, if_neg hz]
    by_cases hb : bt (cpQ l hdR) 0 = 32
    · have hq := (hp_blk (cpQ l hdR)).2 ⟨by omega, hb⟩
      rw [if_pos hb, if_pos ⟨h, hq⟩]
      have et : rrT l = (cpQ l hdR).extract 1 (cpQ l hdR).size := by unfold rrT; rw [cpQ_yes hq]; rfl
      unfold rrF
      unfold rfP
      rw [et]
      generalize (cpQ l hdR).extract 1 (cpQ l hdR).size = t
      rw [pf_all]
      by_cases hl : (Sq.pcs t t.size 0).length ≤ 1025
      · have e1 : Sq.pcs t 1024 0 = Sq.pcs t t.size 0 := by
          by_cases hr : 1024 ≤ t.size
          · exact (pcs_lim t 1024 t.size 0 hr).1 hl
          · exact Sq.pcs_enough t 1024 t.size 0 (Nat.zero_le _) (by omega) (by omega)
        rw [e1]
        exact ⟨rfl, fun _ => rfl⟩
      · have hr : 1024 ≤ t.size := by have := Sq.pcs_len t t.size 0; omega
        have e1 := (pcs_lim t 1024 t.size 0 hr).2 (by omega)
        have e2 : crf (fun j => dirR ++ Sq.nth (Sq.pcs t t.size 0) j) (Sq.pcs t t.size 0).length = 171 := by unfold crf; rw [if_pos (by omega)]
        have e3 : crf (fun j => dirR ++ Sq.nth (Sq.pcs t 1024 0) j) (Sq.pcs t 1024 0).length = 171 := by unfold crf; rw [if_pos (by omega)]
        rw [e2, e3]
        exact ⟨rfl, fun h => by cases h⟩
    · rw [if_neg hb, if_neg (show ¬ (hpQ l hdR = true ∧ hpQ (cpQ l hdR) blk1 = true) from fun c => hb ((hp_blk _).1 c.2).2)]
      exact ⟨rfl, fun h => by cases h⟩
theorem pfx_le (t : ByteArray) (j : Nat) : (Sq.nth (pf t t.size) j).size ≤ t.size := by
  rw [pf_all]
  unfold Sq.nth
  by_cases h : j < (Sq.pcs t t.size 0).length
  · have hm : (Sq.pcs t t.size 0).getD j ByteArray.empty ∈ Sq.pcs t t.size 0 := by
      rw [List.getD_eq_getElem?_getD, List.getElem?_eq_getElem h]; exact List.getElem_mem _
    have := mem_sum hm
    rw [Sq.pcs_sum t t.size 0 (Nat.zero_le _)] at this
    omega
  · rw [List.getD_eq_getElem?_getD, List.getElem?_eq_none (by omega)]
    exact Nat.zero_le _

set_option maxRecDepth 100000 in
set_option maxHeartbeats 4000000 in
theorem rrefs_any (s : ByteArray) (w : World) (hs : s.size ≤ 1048576) :
    Calls Tryd.prog 57 #[.string s] w fun e w' => (∃ v, e = .returned (.tuple #[v, .int .i64 (rfC s)]) ∧ (∃ x n m, v = .slice x n m) ∧ (rfC s = 0 → OwnR w' w.heap.size v (rfL s))) ∧ Below w.heap.size w w' := by
  have hgb := get_bt s
  by_cases hz : s.size = 0
  · have hC : Hid (rfC s = 0) := by unfold Hid rfC; rw [if_pos hz]
    have hL : Hid (rfL s = []) := by unfold Hid rfL; rw [if_pos hz]
    have he : s.toList.isEmpty = true := (empty_iff s).2 hz
    have he2 : s = ⟨#[]⟩ := bytes_ext (by rw [hz]; rfl) (fun k hk => absurd hk (by omega))
    rw [hC.out, hL.out]
    clear hz hC hL hgb
    subst he2
    go_enter Tryd.func57, Tryd.ntmps57
    go_wp2
    go_ret2
    exact ⟨⟨_, rfl, ⟨_, _, _, rfl⟩, fun _ => Or.inl ⟨rfl, rfl⟩⟩, Below.refl _ _⟩
  · have he : s.toList.isEmpty = false := by
      cases h : s.toList.isEmpty
      · rfl
      · exact absurd ((empty_iff s).1 h) hz
    have he2 : (s.toList == []) = false := by rw [beq_eq_false_iff_ne]; intro h; rw [h] at he; exact Bool.noConfusion he
    have he3 : ¬ s.toList = [] := fun h => by rw [h] at he; exact Bool.noConfusion he
    have h0 : 0 < s.size := by omega
    have hs0 := hgb 0 h0
    by_cases hb : bt s 0 = 32
    · have e1 : (bt s 0 != 32) = false := by rw [hb]; rfl
      have hC : Hid (rfC s = crf (fun j => dirR ++ Sq.nth (rfP s) j) (rfP s).length) := by unfold Hid rfC; rw [if_neg hz, if_pos hb]
      have hL : Hid (rfL s = (rfP s).map (fun x => dirR ++ x)) := by unfold Hid rfL; rw [if_neg hz]
      have hts : (s.extract 1 s.size).size ≤ 1048576 := by rw [ByteArray.size_extract]; omega
      have C1 := fun W => rpie_any (s.extract 1 s.size) W hts
      have HZ : Hid (∀ j, (Sq.nth (rfP s) j).size ≤ 1048576) := fun j => Nat.le_trans (pfx_le _ _) hts
      have hlen : (rfP s).length ≤ 1048577 := by unfold rfP; rw [pf_len]; have := pfA_len (s.extract 1 s.size) (s.extract 1 s.size).size; omega
      have hpos : 0 < (rfP s).length := by unfold rfP; rw [pf_len]; omega
      rw [hC.out, hL.out]
      change ∀ W, Calls Tryd.prog 73 #[.string (s.extract 1 s.size)] W fun e w' => (∃ v, e = .returned v ∧ OwnS w' W.heap.size v (rfP s)) ∧ Below W.heap.size W w' at C1
      clear hC hL hz
      generalize rfP s = L at C1 HZ hlen hpos ⊢
      go_enter Tryd.func57, Tryd.ntmps57
      rw [show (⟨#[47, 100, 101, 112, 111, 116, 47, 115, 116, 111, 114, 101, 47]⟩ : ByteArray) = dirR from rfl]
      go_wp2_with fail
      refine (C1 _).mono ?_
      clear C1
      rintro e w1 ⟨⟨v, rfl, O1⟩, B1⟩
      obtain ⟨g, c, hv, hg1, hg2⟩ := World.ownsRow.form O1 hpos
      subst hv
      have hcap : L.length ≤ c := by
        rcases O1.2 with ⟨h', _⟩ | ⟨g', cap', cur, h', _, _, hnc, _⟩
        · cases h'
        · injection h' with _ _ h3; subst h3; exact hnc
      have V1 : VRow w1 g L.length (fun j => .string (Sq.nth L j)) := ⟨fun j hj => by
        rw [World.ownsRow.cellAt O1 j (by omega)]
        unfold Sq.nth
        simp [List.getD, hj], fun j _ => World.ownsRow.frozenAt O1 j⟩
      have HV1 : Hid (VRow w1 g L.length (fun j => .string (Sq.nth L j))) := V1
      have HB1 : Hid (Below w.heap.size w w1) := B1
      clear O1 B1 V1
      go_wp2
      go_loopw [5] (fun xi wr => ∃ k : Nat, k ≤ L.length ∧ xi = .int .i64 k ∧ Hid (VRow wr g L.length (fun j => .string (if j < k then dirR ++ Sq.nth L j else Sq.nth L j))) ∧ Hid (Below w.heap.size w wr)) (fun i _ => L.length - (intOf i).toNat)
      case atStart => exact ⟨0, Nat.zero_le _, rfl, HV1.out.congr (fun j _ => by rw [if_neg (by omega)]), HB1⟩
      case round =>
        obtain ⟨k, hk, rfl, VK, BK⟩ := hrel
        by_cases hlt : k < L.length
        · have c1 := VK.out.cell k hlt
          have f1 := VK.out.free k hlt
          rw [if_neg (by omega)] at c1
          have hst : Hid (VRow (wr.setCell ⟨g, k, none⟩ (.string (dirR ++ Sq.nth L k))) g L.length (fun j => .string (if j < k + 1 then dirR ++ Sq.nth L j else Sq.nth L j))) := (VK.out.set k _ hlt).congr (fun j hj => by
            by_cases ej : j = k
            · rw [if_pos ej, if_pos (by omega), ej]
            · rw [if_neg ej]
              by_cases e2 : j < k
              · rw [if_pos e2, if_pos (by omega)]
              · rw [if_neg e2, if_neg (by omega)])
          have hB2 : Hid (Below w.heap.size w (wr.setCell ⟨g, k, none⟩ (.string (dirR ++ Sq.nth L k)))) := BK.out.setCell (p := ⟨g, k, none⟩) hg1 _
          have hx := HZ.out k
          have hd := dirR_size
          generalize Sq.nth L k = x at c1 hst hB2 hx
          go_wp2
          go_roundw
          case rel => exact ⟨k + 1, by omega, by go_num, hst, hB2⟩
          case measure => simp [intOf]; omega
        · have VE : VRow wr g L.length (fun j => .string (dirR ++ Sq.nth L j)) := VK.out.congr (fun j hj => by rw [if_pos (by omega)])
          have CK := rckR_any (some ⟨g, 0, none⟩) L.length c (fun j => dirR ++ Sq.nth L j) wr (fun i hi => ⟨_, rfl, by have := VE.cell i hi; rw [Addr.add_lit, Nat.zero_add]; exact this⟩)
          have HVE : Hid (VRow wr g L.length (fun j => .string (dirR ++ Sq.nth L j))) := VE
          clear VE
          go_wp2_with fail
          refine CK.mono ?_
          rintro e w4 ⟨rfl, hw4⟩
          -- @5
          go_wp2
          go_ret2
          refine ⟨⟨_, rfl, ⟨_, _, _, rfl⟩, fun _ => Or.inr ⟨g, c, by rw [List.length_map]; rfl, by rw [List.length_map]; exact hcap, hg1, by rw [List.length_map]; exact hpos, ?_⟩⟩, ?_⟩
          · rw [List.length_map]
            exact HVE.out.congr (fun j hj => by rw [nth_map L j hj])
          · exact BK.out
    · have e1 : (bt s 0 != 32) = true := by rw [bne_iff_ne]; exact hb
      have hC : Hid (rfC s = 150) := by unfold Hid rfC; rw [if_neg hz, if_neg hb]
      rw [hC.out]
      clear hz hC
      go_enter Tryd.func57, Tryd.ntmps57
      go_wp2
      go_ret2
      exact ⟨⟨_, rfl, ⟨_, _, _, rfl⟩, fun h => by cases h⟩, Below.refl _ _⟩
end Go.Proofs.YtgnlkggodchlbaaDoor
/- The document's take; walked. -/
namespace Go.Proofs.YtgnlkggodchlbaaDoor
open Go.RowKit Go.Shelf

theorem results_rct {P' : ByteArray} {D' : Nat → Int} {z' : Int} {vr' : Value} {F' : ByteArray} {vs' : Value} {fn : Func} {p q : Tmp} (hr : fn.results = #[.cell p 36, .tmp q]) (tmps : Array Value) (w : World) (g : Nat)
    (hp : tmps.getD p undef = .pointer (some ⟨g, 0, none⟩)) (h1 : w.rangeAt g 0 (infL P' D' z' vr' F' vs')) :
    (results fn tmps).run Tryd.prog w = .ok (.tuple #[.agg (infC P' D' z' vr' F' vs'), tmps.getD q undef]) w := by
  have l1 := run_loadVar_mid (P := Tryd.prog) w g 0 36 (infL P' D' z' vr' F' vs') _ h1 Tryd.underlying36 rfl (by rw [szRINF]; exact congrArg some (infL_len P' D' z' vr' F' vs').symm)
  have hp' : tmps[p]?.getD undef = .pointer (some ⟨g, 0, none⟩) := by simpa using hp
  simp [results, hr, hp', asAddr, l1, List.mapM_cons, List.mapM_nil]
  rfl

/-- What a call of take is handed besides the line. -/
structure TQ (w : World) (n : Nat) (s : IS) (vr vs : Value) (B b0 : Nat) : Prop where
  refs : OwnR w b0 vr s.R
  rb : ∀ k, vr.ownBlock = some k → k < B
  signs : OwnS w B vs s.S
  hb : b0 ≤ B
  hB : B ≤ w.heap.size
  e1 : n ≤ 3 → vr = .slice none 0 0 ∧ s.R = []
  e2 : n ≤ 4 → vs = .slice none 0 0 ∧ s.S = []
theorem two_boxes (w : World) (P : ByteArray) (D : Nat → Int) (z : Int) (vr : Value) (F : ByteArray) (vs : Value) :
    Inf ((w.alloc (.cells (infC P D z vr F vs) 36)).alloc (.cells (infC ⟨#[]⟩ (fun _ => 0) 0 (.slice none 0 0) ⟨#[]⟩ (.slice none 0 0)) 36)) w.heap.size P D z vr F vs ∧
    Inf ((w.alloc (.cells (infC P D z vr F vs) 36)).alloc (.cells (infC ⟨#[]⟩ (fun _ => 0) 0 (.slice none 0 0) ⟨#[]⟩ (.slice none 0 0)) 36)) (w.heap.size + 1) ⟨#[]⟩ (fun _ => 0) 0 (.slice none 0 0) ⟨#[]⟩ (.slice none 0 0) ∧
    Below w.heap.size w ((w.alloc (.cells (infC P D z vr F vs) 36)).alloc (.cells (infC ⟨#[]⟩ (fun _ => 0) 0 (.slice none 0 0) ⟨#[]⟩ (.slice none 0 0)) 36)) := by
  refine ⟨(Inf.box _ _ _ _ _ _ _ _).same (Below.heap_alloc _ _ _ (by rw [World.size_alloc]; omega)), ?_, ((Below.refl _ _).alloc (Nat.le_refl _) _).alloc (by rw [World.size_alloc]; omega) _⟩
  have := Inf.box (w.alloc (.cells (infC P D z vr F vs) 36)) 36 ⟨#[]⟩ (fun _ => 0) 0 (.slice none 0 0) ⟨#[]⟩ (.slice none 0 0)
  rw [World.size_alloc] at this
  exact this

theorem wp_store_rinf {o : Oper} {a : Act} {w : World} {K : Act → World → Prop} {Q : Exit → Act → World → Prop} {g : Nat} {P P' : ByteArray} {D D' : Nat → Int} {z z' : Int} {vr vr' : Value} {F F' : ByteArray} {vs vs' : Value} (x y : Operand) (ho : o.op = .store 36 x y)
    (hx : a.eval x = .pointer (some ⟨g, 0, none⟩)) (hy : a.eval y = .agg (infC P' D' z' vr' F' vs')) (h : Inf w g P D z vr F vs) (h1 : vr'.oneCell' = true) (h2 : vs'.oneCell' = true) (hdst : o.dst = none)
    (hK : ∀ W, W.rangeAt g 0 (infL P' D' z' vr' F' vs') → Upd w W g → K a W) : o.wp Tryd.prog a w K Q := by
  refine wp_store_mid 36 x y ho g 0 (infC P' D' z' vr' F' vs') hx hy (by rw [infC_size]; exact h.there37) (by rw [infC_size]; exact szRINF) (inf_one _ _ _ _ _ _ h1 h2) ?_
  rw [hdst]
  obtain ⟨s1, s2, s3, s4, s5⟩ := setCells_only g (infL P' D' z' vr' F' vs') 0 w
  exact hK _ (World.rangeAt_setCells_same w g 0 (infL P' D' z' vr' F' vs') (by rw [infL_len]; exact h.there37)) ⟨s3, s4, s5, s1, fun i _ hne => s2 i hne⟩
theorem yieldsIf_rinf {ops : Array Oper} {S : World → Prop} {op : Oper} {a : Act} {g : Nat} {P : ByteArray} {D : Nat → Int} {z : Int} {vr : Value} {F : ByteArray} {vs : Value} (hw : Region.wanted op (yielded ops a.tmps) = true) (x : Operand) (ho : op.op = .load 36 x)
    (hx : a.eval x = .pointer (some ⟨g, 0, none⟩)) (hS : ∀ w, S w → Inf w g P D z vr F vs) : YieldsIf Tryd.prog ops S op (.agg (infC P D z vr F vs)) a :=
  yieldsIf_load_mid hw 36 x ho g 0 hx (infL P D z vr F vs) _ (fun w hs => (hS w hs).range) Tryd.underlying36 rfl (by rw [szRINF]; exact congrArg some (infL_len P D z vr F vs).symm)

set_option maxRecDepth 100000 in
set_option maxHeartbeats 4000000 in
theorem rt0_any (P : ByteArray) (D : Nat → Int) (z : Int) (xr : Option Addr) (nr cr : Nat) (F : ByteArray) (xs : Option Addr) (ns cz : Nat) (l : ByteArray) (w : World) :
    Calls Tryd.prog 31 #[.agg (infC P D z (.slice xr nr cr) F (.slice xs ns cz)), .int .i64 0, .string l] w fun e w' => (∃ Q, e = .returned (.tuple #[.agg (infC Q D z (.slice xr nr cr) F (.slice xs ns cz)), .int .i64 (rpC l hdP)]) ∧ (rpC l hdP = 0 → Q = rpS l hdP)) ∧ Below w.heap.size w w' := by
  obtain ⟨I0, J0, B0⟩ := two_boxes w P D z (.slice xr nr cr) F (.slice xs ns cz)
  have C0 := fun W => rbeh_any l hdP W
  cases hp : hpQ l hdP
  · have hC : Hid (rpC l hdP = 150) := by unfold Hid rpC; rw [hp]; rfl
    rw [hC.out]
    rw [hp, bhS_no hp] at C0
    go_enter Tryd.func31, Tryd.ntmps31
    rw [show (⟨#[80, 97, 116, 104, 58, 32]⟩ : ByteArray) = hdP from rfl]
    go_wp2_with fail
    rw [inf_zero]
    generalize (w.alloc (.cells (infC P D z (.slice xr nr cr) F (.slice xs ns cz)) 36)).alloc (.cells (infC ⟨#[]⟩ (fun _ => 0) 0 (.slice none 0 0) ⟨#[]⟩ (.slice none 0 0)) 36) = w0 at I0 J0 B0 ⊢
    refine (C0 w0).mono ?_
    rintro e w1 ⟨rfl, rfl⟩
    go_wp2_with (first | (refine wpList_load_rinf (by rfl) (.tmp 3) (by rfl) (by rfl) I0 ?_) | (refine wpList_store_rinf (by rfl) (.tmp 6) (.tmp 35) (by rfl) (by rfl) (by rfl) J0 rfl rfl (by rfl) ?_; intro W2 R2 U2; refine Hid.out ?_))
    unfold Hid
    go_wp2
    exact bodyPost_ret (results_rct Tryd.results31 _ _ (w.heap.size + 1) rfl R2) rfl ⟨⟨_, rfl, fun h => by cases h⟩, U2.below B0 (by omega) B0.size⟩
  · have hC : Hid (rpC l hdP = prC (cpQ l hdP)) := by unfold Hid rpC; rw [hp]; rfl
    have hS : Hid (prC (cpQ l hdP) = 0 → rpS l hdP = cpQ l hdP) := fun h => by unfold rpS; rw [if_pos (by rw [hC.out]; exact h)]
    rw [hC.out]
    rw [hp, bhS_yes hp] at C0
    have C1 := fun W => rpath_any (cpQ l hdP) W
    generalize rpS l hdP = S at hS
    generalize prC (cpQ l hdP) = c at C1 hS ⊢
    clear hC hp
    generalize cpQ l hdP = q at C0 C1 hS
    go_enter Tryd.func31, Tryd.ntmps31
    rw [show (⟨#[80, 97, 116, 104, 58, 32]⟩ : ByteArray) = hdP from rfl]
    go_wp2_with fail
    rw [inf_zero]
    generalize (w.alloc (.cells (infC P D z (.slice xr nr cr) F (.slice xs ns cz)) 36)).alloc (.cells (infC ⟨#[]⟩ (fun _ => 0) 0 (.slice none 0 0) ⟨#[]⟩ (.slice none 0 0)) 36) = w0 at I0 J0 B0 ⊢
    refine (C0 w0).mono ?_
    rintro e w1 ⟨rfl, rfl⟩
    have c0 := I0.path
    have f0 := I0.free 0 (by omega)
    go_wp2
    -- @7
    have I1 : Inf ((w1.setCell ⟨w.heap.size, 0, none⟩ (.string q)).drew) w.heap.size q D z (.slice xr nr cr) F (.slice xs ns cz) := (I0.setPath q).same rfl
    have J1 : Inf ((w1.setCell ⟨w.heap.size, 0, none⟩ (.string q)).drew) (w.heap.size + 1) ⟨#[]⟩ (fun _ => 0) 0 (.slice none 0 0) ⟨#[]⟩ (.slice none 0 0) := J0.same (Below.heap_setCell w1 ⟨w.heap.size, 0, none⟩ (.string q) (w.heap.size + 1) (by show w.heap.size + 1 ≠ w.heap.size; omega))
    have B1 : Below w.heap.size w (w1.setCell ⟨w.heap.size, 0, none⟩ (.string q)).drew := (B0.setCell (p := ⟨w.heap.size, 0, none⟩) (Nat.le_refl _) _).drew
    clear I0 J0 B0 c0 f0 C0
    refine wp_region_held_drew (S := fun W => Inf W w.heap.size q D z (.slice xr nr cr) F (.slice xs ns cz) ∧ Below w.heap.size w W) (by kernel_rfl) ⟨I1, B1⟩ (fun hH => ?_)
    generalize (w1.setCell ⟨w.heap.size, 0, none⟩ (.string q)).drew = W at hH J1 ⊢
    clear I1 B1
    have J0 := J1
    -- @R
    refine wpAnyH_take (i := 0) (oi := { dst := some 38, op := Op.load 36 (Operand.tmp 3), type := 36, pos := "ref.go:230", after := #[], guard := none }) rfl (by kernel_rfl) (by kernel_rfl) (by kernel_rfl) (fun _ _ _ h => h) (yieldsIf_rinf (by rfl) (.tmp 3) rfl rfl (fun w' s => s.1)) hH ?_
    simp only [Act.put, List.setIfInBounds_toArray, List.set_cons_zero, List.set_cons_succ]
    refine wpAnyH_take (i := 1) (oi := { dst := some 39, op := Op.move (Operand.tmp 9), type := 9, pos := "ref.go:230", after := #[], guard := none }) (v := .string q) rfl (by kernel_rfl) (by kernel_rfl) (by kernel_rfl) (fun _ _ _ h => h) (Or.inl ⟨by rfl, by intro w _; go_simp⟩) hH ?_
    simp only [Act.put, List.setIfInBounds_toArray, List.set_cons_zero, List.set_cons_succ]
    refine wpAnyH_ready (rs := [2]) (by kernel_rfl) (by decide) (AllReadyH.cons rfl (fun K hK => ?_) AllReadyH.nil)
    rw [if_pos (by rfl)]
    go_simp
    refine (C1 _).mono ?_
    rintro e v1 ⟨rfl, rfl⟩
    go_wp2_with fail
    refine hK.out _ _ hH (fun _ => ?_)
    clear hK K
    try simp only [Act.put, List.setIfInBounds_toArray, List.set_cons_zero, List.set_cons_succ]
    refine wpAnyH_ready (rs := [3]) (by kernel_rfl) (by decide) (AllReadyH.cons rfl (fun K hK => ?_) AllReadyH.nil)
    rw [if_pos (by rfl)]
    refine wp_store_rinf (.tmp 6) (.tmp 38) rfl rfl rfl J0 rfl rfl rfl ?_
    intro W2 R2 U2
    have hH2 : _ ∧ _ := ⟨hH.1.same (U2.block _ hH.1.lt (by omega)), U2.below hH.2 (by omega) hH.2.size⟩
    refine hK.out _ _ hH2 (fun _ => ?_)
    clear hK K
    try simp only [Act.put, List.setIfInBounds_toArray, List.set_cons_zero, List.set_cons_succ]
    refine wpAnyH_ready (rs := [4]) (by kernel_rfl) (by decide) (AllReadyH.cons rfl (fun K hK => ?_) AllReadyH.nil)
    rw [if_pos (by rfl)]
    go_simp
    refine hK.out _ _ hH2 (fun _ => ?_)
    clear hK K
    try simp only [Act.put, List.setIfInBounds_toArray, List.set_cons_zero, List.set_cons_succ]
    -- @E
    refine wpAnyH_done (by kernel_rfl) ?_ _
    go_wp2
    exact bodyPost_ret (results_rct Tryd.results31 _ _ (w.heap.size + 1) rfl R2) rfl ⟨⟨_, rfl, fun h => (hS.out h).symm⟩, hH2.2⟩
end Go.Proofs.YtgnlkggodchlbaaDoor
/- The document's take at the lines 1 to 3; walked. -/
namespace Go.Proofs.YtgnlkggodchlbaaDoor
open Go.RowKit Go.Shelf

set_option maxRecDepth 100000 in
set_option maxHeartbeats 4000000 in
theorem rt1_any (P : ByteArray) (D : Nat → Int) (z : Int) (xr : Option Addr) (nr cr : Nat) (F : ByteArray) (xs : Option Addr) (ns cz : Nat) (l : ByteArray) (w : World) (hl : l.size ≤ 1048576) :
    Calls Tryd.prog 31 #[.agg (infC P D z (.slice xr nr cr) F (.slice xs ns cz)), .int .i64 1, .string l] w fun e w' => (∃ E, e = .returned (.tuple #[.agg (infC P E z (.slice xr nr cr) F (.slice xs ns cz)), .int .i64 (rhC l)]) ∧ (rhC l = 0 → E = rhD l)) ∧ Below w.heap.size w w' := by
  obtain ⟨I0, J0, B0⟩ := two_boxes w P D z (.slice xr nr cr) F (.slice xs ns cz)
  have C0 := fun W => rbeh_any l hdH W
  cases hp : hpQ l hdH
  · rw [rhC_no hp]
    rw [hp, bhS_no hp] at C0
    go_enter Tryd.func31, Tryd.ntmps31
    rw [show (⟨#[72, 97, 115, 104, 58, 32, 115, 104, 97, 50, 53, 54, 58]⟩ : ByteArray) = hdH from rfl]
    go_wp2_with fail
    rw [inf_zero]
    generalize (w.alloc (.cells (infC P D z (.slice xr nr cr) F (.slice xs ns cz)) 36)).alloc (.cells (infC ⟨#[]⟩ (fun _ => 0) 0 (.slice none 0 0) ⟨#[]⟩ (.slice none 0 0)) 36) = w0 at I0 J0 B0 ⊢
    refine (C0 w0).mono ?_
    rintro e w1 ⟨rfl, rfl⟩
    go_wp2_with (first | (refine wpList_load_rinf (by rfl) (.tmp 3) (by rfl) (by rfl) I0 ?_) | (refine wpList_store_rinf (by rfl) (.tmp 6) (.tmp 50) (by rfl) (by rfl) (by rfl) J0 rfl rfl (by rfl) ?_; intro W2 R2 U2; refine Hid.out ?_))
    unfold Hid
    go_wp2
    exact bodyPost_ret (results_rct Tryd.results31 _ _ (w.heap.size + 1) rfl R2) rfl ⟨⟨_, rfl, fun h => by cases h⟩, U2.below B0 (by omega) B0.size⟩
  · rw [hp, bhS_yes hp] at C0
    have hq := cpQ_size l hdH
    have C1 := fun W => rdgO_any (cpQ l hdH) W (by omega)
    have hw : w.heap.size < ((w.alloc (.cells (infC P D z (.slice xr nr cr) F (.slice xs ns cz)) 36)).alloc (.cells (infC ⟨#[]⟩ (fun _ => 0) 0 (.slice none 0 0) ⟨#[]⟩ (.slice none 0 0)) 36)).heap.size := I0.lt
    by_cases hd : dOk (cpQ l hdH)
    · have e0 := rhC_yes hp hd
      rw [decide_eq_true hd] at C1
      have eD := rhD_z e0
      rw [e0]
      generalize rhD l = E at eD ⊢
      subst eD
      generalize dFn (cpQ l hdH) = E at C1 ⊢
      clear e0 hd hq hp
      generalize cpQ l hdH = q at C0 C1
      go_enter Tryd.func31, Tryd.ntmps31
      rw [show (⟨#[72, 97, 115, 104, 58, 32, 115, 104, 97, 50, 53, 54, 58]⟩ : ByteArray) = hdH from rfl]
      go_wp2_with fail
      rw [inf_zero]
      generalize (w.alloc (.cells (infC P D z (.slice xr nr cr) F (.slice xs ns cz)) 36)).alloc (.cells (infC ⟨#[]⟩ (fun _ => 0) 0 (.slice none 0 0) ⟨#[]⟩ (.slice none 0 0)) 36) = w0 at I0 J0 B0 hw ⊢
      refine (C0 w0).mono ?_
      rintro e w1 ⟨rfl, rfl⟩
      clear C0
      go_wp2_with fail
      refine (C1 _).mono ?_
      clear C1
      rintro e w2 ⟨rfl, b2⟩
      have I2 : Hid (Inf w2 w.heap.size P D z (.slice xr nr cr) F (.slice xs ns cz)) := I0.below b2 I0.lt
      have J2 : Hid (Inf w2 (w.heap.size + 1) ⟨#[]⟩ (fun _ => 0) 0 (.slice none 0 0) ⟨#[]⟩ (.slice none 0 0)) := J0.below b2 J0.lt
      have B2 : Hid (Below w.heap.size w w2) := B0.trans (b2.mono B0.size)
      clear I0 J0 B0 b2 hw
      go_wp2_with (refine wpList_store_any (by rfl) 22 (.tmp 13) (.tmp 54) (by rfl) w2.heap.size (by rfl) (by rfl) (Row.rep (by rfl)) szR32 (by rfl) ?_; intro W3 R3 U3; refine Hid.out ?_)
      unfold Hid
      have I3 : Inf W3 w.heap.size P D z (.slice xr nr cr) F (.slice xs ns cz) := I2.out.same ((U3.block _ (by rw [World.size_alloc]; have := I2.out.lt; omega) (by have := I2.out.lt; omega)).trans (Below.heap_alloc _ _ _ I2.out.lt))
      have J3 : Inf W3 (w.heap.size + 1) ⟨#[]⟩ (fun _ => 0) 0 (.slice none 0 0) ⟨#[]⟩ (.slice none 0 0) := J2.out.same ((U3.block _ (by rw [World.size_alloc]; have := J2.out.lt; omega) (by have := J2.out.lt; omega)).trans (Below.heap_alloc _ _ _ J2.out.lt))
      have B3 : Hid (Below w.heap.size w W3) := U3.below (B2.out.alloc B2.out.size _) (by have := I2.out.lt; omega) (by rw [World.size_alloc]; have := I2.out.lt; omega)
      have hT := I3.there
      have HB4 : Hid (Below w.heap.size w (W3.setCells w.heap.size 1 (cs .u8 32 E).toList)) := setCells_below w.heap.size (Nat.le_refl _) _ _ _ _ B3.out
      have I4 : Inf (W3.setCells w.heap.size 1 (cs .u8 32 E).toList) w.heap.size P E z (.slice xr nr cr) F (.slice xs ns cz) := I3.setDig E
      have J4 : Inf (W3.setCells w.heap.size 1 (cs .u8 32 E).toList) (w.heap.size + 1) ⟨#[]⟩ (fun _ => 0) 0 (.slice none 0 0) ⟨#[]⟩ (.slice none 0 0) := J3.same ((setCells_only w.heap.size (cs .u8 32 E).toList 1 W3).2.1 _ (by omega))
      have c0 := I3.path
      clear U3 I2 J2 B2
      go_wp2_with (first | (refine wpList_load_arr (by rfl) 22 (.tmp 13) (by rfl) w2.heap.size (by rfl) R3 undD32 szR32 ?_) | (refine wpList_store_mid (by rfl) 22 (.tmp 60) (.tmp 59) (by rfl) w.heap.size 1 (cs .u8 32 E) (by rfl) (by rfl) (by rw [cs_size]; exact hT) (by rw [cs_size]; exact szR32) (cs_all _ _ _) ?_; refine Hid.out ?_))
      unfold Hid
      generalize W3.setCells w.heap.size 1 (cs .u8 32 E).toList = W4 at I4 J4 HB4 ⊢
      go_wp2_with (first | (refine wpList_load_rinf (by rfl) (.tmp 3) (by rfl) (by rfl) I4 ?_) | (refine wpList_store_rinf (by rfl) (.tmp 6) (.tmp 61) (by rfl) (by rfl) (by rfl) J4 rfl rfl (by rfl) ?_; intro W2 R2 U2; refine Hid.out ?_))
      unfold Hid
      go_wp2
      exact bodyPost_ret (results_rct Tryd.results31 _ _ (w.heap.size + 1) rfl R2) rfl ⟨⟨_, rfl, fun _ => rfl⟩, U2.below HB4.out (by omega) HB4.out.size⟩
    · have e0 := rhC_bad hp hd
      rw [decide_eq_false hd, dFn_no hd] at C1
      rw [e0]
      clear e0 hd hq hp
      generalize cpQ l hdH = q at C0 C1
      go_enter Tryd.func31, Tryd.ntmps31
      rw [show (⟨#[72, 97, 115, 104, 58, 32, 115, 104, 97, 50, 53, 54, 58]⟩ : ByteArray) = hdH from rfl]
      go_wp2_with fail
      rw [inf_zero]
      generalize (w.alloc (.cells (infC P D z (.slice xr nr cr) F (.slice xs ns cz)) 36)).alloc (.cells (infC ⟨#[]⟩ (fun _ => 0) 0 (.slice none 0 0) ⟨#[]⟩ (.slice none 0 0)) 36) = w0 at I0 J0 B0 hw ⊢
      refine (C0 w0).mono ?_
      rintro e w1 ⟨rfl, rfl⟩
      clear C0
      go_wp2_with fail
      refine (C1 _).mono ?_
      clear C1
      rintro e w2 ⟨rfl, b2⟩
      have I2 : Hid (Inf w2 w.heap.size P D z (.slice xr nr cr) F (.slice xs ns cz)) := I0.below b2 I0.lt
      have J2 : Hid (Inf w2 (w.heap.size + 1) ⟨#[]⟩ (fun _ => 0) 0 (.slice none 0 0) ⟨#[]⟩ (.slice none 0 0)) := J0.below b2 J0.lt
      have B2 : Hid (Below w.heap.size w w2) := B0.trans (b2.mono B0.size)
      clear I0 J0 B0 b2 hw
      go_wp2_with (refine wpList_store_any (by rfl) 22 (.tmp 13) (.tmp 54) (by rfl) w2.heap.size (by rfl) (by rfl) (Row.rep (by rfl)) szR32 (by rfl) ?_; intro W3 R3 U3; refine Hid.out ?_)
      unfold Hid
      have I3 : Inf W3 w.heap.size P D z (.slice xr nr cr) F (.slice xs ns cz) := I2.out.same ((U3.block _ (by rw [World.size_alloc]; have := I2.out.lt; omega) (by have := I2.out.lt; omega)).trans (Below.heap_alloc _ _ _ I2.out.lt))
      have J3 : Inf W3 (w.heap.size + 1) ⟨#[]⟩ (fun _ => 0) 0 (.slice none 0 0) ⟨#[]⟩ (.slice none 0 0) := J2.out.same ((U3.block _ (by rw [World.size_alloc]; have := J2.out.lt; omega) (by have := J2.out.lt; omega)).trans (Below.heap_alloc _ _ _ J2.out.lt))
      have B3 : Hid (Below w.heap.size w W3) := U3.below (B2.out.alloc B2.out.size _) (by have := I2.out.lt; omega) (by rw [World.size_alloc]; have := I2.out.lt; omega)
      clear U3 I2 J2 B2
      go_wp2_with (first | (refine wpList_load_rinf (by rfl) (.tmp 3) (by rfl) (by rfl) I3 ?_) | (refine wpList_store_rinf (by rfl) (.tmp 6) (.tmp 58) (by rfl) (by rfl) (by rfl) J3 rfl rfl (by rfl) ?_; intro W2 R2 U2; refine Hid.out ?_))
      unfold Hid
      go_wp2
      exact bodyPost_ret (results_rct Tryd.results31 _ _ (w.heap.size + 1) rfl R2) rfl ⟨⟨_, rfl, fun h => by cases h⟩, U2.below B3.out (by omega) B3.out.size⟩

set_option maxRecDepth 100000 in
set_option maxHeartbeats 4000000 in
theorem rt2_any (P : ByteArray) (D : Nat → Int) (z : Int) (xr : Option Addr) (nr cr : Nat) (F : ByteArray) (xs : Option Addr) (ns cz : Nat) (l : ByteArray) (w : World) (hl : l.size ≤ 1048576) :
    Calls Tryd.prog 31 #[.agg (infC P D z (.slice xr nr cr) F (.slice xs ns cz)), .int .i64 2, .string l] w fun e w' => (∃ y, e = .returned (.tuple #[.agg (infC P D y (.slice xr nr cr) F (.slice xs ns cz)), .int .i64 (rzC l)]) ∧ (rzC l = 0 → y = rzV l)) ∧ Below w.heap.size w w' := by
  obtain ⟨I0, J0, B0⟩ := two_boxes w P D z (.slice xr nr cr) F (.slice xs ns cz)
  have C0 := fun W => rbeh_any l hdZ W
  cases hp : hpQ l hdZ
  · rw [rzC_no (l := l) (fun h => by rw [hp] at h; exact Bool.noConfusion h.1)]
    rw [hp, bhS_no hp] at C0
    go_enter Tryd.func31, Tryd.ntmps31
    rw [show (⟨#[83, 105, 122, 101, 58, 32]⟩ : ByteArray) = hdZ from rfl]
    go_wp2_with fail
    rw [inf_zero]
    generalize (w.alloc (.cells (infC P D z (.slice xr nr cr) F (.slice xs ns cz)) 36)).alloc (.cells (infC ⟨#[]⟩ (fun _ => 0) 0 (.slice none 0 0) ⟨#[]⟩ (.slice none 0 0)) 36) = w0 at I0 J0 B0 ⊢
    refine (C0 w0).mono ?_
    rintro e w1 ⟨rfl, rfl⟩
    go_wp2_with (first | (refine wpList_load_rinf (by rfl) (.tmp 3) (by rfl) (by rfl) I0 ?_) | (refine wpList_store_rinf (by rfl) (.tmp 6) (.tmp 71) (by rfl) (by rfl) (by rfl) J0 rfl rfl (by rfl) ?_; intro W2 R2 U2; refine Hid.out ?_))
    unfold Hid
    go_wp2
    exact bodyPost_ret (results_rct Tryd.results31 _ _ (w.heap.size + 1) rfl R2) rfl ⟨⟨_, rfl, fun h => by cases h⟩, U2.below B0 (by omega) B0.size⟩
  · rw [hp, bhS_yes hp] at C0
    have hq := cpQ_size l hdZ
    have C1 := fun W => rnum_any (cpQ l hdZ) W (by omega)
    have eC : nmC (cpQ l hdZ) = rzC l := by unfold nmC rzC; simp only [hp, true_and]
    have eV : nmV (cpQ l hdZ) = rzV l := by unfold nmV rzV; rw [eC]
    rw [eC, eV] at C1
    generalize rzC l = c at C1 ⊢
    generalize rzV l = y at C1 ⊢
    clear eC eV hq hp
    generalize cpQ l hdZ = q at C0 C1
    go_enter Tryd.func31, Tryd.ntmps31
    rw [show (⟨#[83, 105, 122, 101, 58, 32]⟩ : ByteArray) = hdZ from rfl]
    go_wp2_with fail
    rw [inf_zero]
    generalize (w.alloc (.cells (infC P D z (.slice xr nr cr) F (.slice xs ns cz)) 36)).alloc (.cells (infC ⟨#[]⟩ (fun _ => 0) 0 (.slice none 0 0) ⟨#[]⟩ (.slice none 0 0)) 36) = w0 at I0 J0 B0 ⊢
    refine (C0 w0).mono ?_
    rintro e w1 ⟨rfl, rfl⟩
    clear C0
    go_wp2_with fail
    refine (C1 _).mono ?_
    clear C1
    rintro e w2 ⟨rfl, rfl⟩
    have c0 := I0.size
    have f0 := I0.free 33 (by omega)
    have I4 : Inf (w2.setCell ⟨w.heap.size, 33, none⟩ (.int .i64 y)) w.heap.size P D y (.slice xr nr cr) F (.slice xs ns cz) := I0.setSize y
    have J4 : Inf (w2.setCell ⟨w.heap.size, 33, none⟩ (.int .i64 y)) (w.heap.size + 1) ⟨#[]⟩ (fun _ => 0) 0 (.slice none 0 0) ⟨#[]⟩ (.slice none 0 0) := J0.same (Below.heap_setCell w2 ⟨w.heap.size, 33, none⟩ (.int .i64 y) (w.heap.size + 1) (by show w.heap.size + 1 ≠ w.heap.size; omega))
    have HB4 : Hid (Below w.heap.size w (w2.setCell ⟨w.heap.size, 33, none⟩ (.int .i64 y))) := B0.setCell (p := ⟨w.heap.size, 33, none⟩) (Nat.le_refl _) _
    clear J0 B0
    go_wp2_with (first | (refine wpList_load_rinf (by rfl) (.tmp 3) (by rfl) (by rfl) I4 ?_) | (refine wpList_store_rinf (by rfl) (.tmp 6) (.tmp 78) (by rfl) (by rfl) (by rfl) J4 rfl rfl (by rfl) ?_; intro W2 R2 U2; refine Hid.out ?_))
    unfold Hid
    go_wp2
    exact bodyPost_ret (results_rct Tryd.results31 _ _ (w.heap.size + 1) rfl R2) rfl ⟨⟨_, rfl, fun _ => rfl⟩, U2.below HB4.out (by omega) HB4.out.size⟩

set_option maxRecDepth 100000 in
set_option maxHeartbeats 4000000 in
theorem rt3_any (P : ByteArray) (D : Nat → Int) (z : Int) (xr : Option Addr) (nr cr : Nat) (F : ByteArray) (xs : Option Addr) (ns cz : Nat) (l : ByteArray) (w : World) (hl : l.size ≤ 1048576) :
    Calls Tryd.prog 31 #[.agg (infC P D z (.slice xr nr cr) F (.slice xs ns cz)), .int .i64 3, .string l] w fun e w' => (∃ y m k, e = .returned (.tuple #[.agg (infC P D z (.slice y m k) F (.slice xs ns cz)), .int .i64 (rrC l)]) ∧ (rrC l = 0 → OwnR w' w.heap.size (.slice y m k) (rrL l))) ∧ Below w.heap.size w w' := by
  obtain ⟨I0, J0, B0⟩ := two_boxes w P D z (.slice xr nr cr) F (.slice xs ns cz)
  have C0 := fun W => rbeh_any l hdR W
  cases hp : hpQ l hdR
  · have e0 : rrC l = 150 := by unfold rrC; simp [hp]
    rw [e0]
    rw [hp, bhS_no hp] at C0
    go_enter Tryd.func31, Tryd.ntmps31
    rw [show (⟨#[82, 101, 102, 115, 58]⟩ : ByteArray) = hdR from rfl]
    go_wp2_with fail
    rw [inf_zero]
    generalize (w.alloc (.cells (infC P D z (.slice xr nr cr) F (.slice xs ns cz)) 36)).alloc (.cells (infC ⟨#[]⟩ (fun _ => 0) 0 (.slice none 0 0) ⟨#[]⟩ (.slice none 0 0)) 36) = w0 at I0 J0 B0 ⊢
    refine (C0 w0).mono ?_
    rintro e w1 ⟨rfl, rfl⟩
    go_wp2_with (first | (refine wpList_load_rinf (by rfl) (.tmp 3) (by rfl) (by rfl) I0 ?_) | (refine wpList_store_rinf (by rfl) (.tmp 6) (.tmp 89) (by rfl) (by rfl) (by rfl) J0 rfl rfl (by rfl) ?_; intro W2 R2 U2; refine Hid.out ?_))
    unfold Hid
    go_wp2
    exact bodyPost_ret (results_rct Tryd.results31 _ _ (w.heap.size + 1) rfl R2) rfl ⟨⟨_, _, _, rfl, fun h => by cases h⟩, U2.below B0 (by omega) B0.size⟩
  · obtain ⟨eC, eL⟩ := rf_rr hp
    rw [hp, bhS_yes hp] at C0
    have hq := cpQ_size l hdR
    have C1 := fun W => rrefs_any (cpQ l hdR) W (by omega)
    rw [eC] at C1
    have HL : Hid (rrC l = 0 → rfL (cpQ l hdR) = rrL l) := eL
    generalize rrC l = c at C1 HL ⊢
    generalize rrL l = L at HL ⊢
    clear eC eL hq hp
    generalize cpQ l hdR = q at C0 C1 HL
    go_enter Tryd.func31, Tryd.ntmps31
    rw [show (⟨#[82, 101, 102, 115, 58]⟩ : ByteArray) = hdR from rfl]
    go_wp2_with fail
    rw [inf_zero]
    generalize (w.alloc (.cells (infC P D z (.slice xr nr cr) F (.slice xs ns cz)) 36)).alloc (.cells (infC ⟨#[]⟩ (fun _ => 0) 0 (.slice none 0 0) ⟨#[]⟩ (.slice none 0 0)) 36) = w0 at I0 J0 B0 ⊢
    refine (C0 w0).mono ?_
    rintro e w1 ⟨rfl, rfl⟩
    clear C0
    go_wp2_with fail
    refine (C1 _).mono ?_
    clear C1
    rintro e w2 ⟨⟨v, rfl, ⟨y, m, k, rfl⟩, O2⟩, b2⟩
    have I2 := I0.below b2 I0.lt
    have J2 := J0.below b2 J0.lt
    have B2 := B0.trans (b2.mono B0.size)
    have hz1 : w.heap.size + 1 < w1.heap.size := J0.lt
    have c0 := I2.refs
    have f0 := I2.free 34 (by omega)
    have I4 : Inf (w2.setCell ⟨w.heap.size, 34, none⟩ (.slice y m k)) w.heap.size P D z (.slice y m k) F (.slice xs ns cz) := I2.setRefs (.slice y m k)
    have J4 : Inf (w2.setCell ⟨w.heap.size, 34, none⟩ (.slice y m k)) (w.heap.size + 1) ⟨#[]⟩ (fun _ => 0) 0 (.slice none 0 0) ⟨#[]⟩ (.slice none 0 0) := J2.same (Below.heap_setCell w2 ⟨w.heap.size, 34, none⟩ (.slice y m k) (w.heap.size + 1) (by show w.heap.size + 1 ≠ w.heap.size; omega))
    have HB4 : Hid (Below w.heap.size w (w2.setCell ⟨w.heap.size, 34, none⟩ (.slice y m k))) := B2.setCell (p := ⟨w.heap.size, 34, none⟩) (Nat.le_refl _) _
    have HO : Hid (c = 0 → OwnR w2 w1.heap.size (.slice y m k) (rfL q)) := O2
    clear J0 B0 I0 I2 J2 B2 b2 O2
    go_wp2_with (first | (refine wpList_load_rinf (by rfl) (.tmp 3) (by rfl) (by rfl) I4 ?_) | (refine wpList_store_rinf (by rfl) (.tmp 6) (.tmp 96) (by rfl) (by rfl) (by rfl) J4 rfl rfl (by rfl) ?_; intro W2 R2 U2; refine Hid.out ?_))
    unfold Hid
    go_wp2
    refine bodyPost_ret (results_rct Tryd.results31 _ _ (w.heap.size + 1) rfl R2) rfl ⟨⟨_, _, _, rfl, fun h => ?_⟩, U2.below HB4.out (by omega) HB4.out.size⟩
    have o := HO.out h
    rw [HL.out h] at o
    refine (o.same (fun g hg => ?_)).mono (by omega)
    have hgl := o.ge hg
    rw [U2.block g (by rw [World.size_setCell]; omega) (by omega)]
    exact Below.heap_setCell w2 ⟨w.heap.size, 34, none⟩ (.slice y m k) g (by show g ≠ w.heap.size; omega)
end Go.Proofs.YtgnlkggodchlbaaDoor
/- The document's take from line 4 on; walked. -/
namespace Go.Proofs.YtgnlkggodchlbaaDoor
open Go.RowKit Go.Shelf

set_option maxRecDepth 100000 in
set_option maxHeartbeats 4000000 in
theorem rt4_any (P : ByteArray) (D : Nat → Int) (z : Int) (xr : Option Addr) (nr cr : Nat) (F : ByteArray) (xs : Option Addr) (ns cz : Nat) (l : ByteArray) (w : World) (hp : hpQ l hdF = true) :
    Calls Tryd.prog 31 #[.agg (infC P D z (.slice xr nr cr) F (.slice xs ns cz)), .int .i64 4, .string l] w fun e w' => (∃ Q, e = .returned (.tuple #[.agg (infC P D z (.slice xr nr cr) Q (.slice xs ns cz)), .int .i64 (rpC l hdF)]) ∧ (rpC l hdF = 0 → Q = rpS l hdF)) ∧ Below w.heap.size w w' := by
  obtain ⟨I0, J0, B0⟩ := two_boxes w P D z (.slice xr nr cr) F (.slice xs ns cz)
  have C0 := fun W => rbeh_any l hdF W
  have hC : Hid (rpC l hdF = prC (cpQ l hdF)) := by unfold Hid rpC; rw [hp]; rfl
  have hS : Hid (prC (cpQ l hdF) = 0 → rpS l hdF = cpQ l hdF) := fun h => by unfold rpS; rw [if_pos (by rw [hC.out]; exact h)]
  rw [hC.out]
  rw [hp, bhS_yes hp] at C0
  have C1 := fun W => rpath_any (cpQ l hdF) W
  generalize rpS l hdF = S at hS
  generalize prC (cpQ l hdF) = c at C1 hS ⊢
  clear hC hp
  generalize cpQ l hdF = q at C0 C1 hS
  go_enter Tryd.func31, Tryd.ntmps31
  rw [show (⟨#[70, 114, 111, 109, 58, 32]⟩ : ByteArray) = hdF from rfl]
  go_wp2_with fail
  rw [inf_zero]
  generalize (w.alloc (.cells (infC P D z (.slice xr nr cr) F (.slice xs ns cz)) 36)).alloc (.cells (infC ⟨#[]⟩ (fun _ => 0) 0 (.slice none 0 0) ⟨#[]⟩ (.slice none 0 0)) 36) = w0 at I0 J0 B0 ⊢
  refine (C0 w0).mono ?_
  rintro e w1 ⟨rfl, rfl⟩
  have c0 := I0.from_
  have f0 := I0.free 35 (by omega)
  go_wp2
  -- @7
  have I1 : Inf ((w1.setCell ⟨w.heap.size, 35, none⟩ (.string q)).drew) w.heap.size P D z (.slice xr nr cr) q (.slice xs ns cz) := (I0.setFrom q).same rfl
  have J1 : Inf ((w1.setCell ⟨w.heap.size, 35, none⟩ (.string q)).drew) (w.heap.size + 1) ⟨#[]⟩ (fun _ => 0) 0 (.slice none 0 0) ⟨#[]⟩ (.slice none 0 0) := J0.same (Below.heap_setCell w1 ⟨w.heap.size, 35, none⟩ (.string q) (w.heap.size + 1) (by show w.heap.size + 1 ≠ w.heap.size; omega))
  have B1 : Below w.heap.size w (w1.setCell ⟨w.heap.size, 35, none⟩ (.string q)).drew := (B0.setCell (p := ⟨w.heap.size, 35, none⟩) (Nat.le_refl _) _).drew
  clear I0 J0 B0 c0 f0 C0
  refine wp_region_held_drew (S := fun W => Inf W w.heap.size P D z (.slice xr nr cr) q (.slice xs ns cz) ∧ Below w.heap.size w W) (by kernel_rfl) ⟨I1, B1⟩ (fun hH => ?_)
  generalize (w1.setCell ⟨w.heap.size, 35, none⟩ (.string q)).drew = W at hH J1 ⊢
  clear I1 B1
  have J0 := J1
  refine wpAnyH_take (i := 0) (oi := { dst := some 110, op := Op.load 36 (Operand.tmp 3), type := 36, pos := "ref.go:263", after := #[], guard := none }) rfl (by kernel_rfl) (by kernel_rfl) (by kernel_rfl) (fun _ _ _ h => h) (yieldsIf_rinf (by rfl) (.tmp 3) rfl rfl (fun w' s => s.1)) hH ?_
  simp only [Act.put, List.setIfInBounds_toArray, List.set_cons_zero, List.set_cons_succ]
  refine wpAnyH_take (i := 1) (oi := { dst := some 111, op := Op.move (Operand.tmp 19), type := 9, pos := "ref.go:263", after := #[], guard := none }) (v := .string q) rfl (by kernel_rfl) (by kernel_rfl) (by kernel_rfl) (fun _ _ _ h => h) (Or.inl ⟨by rfl, by intro w _; go_simp⟩) hH ?_
  simp only [Act.put, List.setIfInBounds_toArray, List.set_cons_zero, List.set_cons_succ]
  refine wpAnyH_ready (rs := [2]) (by kernel_rfl) (by decide) (AllReadyH.cons rfl (fun K hK => ?_) AllReadyH.nil)
  rw [if_pos (by rfl)]
  go_simp
  refine (C1 _).mono ?_
  rintro e v1 ⟨rfl, rfl⟩
  go_wp2_with fail
  refine hK.out _ _ hH (fun _ => ?_)
  clear hK K
  try simp only [Act.put, List.setIfInBounds_toArray, List.set_cons_zero, List.set_cons_succ]
  refine wpAnyH_ready (rs := [3]) (by kernel_rfl) (by decide) (AllReadyH.cons rfl (fun K hK => ?_) AllReadyH.nil)
  rw [if_pos (by rfl)]
  refine wp_store_rinf (.tmp 6) (.tmp 110) rfl rfl rfl J0 rfl rfl rfl ?_
  intro W2 R2 U2
  have hH2 : _ ∧ _ := ⟨hH.1.same (U2.block _ hH.1.lt (by omega)), U2.below hH.2 (by omega) hH.2.size⟩
  refine hK.out _ _ hH2 (fun _ => ?_)
  clear hK K
  try simp only [Act.put, List.setIfInBounds_toArray, List.set_cons_zero, List.set_cons_succ]
  refine wpAnyH_ready (rs := [4]) (by kernel_rfl) (by decide) (AllReadyH.cons rfl (fun K hK => ?_) AllReadyH.nil)
  rw [if_pos (by rfl)]
  go_simp
  refine hK.out _ _ hH2 (fun _ => ?_)
  clear hK K
  try simp only [Act.put, List.setIfInBounds_toArray, List.set_cons_zero, List.set_cons_succ]
  refine wpAnyH_done (by kernel_rfl) ?_ _
  go_wp2
  exact bodyPost_ret (results_rct Tryd.results31 _ _ (w.heap.size + 1) rfl R2) rfl ⟨⟨_, rfl, fun h => (hS.out h).symm⟩, hH2.2⟩

/-- append(s, y), s the call's own: where it lies. -/
theorem wpList_append_sl (w : World) {ops : Array Oper} {rest : List Oper} {o : Oper} {a : Act} {Q : Exit → Act → World → Prop} (hgd : o.guard = none) (s x : Operand)
    (ho : o.op = .call { callee := .builtin .append, args := #[s, x], argTypes := #[24, 24] })
    (B : Nat) (v : Value) (L : List ByteArray) (hs : a.eval s = v) (hown : OwnS w B v L)
    (g c : Nat) (y : ByteArray) (hx : a.eval x = .slice (some ⟨g, 0, none⟩) 1 c) (hc : w.cell? ⟨g, 0, none⟩ = some (.string y)) (hn : L.length ≤ 8796093022000) (hbase : B ≤ w.heap.size)
    (h : ∀ k cap w', OwnS w' B (.slice (some ⟨k, 0, none⟩) (L.length + 1) cap) (L ++ [y]) → w.grownBy w' v.ownBlock → (v.ownBlock = some k ∨ k = w.heap.size) → wpList Tryd.prog ops Q rest (a.put o.dst (.slice (some ⟨k, 0, none⟩) (L.length + 1) cap)) w') : wpList Tryd.prog ops Q (o :: rest) a w := by
  obtain ⟨i0, hi, hz0, hz1, hz2⟩ := info_parts Sq.info_str
  refine wpList_append_lies w hgd s x 24 ho B 9 i0 (.string ByteArray.empty) 1 16 Tryd.underlying24 hi hz0 hz1 hz2 rfl (by decide) v L.length _ hs hown ⟨g, 0, none⟩ 1 c [.string y] hx rfl ?_ ?_ (by decide) (by unfold maxLen; omega) ?_ hbase w.heap.size rfl ?_
  · intro j u hj
    match j, hj with
    | 0, hj => simp at hj; subst hj; simpa [Addr.add] using hc
  · intro u hu; simp at hu; subst hu; rfl
  · omega
  · intro k cap w' h1 h2 h3 _
    refine h k cap w' ?_ h2 h3
    unfold OwnS
    rw [List.length_append, List.map_append]
    exact h1

theorem wpList_append_sn (w : World) {ops : Array Oper} {rest : List Oper} {o : Oper} {a : Act} {Q : Exit → Act → World → Prop} (hgd : o.guard = none) (s x : Operand)
    (ho : o.op = .call { callee := .builtin .append, args := #[s, x], argTypes := #[24, 24] })
    (B : Nat) (v : Value) (L : List ByteArray) (hs : a.eval s = v) {N : Nat} (hN : N = L.length) (hown : OwnS w B v L)
    (g c : Nat) (y : ByteArray) (hx : a.eval x = .slice (some ⟨g, 0, none⟩) 1 c) (hc : w.cell? ⟨g, 0, none⟩ = some (.string y)) (hn : N ≤ 8796093022000) (hbase : B ≤ w.heap.size)
    (h : ∀ k cap w', OwnS w' B (.slice (some ⟨k, 0, none⟩) (N + 1) cap) (L ++ [y]) → w.grownBy w' v.ownBlock → (v.ownBlock = some k ∨ k = w.heap.size) → wpList Tryd.prog ops Q rest (a.put o.dst (.slice (some ⟨k, 0, none⟩) (N + 1) cap)) w') : wpList Tryd.prog ops Q (o :: rest) a w := by
  subst hN
  exact wpList_append_sl w hgd s x ho B v L hs hown g c y hx hc hn hbase h

set_option maxRecDepth 100000 in
set_option maxHeartbeats 4000000 in
theorem rtS_none (n : Nat) (P : ByteArray) (D : Nat → Int) (z : Int) (xr : Option Addr) (nr cr : Nat) (F : ByteArray) (xs : Option Addr) (N cz : Nat) (L : List ByteArray) (B : Nat) (l fq : ByteArray) (fb : Bool) (w : World) (h4 : 4 ≤ n) (hn : n ≤ 1099511627776) (_hN : Hid (N = L.length)) (hO : OwnS w B (.slice xs N cz) L) (_hB : B ≤ w.heap.size) (_hL : N ≤ 8796093022000)
    (hF : fb = false ∨ (fb = true ∧ ((n : Int) == 4) = false))
    (C0 : ∀ W, Calls Tryd.prog 55 #[.string l, .string hdF] W fun e w' => e = .returned (.tuple #[.string fq, .bool fb]) ∧ w' = W)
    (C1 : ∀ W, Calls Tryd.prog 55 #[.string l, .string hdS] W fun e w' => e = .returned (.tuple #[.string ⟨#[]⟩, .bool false]) ∧ w' = W) :
    Calls Tryd.prog 31 #[.agg (infC P D z (.slice xr nr cr) F (.slice xs N cz)), .int .i64 n, .string l] w fun e w' => (∃ y m k, e = .returned (.tuple #[.agg (infC P D z (.slice xr nr cr) F (.slice y m k)), .int .i64 150])) ∧ Below w.heap.size w w' := by
  obtain ⟨I0, J0, B0⟩ := two_boxes w P D z (.slice xr nr cr) F (.slice xs N cz)
  have O0 : Hid (OwnS ((w.alloc (.cells (infC P D z (.slice xr nr cr) F (.slice xs N cz)) 36)).alloc (.cells (infC ⟨#[]⟩ (fun _ => 0) 0 (.slice none 0 0) ⟨#[]⟩ (.slice none 0 0)) 36)) B (.slice xs N cz) L) := (hO.alloc _).alloc _
  have hob : Hid (∀ k, (Value.slice xs N cz).ownBlock = some k → k < w.heap.size) := fun k hk => (hO.ge hk).2
  have k0 : ((n : Int) == 0) = false := by rw [beq_eq_false_iff_ne]; omega
  have k1 : ((n : Int) == 1) = false := by rw [beq_eq_false_iff_ne]; omega
  have k2 : ((n : Int) == 2) = false := by rw [beq_eq_false_iff_ne]; omega
  have k3 : ((n : Int) == 3) = false := by rw [beq_eq_false_iff_ne]; omega
  have kk0 : ¬ (n : Int) = 0 := by omega
  have kk1 : ¬ (n : Int) = 1 := by omega
  have kk2 : ¬ (n : Int) = 2 := by omega
  have kk3 : ¬ (n : Int) = 3 := by omega
  have kn0 : ¬ n = 0 := by omega
  have kn1 : ¬ n = 1 := by omega
  have kn2 : ¬ n = 2 := by omega
  have kn3 : ¬ n = 3 := by omega
  clear hO
  rcases hF with hfb | ⟨hfb, k4⟩
  all_goals
    subst hfb
    go_enter Tryd.func31, Tryd.ntmps31
    rw [show (⟨#[70, 114, 111, 109, 58, 32]⟩ : ByteArray) = hdF from rfl, show (⟨#[83, 105, 103, 110, 58, 32]⟩ : ByteArray) = hdS from rfl]
    go_wp2_with fail
    rw [inf_zero]
    generalize (w.alloc (.cells (infC P D z (.slice xr nr cr) F (.slice xs N cz)) 36)).alloc (.cells (infC ⟨#[]⟩ (fun _ => 0) 0 (.slice none 0 0) ⟨#[]⟩ (.slice none 0 0)) 36) = w0 at I0 J0 B0 O0 ⊢
    refine (C0 w0).mono ?_
    rintro e w1 ⟨rfl, rfl⟩
    clear C0
    go_wp2_with fail
    refine (C1 _).mono ?_
    clear C1
    rintro e w2 ⟨rfl, rfl⟩
    go_wp2_with (first | (refine wpList_load_rinf (by rfl) (.tmp 3) (by rfl) (by rfl) I0 ?_) | (refine wpList_store_rinf (by rfl) (.tmp 6) (.tmp 120) (by rfl) (by rfl) (by rfl) J0 rfl rfl (by rfl) ?_; intro W2 R2 U2; refine Hid.out ?_))
    unfold Hid
    go_wp2
    refine bodyPost_ret (results_rct Tryd.results31 _ _ (w.heap.size + 1) rfl R2) rfl ⟨⟨_, _, _, rfl⟩, U2.below B0 (by omega) B0.size⟩
end Go.Proofs.YtgnlkggodchlbaaDoor
/- The document's take at signatures (Wr); walked. -/
namespace Go.Proofs.YtgnlkggodchlbaaDoor
open Go.RowKit Go.Shelf

theorem wpList_skip_eq {ops : Array Oper} {rest : List Oper} {o : Oper} {a : Act} {w : World} {Q : Exit → Act → World → Prop} (hw : Region.wanted o (yielded ops a.tmps) = false) : wpList Tryd.prog ops Q (o :: rest) a w = wpList Tryd.prog ops Q rest (a.put o.dst undef) w := by
  simp only [wpList, hw]
  rfl

set_option maxRecDepth 100000 in
set_option maxHeartbeats 4000000 in
theorem rtS_wrong (n : Nat) (P : ByteArray) (D : Nat → Int) (z : Int) (xr : Option Addr) (nr cr : Nat) (F : ByteArray) (xs : Option Addr) (N cz : Nat) (L : List ByteArray) (B : Nat) (l sg fq sn : ByteArray) (fb : Bool) (sd : Nat → Int) (c2 : Int) (w : World) (h4 : 4 ≤ n) (hn : n ≤ 1099511627776) (_hN : Hid (N = L.length)) (hO : OwnS w B (.slice xs N cz) L) (_hB : B ≤ w.heap.size) (_hL : N ≤ 8796093022000)
    (hF : fb = false ∨ (fb = true ∧ ((n : Int) == 4) = false))
    (C0 : ∀ W, Calls Tryd.prog 55 #[.string l, .string hdF] W fun e w' => e = .returned (.tuple #[.string fq, .bool fb]) ∧ w' = W)
    (C1 : ∀ W, Calls Tryd.prog 55 #[.string l, .string hdS] W fun e w' => e = .returned (.tuple #[.string sg, .bool true]) ∧ w' = W)
    (C2 : ∀ W, Calls Tryd.prog 10 #[.string sg] W fun e w' => e = .returned (.tuple #[.string sn, .agg (cs .u8 32 sd), .int .i64 c2]) ∧ Below W.heap.size W w') (hc2 : c2 = 151) :
    Calls Tryd.prog 31 #[.agg (infC P D z (.slice xr nr cr) F (.slice xs N cz)), .int .i64 n, .string l] w fun e w' => (∃ y m k, e = .returned (.tuple #[.agg (infC P D z (.slice xr nr cr) F (.slice y m k)), .int .i64 151])) ∧ Below w.heap.size w w' := by
  subst hc2
  have hq : ((151 : Int) != 0) = true := rfl
  obtain ⟨I0, J0, B0⟩ := two_boxes w P D z (.slice xr nr cr) F (.slice xs N cz)
  have O0 : Hid (OwnS ((w.alloc (.cells (infC P D z (.slice xr nr cr) F (.slice xs N cz)) 36)).alloc (.cells (infC ⟨#[]⟩ (fun _ => 0) 0 (.slice none 0 0) ⟨#[]⟩ (.slice none 0 0)) 36)) B (.slice xs N cz) L) := (hO.alloc _).alloc _
  have hob : Hid (∀ k, (Value.slice xs N cz).ownBlock = some k → k < w.heap.size) := fun k hk => (hO.ge hk).2
  have k0 : ((n : Int) == 0) = false := by rw [beq_eq_false_iff_ne]; omega
  have k1 : ((n : Int) == 1) = false := by rw [beq_eq_false_iff_ne]; omega
  have k2 : ((n : Int) == 2) = false := by rw [beq_eq_false_iff_ne]; omega
  have k3 : ((n : Int) == 3) = false := by rw [beq_eq_false_iff_ne]; omega
  have kk0 : ¬ (n : Int) = 0 := by omega
  have kk1 : ¬ (n : Int) = 1 := by omega
  have kk2 : ¬ (n : Int) = 2 := by omega
  have kk3 : ¬ (n : Int) = 3 := by omega
  have kn0 : ¬ n = 0 := by omega
  have kn1 : ¬ n = 1 := by omega
  have kn2 : ¬ n = 2 := by omega
  have kn3 : ¬ n = 3 := by omega
  clear hO
  rcases hF with hfb | ⟨hfb, k4⟩
  all_goals
    subst hfb
    go_enter Tryd.func31, Tryd.ntmps31
    rw [show (⟨#[70, 114, 111, 109, 58, 32]⟩ : ByteArray) = hdF from rfl, show (⟨#[83, 105, 103, 110, 58, 32]⟩ : ByteArray) = hdS from rfl]
    go_wp2_with fail
    rw [inf_zero]
    generalize (w.alloc (.cells (infC P D z (.slice xr nr cr) F (.slice xs N cz)) 36)).alloc (.cells (infC ⟨#[]⟩ (fun _ => 0) 0 (.slice none 0 0) ⟨#[]⟩ (.slice none 0 0)) 36) = w0 at I0 J0 B0 O0 ⊢
    refine (C0 w0).mono ?_
    rintro e w1 ⟨rfl, rfl⟩
    clear C0
    go_wp2_with fail
    refine (C1 _).mono ?_
    clear C1
    rintro e w2 ⟨rfl, rfl⟩
    go_wp2_with fail
    refine (C2 _).mono ?_
    clear C2
    rintro e w3 ⟨rfl, b3⟩
    have I3 : Hid (Inf w3 w.heap.size P D z (.slice xr nr cr) F (.slice xs N cz)) := I0.below b3 I0.lt
    have J3 : Hid (Inf w3 (w.heap.size + 1) ⟨#[]⟩ (fun _ => 0) 0 (.slice none 0 0) ⟨#[]⟩ (.slice none 0 0)) := J0.below b3 J0.lt
    have B3 : Hid (Below w.heap.size w w3) := B0.trans (b3.mono B0.size)
    have O3 : Hid (OwnS w3 B (.slice xs N cz) L) := O0.out.same (fun g hg => b3.block g (O0.out.ge hg).2)
    clear I0 J0 B0 b3 O0
    go_wp2_with (refine wpList_store_any (by rfl) 22 (.tmp 24) (.tmp 125) (by rfl) w3.heap.size (by rfl) (by rfl) (Row.rep (by rfl)) szR32 (by rfl) ?_; intro W4 R4 U4; refine Hid.out ?_)
    unfold Hid
    have I4 : Inf W4 w.heap.size P D z (.slice xr nr cr) F (.slice xs N cz) := I3.out.same ((U4.block _ (by rw [World.size_alloc]; have := I3.out.lt; omega) (by have := I3.out.lt; omega)).trans (Below.heap_alloc _ _ _ I3.out.lt))
    have J4 : Inf W4 (w.heap.size + 1) ⟨#[]⟩ (fun _ => 0) 0 (.slice none 0 0) ⟨#[]⟩ (.slice none 0 0) := J3.out.same ((U4.block _ (by rw [World.size_alloc]; have := J3.out.lt; omega) (by have := J3.out.lt; omega)).trans (Below.heap_alloc _ _ _ J3.out.lt))
    have B4 : Hid (Below w.heap.size w W4) := U4.below (B3.out.alloc B3.out.size _) (by have := I3.out.lt; omega) (by rw [World.size_alloc]; have := I3.out.lt; omega)
    have O4 : Hid (OwnS W4 B (.slice xs N cz) L) := O3.out.same (fun g hg => by have hgl := (O3.out.ge hg).2; exact (U4.block g (by rw [World.size_alloc]; omega) (by omega)).trans (Below.heap_alloc _ _ _ hgl))
    have c36 := I4.signs
    clear U4 I3 J3 B3 O3 R4
    iterate 18 go_step
    rw [wpList_skip_eq]
    rotate_left
    · kernel_rfl
    rw [wpList_skip_eq]
    rotate_left
    · kernel_rfl
    rw [wpList_skip_eq]
    rotate_left
    · kernel_rfl
    rw [wpList_skip_eq]
    rotate_left
    · kernel_rfl
    rw [wpList_skip_eq]
    rotate_left
    · kernel_rfl
    rw [wpList_skip_eq]
    rotate_left
    · kernel_rfl
    rw [wpList_skip_eq]
    rotate_left
    · kernel_rfl
    rw [wpList_skip_eq]
    rotate_left
    · kernel_rfl
    rw [wpList_skip_eq]
    rotate_left
    · kernel_rfl
    rw [wpList_skip_eq]
    rotate_left
    · kernel_rfl
    rw [wpList_skip_eq]
    rotate_left
    · kernel_rfl
    rw [wpList_skip_eq]
    rotate_left
    · kernel_rfl
    rw [wpList_skip_eq]
    rotate_left
    · kernel_rfl
    rw [wpList_skip_eq]
    rotate_left
    · kernel_rfl
    rw [wpList_skip_eq]
    rotate_left
    · kernel_rfl
    rw [wpList_skip_eq]
    rotate_left
    · kernel_rfl
    simp only [Act.put, List.setIfInBounds_toArray, List.set_cons_zero, List.set_cons_succ]
    go_wp2_with (first | (refine wpList_load_rinf (by rfl) (.tmp 3) (by rfl) (by rfl) I4 ?_) | (refine wpList_store_rinf (by rfl) (.tmp 6) (.tmp 147) (by rfl) (by rfl) (by rfl) J4 rfl rfl (by rfl) ?_; intro W2 R2 U2; refine Hid.out ?_))
    unfold Hid
    go_wp2
    refine bodyPost_ret (results_rct Tryd.results31 _ _ (w.heap.size + 1) rfl R2) rfl ⟨⟨_, _, _, rfl⟩, U2.below B4.out (by omega) B4.out.size⟩
end Go.Proofs.YtgnlkggodchlbaaDoor
/- The document's take at signatures (Fi); walked. -/
namespace Go.Proofs.YtgnlkggodchlbaaDoor
open Go.RowKit Go.Shelf

set_option maxRecDepth 100000 in
set_option maxHeartbeats 4000000 in
theorem rtS_first (n : Nat) (P : ByteArray) (D : Nat → Int) (z : Int) (xr : Option Addr) (nr cr : Nat) (F : ByteArray) (xs : Option Addr) (N cz : Nat) (L : List ByteArray) (B : Nat) (l sg fq sn : ByteArray) (fb : Bool) (sd : Nat → Int) (c2 : Int) (w : World) (h4 : 4 ≤ n) (hn : n ≤ 1099511627776) (hN : Hid (N = L.length)) (hO : OwnS w B (.slice xs N cz) L) (hB : B ≤ w.heap.size) (hL : N ≤ 8796093022000)
    (hF : fb = false ∨ (fb = true ∧ ((n : Int) == 4) = false))
    (C0 : ∀ W, Calls Tryd.prog 55 #[.string l, .string hdF] W fun e w' => e = .returned (.tuple #[.string fq, .bool fb]) ∧ w' = W)
    (C1 : ∀ W, Calls Tryd.prog 55 #[.string l, .string hdS] W fun e w' => e = .returned (.tuple #[.string sg, .bool true]) ∧ w' = W)
    (C2 : ∀ W, Calls Tryd.prog 10 #[.string sg] W fun e w' => e = .returned (.tuple #[.string sn, .agg (cs .u8 32 sd), .int .i64 c2]) ∧ Below W.heap.size W w') (hz : Hid (N = 0)) (hc2 : c2 = 0) :
    Calls Tryd.prog 31 #[.agg (infC P D z (.slice xr nr cr) F (.slice xs N cz)), .int .i64 n, .string l] w fun e w' => (∃ y m k, e = .returned (.tuple #[.agg (infC P D z (.slice xr nr cr) F (.slice y m k)), .int .i64 0]) ∧ OwnS w' B (.slice y m k) (L ++ [sg])) ∧ ∃ wm, w.grownBy wm (Value.slice xs N cz).ownBlock ∧ wm.heap.size = w'.heap.size ∧ w'.os = wm.os ∧ w'.tape = wm.tape ∧ w'.output = wm.output ∧ ∀ i, i < w.heap.size → w'.heap[i]? = wm.heap[i]? := by
  subst hc2
  have hz' : ¬ (0 : Int) < (N : Int) := by have := hz.out; omega
  have hzn : ¬ 0 < N := by have := hz.out; omega
  have hzd : decide (0 < N) = false := decide_eq_false hzn
  obtain ⟨I0, J0, B0⟩ := two_boxes w P D z (.slice xr nr cr) F (.slice xs N cz)
  have O0 : Hid (OwnS ((w.alloc (.cells (infC P D z (.slice xr nr cr) F (.slice xs N cz)) 36)).alloc (.cells (infC ⟨#[]⟩ (fun _ => 0) 0 (.slice none 0 0) ⟨#[]⟩ (.slice none 0 0)) 36)) B (.slice xs N cz) L) := (hO.alloc _).alloc _
  have hob : Hid (∀ k, (Value.slice xs N cz).ownBlock = some k → k < w.heap.size) := fun k hk => (hO.ge hk).2
  have k0 : ((n : Int) == 0) = false := by rw [beq_eq_false_iff_ne]; omega
  have k1 : ((n : Int) == 1) = false := by rw [beq_eq_false_iff_ne]; omega
  have k2 : ((n : Int) == 2) = false := by rw [beq_eq_false_iff_ne]; omega
  have k3 : ((n : Int) == 3) = false := by rw [beq_eq_false_iff_ne]; omega
  have kk0 : ¬ (n : Int) = 0 := by omega
  have kk1 : ¬ (n : Int) = 1 := by omega
  have kk2 : ¬ (n : Int) = 2 := by omega
  have kk3 : ¬ (n : Int) = 3 := by omega
  have kn0 : ¬ n = 0 := by omega
  have kn1 : ¬ n = 1 := by omega
  have kn2 : ¬ n = 2 := by omega
  have kn3 : ¬ n = 3 := by omega
  clear hO
  rcases hF with hfb | ⟨hfb, k4⟩
  all_goals
    subst hfb
    go_enter Tryd.func31, Tryd.ntmps31
    rw [show (⟨#[70, 114, 111, 109, 58, 32]⟩ : ByteArray) = hdF from rfl, show (⟨#[83, 105, 103, 110, 58, 32]⟩ : ByteArray) = hdS from rfl]
    go_wp2_with fail
    rw [inf_zero]
    generalize (w.alloc (.cells (infC P D z (.slice xr nr cr) F (.slice xs N cz)) 36)).alloc (.cells (infC ⟨#[]⟩ (fun _ => 0) 0 (.slice none 0 0) ⟨#[]⟩ (.slice none 0 0)) 36) = w0 at I0 J0 B0 O0 ⊢
    refine (C0 w0).mono ?_
    rintro e w1 ⟨rfl, rfl⟩
    clear C0
    go_wp2_with fail
    refine (C1 _).mono ?_
    clear C1
    rintro e w2 ⟨rfl, rfl⟩
    go_wp2_with fail
    refine (C2 _).mono ?_
    clear C2
    rintro e w3 ⟨rfl, b3⟩
    have I3 : Hid (Inf w3 w.heap.size P D z (.slice xr nr cr) F (.slice xs N cz)) := I0.below b3 I0.lt
    have J3 : Hid (Inf w3 (w.heap.size + 1) ⟨#[]⟩ (fun _ => 0) 0 (.slice none 0 0) ⟨#[]⟩ (.slice none 0 0)) := J0.below b3 J0.lt
    have B3 : Hid (Below w.heap.size w w3) := B0.trans (b3.mono B0.size)
    have O3 : Hid (OwnS w3 B (.slice xs N cz) L) := O0.out.same (fun g hg => b3.block g (O0.out.ge hg).2)
    clear I0 J0 B0 b3 O0
    go_wp2_with (refine wpList_store_any (by rfl) 22 (.tmp 24) (.tmp 125) (by rfl) w3.heap.size (by rfl) (by rfl) (Row.rep (by rfl)) szR32 (by rfl) ?_; intro W4 R4 U4; refine Hid.out ?_)
    unfold Hid
    have I4 : Inf W4 w.heap.size P D z (.slice xr nr cr) F (.slice xs N cz) := I3.out.same ((U4.block _ (by rw [World.size_alloc]; have := I3.out.lt; omega) (by have := I3.out.lt; omega)).trans (Below.heap_alloc _ _ _ I3.out.lt))
    have J4 : Inf W4 (w.heap.size + 1) ⟨#[]⟩ (fun _ => 0) 0 (.slice none 0 0) ⟨#[]⟩ (.slice none 0 0) := J3.out.same ((U4.block _ (by rw [World.size_alloc]; have := J3.out.lt; omega) (by have := J3.out.lt; omega)).trans (Below.heap_alloc _ _ _ J3.out.lt))
    have B4 : Hid (Below w.heap.size w W4) := U4.below (B3.out.alloc B3.out.size _) (by have := I3.out.lt; omega) (by rw [World.size_alloc]; have := I3.out.lt; omega)
    have O4 : Hid (OwnS W4 B (.slice xs N cz) L) := O3.out.same (fun g hg => by have hgl := (O3.out.ge hg).2; exact (U4.block g (by rw [World.size_alloc]; omega) (by omega)).trans (Below.heap_alloc _ _ _ hgl))
    have c36 := I4.signs
    clear U4 I3 J3 B3 O3 R4
    have f36 := I4.free 36 (by omega)
    have OA : Hid (OwnS (W4.alloc (.cells #[.string sg] 9)) B (.slice xs N cz) L) := O4.out.alloc _
    have hz4 : Hid (B ≤ W4.heap.size) := Nat.le_trans hB B4.out.size
    have hlt4 : Hid (w.heap.size + 1 < W4.heap.size) := J4.lt
    go_wp2_with (refine wpList_append_sn _ (by rfl) (.tmp 149) (.tmp 151) (by rfl) B (.slice xs N cz) L (by rfl) hN.out OA.out W4.heap.size 1 sg (by rfl) (by rw [World.cell?_alloc_new]; rfl) hL (by rw [World.size_alloc]; have := hz4.out; omega) ?_; intro kb cap w5 O5 G5 K5; refine Hid.out ?_)
    unfold Hid
    have hkb : Hid (kb ≠ w.heap.size ∧ kb ≠ w.heap.size + 1) := by
      rcases K5 with K5 | K5
      · have := hob.out kb K5; unfold Hid; omega
      · rw [World.size_alloc] at K5; have := hlt4.out; unfold Hid; omega
    have ne1 : ∀ i, w.heap.size ≤ i → some i ≠ (Value.slice xs N cz).ownBlock := fun i hi e => by have := hob.out i e.symm; omega
    have I5 : Inf w5 w.heap.size P D z (.slice xr nr cr) F (.slice xs N cz) := I4.same ((G5.block _ (by rw [World.size_alloc]; have := hlt4.out; omega) (ne1 _ (Nat.le_refl _))).trans (Below.heap_alloc _ _ _ I4.lt))
    have J5 : Inf w5 (w.heap.size + 1) ⟨#[]⟩ (fun _ => 0) 0 (.slice none 0 0) ⟨#[]⟩ (.slice none 0 0) := J4.same ((G5.block _ (by rw [World.size_alloc]; have := hlt4.out; omega) (ne1 _ (by omega))).trans (Below.heap_alloc _ _ _ J4.lt))
    have HG5 : Hid (w.grownBy w5 (Value.slice xs N cz).ownBlock) := grown_trans (grown_below _ (B4.out.alloc B4.out.size _)) G5
    have HO5 : Hid (OwnS w5 B (.slice (some ⟨kb, 0, none⟩) (N + 1) cap) (L ++ [sg])) := O5
    have d36 := I5.signs
    have e36 := I5.free 36 (by omega)
    have I6 : Inf (w5.setCell ⟨w.heap.size, 36, none⟩ (.slice (some ⟨kb, 0, none⟩) (N + 1) cap)) w.heap.size P D z (.slice xr nr cr) F (.slice (some ⟨kb, 0, none⟩) (N + 1) cap) := I5.setSigns _
    have J6 : Inf (w5.setCell ⟨w.heap.size, 36, none⟩ (.slice (some ⟨kb, 0, none⟩) (N + 1) cap)) (w.heap.size + 1) ⟨#[]⟩ (fun _ => 0) 0 (.slice none 0 0) ⟨#[]⟩ (.slice none 0 0) := J5.same (Below.heap_setCell w5 ⟨w.heap.size, 36, none⟩ _ (w.heap.size + 1) (by show w.heap.size + 1 ≠ w.heap.size; omega))
    clear I4 J4 B4 O4 OA c36 f36 I5 J5 G5 O5 K5 ne1
    go_wp2_with (first | (refine wpList_load_rinf (by rfl) (.tmp 3) (by rfl) (by rfl) I6 ?_) | (refine wpList_store_rinf (by rfl) (.tmp 6) (.tmp 154) (by rfl) (by rfl) (by rfl) J6 rfl rfl (by rfl) ?_; intro W2 R2 U2; refine Hid.out ?_))
    unfold Hid
    go_wp2
    refine bodyPost_ret (results_rct Tryd.results31 _ _ (w.heap.size + 1) rfl R2) rfl ⟨⟨_, _, _, rfl, ?_⟩, w5, HG5.out, by rw [U2.size, World.size_setCell], U2.os, U2.tape, U2.output, fun i hi => ?_⟩
    · refine HO5.out.same (fun g hg => ?_)
      have hgl := (HO5.out.ge hg).2
      have hgk : g = kb := by simpa [Value.ownBlock] using hg.symm
      rw [U2.block g (by rw [World.size_setCell]; exact hgl) (by have := hkb.out; omega)]
      exact Below.heap_setCell w5 ⟨w.heap.size, 36, none⟩ _ g (by show g ≠ w.heap.size; have := hkb.out; omega)
    · have hs5 := HG5.out.size
      rw [U2.block i (by rw [World.size_setCell]; omega) (by omega)]
      exact Below.heap_setCell w5 ⟨w.heap.size, 36, none⟩ _ i (by show i ≠ w.heap.size; omega)
end Go.Proofs.YtgnlkggodchlbaaDoor
/- The document's take at signatures (Lo); walked. -/
namespace Go.Proofs.YtgnlkggodchlbaaDoor
open Go.RowKit Go.Shelf

set_option maxRecDepth 100000 in
set_option maxHeartbeats 4000000 in
theorem rtS_low (n : Nat) (P : ByteArray) (D : Nat → Int) (z : Int) (xr : Option Addr) (nr cr : Nat) (F : ByteArray) (xs : Option Addr) (N cz : Nat) (L : List ByteArray) (B : Nat) (l sg fq sn : ByteArray) (fb : Bool) (sd : Nat → Int) (c2 : Int) (w : World) (h4 : 4 ≤ n) (hn : n ≤ 1099511627776) (hN : Hid (N = L.length)) (hO : OwnS w B (.slice xs N cz) L) (_hB : B ≤ w.heap.size) (_hL : N ≤ 8796093022000)
    (hF : fb = false ∨ (fb = true ∧ ((n : Int) == 4) = false))
    (C0 : ∀ W, Calls Tryd.prog 55 #[.string l, .string hdF] W fun e w' => e = .returned (.tuple #[.string fq, .bool fb]) ∧ w' = W)
    (C1 : ∀ W, Calls Tryd.prog 55 #[.string l, .string hdS] W fun e w' => e = .returned (.tuple #[.string sg, .bool true]) ∧ w' = W)
    (C2 : ∀ W, Calls Tryd.prog 10 #[.string sg] W fun e w' => e = .returned (.tuple #[.string sn, .agg (cs .u8 32 sd), .int .i64 c2]) ∧ Below W.heap.size W w') (ad : Addr) (m : Nat) (hm : Hid (N = m + 1)) (hxs : Hid (xs = some ad)) (LE : (Op.bytesLess sg.toList (Sq.nth L m).toList || sg.toList == (Sq.nth L m).toList) = true) (hc2 : c2 = 0) :
    Calls Tryd.prog 31 #[.agg (infC P D z (.slice xr nr cr) F (.slice xs N cz)), .int .i64 n, .string l] w fun e w' => (∃ y m k, e = .returned (.tuple #[.agg (infC P D z (.slice xr nr cr) F (.slice y m k)), .int .i64 151])) ∧ Below w.heap.size w w' := by
  have hz' : (0 : Int) < (N : Int) := by have := hm.out; omega
  have hj1 : ((N : Int) - 1) = (m : Int) := by have := hm.out; omega
  have hj3 : m < N := by have := hm.out; omega
  have hj6 : IntKind.i64.wrap ((m : Nat) : Int) = (m : Int) := by rw [IntKind.wrap_i64]; have := hm.out; omega
  obtain rfl : xs = some ad := hxs.out
  subst hc2
  obtain ⟨I0, J0, B0⟩ := two_boxes w P D z (.slice xr nr cr) F (.slice (some ad) N cz)
  have O0 : Hid (OwnS ((w.alloc (.cells (infC P D z (.slice xr nr cr) F (.slice (some ad) N cz)) 36)).alloc (.cells (infC ⟨#[]⟩ (fun _ => 0) 0 (.slice none 0 0) ⟨#[]⟩ (.slice none 0 0)) 36)) B (.slice (some ad) N cz) L) := (hO.alloc _).alloc _
  have hob : Hid (∀ k, (Value.slice (some ad) N cz).ownBlock = some k → k < w.heap.size) := fun k hk => (hO.ge hk).2
  have k0 : ((n : Int) == 0) = false := by rw [beq_eq_false_iff_ne]; omega
  have k1 : ((n : Int) == 1) = false := by rw [beq_eq_false_iff_ne]; omega
  have k2 : ((n : Int) == 2) = false := by rw [beq_eq_false_iff_ne]; omega
  have k3 : ((n : Int) == 3) = false := by rw [beq_eq_false_iff_ne]; omega
  have kk0 : ¬ (n : Int) = 0 := by omega
  have kk1 : ¬ (n : Int) = 1 := by omega
  have kk2 : ¬ (n : Int) = 2 := by omega
  have kk3 : ¬ (n : Int) = 3 := by omega
  have kn0 : ¬ n = 0 := by omega
  have kn1 : ¬ n = 1 := by omega
  have kn2 : ¬ n = 2 := by omega
  have kn3 : ¬ n = 3 := by omega
  clear hO
  rcases hF with hfb | ⟨hfb, k4⟩
  all_goals
    subst hfb
    go_enter Tryd.func31, Tryd.ntmps31
    rw [show (⟨#[70, 114, 111, 109, 58, 32]⟩ : ByteArray) = hdF from rfl, show (⟨#[83, 105, 103, 110, 58, 32]⟩ : ByteArray) = hdS from rfl]
    go_wp2_with fail
    rw [inf_zero]
    generalize (w.alloc (.cells (infC P D z (.slice xr nr cr) F (.slice (some ad) N cz)) 36)).alloc (.cells (infC ⟨#[]⟩ (fun _ => 0) 0 (.slice none 0 0) ⟨#[]⟩ (.slice none 0 0)) 36) = w0 at I0 J0 B0 O0 ⊢
    refine (C0 w0).mono ?_
    rintro e w1 ⟨rfl, rfl⟩
    clear C0
    go_wp2_with fail
    refine (C1 _).mono ?_
    clear C1
    rintro e w2 ⟨rfl, rfl⟩
    go_wp2_with fail
    refine (C2 _).mono ?_
    clear C2
    rintro e w3 ⟨rfl, b3⟩
    have I3 : Hid (Inf w3 w.heap.size P D z (.slice xr nr cr) F (.slice (some ad) N cz)) := I0.below b3 I0.lt
    have J3 : Hid (Inf w3 (w.heap.size + 1) ⟨#[]⟩ (fun _ => 0) 0 (.slice none 0 0) ⟨#[]⟩ (.slice none 0 0)) := J0.below b3 J0.lt
    have B3 : Hid (Below w.heap.size w w3) := B0.trans (b3.mono B0.size)
    have O3 : Hid (OwnS w3 B (.slice (some ad) N cz) L) := O0.out.same (fun g hg => b3.block g (O0.out.ge hg).2)
    clear I0 J0 B0 b3 O0
    go_wp2_with (refine wpList_store_any (by rfl) 22 (.tmp 24) (.tmp 125) (by rfl) w3.heap.size (by rfl) (by rfl) (Row.rep (by rfl)) szR32 (by rfl) ?_; intro W4 R4 U4; refine Hid.out ?_)
    unfold Hid
    have I4 : Inf W4 w.heap.size P D z (.slice xr nr cr) F (.slice (some ad) N cz) := I3.out.same ((U4.block _ (by rw [World.size_alloc]; have := I3.out.lt; omega) (by have := I3.out.lt; omega)).trans (Below.heap_alloc _ _ _ I3.out.lt))
    have J4 : Inf W4 (w.heap.size + 1) ⟨#[]⟩ (fun _ => 0) 0 (.slice none 0 0) ⟨#[]⟩ (.slice none 0 0) := J3.out.same ((U4.block _ (by rw [World.size_alloc]; have := J3.out.lt; omega) (by have := J3.out.lt; omega)).trans (Below.heap_alloc _ _ _ J3.out.lt))
    have B4 : Hid (Below w.heap.size w W4) := U4.below (B3.out.alloc B3.out.size _) (by have := I3.out.lt; omega) (by rw [World.size_alloc]; have := I3.out.lt; omega)
    have O4 : Hid (OwnS W4 B (.slice (some ad) N cz) L) := O3.out.same (fun g hg => by have hgl := (O3.out.ge hg).2; exact (U4.block g (by rw [World.size_alloc]; omega) (by omega)).trans (Below.heap_alloc _ _ _ hgl))
    have c36 := I4.signs
    clear U4 I3 J3 B3 O3 R4
    have c9 : W4.cell? (ad.add m) = some (.string (Sq.nth L m)) := by
      obtain ⟨xq, cq, hvq, _, SQ⟩ := O4.out.shape
      obtain ⟨aq, haq, c9⟩ := SQ m (by have := hN.out; omega)
      have haq' : aq = ad := by injection hvq with h1 _ _; rw [haq] at h1; injection h1 with h1; exact h1.symm
      subst haq'
      exact c9
    go_wp2_with (first | (refine wpList_load_rinf (by rfl) (.tmp 3) (by rfl) (by rfl) I4 ?_) | (refine wpList_store_rinf (by rfl) (.tmp 6) (.tmp 147) (by rfl) (by rfl) (by rfl) J4 rfl rfl (by rfl) ?_; intro W2 R2 U2; refine Hid.out ?_))
    unfold Hid
    go_wp2
    refine bodyPost_ret (results_rct Tryd.results31 _ _ (w.heap.size + 1) rfl R2) rfl ⟨⟨_, _, _, rfl⟩, U2.below B4.out (by omega) B4.out.size⟩
end Go.Proofs.YtgnlkggodchlbaaDoor
/- The document's take at signatures (Ne); walked. -/
namespace Go.Proofs.YtgnlkggodchlbaaDoor
open Go.RowKit Go.Shelf

set_option maxRecDepth 100000 in
set_option maxHeartbeats 4000000 in
theorem rtS_next (n : Nat) (P : ByteArray) (D : Nat → Int) (z : Int) (xr : Option Addr) (nr cr : Nat) (F : ByteArray) (xs : Option Addr) (N cz : Nat) (L : List ByteArray) (B : Nat) (l sg fq sn : ByteArray) (fb : Bool) (sd : Nat → Int) (c2 : Int) (w : World) (h4 : 4 ≤ n) (hn : n ≤ 1099511627776) (hN : Hid (N = L.length)) (hO : OwnS w B (.slice xs N cz) L) (hB : B ≤ w.heap.size) (hL : N ≤ 8796093022000)
    (hF : fb = false ∨ (fb = true ∧ ((n : Int) == 4) = false))
    (C0 : ∀ W, Calls Tryd.prog 55 #[.string l, .string hdF] W fun e w' => e = .returned (.tuple #[.string fq, .bool fb]) ∧ w' = W)
    (C1 : ∀ W, Calls Tryd.prog 55 #[.string l, .string hdS] W fun e w' => e = .returned (.tuple #[.string sg, .bool true]) ∧ w' = W)
    (C2 : ∀ W, Calls Tryd.prog 10 #[.string sg] W fun e w' => e = .returned (.tuple #[.string sn, .agg (cs .u8 32 sd), .int .i64 c2]) ∧ Below W.heap.size W w') (ad : Addr) (m : Nat) (hm : Hid (N = m + 1)) (hxs : Hid (xs = some ad)) (LE : (Op.bytesLess sg.toList (Sq.nth L m).toList || sg.toList == (Sq.nth L m).toList) = false) (hc2 : c2 = 0) :
    Calls Tryd.prog 31 #[.agg (infC P D z (.slice xr nr cr) F (.slice xs N cz)), .int .i64 n, .string l] w fun e w' => (∃ y m k, e = .returned (.tuple #[.agg (infC P D z (.slice xr nr cr) F (.slice y m k)), .int .i64 0]) ∧ OwnS w' B (.slice y m k) (L ++ [sg])) ∧ ∃ wm, w.grownBy wm (Value.slice xs N cz).ownBlock ∧ wm.heap.size = w'.heap.size ∧ w'.os = wm.os ∧ w'.tape = wm.tape ∧ w'.output = wm.output ∧ ∀ i, i < w.heap.size → w'.heap[i]? = wm.heap[i]? := by
  have hz' : (0 : Int) < (N : Int) := by have := hm.out; omega
  have hj1 : ((N : Int) - 1) = (m : Int) := by have := hm.out; omega
  have hj3 : m < N := by have := hm.out; omega
  have hj6 : IntKind.i64.wrap ((m : Nat) : Int) = (m : Int) := by rw [IntKind.wrap_i64]; have := hm.out; omega
  obtain rfl : xs = some ad := hxs.out
  subst hc2
  obtain ⟨I0, J0, B0⟩ := two_boxes w P D z (.slice xr nr cr) F (.slice (some ad) N cz)
  have O0 : Hid (OwnS ((w.alloc (.cells (infC P D z (.slice xr nr cr) F (.slice (some ad) N cz)) 36)).alloc (.cells (infC ⟨#[]⟩ (fun _ => 0) 0 (.slice none 0 0) ⟨#[]⟩ (.slice none 0 0)) 36)) B (.slice (some ad) N cz) L) := (hO.alloc _).alloc _
  have hob : Hid (∀ k, (Value.slice (some ad) N cz).ownBlock = some k → k < w.heap.size) := fun k hk => (hO.ge hk).2
  have k0 : ((n : Int) == 0) = false := by rw [beq_eq_false_iff_ne]; omega
  have k1 : ((n : Int) == 1) = false := by rw [beq_eq_false_iff_ne]; omega
  have k2 : ((n : Int) == 2) = false := by rw [beq_eq_false_iff_ne]; omega
  have k3 : ((n : Int) == 3) = false := by rw [beq_eq_false_iff_ne]; omega
  have kk0 : ¬ (n : Int) = 0 := by omega
  have kk1 : ¬ (n : Int) = 1 := by omega
  have kk2 : ¬ (n : Int) = 2 := by omega
  have kk3 : ¬ (n : Int) = 3 := by omega
  have kn0 : ¬ n = 0 := by omega
  have kn1 : ¬ n = 1 := by omega
  have kn2 : ¬ n = 2 := by omega
  have kn3 : ¬ n = 3 := by omega
  clear hO
  rcases hF with hfb | ⟨hfb, k4⟩
  all_goals
    subst hfb
    go_enter Tryd.func31, Tryd.ntmps31
    rw [show (⟨#[70, 114, 111, 109, 58, 32]⟩ : ByteArray) = hdF from rfl, show (⟨#[83, 105, 103, 110, 58, 32]⟩ : ByteArray) = hdS from rfl]
    go_wp2_with fail
    rw [inf_zero]
    generalize (w.alloc (.cells (infC P D z (.slice xr nr cr) F (.slice (some ad) N cz)) 36)).alloc (.cells (infC ⟨#[]⟩ (fun _ => 0) 0 (.slice none 0 0) ⟨#[]⟩ (.slice none 0 0)) 36) = w0 at I0 J0 B0 O0 ⊢
    refine (C0 w0).mono ?_
    rintro e w1 ⟨rfl, rfl⟩
    clear C0
    go_wp2_with fail
    refine (C1 _).mono ?_
    clear C1
    rintro e w2 ⟨rfl, rfl⟩
    go_wp2_with fail
    refine (C2 _).mono ?_
    clear C2
    rintro e w3 ⟨rfl, b3⟩
    have I3 : Hid (Inf w3 w.heap.size P D z (.slice xr nr cr) F (.slice (some ad) N cz)) := I0.below b3 I0.lt
    have J3 : Hid (Inf w3 (w.heap.size + 1) ⟨#[]⟩ (fun _ => 0) 0 (.slice none 0 0) ⟨#[]⟩ (.slice none 0 0)) := J0.below b3 J0.lt
    have B3 : Hid (Below w.heap.size w w3) := B0.trans (b3.mono B0.size)
    have O3 : Hid (OwnS w3 B (.slice (some ad) N cz) L) := O0.out.same (fun g hg => b3.block g (O0.out.ge hg).2)
    clear I0 J0 B0 b3 O0
    go_wp2_with (refine wpList_store_any (by rfl) 22 (.tmp 24) (.tmp 125) (by rfl) w3.heap.size (by rfl) (by rfl) (Row.rep (by rfl)) szR32 (by rfl) ?_; intro W4 R4 U4; refine Hid.out ?_)
    unfold Hid
    have I4 : Inf W4 w.heap.size P D z (.slice xr nr cr) F (.slice (some ad) N cz) := I3.out.same ((U4.block _ (by rw [World.size_alloc]; have := I3.out.lt; omega) (by have := I3.out.lt; omega)).trans (Below.heap_alloc _ _ _ I3.out.lt))
    have J4 : Inf W4 (w.heap.size + 1) ⟨#[]⟩ (fun _ => 0) 0 (.slice none 0 0) ⟨#[]⟩ (.slice none 0 0) := J3.out.same ((U4.block _ (by rw [World.size_alloc]; have := J3.out.lt; omega) (by have := J3.out.lt; omega)).trans (Below.heap_alloc _ _ _ J3.out.lt))
    have B4 : Hid (Below w.heap.size w W4) := U4.below (B3.out.alloc B3.out.size _) (by have := I3.out.lt; omega) (by rw [World.size_alloc]; have := I3.out.lt; omega)
    have O4 : Hid (OwnS W4 B (.slice (some ad) N cz) L) := O3.out.same (fun g hg => by have hgl := (O3.out.ge hg).2; exact (U4.block g (by rw [World.size_alloc]; omega) (by omega)).trans (Below.heap_alloc _ _ _ hgl))
    have c36 := I4.signs
    clear U4 I3 J3 B3 O3 R4
    have c9 : W4.cell? (ad.add m) = some (.string (Sq.nth L m)) := by
      obtain ⟨xq, cq, hvq, _, SQ⟩ := O4.out.shape
      obtain ⟨aq, haq, c9⟩ := SQ m (by have := hN.out; omega)
      have haq' : aq = ad := by injection hvq with h1 _ _; rw [haq] at h1; injection h1 with h1; exact h1.symm
      subst haq'
      exact c9
    have f36 := I4.free 36 (by omega)
    have OA : Hid (OwnS (W4.alloc (.cells #[.string sg] 9)) B (.slice (some ad) N cz) L) := O4.out.alloc _
    have hz4 : Hid (B ≤ W4.heap.size) := Nat.le_trans hB B4.out.size
    have hlt4 : Hid (w.heap.size + 1 < W4.heap.size) := J4.lt
    go_wp2_with (refine wpList_append_sn _ (by rfl) (.tmp 149) (.tmp 151) (by rfl) B (.slice (some ad) N cz) L (by rfl) hN.out OA.out W4.heap.size 1 sg (by rfl) (by rw [World.cell?_alloc_new]; rfl) hL (by rw [World.size_alloc]; have := hz4.out; omega) ?_; intro kb cap w5 O5 G5 K5; refine Hid.out ?_)
    unfold Hid
    have hkb : Hid (kb ≠ w.heap.size ∧ kb ≠ w.heap.size + 1) := by
      rcases K5 with K5 | K5
      · have := hob.out kb K5; unfold Hid; omega
      · rw [World.size_alloc] at K5; have := hlt4.out; unfold Hid; omega
    have ne1 : ∀ i, w.heap.size ≤ i → some i ≠ (Value.slice (some ad) N cz).ownBlock := fun i hi e => by have := hob.out i e.symm; omega
    have I5 : Inf w5 w.heap.size P D z (.slice xr nr cr) F (.slice (some ad) N cz) := I4.same ((G5.block _ (by rw [World.size_alloc]; have := hlt4.out; omega) (ne1 _ (Nat.le_refl _))).trans (Below.heap_alloc _ _ _ I4.lt))
    have J5 : Inf w5 (w.heap.size + 1) ⟨#[]⟩ (fun _ => 0) 0 (.slice none 0 0) ⟨#[]⟩ (.slice none 0 0) := J4.same ((G5.block _ (by rw [World.size_alloc]; have := hlt4.out; omega) (ne1 _ (by omega))).trans (Below.heap_alloc _ _ _ J4.lt))
    have HG5 : Hid (w.grownBy w5 (Value.slice (some ad) N cz).ownBlock) := grown_trans (grown_below _ (B4.out.alloc B4.out.size _)) G5
    have HO5 : Hid (OwnS w5 B (.slice (some ⟨kb, 0, none⟩) (N + 1) cap) (L ++ [sg])) := O5
    have d36 := I5.signs
    have e36 := I5.free 36 (by omega)
    have I6 : Inf (w5.setCell ⟨w.heap.size, 36, none⟩ (.slice (some ⟨kb, 0, none⟩) (N + 1) cap)) w.heap.size P D z (.slice xr nr cr) F (.slice (some ⟨kb, 0, none⟩) (N + 1) cap) := I5.setSigns _
    have J6 : Inf (w5.setCell ⟨w.heap.size, 36, none⟩ (.slice (some ⟨kb, 0, none⟩) (N + 1) cap)) (w.heap.size + 1) ⟨#[]⟩ (fun _ => 0) 0 (.slice none 0 0) ⟨#[]⟩ (.slice none 0 0) := J5.same (Below.heap_setCell w5 ⟨w.heap.size, 36, none⟩ _ (w.heap.size + 1) (by show w.heap.size + 1 ≠ w.heap.size; omega))
    clear I4 J4 B4 O4 OA c36 f36 I5 J5 G5 O5 K5 ne1
    go_wp2_with (first | (refine wpList_load_rinf (by rfl) (.tmp 3) (by rfl) (by rfl) I6 ?_) | (refine wpList_store_rinf (by rfl) (.tmp 6) (.tmp 154) (by rfl) (by rfl) (by rfl) J6 rfl rfl (by rfl) ?_; intro W2 R2 U2; refine Hid.out ?_))
    unfold Hid
    go_wp2
    refine bodyPost_ret (results_rct Tryd.results31 _ _ (w.heap.size + 1) rfl R2) rfl ⟨⟨_, _, _, rfl, ?_⟩, w5, HG5.out, by rw [U2.size, World.size_setCell], U2.os, U2.tape, U2.output, fun i hi => ?_⟩
    · refine HO5.out.same (fun g hg => ?_)
      have hgl := (HO5.out.ge hg).2
      have hgk : g = kb := by simpa [Value.ownBlock] using hg.symm
      rw [U2.block g (by rw [World.size_setCell]; exact hgl) (by have := hkb.out; omega)]
      exact Below.heap_setCell w5 ⟨w.heap.size, 36, none⟩ _ g (by show g ≠ w.heap.size; have := hkb.out; omega)
    · have hs5 := HG5.out.size
      rw [U2.block i (by rw [World.size_setCell]; omega) (by omega)]
      exact Below.heap_setCell w5 ⟨w.heap.size, 36, none⟩ _ i (by show i ≠ w.heap.size; omega)
end Go.Proofs.YtgnlkggodchlbaaDoor
