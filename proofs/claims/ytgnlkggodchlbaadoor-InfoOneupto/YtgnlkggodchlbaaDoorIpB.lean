/- References and sizes: what is read of a line is printed as that line; plain. -/
import Derived.Test.YtgnlkggodchlbaaDoorIpA
namespace Go.Proofs.YtgnlkggodchlbaaDoor
open Go.RowKit Go.Shelf

theorem empty_of_size {r : ByteArray} (h : r.size = 0) : r = ⟨#[]⟩ := bytes_ext (by rw [h]; rfl) (fun k hk => absurd hk (by omega))
theorem rr_line {l : ByteArray} (g : rrC l = 0) : l = hdR ++ bsS (Sq.nth (rrL l)) (rrL l).length ∧ crf (Sq.nth (rrL l)) (rrL l).length = 0 := by
  unfold rrC at g
  split at g
  · rename_i h
    have e : rrL l = [] := by unfold rrL; rw [if_pos h.2]
    rw [e]
    refine ⟨?_, crf_yes (by simp) (fun i hi => absurd hi (by simp))⟩
    have := hpQ_split h.1
    rw [empty_of_size h.2] at this
    exact this
  · split at g
    · rename_i h0 h
      have hz : (cpQ l hdR).size ≠ 0 := fun c => h0 ⟨h.1, c⟩
      have e : rrL l = (Sq.pcs (rrT l) 1024 0).map (fun x => dirR ++ x) := by unfold rrL; rw [if_neg hz]
      have el : (rrL l).length = rrN l := by rw [e, List.length_map]; rfl
      have ec : crf (Sq.nth (rrL l)) (rrN l) = crf (rrF l) (rrN l) := by
        have hh : ∀ j, j < rrN l → Sq.nth (rrL l) j = rrF l j := fun j hj => by rw [e, nth_map _ _ hj]; rfl
        unfold crf
        have hiff : refsOk (Sq.nth (rrL l)) (rrN l) ↔ refsOk (rrF l) (rrN l) := by
          constructor <;> intro H i hi
          · obtain ⟨a, b⟩ := H i hi
            rw [hh i hi] at a b
            exact ⟨a, fun h0 => by have := b h0; rw [hh (i - 1) (by omega)] at this; exact this⟩
          · obtain ⟨a, b⟩ := H i hi
            rw [hh i hi]
            exact ⟨a, fun h0 => by rw [hh (i - 1) (by omega)]; exact b h0⟩
        by_cases hk : refsOk (rrF l) (rrN l)
        · rw [if_pos hk, if_pos (hiff.2 hk)]
        · rw [if_neg hk, if_neg (fun c => hk (hiff.1 c))]
      refine ⟨?_, by rw [el, ec]; exact g⟩
      have b : bsS (Sq.nth (rrL l)) (rrL l).length = blk1 ++ rrT l := by
        have c := bsS_cat (Sq.pcs (rrT l) 1024 0)
        rw [← e, pcs_cat _ _ 0 (Nat.zero_le _), ByteArray.extract_zero_size] at c
        rw [el]
        exact c
      have s2 := hpQ_split h.2
      rw [b]
      have : blk1 ++ rrT l = cpQ l hdR := s2.symm
      rw [this]
      exact hpQ_split h.1
    · cases g

theorem take_succ_bt (t : ByteArray) (k : Nat) (hk : k < t.size) : t.data.toList.take (k + 1) = t.data.toList.take k ++ [UInt8.ofNat (bt t k).toNat] := by
  have hk' : k < t.data.toList.length := by rw [Array.length_toList]; exact hk
  rw [List.take_add_one, List.getElem?_eq_getElem hk']
  have : t.data.toList[k] = UInt8.ofNat (bt t k).toNat := by
    rw [← get_bt t k hk, Int.toNat_natCast, UInt8.ofNat_toNat]
    rfl
  rw [this]
  rfl
theorem dec_nv (t : ByteArray) (h : nmOk t) : ∀ k, 1 ≤ k → k ≤ t.size → Lib.decDigits (nv t k).toNat = t.data.toList.take k ∧ 0 ≤ nv t k ∧ (1 < t.size → 1 ≤ nv t k) := by
  intro k
  induction k with
  | zero => intro h1; omega
  | succ k ih =>
    intro _ hk
    have b := h.2.2 k (by omega)
    by_cases h0 : k = 0
    · subst h0
      have e : nv t 1 = bt t 0 - 48 := by show 10 * nv t 0 + (bt t 0 - 48) = _; show 10 * 0 + (bt t 0 - 48) = _; omega
      refine ⟨?_, by rw [e]; omega, fun hs => ?_⟩
      · rw [take_succ_bt t 0 (by omega), e, Lib.decDigits_one (by omega), show 48 + (bt t 0 - 48).toNat = (bt t 0).toNat by omega]
        rfl
      · have := h.2.1
        rw [e]
        have : bt t 0 ≠ 48 := fun c => this ⟨c, hs⟩
        omega
    · obtain ⟨i1, i2, i3⟩ := ih (by omega) (by omega)
      have i4 := i3 (by omega)
      have e : nv t (k + 1) = 10 * nv t k + (bt t k - 48) := rfl
      refine ⟨?_, by rw [e]; omega, fun _ => by rw [e]; omega⟩
      rw [take_succ_bt t k (by omega), ← i1, Lib.decDigits, dif_neg (by rw [e]; omega)]
      rw [show (nv t (k + 1)).toNat / 10 = (nv t k).toNat by rw [e]; omega, show 48 + (nv t (k + 1)).toNat % 10 = (bt t k).toNat by rw [e]; omega]
theorem it_nv (t : ByteArray) (h : nmOk t) : itB (nv t t.size) = t := by
  obtain ⟨h1, h2, _⟩ := dec_nv t h t.size (by have := h.1; omega) (Nat.le_refl _)
  unfold itB Lib.itoa
  rw [if_neg (by omega), h1]
  apply ByteArray.ext
  apply Array.toList_inj.1
  simp
  exact List.take_of_length_le (by rw [Array.length_toList]; exact Nat.le_refl _)
theorem rz_line {l : ByteArray} (g : rzC l = 0) : l = hdZ ++ itB (rzV l) ∧ szC (rzV l) = 0 := by
  by_cases hp : hpQ l hdZ = true ∧ nmOk (cpQ l hdZ)
  · by_cases hb : nv (cpQ l hdZ) (cpQ l hdZ).size ≤ 1048576
    · have e : rzV l = nv (cpQ l hdZ) (cpQ l hdZ).size := if_pos g
      obtain ⟨_, h2, _⟩ := dec_nv _ hp.2 _ (by have := hp.2.1; omega) (Nat.le_refl _)
      rw [e, it_nv _ hp.2]
      exact ⟨hpQ_split hp.1, if_pos ⟨h2, hb⟩⟩
    · rw [rzC_big hp hb] at g; cases g
  · rw [rzC_no hp] at g; cases g

end Go.Proofs.YtgnlkggodchlbaaDoor
