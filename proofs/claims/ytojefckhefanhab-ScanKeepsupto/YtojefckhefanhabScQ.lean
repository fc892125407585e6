/- Scan, plain: a rewriter that goes through a text, and one that is fed (own text of the verifier). -/
import Derived.Test.YtojefckhefanhabScP
namespace Go.Proofs.Ytojefckhefanhab
namespace Sc

theorem take_app_win {l x : List UInt8} {p : Nat} : ((l.drop p) ++ x).take 32 = win (l.drop p ++ x) 0 := by unfold win; rw [List.drop_zero]
/-- At a place of the text: what was written out (O), from where on what stands there is still to be written, where f stood. -/
structure RS (f t text : List UInt8) (o at_ wr : Nat) (O : List UInt8) (Ps : List Nat) : Prop where
  wl : wr ≤ at_
  al : at_ ≤ text.length
  eq : ∀ x, rw' f t (text ++ x) = O ++ ((text.take at_).drop wr ++ rw' f t (text.drop at_ ++ x))
  pe : ∀ x, pl f o (text ++ x) = Ps ++ pl f (o + at_) (text.drop at_ ++ x)
theorem RS.start (f t text : List UInt8) (o : Nat) : RS f t text o 0 0 [] [] :=
  ⟨Nat.le_refl _, Nat.zero_le _, fun x => by simp, fun x => by simp⟩
theorem step_take {text : List UInt8} {a : Nat} (ha : a < text.length) {wr : Nat} (hw : wr ≤ a) : (text.take (a + 1)).drop wr = (text.take a).drop wr ++ (text.drop a).take 1 := by
  rw [List.take_add, List.drop_append_of_le_length (by rw [List.length_take]; omega)]
theorem RS.miss {f t text : List UInt8} {o a wr : Nat} {O : List UInt8} {Ps : List Nat} (h : RS f t text o a wr O Ps) (hf : f.length = 32) (ha : a < text.length) (hn : ∀ x, (text.drop a ++ x).take 32 ≠ f) : RS f t text o (a + 1) wr O Ps := by
  have hl : ∀ x : List UInt8, 1 ≤ (text.drop a ++ x).length := fun x => by rw [List.length_append, List.length_drop]; omega
  have hd : ∀ x : List UInt8, (text.drop a ++ x).drop 1 = text.drop (a + 1) ++ x := fun x => by
    rw [List.drop_append_of_le_length (by rw [List.length_drop]; omega), List.drop_drop]
  refine ⟨Nat.le_succ_of_le h.wl, ha, fun x => ?_, fun x => ?_⟩
  · rw [h.eq x, rw_miss (hn x) hf (hl x), hd x, step_take ha h.wl, List.take_append_of_le_length (by rw [List.length_drop]; omega), List.append_assoc]
  · rw [h.pe x, pl_miss (hn x) hf (hl x), hd x, Nat.add_assoc]
theorem RS.bad {L : UInt8 → Prop} {f t text : List UInt8} {o a wr : Nat} {O : List UInt8} {Ps : List Nat} (h : RS f t text o a wr O Ps) (hf : isH L f) (ha : a < text.length) (hb : bad L text a) : RS f t text o (a + 1) wr O Ps := by
  refine h.miss hf.len ha fun x e => ?_
  have h1 := bad_app x hb
  refine bad_not h1 hf ?_
  rw [← e]
  unfold win
  rw [List.drop_append_of_le_length (by omega)]
theorem RS.no {f t text : List UInt8} {o a wr : Nat} {O : List UInt8} {Ps : List Nat} (h : RS f t text o a wr O Ps) (hf : f.length = 32) (ha : a + 32 ≤ text.length) (hw : win text a ≠ f) : RS f t text o (a + 1) wr O Ps := by
  refine h.miss hf (by omega) fun x e => hw ?_
  rw [← e]
  unfold win
  rw [List.take_append_of_le_length (by rw [List.length_drop]; omega)]
theorem RS.hit {f t text : List UInt8} {o a wr : Nat} {O : List UInt8} {Ps : List Nat} (h : RS f t text o a wr O Ps) (ha : a + 32 ≤ text.length) (hw : win text a = f) : RS f t text o (a + 32) (a + 32) (O ++ ((text.take a).drop wr ++ t)) (Ps ++ [o + a]) := by
  have hl : ∀ x : List UInt8, 32 ≤ (text.drop a ++ x).length := fun x => by rw [List.length_append, List.length_drop]; omega
  have hd : ∀ x : List UInt8, (text.drop a ++ x).drop 32 = text.drop (a + 32) ++ x := fun x => by
    rw [List.drop_append_of_le_length (by rw [List.length_drop]; omega), List.drop_drop]
  have hw' : ∀ x : List UInt8, (text.drop a ++ x).take 32 = f := fun x => by
    rw [← hw]; unfold win
    rw [List.take_append_of_le_length (by rw [List.length_drop]; omega)]
  have hz : (text.take (a + 32)).drop (a + 32) = [] := by rw [List.drop_eq_nil_iff, List.length_take]; omega
  refine ⟨Nat.le_refl _, ha, fun x => ?_, fun x => ?_⟩
  · rw [h.eq x, rw_hit (hw' x) (hl x), hd x, hz]
    simp
  · rw [h.pe x, pl_hit (hw' x) (hl x), hd x, Nat.add_assoc]
    simp

/-- A rewriter that has taken A in and has told E; kept is what it has in hand. -/
structure GS (f t A E kept : List UInt8) (Ps : List Nat) : Prop where
  sh : kept.length < 32
  le : kept.length ≤ A.length
  eq : ∀ x, rw' f t (A ++ x) = E ++ rw' f t (kept ++ x)
  pe : ∀ x, pl f 0 (A ++ x) = Ps ++ pl f (A.length - kept.length) (kept ++ x)
theorem GS.start (f t : List UInt8) : GS f t [] [] [] [] := ⟨by simp, by simp, fun x => by simp, fun x => by simp⟩
theorem GS.fed {f t A E kept x : List UInt8} {Ps Qs : List Nat} {r wr : Nat} {O : List UInt8} (h : GS f t A E kept Ps) (s : RS f t (kept ++ x) (A.length - kept.length) r wr O Qs) (hr : (kept ++ x).length < r + 32) : GS f t (A ++ x) (E ++ (O ++ ((kept ++ x).take r).drop wr)) ((kept ++ x).drop r) (Ps ++ Qs) := by
  have hl := h.le
  have ha := s.al
  refine ⟨by rw [List.length_drop]; omega, by rw [List.length_drop, List.length_append, List.length_append] at *; omega, fun y => ?_, fun y => ?_⟩
  · rw [List.append_assoc, h.eq (x ++ y), ← List.append_assoc kept, s.eq y]
    simp
  · rw [List.append_assoc, h.pe (x ++ y), ← List.append_assoc kept, s.pe y]
    have e : A.length - kept.length + r = (A ++ x).length - ((kept ++ x).drop r).length := by
      rw [List.length_drop, List.length_append, List.length_append] at *
      omega
    rw [e]
    simp
/-- At the end: what was told, and what is in hand, are the rewritten text. -/
theorem GS.all {f t A E kept : List UInt8} {Ps : List Nat} (h : GS f t A E kept Ps) : rw' f t A = E ++ kept ∧ pl f 0 A = Ps := by
  have h1 := h.eq []
  have h2 := h.pe []
  rw [List.append_nil, List.append_nil] at h1 h2
  rw [h1, h2, rw_short h.sh, pl_short h.sh]
  simp

end Sc
end Go.Proofs.Ytojefckhefanhab
