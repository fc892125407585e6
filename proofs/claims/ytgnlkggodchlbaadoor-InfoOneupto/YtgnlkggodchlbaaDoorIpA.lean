/- What is read of a line is printed as that line: plain. -/
import Derived.Test.YtgnlkggodchlbaaDoorIoD
import Derived.Test.YtgnlkggodchlbaaDoorBkN
namespace Go.Proofs.YtgnlkggodchlbaaDoor
open Go.RowKit Go.Shelf

theorem ext_cat (l : ByteArray) (k : Nat) : l.extract 0 k ++ l.extract k l.size = l := by
  apply ByteArray.ext
  apply Array.toList_inj.1
  simp
theorem hpQ_split {l h : ByteArray} (g : hpQ l h = true) : l = h ++ cpQ l h := by
  rw [cpQ_yes g]
  unfold hpQ at g
  rw [Bool.and_eq_true] at g
  have e := bytes_toList_inj (eq_of_beq g.2)
  have c := ext_cat l h.size
  rw [e] at c
  exact c.symm
theorem rp_line {l h : ByteArray} (g : rpC l h = 0) : l = h ++ rpS l h ∧ prC (rpS l h) = 0 := by
  have hp : hpQ l h = true := by
    cases e : hpQ l h
    · rw [rpC_no e] at g; cases g
    · rfl
  have e : rpS l h = cpQ l h := if_pos g
  rw [e]
  rw [rpC_yes hp] at g
  exact ⟨hpQ_split hp, g⟩
theorem rs_line {L : List ByteArray} {l : ByteArray} (g : rsC L l = 0) : l = hdS ++ rsS l ∧ nxC (Sq.nth L) L.length (rsS l) = 0 := by
  unfold rsC at g
  split at g
  · rename_i hp
    exact ⟨hpQ_split hp, g⟩
  · cases g
theorem rh_line {l : ByteArray} (g : rhC l = 0) : l = hdH ++ b32Str (strFn 32 (rhD l)) := by
  have hp : hpQ l hdH = true := by
    cases e : hpQ l hdH
    · rw [rhC_no e] at g; cases g
    · rfl
  by_cases hd : dOk (cpQ l hdH)
  · have e : rhD l = bt (fbStr (cpQ l hdH)) := by
      unfold rhD; rw [if_pos g, dFn_yes hd]
    have hs : (fbStr (cpQ l hdH)).size = 32 := ((dOk_iff _).1 hd).2
    have e2 : strFn 32 (bt (fbStr (cpQ l hdH))) = fbStr (cpQ l hdH) := by
      rw [← hs]; exact strFn_bt _
    rw [e, e2, b32_one _ hd.2]
    exact hpQ_split hp
  · rw [rhC_bad hp hd] at g; cases g

/-- Each with a blank ahead. -/
def catB : List ByteArray → ByteArray
  | [] => ⟨#[]⟩
  | x :: r => blk1 ++ x ++ catB r
theorem catB_snoc (M : List ByteArray) (x : ByteArray) : catB (M ++ [x]) = catB M ++ (blk1 ++ x) := by
  induction M with
  | nil => show blk1 ++ x ++ (⟨#[]⟩ : ByteArray) = (⟨#[]⟩ : ByteArray) ++ (blk1 ++ x); apply ByteArray.ext; simp
  | cons a r ih => show blk1 ++ a ++ catB (r ++ [x]) = blk1 ++ a ++ catB r ++ (blk1 ++ x); rw [ih]; simp [ByteArray.append_assoc]
theorem bsS_congr {f h : Nat → ByteArray} {n : Nat} (e : ∀ j, j < n → f j = h j) : bsS f n = bsS h n := by
  induction n with
  | zero => rfl
  | succ n ih => show bsS f n ++ _ = bsS h n ++ _; rw [ih (fun j hj => e j (by omega)), e n (by omega)]
theorem bt_append (a b : ByteArray) (k : Nat) : bt (a ++ b) k = if k < a.size then bt a k else bt b (k - a.size) := by
  have hs : (a ++ b).size = a.size + b.size := ByteArray.size_append
  unfold bt
  by_cases h : k < a.size
  · rw [if_pos h, dif_pos h, dif_pos (by omega), ByteArray.getElem_append_left h]
  · rw [if_neg h]
    by_cases h2 : k < a.size + b.size
    · rw [dif_pos (by omega), dif_pos (by omega), ByteArray.getElem_append_right (by omega)]
    · rw [dif_neg (by omega), dif_neg (by omega)]
theorem dir_cut (x : ByteArray) : (dirR ++ x).extract 13 (dirR ++ x).size = x := by
  have hs : (dirR ++ x).size = 13 + x.size := by rw [ByteArray.size_append, dirR_size]
  rw [hs]
  refine bytes_ext ?_ (fun k hk => ?_)
  · rw [ByteArray.size_extract, hs]; omega
  · rw [ByteArray.size_extract, hs] at hk
    rw [bt_extract _ _ _ _ (by omega) (by omega)]
    rw [bt_append, if_neg (by rw [dirR_size]; omega), dirR_size, Nat.add_sub_cancel_left]
theorem bsS_cat (L : List ByteArray) : bsS (Sq.nth (L.map (fun x => dirR ++ x))) L.length = catB L := by
  have h : ∀ n, n ≤ L.length → bsS (Sq.nth (L.map (fun x => dirR ++ x))) n = catB (L.take n) := by
    intro n
    induction n with
    | zero => intro _; rfl
    | succ n ih =>
      intro hn
      have e : L.take (n + 1) = L.take n ++ [Sq.nth L n] := by
        rw [List.take_add_one, List.getElem?_eq_getElem (by omega)]
        simp [Sq.nth, List.getD, show n < L.length by omega]
      rw [e, catB_snoc, ← ih (by omega)]
      show _ ++ (_ ++ _) = _
      rw [nth_map _ _ (by omega), dir_cut]
      rfl
  rw [h L.length (Nat.le_refl _), List.take_length]
theorem pcs_cat (p : ByteArray) (r : Nat) : ∀ f, f ≤ p.size → catB (Sq.pcs p r f) = blk1 ++ p.extract f p.size := by
  induction r with
  | zero => intro f hf; show blk1 ++ p.extract f p.size ++ (⟨#[]⟩ : ByteArray) = _; apply ByteArray.ext; simp
  | succ r ih =>
    intro f hf
    by_cases hx : Sq.nx p f = p.size
    · rw [Sq.pcs_last p _ f hx]; show blk1 ++ p.extract f p.size ++ (⟨#[]⟩ : ByteArray) = _; apply ByteArray.ext; simp
    · obtain ⟨s1, s2, s3, s4⟩ := Sq.nx_spec p f hf
      have hb := s4 (by omega)
      have e : blk1 = p.extract (Sq.nx p f) (Sq.nx p f + 1) := by
        refine bytes_ext ?_ (fun k hk => ?_)
        · rw [ByteArray.size_extract]; show 1 = _; omega
        · have hk0 : k = 0 := by have : k < 1 := hk; omega
          subst hk0
          rw [bt_extract p _ _ 0 (by omega) (by omega), Nat.add_zero, hb]
          decide +kernel
      rw [Sq.pcs_more p r f hx, catB, ih _ (by omega)]
      have c : p.extract f (Sq.nx p f) ++ (p.extract (Sq.nx p f) (Sq.nx p f + 1) ++ p.extract (Sq.nx p f + 1) p.size) = p.extract f p.size := by
        rw [ByteArray.extract_append_extract, Nat.min_eq_left (by omega), Nat.max_eq_right (by omega), ByteArray.extract_append_extract, Nat.min_eq_left (by omega), Nat.max_eq_right (by omega)]
      rw [ByteArray.append_assoc, ← c, ← e]

end Go.Proofs.YtgnlkggodchlbaaDoor
