/- Framed items, read again: pure. -/
import Derived.Test.YtjlbbnjcdickgabWrV
namespace Go.Proofs.Ytjlbbnjcdickgab
open Go.RowKit

/-- An item with the fields that its kind uses. -/
def plainI (i : It) : It := if i.isInt then ⟨true, i.num, []⟩ else ⟨false, 0, i.text⟩
theorem plain_int (i : It) (h : i.isInt = true) : plainI i = ⟨true, i.num, []⟩ := by unfold plainI; rw [h]; rfl
theorem plain_txt (i : It) (h : i.isInt = false) : plainI i = ⟨false, 0, i.text⟩ := by unfold plainI; rw [h]; rfl
theorem frI_int (i : It) (h : i.isInt = true) : frI i = lek 8 i.num ∧ plI i = 105 := by unfold frI plI; rw [h]; exact ⟨rfl, rfl⟩
theorem frI_txt (i : It) (h : i.isInt = false) : frI i = fr8 i.text ∧ plI i = 116 := by unfold frI plI; rw [h]; exact ⟨rfl, rfl⟩
theorem plain_fr (i : It) : frI (plainI i) = frI i ∧ plI (plainI i) = plI i := by
  cases h : i.isInt
  · rw [plain_txt i h, (frI_txt i h).1, (frI_txt i h).2]
    exact ⟨rfl, rfl⟩
  · rw [plain_int i h, (frI_int i h).1, (frI_int i h).2]
    exact ⟨rfl, rfl⟩
theorem plain_frs (L : List It) : (L.map plainI).flatMap frI = L.flatMap frI ∧ (L.map plainI).map plI = L.map plI := by
  induction L with
  | nil => exact ⟨rfl, rfl⟩
  | cons i L ih =>
    rw [List.map_cons, List.flatMap_cons, List.flatMap_cons, List.map_cons, List.map_cons, (plain_fr i).1, (plain_fr i).2, ih.1, ih.2]
    exact ⟨rfl, rfl⟩
theorem plain_plain (i : It) : plainI (plainI i) = plainI i := by
  cases h : i.isInt
  · rw [plain_txt i h]; rfl
  · rw [plain_int i h]; rfl

theorem t8 (n : Nat) (R : List UInt8) : (lek 8 n ++ R).take 8 = lek 8 n := by
  rw [List.take_append_of_le_length (by rw [lek_len]; omega), List.take_of_length_le (by rw [lek_len]; omega)]
theorem d8 (n : Nat) (R : List UInt8) : (lek 8 n ++ R).drop 8 = R := by
  rw [List.drop_append, lek_len, List.drop_of_length_le (by rw [lek_len]; omega)]
  rfl
theorem zeros_rep (q : Nat) : zeros (List.replicate q 0) = q := by
  induction q with
  | zero => rfl
  | succ q ih =>
    rw [List.replicate_succ]
    unfold zeros at ih ⊢
    rw [List.takeWhile_cons, if_pos (by simp), List.length_cons, ih]

theorem rdG_int (m n : Nat) (p R : List UInt8) (at_ : Nat) (out : List It) (hn : n < 18446744073709551616) : rdG m (105 :: p) (lek 8 n ++ R) at_ out = rdG m p R (at_ + 8) (out ++ [⟨true, n, []⟩]) := by
  rw [rdG, if_neg (by rw [List.length_append, lek_len]; omega), if_neg (by decide), t8, d8, le_fr _ hn]
theorem fr8_app (t R : List UInt8) : fr8 t ++ R = lek 8 t.length ++ (t ++ (List.replicate (padN t.length) 0 ++ R)) := by unfold fr8; simp
theorem rdG_txt (m : Nat) (t p R : List UInt8) (at_ : Nat) (out : List It) (hn : t.length < 18446744073709551616) (hm : t.length ≤ m) :
    rdG m (116 :: p) (fr8 t ++ R) at_ out = rdG m p R (at_ + (fr8 t).length) (out ++ [⟨false, 0, t⟩]) := by
  have hz : (List.replicate (padN t.length) (0 : UInt8) ++ R).take (padN t.length) = List.replicate (padN t.length) 0 := by
    rw [List.take_append_of_le_length (by rw [List.length_replicate]; omega), List.take_of_length_le (by rw [List.length_replicate]; omega)]
  have hd : (t ++ (List.replicate (padN t.length) (0 : UInt8) ++ R)).drop (t.length + padN t.length) = R := by
    rw [← List.drop_drop, List.drop_left, List.drop_append, List.length_replicate, Nat.sub_self, List.drop_of_length_le (by rw [List.length_replicate]; omega)]
    rfl
  rw [rdG, if_neg (by rw [List.length_append, fr8_len]; omega), if_pos rfl, fr8_app, t8, d8, le_fr _ hn, if_neg (by omega), List.drop_left, hz, zeros_rep, List.length_replicate, if_neg (by omega),
    if_neg (by rw [List.length_append, List.length_append, List.length_replicate]; omega), hd, List.take_left, fr8_len]
  congr 1
  omega
theorem rdG_txtL (m : Nat) (t p R : List UInt8) (at_ : Nat) (out : List It) (hn : t.length < 18446744073709551616) (hm : m < t.length) : (rdG m (116 :: p) (fr8 t ++ R) at_ out).code = 6 := by
  rw [rdG, if_neg (by rw [List.length_append, fr8_len]; omega), if_pos rfl, fr8_app, t8, d8, le_fr _ hn, if_pos hm]

/-- An item that can be read with that bound. -/
def okI (m : Nat) (i : It) : Prop := i.num < 18446744073709551616 ∧ i.text.length < 18446744073709551616 ∧ (i.isInt = false → i.text.length ≤ m)

theorem rdG_one (m : Nat) (i : It) (p R : List UInt8) (at_ : Nat) (out : List It) (h : okI m i) : rdG m (plI i :: p) (frI i ++ R) at_ out = rdG m p R (at_ + (frI i).length) (out ++ [plainI i]) := by
  cases hi : i.isInt
  · rw [(frI_txt i hi).1, (frI_txt i hi).2, plain_txt i hi]
    exact rdG_txt m i.text p R at_ out h.2.1 (h.2.2 hi)
  · rw [(frI_int i hi).1, (frI_int i hi).2, plain_int i hi, lek_len]
    exact rdG_int m i.num p R at_ out h.1
theorem rdG_frames (m : Nat) (L : List It) : ∀ (p R : List UInt8) (at_ : Nat) (out : List It), (∀ i ∈ L, okI m i) → rdG m (L.map plI ++ p) (L.flatMap frI ++ R) at_ out = rdG m p R (at_ + (L.flatMap frI).length) (out ++ L.map plainI) := by
  induction L with
  | nil => intro p R at_ out _; simp
  | cons i L ih =>
    intro p R at_ out h
    rw [List.map_cons, List.flatMap_cons, List.cons_append, List.append_assoc, rdG_one m i _ _ _ _ (h i (List.mem_cons_self ..)), ih _ _ _ _ (fun j hj => h j (List.mem_cons_of_mem _ hj)), List.length_append, List.map_cons, Nat.add_assoc, List.append_assoc]
    rfl
theorem rdG_long (m : Nat) (L : List It) : ∀ (p R : List UInt8) (at_ : Nat) (out : List It), (∀ i ∈ L, i.num < 18446744073709551616 ∧ i.text.length < 18446744073709551616) → (∃ i ∈ L, i.isInt = false ∧ m < i.text.length) → (rdG m (L.map plI ++ p) (L.flatMap frI ++ R) at_ out).code = 6 := by
  induction L with
  | nil => intro p R at_ out _ h; obtain ⟨i, hi, _⟩ := h; cases hi
  | cons i L ih =>
    intro p R at_ out h hx
    have hi := h i (List.mem_cons_self ..)
    rw [List.map_cons, List.flatMap_cons, List.cons_append, List.append_assoc]
    by_cases hl : i.isInt = false ∧ m < i.text.length
    · rw [(frI_txt i hl.1).1, (frI_txt i hl.1).2]
      exact rdG_txtL m i.text _ _ _ _ hi.2 hl.2
    · rw [rdG_one m i _ _ _ _ ⟨hi.1, hi.2, fun c => Nat.le_of_not_lt fun c2 => hl ⟨c, c2⟩⟩]
      refine ih _ _ _ _ (fun j hj => h j (List.mem_cons_of_mem _ hj)) ?_
      obtain ⟨j, hj, hj2⟩ := hx
      rcases List.mem_cons.1 hj with rfl | hj
      · exact absurd hj2 hl
      · exact ⟨j, hj, hj2⟩

/-- A proper beginning of an item. -/
theorem rdG_part (m : Nat) (i : It) (p rem z : List UInt8) (at_ : Nat) (out : List It) (h : okI m i) (hz : z ≠ []) (hr : frI i = rem ++ z) : rdG m (plI i :: p) rem at_ out = ⟨out, 0, 0, at_ + rem.length⟩ := by
  have hl : rem.length < (frI i).length := by
    rw [hr, List.length_append]
    cases z with
    | nil => exact absurd rfl hz
    | cons a z => simp
  by_cases h8 : rem.length < 8
  · rw [rdG, if_pos h8]
  cases hi : i.isInt
  · obtain ⟨e1, e2⟩ := frI_txt i hi
    rw [e1, fr8_len] at hl
    have hm := h.2.2 hi
    have hn := h.2.1
    generalize i.text = t at *
    have hrem : rem = lek 8 t.length ++ (t ++ List.replicate (padN t.length) 0).take (rem.length - 8) := by
      have h1 : rem = (fr8 t).take rem.length := by rw [← e1, hr, List.take_left]
      have h2 : fr8 t = lek 8 t.length ++ (t ++ List.replicate (padN t.length) 0) := by unfold fr8; simp
      rw [h2, List.take_append, lek_len, List.take_of_length_le (by rw [lek_len]; omega)] at h1
      exact h1
    generalize hq : rem.length - 8 = q at hrem
    have hql : ((t ++ List.replicate (padN t.length) (0 : UInt8)).take q).length = q := by rw [List.length_take, List.length_append, List.length_replicate]; omega
    have hzz : ((((t ++ List.replicate (padN t.length) (0 : UInt8)).take q).drop t.length).take (padN t.length)) = List.replicate (q - t.length) 0 := by
      rw [List.drop_take, List.drop_left, List.take_replicate, List.take_replicate]
      congr 1
      omega
    rw [e2, rdG, if_neg h8, if_pos rfl]
    have hlen : rem.length = 8 + q := by omega
    rw [hlen, hrem, t8, d8, le_fr _ hn, if_neg (by omega), hzz, zeros_rep, List.length_replicate, if_neg (by omega), hql, if_pos (by omega)]
  · rw [(frI_int i hi).1, lek_len] at hl
    omega
theorem rdG_short (m : Nat) (L : List It) : ∀ (rem z : List UInt8) (at_ : Nat) (out : List It), (∀ i ∈ L, okI m i) → z ≠ [] → L.flatMap frI = rem ++ z →
    (rdG m (L.map plI) rem at_ out).code = 0 ∧ (rdG m (L.map plI) rem at_ out).tk = at_ + rem.length ∧ (rdG m (L.map plI) rem at_ out).out.length < out.length + L.length := by
  induction L with
  | nil => intro rem z at_ out _ hz h; exact absurd (List.append_eq_nil_iff.1 h.symm).2 hz
  | cons i L ih =>
    intro rem z at_ out h hz hr
    rw [List.flatMap_cons] at hr
    rw [List.map_cons]
    have hi := h i (List.mem_cons_self ..)
    by_cases hlt : rem.length < (frI i).length
    · have e : frI i = rem ++ (frI i).drop rem.length := by
        have h1 := congrArg (List.take rem.length) hr
        rw [List.take_append_of_le_length (by omega), List.take_left] at h1
        conv => lhs; rw [← List.take_append_drop rem.length (frI i)]
        rw [h1]
      rw [rdG_part m i _ rem _ at_ out hi (fun c => by have := congrArg List.length c; rw [List.length_drop] at this; simp at this; omega) e]
      exact ⟨rfl, rfl, by simp⟩
    · have e : rem = frI i ++ rem.drop (frI i).length := by
        have h1 := congrArg (List.take (frI i).length) hr
        rw [List.take_left, List.take_append_of_le_length (by omega)] at h1
        conv => lhs; rw [← List.take_append_drop (frI i).length rem]
        rw [← h1]
      have e2 : L.flatMap frI = rem.drop (frI i).length ++ z := by
        have h1 := congrArg (List.drop (frI i).length) hr
        rw [List.drop_left, List.drop_append_of_le_length (by omega)] at h1
        exact h1
      obtain ⟨a1, a2, a3⟩ := ih (rem.drop (frI i).length) z (at_ + (frI i).length) (out ++ [plainI i]) (fun j hj => h j (List.mem_cons_of_mem _ hj)) hz e2
      rw [← rdG_one m i (L.map plI) _ at_ out hi, ← e] at a1 a2 a3
      refine ⟨a1, ?_, ?_⟩
      · rw [a2, List.length_drop]; omega
      · rw [List.length_append] at a3
        simp at a3 ⊢
        omega

theorem bad_pl (L : List It) : badAt (L.map plI) = (L.map plI).length := by
  unfold badAt
  induction L with
  | nil => rfl
  | cons i L ih =>
    have hi : okL (plI i) = true := by
      unfold plI
      cases i.isInt <;> rfl
    rw [List.map_cons, List.takeWhile_cons, if_pos hi, List.length_cons, ih, List.length_cons]
theorem jn_sp (tl pl : List UInt8) (m : Nat) (hb : badAt pl = pl.length) : Jn pl.length ((rsNew pl m).run tl) := by
  refine Jn.run ?_ tl
  unfold rsNew
  rw [if_neg (by omega)]
  exact Jn.beg rfl (fun _ => by show 0 + pl.length = _; omega)
/-- The whole is read. -/
theorem sp_whole (m : Nat) (L : List It) (h : ∀ i ∈ L, okI m i) : (sp (L.flatMap frI) (L.map plI) m).code = 0 ∧ (sp (L.flatMap frI) (L.map plI) m).fat = 0 ∧ (sp (L.flatMap frI) (L.map plI) m).out = L.map plainI := by
  have hg := sp_got (L.flatMap frI) (L.map plI) m (bad_pl L)
  have hf := rdG_frames m L [] [] 0 [] h
  rw [List.append_nil, List.append_nil, rdG, if_pos (show ([] : List UInt8).length = 0 from rfl), List.nil_append] at hf
  rw [hf] at hg
  have hj := jn_sp (L.flatMap frI) (L.map plI) m (bad_pl L)
  have h1 : ((rsNew (L.map plI) m).run (L.flatMap frI)).out = L.map plainI := congrArg Got.out hg
  have h2 : ((rsNew (L.map plI) m).run (L.flatMap frI)).code = 0 := congrArg Got.code hg
  have h3 : ((rsNew (L.map plI) m).run (L.flatMap frI)).fat = 0 := congrArg Got.fat hg
  have h4 : ((rsNew (L.map plI) m).run (L.flatMap frI)).ph = 4 := Classical.byContradiction fun c => by
    have := (hj.2 h2).2 c
    rw [h1, List.length_map, List.length_map] at this
    omega
  unfold sp RS.shut
  rw [if_neg (fun c => c.2 h4)]
  exact ⟨h2, h3, h1⟩
theorem sp_trail (m : Nat) (L : List It) (b : UInt8) (h : ∀ i ∈ L, okI m i) : (sp (L.flatMap frI ++ [b]) (L.map plI) m).code = 5 ∧ (sp (L.flatMap frI ++ [b]) (L.map plI) m).fat = (L.flatMap frI).length := by
  have hf := rdG_frames m L [] [b] 0 [] h
  rw [List.append_nil, rdG, if_neg (by simp)] at hf
  refine sp_bad _ _ _ _ _ (by decide) (bad_pl L) ?_
  rw [hf]
  exact ⟨rfl, Nat.zero_add _⟩
theorem sp_long (m : Nat) (L : List It) (h : ∀ i ∈ L, i.num < 18446744073709551616 ∧ i.text.length < 18446744073709551616) (hx : ∃ i ∈ L, i.isInt = false ∧ m < i.text.length) : (sp (L.flatMap frI) (L.map plI) m).code = 6 := by
  have hf := rdG_long m L [] [] 0 [] h hx
  rw [List.append_nil, List.append_nil] at hf
  exact (sp_bad _ _ _ 6 _ (by decide) (bad_pl L) ⟨hf, rfl⟩).1
theorem sp_short (m : Nat) (L : List It) (k : Nat) (h : ∀ i ∈ L, okI m i) (hk : k < (L.flatMap frI).length) : (sp ((L.flatMap frI).take k) (L.map plI) m).code = 4 ∧ (sp ((L.flatMap frI).take k) (L.map plI) m).fat = k := by
  have hg := sp_got ((L.flatMap frI).take k) (L.map plI) m (bad_pl L)
  obtain ⟨h1, h2, h3⟩ := rdG_short m L ((L.flatMap frI).take k) ((L.flatMap frI).drop k) 0 [] h (fun c => by have := congrArg List.length c; rw [List.length_drop, List.length_nil] at this; omega) (List.take_append_drop _ _).symm
  rw [← hg] at h1 h2 h3
  have hj := jn_sp ((L.flatMap frI).take k) (L.map plI) m (bad_pl L)
  have e1 : ((rsNew (L.map plI) m).run ((L.flatMap frI).take k)).code = 0 := h1
  have e2 : ((rsNew (L.map plI) m).run ((L.flatMap frI).take k)).tk = k := by
    have : ((rsNew (L.map plI) m).run ((L.flatMap frI).take k)).tk = _ := h2
    rw [this, List.length_take]; omega
  have e3 : ((rsNew (L.map plI) m).run ((L.flatMap frI).take k)).ph ≠ 4 := fun c => by
    have e := (hj.2 e1).1 c
    have h4 : ((rsNew (L.map plI) m).run ((L.flatMap frI).take k)).out.length < _ := h3
    rw [e, List.length_map] at h4
    simp at h4
  unfold sp RS.shut
  rw [if_pos ⟨e1, e3⟩]
  exact ⟨rfl, e2⟩

end Go.Proofs.Ytjlbbnjcdickgab
