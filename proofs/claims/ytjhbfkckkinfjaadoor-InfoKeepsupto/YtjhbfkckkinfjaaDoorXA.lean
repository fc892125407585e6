/- BkN IpA IpB IpC IpD IpE IpF IpG IpH IqW IpI, gathered (own text of the verifier). -/
import Derived.Test.YtjhbfkckkinfjaaDoorB32C
import Derived.Test.YtjhbfkckkinfjaaDoorIoD
import Derived.Test.YtjhbfkckkinfjaaDoorIoF
namespace Go.Proofs.YtjhbfkckkinfjaaDoor
open Go.RowKit

theorem lt32_bd : ∀ d : Nat, d < 32 → 0 ≤ lt32 d ∧ lt32 d < 256 := by decide +kernel
theorem b32Str_size (b : ByteArray) : (b32Str b).size = lf b.size := strFn_size _ _
theorem b32Fn_num (b : ByteArray) (i : Nat) : b32Fn b i = lt32 ((bnum b / 32 ^ (lf b.size - 1 - i) % 32 : Nat) : Int) := by
  unfold b32Fn
  rw [fb_num]
theorem b32Str_bt (b : ByteArray) (i : Nat) (hi : i < lf b.size) : bt (b32Str b) i = lt32 ((bnum b / 32 ^ (lf b.size - 1 - i) % 32 : Nat) : Int) := by
  have h := lt32_bd (bnum b / 32 ^ (lf b.size - 1 - i) % 32) (Nat.mod_lt _ (by omega))
  rw [← b32Fn_num] at h
  rw [← b32Fn_num]
  exact bt_strFn _ _ _ hi h.1 h.2
theorem vl_b32 (b : ByteArray) (i : Nat) (hi : i < lf b.size) : vl (bt (b32Str b) i) = ((bnum b / 32 ^ (lf b.size - 1 - i) % 32 : Nat) : Int) := by
  rw [b32Str_bt b i hi]
  exact vl_lt _ (Nat.mod_lt _ (by omega))

theorem pow_le_32 (n m : Nat) (h : 8 * n ≤ 5 * m) : 256 ^ n ≤ 32 ^ m := by
  rw [show (32 : Nat) = 2 ^ 5 from rfl, show (256 : Nat) = 2 ^ 8 from rfl, ← Nat.pow_mul, ← Nat.pow_mul]
  exact Nat.pow_le_pow_right (by omega) h

theorem fb_empty (s : ByteArray) (h : fbErr s ≠ 0) : fbStr s = ⟨#[]⟩ := by unfold fbStr; rw [if_neg h]

theorem b32_back (b : ByteArray) : fbStr (b32Str b) = b ∧ fbErr (b32Str b) = 0 := by
  have hs := b32Str_size b
  have hl : 5 * lf b.size / 8 = b.size := by unfold lf; omega
  have h8 : 8 * b.size ≤ 5 * lf b.size := by unfold lf; omega
  have hok : fbOk (b32Str b) (b32Str b).size = true := (fbOk_iff _ _).2 (fun j hj => by rw [vl_b32 b j (by omega)]; omega)
  have hv : vnum (b32Str b) (b32Str b).size = bnum b := by
    unfold vnum
    rw [hs, num_congr 32 (g := fun t => bnum b / 32 ^ t % 32) _ (fun t ht => by
      rw [vl_b32 b _ (by omega), Int.toNat_natCast, show lf b.size - 1 - (lf b.size - 1 - t) = t from by omega]), num_of 32 _ _ (by omega)]
    exact Nat.mod_eq_of_lt (Nat.lt_of_lt_of_le (bnum_lt b) (pow_le_32 _ _ h8))
  have he : fbErr (b32Str b) = 0 := by
    unfold fbErr
    rw [hok, hv, hs, hl, if_pos rfl, if_pos rfl, Nat.div_eq_of_lt (bnum_lt b), if_pos (by rfl)]
  refine ⟨?_, he⟩
  unfold fbStr
  rw [if_pos he, hv, hs, hl]
  apply bnum_inj
  · rw [strFn_size]
  · exact (bnum_strFn _ _).trans (Nat.mod_eq_of_lt (bnum_lt b))

theorem b32_one (s : ByteArray) (h : fbErr s = 0) : b32Str (fbStr s) = s := by
  have hl : lf (5 * s.size / 8) = s.size := by
    unfold fbErr at h
    split at h
    · assumption
    · omega
  have hok : fbOk s s.size = true := by
    unfold fbErr at h
    rw [if_pos hl] at h
    split at h
    · assumption
    · omega
  have hz : vnum s s.size / 256 ^ (5 * s.size / 8) % 256 = 0 := by
    unfold fbErr at h
    rw [if_pos hl, if_pos hok] at h
    split at h
    · assumption
    · omega
  have ho := (fbOk_iff _ _).1 hok
  have hfs : fbStr s = strFn (5 * s.size / 8) (fbFn (vnum s s.size)) := by unfold fbStr; rw [if_pos h]
  have hsz : (fbStr s).size = 5 * s.size / 8 := by rw [hfs, strFn_size]
  have h16 : vnum s s.size / 256 ^ (5 * s.size / 8) < 16 := by
    rw [Nat.div_lt_iff_lt_mul (Nat.pow_pos (by omega))]
    refine Nat.lt_of_lt_of_le (vnum_lt s s.size) ?_
    rw [show (32 : Nat) = 2 ^ 5 from rfl, show (256 : Nat) = 2 ^ 8 from rfl, show (16 : Nat) = 2 ^ 4 from rfl, ← Nat.pow_mul, ← Nat.pow_mul, ← Nat.pow_add]
    exact Nat.pow_le_pow_right (by omega) (by unfold lf at hl; omega)
  have hlt : vnum s s.size < 256 ^ (5 * s.size / 8) := by
    rw [Nat.mod_eq_of_lt (Nat.lt_trans h16 (by omega))] at hz
    exact (Nat.div_eq_zero_iff_lt (Nat.pow_pos (by omega))).1 hz
  have hn : bnum (fbStr s) = vnum s s.size := by
    rw [hfs]
    exact (bnum_strFn _ _).trans (Nat.mod_eq_of_lt hlt)
  have hlf : lf (fbStr s).size = s.size := by rw [hsz, hl]
  apply bytes_ext
  · rw [b32Str_size, hlf]
  · intro k hk
    rw [b32Str_size, hlf] at hk
    rw [b32Str_bt _ _ (by rw [hlf]; exact hk), hlf, hn]
    have hd : vnum s s.size / 32 ^ (s.size - 1 - k) % 32 = (vl (bt s k)).toNat := by
      unfold vnum
      rw [num_digit 32 _ (s.size - 1 - k) s.size (by omega) (fun i _ => by have := vl_spec _ (bt_bd s (s.size - 1 - i)); omega) (by omega), show s.size - 1 - (s.size - 1 - k) = k from by omega]
    rw [hd]
    have h1 := ho k hk
    rcases vl_spec _ (bt_bd s k) with h2 | h2
    · rw [show ((vl (bt s k)).toNat : Int) = vl (bt s k) from by omega]
      exact h2.2.2
    · omega
end Go.Proofs.YtjhbfkckkinfjaaDoor
namespace Go.Proofs.YtjhbfkckkinfjaaDoor
open Go.RowKit Go.Shelf

theorem ext_cat (l : ByteArray) (k : Nat) : l.extract 0 k ++ l.extract k l.size = l := by
  apply ByteArray.ext
  apply Array.toList_inj.1
  simp
theorem hpQ_split {l h : ByteArray} (g : hpQ l h = true) : l = h ++ cpQ l h := by
  rw [cpQ_yes g]
  unfold hpQ at g
  rw [Bool.and_eq_true] at g
  have e := bytes_toList_inj (eq_of_beq g.2)
  have c := ext_cat l h.size
  rw [e] at c
  exact c.symm
theorem rp_line {l h : ByteArray} (g : rpC l h = 0) : l = h ++ rpS l h ∧ prC (rpS l h) = 0 := by
  have hp : hpQ l h = true := by
    cases e : hpQ l h
    · rw [rpC_no e] at g; cases g
    · rfl
  have e : rpS l h = cpQ l h := if_pos g
  rw [e]
  rw [rpC_yes hp] at g
  exact ⟨hpQ_split hp, g⟩
theorem rs_line {L : List ByteArray} {l : ByteArray} (g : rsC L l = 0) : l = hdS ++ rsS l ∧ nxC (Sq.nth L) L.length (rsS l) = 0 := by
  unfold rsC at g
  split at g
  · rename_i hp
    exact ⟨hpQ_split hp, g⟩
  · cases g
theorem rh_line {l : ByteArray} (g : rhC l = 0) : l = hdH ++ b32Str (strFn 32 (rhD l)) := by
  have hp : hpQ l hdH = true := by
    cases e : hpQ l hdH
    · rw [rhC_no e] at g; cases g
    · rfl
  by_cases hd : dOk (cpQ l hdH)
  · have e : rhD l = bt (fbStr (cpQ l hdH)) := by
      unfold rhD; rw [if_pos g, dFn_yes hd]
    have hs : (fbStr (cpQ l hdH)).size = 32 := ((dOk_iff _).1 hd).2
    have e2 : strFn 32 (bt (fbStr (cpQ l hdH))) = fbStr (cpQ l hdH) := by
      rw [← hs]; exact strFn_bt _
    rw [e, e2, b32_one _ hd.2]
    exact hpQ_split hp
  · rw [rhC_bad hp hd] at g; cases g

/-- Each with a blank ahead. -/
def catB : List ByteArray → ByteArray
  | [] => ⟨#[]⟩
  | x :: r => blk1 ++ x ++ catB r
theorem catB_snoc (M : List ByteArray) (x : ByteArray) : catB (M ++ [x]) = catB M ++ (blk1 ++ x) := by
  induction M with
  | nil => show blk1 ++ x ++ (⟨#[]⟩ : ByteArray) = (⟨#[]⟩ : ByteArray) ++ (blk1 ++ x); apply ByteArray.ext; simp
  | cons a r ih => show blk1 ++ a ++ catB (r ++ [x]) = blk1 ++ a ++ catB r ++ (blk1 ++ x); rw [ih]; simp [ByteArray.append_assoc]
theorem bsS_congr {f h : Nat → ByteArray} {n : Nat} (e : ∀ j, j < n → f j = h j) : bsS f n = bsS h n := by
  induction n with
  | zero => rfl
  | succ n ih => show bsS f n ++ _ = bsS h n ++ _; rw [ih (fun j hj => e j (by omega)), e n (by omega)]
theorem bt_append (a b : ByteArray) (k : Nat) : bt (a ++ b) k = if k < a.size then bt a k else bt b (k - a.size) := by
  have hs : (a ++ b).size = a.size + b.size := ByteArray.size_append
  unfold bt
  by_cases h : k < a.size
  · rw [if_pos h, dif_pos h, dif_pos (by omega), ByteArray.getElem_append_left h]
  · rw [if_neg h]
    by_cases h2 : k < a.size + b.size
    · rw [dif_pos (by omega), dif_pos (by omega), ByteArray.getElem_append_right (by omega)]
    · rw [dif_neg (by omega), dif_neg (by omega)]
theorem dir_cut (x : ByteArray) : (dirR ++ x).extract 13 (dirR ++ x).size = x := by
  have hs : (dirR ++ x).size = 13 + x.size := by rw [ByteArray.size_append, dirR_size]
  rw [hs]
  refine bytes_ext ?_ (fun k hk => ?_)
  · rw [ByteArray.size_extract, hs]; omega
  · rw [ByteArray.size_extract, hs] at hk
    rw [bt_extract _ _ _ _ (by omega) (by omega)]
    rw [bt_append, if_neg (by rw [dirR_size]; omega), dirR_size, Nat.add_sub_cancel_left]
theorem bsS_cat (L : List ByteArray) : bsS (Sq.nth (L.map (fun x => dirR ++ x))) L.length = catB L := by
  have h : ∀ n, n ≤ L.length → bsS (Sq.nth (L.map (fun x => dirR ++ x))) n = catB (L.take n) := by
    intro n
    induction n with
    | zero => intro _; rfl
    | succ n ih =>
      intro hn
      have e : L.take (n + 1) = L.take n ++ [Sq.nth L n] := by
        rw [List.take_add_one, List.getElem?_eq_getElem (by omega)]
        simp [Sq.nth, List.getD, show n < L.length by omega]
      rw [e, catB_snoc, ← ih (by omega)]
      show _ ++ (_ ++ _) = _
      rw [nth_map _ _ (by omega), dir_cut]
      rfl
  rw [h L.length (Nat.le_refl _), List.take_length]
theorem pcs_cat (p : ByteArray) (r : Nat) : ∀ f, f ≤ p.size → catB (Sq.pcs p r f) = blk1 ++ p.extract f p.size := by
  induction r with
  | zero => intro f hf; show blk1 ++ p.extract f p.size ++ (⟨#[]⟩ : ByteArray) = _; apply ByteArray.ext; simp
  | succ r ih =>
    intro f hf
    by_cases hx : Sq.nx p f = p.size
    · rw [Sq.pcs_last p _ f hx]; show blk1 ++ p.extract f p.size ++ (⟨#[]⟩ : ByteArray) = _; apply ByteArray.ext; simp
    · obtain ⟨s1, s2, s3, s4⟩ := Sq.nx_spec p f hf
      have hb := s4 (by omega)
      have e : blk1 = p.extract (Sq.nx p f) (Sq.nx p f + 1) := by
        refine bytes_ext ?_ (fun k hk => ?_)
        · rw [ByteArray.size_extract]; show 1 = _; omega
        · have hk0 : k = 0 := by have : k < 1 := hk; omega
          subst hk0
          rw [bt_extract p _ _ 0 (by omega) (by omega), Nat.add_zero, hb]
          decide +kernel
      rw [Sq.pcs_more p r f hx, catB, ih _ (by omega)]
      have c : p.extract f (Sq.nx p f) ++ (p.extract (Sq.nx p f) (Sq.nx p f + 1) ++ p.extract (Sq.nx p f + 1) p.size) = p.extract f p.size := by
        rw [ByteArray.extract_append_extract, Nat.min_eq_left (by omega), Nat.max_eq_right (by omega), ByteArray.extract_append_extract, Nat.min_eq_left (by omega), Nat.max_eq_right (by omega)]
      rw [ByteArray.append_assoc, ← c, ← e]

end Go.Proofs.YtjhbfkckkinfjaaDoor
namespace Go.Proofs.YtjhbfkckkinfjaaDoor
open Go.RowKit Go.Shelf

theorem empty_of_size {r : ByteArray} (h : r.size = 0) : r = ⟨#[]⟩ := bytes_ext (by rw [h]; rfl) (fun k hk => absurd hk (by omega))
theorem rr_line {l : ByteArray} (g : rrC l = 0) : l = hdR ++ bsS (Sq.nth (rrL l)) (rrL l).length ∧ crf (Sq.nth (rrL l)) (rrL l).length = 0 := by
  unfold rrC at g
  split at g
  · rename_i h
    have e : rrL l = [] := by unfold rrL; rw [if_pos h.2]
    rw [e]
    refine ⟨?_, crf_yes (by simp) (fun i hi => absurd hi (by simp))⟩
    have := hpQ_split h.1
    rw [empty_of_size h.2] at this
    exact this
  · split at g
    · rename_i h0 h
      have hz : (cpQ l hdR).size ≠ 0 := fun c => h0 ⟨h.1, c⟩
      have e : rrL l = (Sq.pcs (rrT l) 1024 0).map (fun x => dirR ++ x) := by unfold rrL; rw [if_neg hz]
      have el : (rrL l).length = rrN l := by rw [e, List.length_map]; rfl
      have ec : crf (Sq.nth (rrL l)) (rrN l) = crf (rrF l) (rrN l) := by
        have hh : ∀ j, j < rrN l → Sq.nth (rrL l) j = rrF l j := fun j hj => by rw [e, nth_map _ _ hj]; rfl
        unfold crf
        have hiff : refsOk (Sq.nth (rrL l)) (rrN l) ↔ refsOk (rrF l) (rrN l) := by
          constructor <;> intro H i hi
          · obtain ⟨a, b⟩ := H i hi
            rw [hh i hi] at a b
            exact ⟨a, fun h0 => by have := b h0; rw [hh (i - 1) (by omega)] at this; exact this⟩
          · obtain ⟨a, b⟩ := H i hi
            rw [hh i hi]
            exact ⟨a, fun h0 => by rw [hh (i - 1) (by omega)]; exact b h0⟩
        by_cases hk : refsOk (rrF l) (rrN l)
        · rw [if_pos hk, if_pos (hiff.2 hk)]
        · rw [if_neg hk, if_neg (fun c => hk (hiff.1 c))]
      refine ⟨?_, by rw [el, ec]; exact g⟩
      have b : bsS (Sq.nth (rrL l)) (rrL l).length = blk1 ++ rrT l := by
        have c := bsS_cat (Sq.pcs (rrT l) 1024 0)
        rw [← e, pcs_cat _ _ 0 (Nat.zero_le _), ByteArray.extract_zero_size] at c
        rw [el]
        exact c
      have s2 := hpQ_split h.2
      rw [b]
      have : blk1 ++ rrT l = cpQ l hdR := s2.symm
      rw [this]
      exact hpQ_split h.1
    · cases g

theorem take_succ_bt (t : ByteArray) (k : Nat) (hk : k < t.size) : t.data.toList.take (k + 1) = t.data.toList.take k ++ [UInt8.ofNat (bt t k).toNat] := by
  have hk' : k < t.data.toList.length := by rw [Array.length_toList]; exact hk
  rw [List.take_add_one, List.getElem?_eq_getElem hk']
  have : t.data.toList[k] = UInt8.ofNat (bt t k).toNat := by
    rw [← get_bt t k hk, Int.toNat_natCast, UInt8.ofNat_toNat]
    rfl
  rw [this]
  rfl
theorem dec_nv (t : ByteArray) (h : nmOk t) : ∀ k, 1 ≤ k → k ≤ t.size → Lib.decDigits (nv t k).toNat = t.data.toList.take k ∧ 0 ≤ nv t k ∧ (1 < t.size → 1 ≤ nv t k) := by
  intro k
  induction k with
  | zero => intro h1; omega
  | succ k ih =>
    intro _ hk
    have b := h.2.2 k (by omega)
    by_cases h0 : k = 0
    · subst h0
      have e : nv t 1 = bt t 0 - 48 := by show 10 * nv t 0 + (bt t 0 - 48) = _; show 10 * 0 + (bt t 0 - 48) = _; omega
      refine ⟨?_, by rw [e]; omega, fun hs => ?_⟩
      · rw [take_succ_bt t 0 (by omega), e, Lib.decDigits_one (by omega), show 48 + (bt t 0 - 48).toNat = (bt t 0).toNat by omega]
        rfl
      · have := h.2.1
        rw [e]
        have : bt t 0 ≠ 48 := fun c => this ⟨c, hs⟩
        omega
    · obtain ⟨i1, i2, i3⟩ := ih (by omega) (by omega)
      have i4 := i3 (by omega)
      have e : nv t (k + 1) = 10 * nv t k + (bt t k - 48) := rfl
      refine ⟨?_, by rw [e]; omega, fun _ => by rw [e]; omega⟩
      rw [take_succ_bt t k (by omega), ← i1, Lib.decDigits, dif_neg (by rw [e]; omega)]
      rw [show (nv t (k + 1)).toNat / 10 = (nv t k).toNat by rw [e]; omega, show 48 + (nv t (k + 1)).toNat % 10 = (bt t k).toNat by rw [e]; omega]
theorem it_nv (t : ByteArray) (h : nmOk t) : itB (nv t t.size) = t := by
  obtain ⟨h1, h2, _⟩ := dec_nv t h t.size (by have := h.1; omega) (Nat.le_refl _)
  unfold itB Lib.itoa
  rw [if_neg (by omega), h1]
  apply ByteArray.ext
  apply Array.toList_inj.1
  simp
  exact List.take_of_length_le (by rw [Array.length_toList]; exact Nat.le_refl _)
theorem rz_line {l : ByteArray} (g : rzC l = 0) : l = hdZ ++ itB (rzV l) ∧ szC (rzV l) = 0 := by
  by_cases hp : hpQ l hdZ = true ∧ nmOk (cpQ l hdZ)
  · by_cases hb : nv (cpQ l hdZ) (cpQ l hdZ).size ≤ 1048576
    · have e : rzV l = nv (cpQ l hdZ) (cpQ l hdZ).size := if_pos g
      obtain ⟨_, h2, _⟩ := dec_nv _ hp.2 _ (by have := hp.2.1; omega) (Nat.le_refl _)
      rw [e, it_nv _ hp.2]
      exact ⟨hpQ_split hp.1, if_pos ⟨h2, hb⟩⟩
    · rw [rzC_big hp hb] at g; cases g
  · rw [rzC_no hp] at g; cases g

end Go.Proofs.YtjhbfkckkinfjaaDoor
namespace Go.Proofs.YtjhbfkckkinfjaaDoor
open Go.RowKit Go.Shelf

theorem emp_app (a : ByteArray) : emp ++ a = a := by apply ByteArray.ext; simp [emp]
theorem app_emp (a : ByteArray) : a ++ (⟨#[]⟩ : ByteArray) = a := by apply ByteArray.ext; simp
/-- The text of the first n lines. -/
def outT (n : Nat) (s : IS) : ByteArray := if n = 0 then emp else if n = 1 then pt1 s.P else if n = 2 then pt2 s.P s.D else if n = 3 then pt3 s.P s.D s.z else prT s.P s.D s.z (Sq.nth s.R) s.R.length s.F (Sq.nth s.S) s.S.length
structure JJ (n : Nat) (s : IS) : Prop where
  hp : 1 ≤ n → prC s.P = 0
  hz : 3 ≤ n → szC s.z = 0
  hr : 4 ≤ n → crf (Sq.nth s.R) s.R.length = 0
  hf : frC s.F = 0
  hs : ssOk (Sq.nth s.S) s.S.length
  he : n ≤ 4 → s.S = [] ∧ s.F.size = 0
theorem JJ.zero : JJ 0 IS.zero := ⟨fun h => absurd h (by omega), fun h => absurd h (by omega), fun h => absurd h (by omega), by decide +kernel, fun i hi => absurd hi (by simp [IS.zero]), fun _ => ⟨rfl, rfl⟩⟩
theorem ptS_congr {t : ByteArray} {f h : Nat → ByteArray} {n : Nat} (e : ∀ j, j < n → f j = h j) : ptS t f n = ptS t h n := by
  induction n with
  | zero => rfl
  | succ n ih => show ptS t f n ++ hdS ++ f n ++ nl = ptS t h n ++ hdS ++ h n ++ nl; rw [ih (fun j hj => e j (by omega)), e n (by omega)]
theorem nth_left (L : List ByteArray) (x : ByteArray) (j : Nat) (h : j < L.length) : Sq.nth (L ++ [x]) j = Sq.nth L j := by rw [Sq.nth_snoc, if_neg (by omega)]
theorem nth_last (L : List ByteArray) (x : ByteArray) : Sq.nth (L ++ [x]) L.length = x := by rw [Sq.nth_snoc, if_pos rfl]

theorem step_line {n : Nat} {s : IS} {l : ByteArray} (J : JJ n s) (g : tkC s n l = 0) : JJ (n + 1) (tkS s n l) ∧ outT (n + 1) (tkS s n l) = outT n s ++ l ++ nl := by
  by_cases h0 : n = 0
  · subst h0
    have g' : rpC l hdP = 0 := g
    obtain ⟨h1, h2⟩ := rp_line g'
    refine ⟨⟨fun _ => h2, fun h => absurd h (by omega), fun h => absurd h (by omega), J.hf, J.hs, fun _ => J.he (by omega)⟩, ?_⟩
    show emp ++ hdP ++ rpS l hdP ++ nl = emp ++ l ++ nl
    conv => rhs; rw [h1]
    simp [ByteArray.append_assoc]
  by_cases h1 : n = 1
  · subst h1
    have g' : rhC l = 0 := g
    have e1 := rh_line g'
    refine ⟨⟨fun _ => J.hp (by omega), fun h => absurd h (by omega), fun h => absurd h (by omega), J.hf, J.hs, fun _ => J.he (by omega)⟩, ?_⟩
    show pt1 s.P ++ hdH ++ b32Str (strFn 32 (rhD l)) ++ nl = pt1 s.P ++ l ++ nl
    conv => rhs; rw [e1]
    simp [ByteArray.append_assoc]
  by_cases h2 : n = 2
  · subst h2
    have g' : rzC l = 0 := g
    obtain ⟨e1, e2⟩ := rz_line g'
    refine ⟨⟨fun _ => J.hp (by omega), fun _ => e2, fun h => absurd h (by omega), J.hf, J.hs, fun _ => J.he (by omega)⟩, ?_⟩
    show pt2 s.P s.D ++ hdZ ++ itB (rzV l) ++ nl = pt2 s.P s.D ++ l ++ nl
    conv => rhs; rw [e1]
    simp [ByteArray.append_assoc]
  by_cases h3 : n = 3
  · subst h3
    have g' : rrC l = 0 := g
    obtain ⟨e1, e2⟩ := rr_line g'
    obtain ⟨q1, q2⟩ := J.he (by omega)
    refine ⟨⟨fun _ => J.hp (by omega), fun _ => J.hz (by omega), fun _ => e2, J.hf, J.hs, fun _ => J.he (by omega)⟩, ?_⟩
    show ptS (ptF (pt3 s.P s.D s.z ++ hdR ++ bsS (Sq.nth (rrL l)) (rrL l).length ++ nl) s.F) (Sq.nth s.S) s.S.length = pt3 s.P s.D s.z ++ l ++ nl
    rw [ptF_z q2, q1]
    show pt3 s.P s.D s.z ++ hdR ++ bsS (Sq.nth (rrL l)) (rrL l).length ++ nl = pt3 s.P s.D s.z ++ l ++ nl
    conv => rhs; rw [e1]
    simp [ByteArray.append_assoc]
  have ho : outT n s = prT s.P s.D s.z (Sq.nth s.R) s.R.length s.F (Sq.nth s.S) s.S.length := by unfold outT; rw [if_neg h0, if_neg h1, if_neg h2, if_neg h3]
  have ho' : ∀ s, outT (n + 1) s = prT s.P s.D s.z (Sq.nth s.R) s.R.length s.F (Sq.nth s.S) s.S.length := fun s => by unfold outT; rw [if_neg (by omega), if_neg (by omega), if_neg (by omega), if_neg (by omega)]
  rw [ho, ho']
  by_cases h4 : n = 4 ∧ hpQ l hdF = true
  · have ec : tkC s n l = rpC l hdF := by unfold tkC; rw [if_neg h0, if_neg h1, if_neg h2, if_neg h3, if_pos h4]
    have es : tkS s n l = { s with F := rpS l hdF } := by unfold tkS; rw [if_neg h0, if_neg h1, if_neg h2, if_neg h3, if_pos h4]
    rw [ec] at g
    rw [es]
    obtain ⟨q1, q2⟩ := J.he (by omega)
    obtain ⟨e1, e2⟩ := rp_line g
    have hz : (rpS l hdF).size ≠ 0 := by
      intro c
      rw [empty_of_size c] at e2
      exact absurd e2 (by decide +kernel)
    refine ⟨⟨fun _ => J.hp (by omega), fun _ => J.hz (by omega), fun _ => J.hr (by omega), ?_, J.hs, fun h => absurd h (by omega)⟩, ?_⟩
    · show frC (rpS l hdF) = 0
      unfold frC
      rw [if_neg hz]
      exact e2
    · show ptS (ptF (pt4 s.P s.D s.z (Sq.nth s.R) s.R.length) (rpS l hdF)) (Sq.nth s.S) s.S.length = ptS (ptF (pt4 s.P s.D s.z (Sq.nth s.R) s.R.length) s.F) (Sq.nth s.S) s.S.length ++ l ++ nl
      rw [q1, ptF_n hz, ptF_z q2]
      show pt4 s.P s.D s.z (Sq.nth s.R) s.R.length ++ hdF ++ rpS l hdF ++ nl = pt4 s.P s.D s.z (Sq.nth s.R) s.R.length ++ l ++ nl
      conv => rhs; rw [e1]
      simp [ByteArray.append_assoc]
  · have ec : tkC s n l = rsC s.S l := by unfold tkC; rw [if_neg h0, if_neg h1, if_neg h2, if_neg h3, if_neg h4]
    have es : tkS s n l = { s with S := s.S ++ [rsS l] } := by unfold tkS; rw [if_neg h0, if_neg h1, if_neg h2, if_neg h3, if_neg h4]
    rw [ec] at g
    rw [es]
    obtain ⟨e1, e2⟩ := rs_line g
    have e3 : snC (rsS l) = 0 ∧ (0 < s.S.length → Op.bytesLess (Sq.nth s.S (s.S.length - 1)).toList (rsS l).toList = true) := by
      unfold nxC at e2
      split at e2
      · assumption
      · cases e2
    refine ⟨⟨fun _ => J.hp (by omega), fun _ => J.hz (by omega), fun _ => J.hr (by omega), J.hf, ?_, fun h => absurd h (by omega)⟩, ?_⟩
    · show ssOk (Sq.nth (s.S ++ [rsS l])) (s.S ++ [rsS l]).length
      rw [List.length_append]
      refine ssOk_succ (k := s.S.length) ?_ (by rw [nth_last]; exact e3.1) (fun h => by rw [nth_last, nth_left _ _ _ (by omega)]; exact e3.2 h)
      intro i hi
      have := J.hs i hi
      rw [nth_left _ _ _ hi]
      refine ⟨this.1, fun h0 => ?_⟩
      rw [nth_left _ _ _ (by omega)]
      exact this.2 h0
    · show ptS (ptF (pt4 s.P s.D s.z (Sq.nth s.R) s.R.length) s.F) (Sq.nth (s.S ++ [rsS l])) (s.S ++ [rsS l]).length = ptS (ptF (pt4 s.P s.D s.z (Sq.nth s.R) s.R.length) s.F) (Sq.nth s.S) s.S.length ++ l ++ nl
      generalize ptF (pt4 s.P s.D s.z (Sq.nth s.R) s.R.length) s.F = T
      rw [List.length_append]
      show ptS T (Sq.nth (s.S ++ [rsS l])) s.S.length ++ hdS ++ Sq.nth (s.S ++ [rsS l]) s.S.length ++ nl = _
      rw [nth_last, ptS_congr (h := Sq.nth s.S) (fun j hj => nth_left _ _ _ hj)]
      conv => rhs; rw [e1]
      simp [ByteArray.append_assoc]

theorem ct_split {t : ByteArray} (h : ctF t 10 = true) : t = ctA t 10 ++ nl ++ ctB t 10 := by
  have h1 : fst t 10 < t.size := of_decide_eq_true h
  have hb : bt t (fst t 10) = 10 := fst_at h1
  have e : nl = t.extract (fst t 10) (fst t 10 + 1) := by
    refine bytes_ext ?_ (fun k hk => ?_)
    · rw [ByteArray.size_extract]; show 1 = _; omega
    · have hk0 : k = 0 := by have : k < 1 := hk; omega
      subst hk0
      rw [bt_extract t _ _ 0 (by omega) (by omega), Nat.add_zero, hb]
      decide +kernel
  unfold ctA ctB
  rw [if_pos h1, if_pos h1, e, ByteArray.extract_append_extract, Nat.min_eq_left (by omega), Nat.max_eq_right (by omega), ByteArray.extract_append_extract, Nat.min_eq_left (by omega), Nat.max_eq_right (by omega), ByteArray.extract_zero_size]
theorem pz_one (k : Nat) : ∀ (t : ByteArray) (n : Nat) (s : IS), t.size < k → JJ n s → (pz k t n s).2.1 = 0 → ∃ m, 4 ≤ m ∧ JJ m (pz k t n s).1 ∧ outT m (pz k t n s).1 = outT n s ++ t := by
  induction k with
  | zero => intro t n s h; omega
  | succ k ih =>
    intro t n s hk J hc
    by_cases hd : 4 ≤ n ∧ t.size = 0
    · rw [pz_done hd]
      exact ⟨n, hd.1, J, by rw [empty_of_size hd.2]; exact (app_emp _).symm⟩
    · cases hf : ctF t 10
      · rw [pz_open hd hf] at hc; exact absurd hc (show ¬ (150 : Int) = 0 by decide)
      · by_cases hq : tkC s n (ctA t 10) = 0
        · obtain ⟨J2, o2⟩ := step_line J hq
          have hsz := ctB_lt hf
          rw [pz_next hd hf hq] at hc ⊢
          obtain ⟨m, h1, h2, h3⟩ := ih _ _ _ (by omega) J2 hc
          refine ⟨m, h1, h2, ?_⟩
          rw [h3, o2]
          conv => rhs; rw [ct_split hf]
          simp [ByteArray.append_assoc]
        · rw [pz_bad hd hf hq] at hc; exact absurd hc hq
/-- Whatever is read is printed again as it was. -/
theorem one_form (t : ByteArray) (h : (PZ t).2.1 = 0) : ckC (PZ t).1.P (PZ t).1.z (Sq.nth (PZ t).1.R) (PZ t).1.R.length (PZ t).1.F (Sq.nth (PZ t).1.S) (PZ t).1.S.length = 0 ∧ prT (PZ t).1.P (PZ t).1.D (PZ t).1.z (Sq.nth (PZ t).1.R) (PZ t).1.R.length (PZ t).1.F (Sq.nth (PZ t).1.S) (PZ t).1.S.length = t := by
  obtain ⟨m, h1, J, o⟩ := pz_one (t.size + 1) t 0 IS.zero (by omega) JJ.zero h
  have o2 : outT m (PZ t).1 = prT (PZ t).1.P (PZ t).1.D (PZ t).1.z (Sq.nth (PZ t).1.R) (PZ t).1.R.length (PZ t).1.F (Sq.nth (PZ t).1.S) (PZ t).1.S.length := by unfold outT; rw [if_neg (by omega), if_neg (by omega), if_neg (by omega), if_neg (by omega)]
  refine ⟨?_, ?_⟩
  · unfold ckC unC
    have a1 : prC (PZ t).1.P = 0 := J.hp (by omega)
    have a2 : szC (PZ t).1.z = 0 := J.hz (by omega)
    have a3 : crf (Sq.nth (PZ t).1.R) (PZ t).1.R.length = 0 := J.hr h1
    have a4 : frC (PZ t).1.F = 0 := J.hf
    rw [orC_z a1, orC_z a2, orC_z a3, orC_z a4]
    exact ssC_yes J.hs
  · rw [← o2]
    exact o.trans (emp_app t)

end Go.Proofs.YtjhbfkckkinfjaaDoor
namespace Go.Proofs.YtjhbfkckkinfjaaDoor
open Go.RowKit Go.Shelf

theorem app_left (h x : ByteArray) : (h ++ x).extract 0 h.size = h := by
  refine bytes_ext ?_ (fun k hk => ?_)
  · rw [ByteArray.size_extract, ByteArray.size_append]; omega
  · rw [ByteArray.size_extract, ByteArray.size_append] at hk
    rw [bt_extract _ _ _ _ (by omega) (by rw [ByteArray.size_append]; omega), Nat.zero_add, bt_append, if_pos (by omega)]
theorem app_right (h x : ByteArray) : (h ++ x).extract h.size (h ++ x).size = x := by
  refine bytes_ext ?_ (fun k hk => ?_)
  · rw [ByteArray.size_extract, ByteArray.size_append]; omega
  · rw [ByteArray.size_extract, ByteArray.size_append] at hk
    rw [bt_extract _ _ _ _ (by rw [ByteArray.size_append]; omega) (Nat.le_refl _), bt_append, if_neg (by omega), Nat.add_sub_cancel_left]
theorem hpQ_app (h x : ByteArray) : hpQ (h ++ x) h = true := by
  unfold hpQ
  rw [app_left, Bool.and_eq_true]
  exact ⟨decide_eq_true (by rw [ByteArray.size_append]; omega), by simp⟩
theorem cpQ_app (h x : ByteArray) : cpQ (h ++ x) h = x := by rw [cpQ_yes (hpQ_app h x), app_right]
/-- A text without an end of line, that end, and the rest. -/
theorem fst_line (l r : ByteArray) (h : ∀ k, k < l.size → bt l k ≠ 10) : fst (l ++ nl ++ r) 10 = l.size := by
  have hs : (l ++ nl ++ r).size = l.size + 1 + r.size := by rw [ByteArray.size_append, ByteArray.size_append]; rfl
  refine fst_uniq (by omega) (fun j hj => ?_) (Or.inr ?_)
  · rw [bt_append, if_pos (by rw [ByteArray.size_append]; omega), bt_append, if_pos hj]
    exact h j hj
  · rw [bt_append, if_pos (by rw [ByteArray.size_append]; show l.size < l.size + 1; omega), bt_append, if_neg (by omega), Nat.sub_self]
    decide +kernel
theorem ct_line (l r : ByteArray) (h : ∀ k, k < l.size → bt l k ≠ 10) : ctA (l ++ nl ++ r) 10 = l ∧ ctB (l ++ nl ++ r) 10 = r ∧ ctF (l ++ nl ++ r) 10 = true := by
  have hf := fst_line l r h
  have hs : (l ++ nl ++ r).size = l.size + 1 + r.size := by rw [ByteArray.size_append, ByteArray.size_append]; rfl
  have hlt : fst (l ++ nl ++ r) 10 < (l ++ nl ++ r).size := by omega
  have e1 : (l ++ nl).size = l.size + 1 := by rw [ByteArray.size_append]; rfl
  refine ⟨?_, ?_, decide_eq_true hlt⟩
  · unfold ctA
    rw [if_pos hlt, hf, ByteArray.append_assoc, app_left]
  · unfold ctB
    rw [if_pos hlt, hf, ← e1, app_right]
theorem rp_back {P h : ByteArray} (g : prC P = 0) : rpC (h ++ P) h = 0 ∧ rpS (h ++ P) h = P := by
  have e : rpC (h ++ P) h = 0 := by rw [rpC_yes (hpQ_app h P), cpQ_app]; exact g
  exact ⟨e, by unfold rpS; rw [if_pos e, cpQ_app]⟩
theorem rs_back {L : List ByteArray} {s : ByteArray} (g : nxC (Sq.nth L) L.length s = 0) : rsC L (hdS ++ s) = 0 ∧ rsS (hdS ++ s) = s := by
  have e : rsS (hdS ++ s) = s := cpQ_app hdS s
  refine ⟨?_, e⟩
  unfold rsC
  rw [if_pos (hpQ_app hdS s), e]
  exact g
theorem b32_len (D : Nat → Int) : (b32Str (strFn 32 D)).size = 52 := by
  rw [b32Str_size, strFn_size]; decide
theorem rh_back (D : Nat → Int) (h : ∀ j, j < 32 → 0 ≤ D j ∧ D j < 256) : rhC (hdH ++ b32Str (strFn 32 D)) = 0 ∧ ∀ j, j < 32 → rhD (hdH ++ b32Str (strFn 32 D)) j = D j := by
  obtain ⟨b1, b2⟩ := b32_back (strFn 32 D)
  have hd : dOk (cpQ (hdH ++ b32Str (strFn 32 D)) hdH) := by rw [cpQ_app]; exact ⟨b32_len D, b2⟩
  have hc := rhC_yes (hpQ_app hdH (b32Str (strFn 32 D))) hd
  refine ⟨hc, fun j hj => ?_⟩
  unfold rhD
  rw [if_pos hc, dFn_yes hd, cpQ_app, b1, bt_strFn 32 D j hj (h j hj).1 (h j hj).2]

end Go.Proofs.YtjhbfkckkinfjaaDoor
namespace Go.Proofs.YtjhbfkckkinfjaaDoor
open Go.RowKit Go.Shelf

def dgB (u : Nat) : ByteArray := ⟨(Lib.decDigits u).toArray⟩
theorem bt_one (n : Nat) (h : n < 256) : bt ⟨#[UInt8.ofNat n]⟩ 0 = n := by
  unfold bt
  rw [dif_pos (show 0 < (⟨#[UInt8.ofNat n]⟩ : ByteArray).size from by show 0 < 1; omega)]
  show (((UInt8.ofNat n).toNat : Nat) : Int) = n
  rw [UInt8.toNat_ofNat', Nat.mod_eq_of_lt h]
theorem dgB_small {u : Nat} (h : u < 10) : dgB u = ⟨#[UInt8.ofNat (48 + u)]⟩ := by unfold dgB; rw [Lib.decDigits_one h]
theorem dgB_big {u : Nat} (h : ¬ u < 10) : dgB u = dgB (u / 10) ++ ⟨#[UInt8.ofNat (48 + u % 10)]⟩ := by
  unfold dgB
  rw [Lib.decDigits, dif_neg h]
  apply ByteArray.ext
  apply Array.toList_inj.1
  simp
theorem nv_congr {a b : ByteArray} {n : Nat} (h : ∀ k, k < n → bt a k = bt b k) : nv a n = nv b n := by
  induction n with
  | zero => rfl
  | succ n ih => show 10 * nv a n + (bt a n - 48) = 10 * nv b n + (bt b n - 48); rw [ih (fun k hk => h k (by omega)), h n (by omega)]
theorem dgB_ok (u : Nat) : (dgB u).size ≠ 0 ∧ (∀ k, k < (dgB u).size → 48 ≤ bt (dgB u) k ∧ bt (dgB u) k ≤ 57) ∧ nv (dgB u) (dgB u).size = u ∧ (bt (dgB u) 0 = 48 → u = 0) := by
  induction u using Nat.strongRecOn with
  | _ u ih =>
    by_cases h : u < 10
    · rw [dgB_small h]
      have b := bt_one (48 + u) (by omega)
      have hs : (⟨#[UInt8.ofNat (48 + u)]⟩ : ByteArray).size = 1 := rfl
      rw [hs]
      refine ⟨by decide, fun k hk => ?_, ?_, fun e => by rw [b] at e; omega⟩
      · obtain rfl : k = 0 := by omega
        rw [b]; omega
      · show 10 * 0 + (bt _ 0 - 48) = _
        rw [b]; omega
    · obtain ⟨i1, i2, i3, i4⟩ := ih (u / 10) (by omega)
      rw [dgB_big h]
      have hs : (dgB (u / 10) ++ ⟨#[UInt8.ofNat (48 + u % 10)]⟩ : ByteArray).size = (dgB (u / 10)).size + 1 := by rw [ByteArray.size_append]; rfl
      have b := bt_one (48 + u % 10) (by omega)
      have bl : bt (dgB (u / 10) ++ ⟨#[UInt8.ofNat (48 + u % 10)]⟩) (dgB (u / 10)).size = ((48 + u % 10 : Nat) : Int) := by rw [bt_append, if_neg (by omega), Nat.sub_self]; exact b
      have bk : ∀ k, k < (dgB (u / 10)).size → bt (dgB (u / 10) ++ ⟨#[UInt8.ofNat (48 + u % 10)]⟩) k = bt (dgB (u / 10)) k := fun k hk => by rw [bt_append, if_pos hk]
      rw [hs]
      refine ⟨by omega, fun k hk => ?_, ?_, fun e => ?_⟩
      · by_cases e : k < (dgB (u / 10)).size
        · rw [bk k e]; exact i2 k e
        · obtain rfl : k = (dgB (u / 10)).size := by omega
          rw [bl]; omega
      · show 10 * nv _ (dgB (u / 10)).size + (bt _ (dgB (u / 10)).size - 48) = _
        rw [nv_congr bk, i3, bl]
        omega
      · rw [bk 0 (by omega)] at e
        have := i4 e
        omega
theorem itB_dg {z : Int} (h : 0 ≤ z) : itB z = dgB z.toNat := by unfold itB dgB Lib.itoa; rw [if_neg (by omega)]
theorem dgB_nm (u : Nat) : nmOk (dgB u) := by
  obtain ⟨h1, h2, h3, h4⟩ := dgB_ok u
  refine ⟨h1, fun c => ?_, h2⟩
  have := h4 c.1
  subst this
  rw [dgB_small (by omega)] at c
  exact absurd c.2 (by decide)
theorem rz_back {z : Int} (h : szC z = 0) : rzC (hdZ ++ itB z) = 0 ∧ rzV (hdZ ++ itB z) = z := by
  have hz : 0 ≤ z ∧ z ≤ 1048576 := by
    unfold szC at h
    split at h
    · assumption
    · cases h
  obtain ⟨_, _, h3, _⟩ := dgB_ok z.toNat
  have hn : nmOk (cpQ (hdZ ++ itB z) hdZ) := by rw [cpQ_app, itB_dg hz.1]; exact dgB_nm _
  have hv : nv (cpQ (hdZ ++ itB z) hdZ) (cpQ (hdZ ++ itB z) hdZ).size = z := by rw [cpQ_app, itB_dg hz.1, h3]; omega
  have hc := rzC_yes ⟨hpQ_app hdZ (itB z), hn⟩ (by rw [hv]; exact hz.2)
  exact ⟨hc, by unfold rzV; rw [if_pos hc, hv]⟩

/-- No end of line. -/
def NoNl (t : ByteArray) : Prop := ∀ k, k < t.size → bt t k ≠ 10
theorem NoNl.app {a b : ByteArray} (ha : NoNl a) (hb : NoNl b) : NoNl (a ++ b) := fun k hk => by
  rw [ByteArray.size_append] at hk
  rw [bt_append]
  split
  · exact ha k (by assumption)
  · exact hb _ (by omega)
theorem dgB_nl (u : Nat) : NoNl (dgB u) := fun k hk => by
  have := (dgB_ok u).2.1 k hk
  omega
theorem hd_nl : NoNl hdP ∧ NoNl hdH ∧ NoNl hdZ ∧ NoNl hdR ∧ NoNl hdF ∧ NoNl hdS ∧ NoNl blk1 := by
  refine ⟨?_, ?_, ?_, ?_, ?_, ?_, ?_⟩ <;> (unfold NoNl; decide +kernel)

end Go.Proofs.YtjhbfkckkinfjaaDoor
namespace Go.Proofs.YtjhbfkckkinfjaaDoor
open Go.RowKit Go.Shelf

theorem pr_parts {p : ByteArray} (h : prC p = 0) : shp p ∧ hshOk (pHash p) ∧ labOk (pLab p) := by
  unfold prC at h
  split at h
  · rename_i h1
    split at h
    · rename_i h2
      rcases lab_cases (pLab p) with ⟨h3, _⟩ | ⟨_, h3⟩
      · exact ⟨h1, h2, h3⟩
      · rw [h3] at h; cases h
    · cases h
  · cases h
theorem pr_dir {p : ByteArray} (h : prC p = 0) : p = dirR ++ p.extract 13 p.size := by
  have h1 := (pr_parts h).1.2.1
  have e : p.extract 0 13 = dirR := bytes_toList_inj (eq_of_beq h1)
  have c := ext_cat p 13
  rw [e] at c
  exact c.symm
theorem dirR_ch : ∀ k, k < dirR.size → bt dirR k ≠ 10 ∧ bt dirR k ≠ 32 := by decide +kernel
theorem pr_ch {p : ByteArray} (h : prC p = 0) (k : Nat) (hk : k < p.size) : bt p k ≠ 10 ∧ bt p k ≠ 32 := by
  obtain ⟨⟨s1, s2, s3⟩, ⟨h1, h2⟩, l1, l2, l3, l4⟩ := pr_parts h
  by_cases a : k < 13
  · have e := pr_dir h
    have hb : bt p k = bt dirR k := by
      conv => lhs; rw [e]
      rw [bt_append, if_pos (by rw [dirR_size]; exact a)]
    rw [hb]
    exact dirR_ch k (by rw [dirR_size]; exact a)
  by_cases b : k < 45
  · have hv := h2 (k - 13) (by omega)
    have hb : bt (pHash p) (k - 13) = bt p k := by
      unfold pHash
      rw [bt_extract p 13 45 (k - 13) (by omega) (by omega), show 13 + (k - 13) = k by omega]
    rw [hb] at hv
    constructor <;> (intro c; rw [c] at hv; exact absurd hv (by decide +kernel))
  by_cases d : k = 45
  · subst d
    rw [s3]
    decide
  · have hs : (pLab p).size = p.size - 46 := by unfold pLab; rw [ByteArray.size_extract]; omega
    have hv := l4 (k - 46) (by omega)
    have hb : bt (pLab p) (k - 46) = bt p k := by
      unfold pLab
      rw [bt_extract p 46 p.size (k - 46) (by omega) (Nat.le_refl _), show 46 + (k - 46) = k by omega]
    rw [hb] at hv
    constructor <;> (intro c; rw [c] at hv; exact absurd hv (by decide +kernel))
theorem pr_nl {p : ByteArray} (h : prC p = 0) : NoNl p := fun k hk => (pr_ch h k hk).1
/-- What stands behind the directory. -/
def baseB (p : ByteArray) : ByteArray := p.extract 13 p.size
theorem base_ch {p : ByteArray} (h : prC p = 0) (k : Nat) (hk : k < (baseB p).size) : bt (baseB p) k ≠ 10 ∧ bt (baseB p) k ≠ 32 := by
  unfold baseB at hk ⊢
  rw [ByteArray.size_extract] at hk
  rw [bt_extract p 13 p.size k (by omega) (Nat.le_refl _)]
  exact pr_ch h _ (by omega)

/-- Joined with one blank between two. -/
def joinBl : List ByteArray → ByteArray
  | [] => ⟨#[]⟩
  | [x] => x
  | x :: y :: r => x ++ (blk1 ++ joinBl (y :: r))
theorem catB_join : ∀ (x : ByteArray) (r : List ByteArray), catB (x :: r) = blk1 ++ joinBl (x :: r)
  | x, [] => by show blk1 ++ x ++ (⟨#[]⟩ : ByteArray) = blk1 ++ x; exact app_emp _
  | x, y :: r => by
    show blk1 ++ x ++ catB (y :: r) = blk1 ++ (x ++ (blk1 ++ joinBl (y :: r)))
    rw [catB_join y r, ByteArray.append_assoc]
theorem ext_bt (p : ByteArray) (f k : Nat) (h : f + k < p.size) : bt (p.extract f p.size) k = bt p (f + k) := bt_extract p f p.size k h (Nat.le_refl _)
/-- The pieces of texts that were joined are those texts. -/
theorem pcs_join (p : ByteArray) : ∀ (L : List ByteArray) (r f : Nat), f ≤ p.size → L ≠ [] → L.length ≤ r + 1 → (∀ x ∈ L, ∀ k, k < x.size → bt x k ≠ 32) → p.extract f p.size = joinBl L → Sq.pcs p r f = L
  | [], _, _, _, h, _, _, _ => absurd rfl h
  | [x], r, f, hf, _, _, hb, e => by
    have e' : p.extract f p.size = x := e
    have hs : x.size = p.size - f := by rw [← e', ByteArray.size_extract]; omega
    rw [Sq.pcs_last p r f (Sq.nx_is p f p.size hf (Nat.le_refl _) (fun j h1 h2 => by
      have := hb x (by simp) (j - f) (by omega)
      rw [← e', ext_bt p f (j - f) (by omega), show f + (j - f) = j by omega] at this
      exact this) (fun h => absurd h (by omega))), e']
  | x :: y :: r', r, f, hf, _, hl, hb, e => by
    have e' : p.extract f p.size = x ++ (blk1 ++ joinBl (y :: r')) := e
    have hs : p.size - f = x.size + (1 + (joinBl (y :: r')).size) := by
      have := congrArg ByteArray.size e'
      rw [ByteArray.size_extract, ByteArray.size_append, ByteArray.size_append] at this
      have h1 : blk1.size = 1 := rfl
      omega
    have bx : ∀ k, k < x.size → bt p (f + k) = bt x k := fun k hk => by
      rw [← ext_bt p f k (by omega), e', bt_append, if_pos hk]
    have bb : bt p (f + x.size) = 32 := by
      rw [← ext_bt p f x.size (by omega), e', bt_append, if_neg (by omega), Nat.sub_self, bt_append, if_pos (by decide)]
      decide +kernel
    have hnx : Sq.nx p f = f + x.size := Sq.nx_is p f _ (by omega) (by omega) (fun j h1 h2 => by
      have := hb x (by simp) (j - f) (by omega)
      rw [← bx (j - f) (by omega), show f + (j - f) = j by omega] at this
      exact this) (fun _ => bb)
    have ex : p.extract f (f + x.size) = x := by
      refine bytes_ext (by rw [ByteArray.size_extract]; omega) (fun k hk => ?_)
      rw [ByteArray.size_extract] at hk
      rw [bt_extract p f (f + x.size) k (by omega) (by omega), bx k (by omega)]
    have er : p.extract (f + x.size + 1) p.size = joinBl (y :: r') := by
      refine bytes_ext (by rw [ByteArray.size_extract]; omega) (fun k hk => ?_)
      rw [ByteArray.size_extract] at hk
      rw [ext_bt p _ k (by omega), show f + x.size + 1 + k = f + (x.size + 1 + k) by omega, ← ext_bt p f _ (by omega), e', bt_append, if_neg (by omega), bt_append, if_neg (by show ¬ _ < 1; omega), show x.size + 1 + k - x.size - blk1.size = k by show x.size + 1 + k - x.size - 1 = k; omega]
    obtain ⟨r, rfl⟩ : ∃ m, r = m + 1 := ⟨r - 1, by simp at hl; omega⟩
    rw [Sq.pcs_more p r f (by omega), hnx, ex, pcs_join p (y :: r') r (f + x.size + 1) (by omega) (by simp) (by simp at hl ⊢; omega) (fun z hz => hb z (by simp at hz ⊢; exact Or.inr hz)) er]

end Go.Proofs.YtjhbfkckkinfjaaDoor
namespace Go.Proofs.YtjhbfkckkinfjaaDoor
open Go.RowKit Go.Shelf

theorem crf_congr {f h : Nat → ByteArray} {n : Nat} (hh : ∀ j, j < n → f j = h j) : crf f n = crf h n := by
  unfold crf
  have hiff : refsOk f n ↔ refsOk h n := by
    constructor <;> intro H i hi
    · obtain ⟨a, b⟩ := H i hi
      rw [hh i hi] at a b
      exact ⟨a, fun h0 => by have := b h0; rw [hh (i - 1) (by omega)] at this; exact this⟩
    · obtain ⟨a, b⟩ := H i hi
      rw [hh i hi]
      exact ⟨a, fun h0 => by rw [hh (i - 1) (by omega)]; exact b h0⟩
  by_cases hk : refsOk h n
  · rw [if_pos hk, if_pos (hiff.2 hk)]
  · rw [if_neg hk, if_neg (fun c => hk (hiff.1 c))]
theorem crf_0 {f : Nat → ByteArray} {n : Nat} (h : crf f n = 0) : n ≤ 1024 ∧ refsOk f n := by
  unfold crf at h
  split at h
  · cases h
  · split at h
    · exact ⟨by omega, by assumption⟩
    · cases h
theorem bsS_list (f : Nat → ByteArray) (n : Nat) : bsS f n = catB ((List.range n).map (fun i => baseB (f i))) := by
  induction n with
  | zero => rfl
  | succ n ih =>
    rw [List.range_succ, List.map_append, List.map_cons, List.map_nil, catB_snoc, ← ih]
    rfl
theorem catB_nl {L : List ByteArray} (h : ∀ x ∈ L, NoNl x) : NoNl (catB L) := by
  induction L with
  | nil => intro k hk; exact absurd hk (by show ¬ k < 0; omega)
  | cons x r ih => exact (hd_nl.2.2.2.2.2.2.app (h x (by simp))).app (ih (fun y hy => h y (by simp [hy])))
theorem rr_back {f : Nat → ByteArray} {n : Nat} (h : crf f n = 0) : rrC (hdR ++ bsS f n) = 0 ∧ rrL (hdR ++ bsS f n) = (List.range n).map f ∧ NoNl (hdR ++ bsS f n) := by
  obtain ⟨hn, hok⟩ := crf_0 h
  have hnl : NoNl (hdR ++ bsS f n) := by
    refine hd_nl.2.2.2.1.app ?_
    rw [bsS_list]
    refine catB_nl (fun x hx => ?_)
    obtain ⟨i, hi, rfl⟩ := List.mem_map.1 hx
    exact fun k hk => (base_ch (hok i (List.mem_range.1 hi)).1 k hk).1
  refine (and_assoc.1 ⟨?_, hnl⟩)
  have hp := hpQ_app hdR (bsS f n)
  by_cases h0 : n = 0
  · subst h0
    have hz : (cpQ (hdR ++ bsS f 0) hdR).size = 0 := by rw [cpQ_app]; rfl
    exact ⟨by unfold rrC; rw [if_pos ⟨hp, hz⟩], by unfold rrL; rw [if_pos hz]; rfl⟩
  · obtain ⟨m, rfl⟩ : ∃ m, n = m + 1 := ⟨n - 1, by omega⟩
    have eL : (List.range (m + 1)).map (fun i => baseB (f i)) = baseB (f 0) :: (List.range m).map (fun i => baseB (f (i + 1))) := by
      rw [List.range_succ_eq_map, List.map_cons, List.map_map]; rfl
    have ej : bsS f (m + 1) = blk1 ++ joinBl ((List.range (m + 1)).map (fun i => baseB (f i))) := by rw [bsS_list, eL, catB_join]
    have hc : cpQ (hdR ++ bsS f (m + 1)) hdR = blk1 ++ joinBl ((List.range (m + 1)).map (fun i => baseB (f i))) := by rw [cpQ_app, ej]
    have hz : (cpQ (hdR ++ bsS f (m + 1)) hdR).size ≠ 0 := by rw [hc, ByteArray.size_append]; show 1 + _ ≠ 0; omega
    have hq : hpQ (cpQ (hdR ++ bsS f (m + 1)) hdR) blk1 = true := by rw [hc]; exact hpQ_app _ _
    have ht : rrT (hdR ++ bsS f (m + 1)) = joinBl ((List.range (m + 1)).map (fun i => baseB (f i))) := by unfold rrT; rw [hc]; exact cpQ_app _ _
    have hpc : Sq.pcs (rrT (hdR ++ bsS f (m + 1))) 1024 0 = (List.range (m + 1)).map (fun i => baseB (f i)) := by
      refine pcs_join _ _ 1024 0 (Nat.zero_le _) (by rw [eL]; simp) (by simp; omega) (fun x hx => ?_) (by rw [ByteArray.extract_zero_size]; exact ht)
      obtain ⟨i, hi, rfl⟩ := List.mem_map.1 hx
      exact fun k hk => (base_ch (hok i (List.mem_range.1 hi)).1 k hk).2
    have hN : rrN (hdR ++ bsS f (m + 1)) = m + 1 := by unfold rrN; rw [hpc]; simp
    have hF : ∀ j, j < m + 1 → rrF (hdR ++ bsS f (m + 1)) j = f j := fun j hj => by
      unfold rrF
      rw [hpc]
      have : Sq.nth ((List.range (m + 1)).map (fun i => baseB (f i))) j = baseB (f j) := by unfold Sq.nth; simp [List.getD, hj]
      rw [this]
      exact (pr_dir (hok j hj).1).symm
    refine ⟨?_, ?_⟩
    · unfold rrC
      rw [if_neg (fun c => hz c.2), if_pos ⟨hp, hq⟩, hN, crf_congr hF]
      exact h
    · unfold rrL
      rw [if_neg hz, hpc, List.map_map]
      refine List.map_congr_left (fun i hi => ?_)
      exact (pr_dir (hok i (List.mem_range.1 hi)).1).symm

theorem vl_nl : vl 10 < 0 := by decide +kernel
theorem b32_nl (b : ByteArray) : NoNl (b32Str b) := fun k hk => by
  rw [b32Str_size] at hk
  intro c
  have h := vl_b32 b k hk
  rw [c] at h
  have := vl_nl
  omega
theorem fb_nl {t : ByteArray} (h : fbErr t = 0) : NoNl t := by
  unfold fbErr at h
  split at h
  · split at h
    · rename_i g
      intro k hk c
      have h1 := (fbOk_iff t t.size).1 g k hk
      rw [c] at h1
      have := vl_nl
      omega
    · cases h
  · cases h
theorem sn_nl {s : ByteArray} (h : snC s = 0) : NoNl s := by
  have hok : snOk s := by
    unfold snC at h
    split at h
    · assumption
    · cases h
  obtain ⟨h1, ⟨_, _, h2⟩, h3⟩ := hok
  intro k hk c
  by_cases a : k < fst s 58
  · have hs : (snA s).size = fst s 58 := by unfold snA; rw [ByteArray.size_extract]; omega
    have hb := h2 k (by omega)
    have e : bt (snA s) k = bt s k := by
      unfold snA
      rw [bt_extract s 0 _ k (by omega) (by omega), Nat.zero_add]
    rw [e, c] at hb
    exact absurd hb (by decide)
  by_cases b : k = fst s 58
  · have := fst_at h1
    rw [← b, c] at this
    exact absurd this (by decide)
  · have hn := fb_nl h3.2 (k - (fst s 58 + 1)) (by unfold snB; rw [ByteArray.size_extract]; omega)
    unfold snB at hn
    rw [bt_extract s _ s.size _ (by omega) (Nat.le_refl _), show fst s 58 + 1 + (k - (fst s 58 + 1)) = k by omega] at hn
    exact hn c

end Go.Proofs.YtjhbfkckkinfjaaDoor
namespace Go.Proofs.YtjhbfkckkinfjaaDoor
open Go.RowKit Go.Shelf

theorem line_size (l r : ByteArray) : (l ++ nl ++ r).size = l.size + 1 + r.size := by rw [ByteArray.size_append, ByteArray.size_append]; rfl
theorem pz_line {k n : Nat} {s : IS} {l r : ByteArray} (hl : NoNl l) (hc : tkC s n l = 0) : pz (k + 1) (l ++ nl ++ r) n s = pz k r (n + 1) (tkS s n l) := by
  obtain ⟨a, b, c⟩ := ct_line l r hl
  have hd : ¬ (4 ≤ n ∧ (l ++ nl ++ r).size = 0) := fun h => by have := line_size l r; omega
  have := pz_next (k := k) (s := s) hd c (by rw [a]; exact hc)
  rw [a, b] at this
  exact this
/-- The lines of signatures. -/
def sgT : List ByteArray → ByteArray
  | [] => ⟨#[]⟩
  | x :: r => hdS ++ x ++ nl ++ sgT r
theorem sgT_snoc (L : List ByteArray) (x : ByteArray) : sgT (L ++ [x]) = sgT L ++ hdS ++ x ++ nl := by
  induction L with
  | nil => show hdS ++ x ++ nl ++ (⟨#[]⟩ : ByteArray) = (⟨#[]⟩ : ByteArray) ++ hdS ++ x ++ nl; rw [app_emp]; rw [show (⟨#[]⟩ : ByteArray) = emp from rfl, emp_app]
  | cons a r ih => show hdS ++ a ++ nl ++ sgT (r ++ [x]) = hdS ++ a ++ nl ++ sgT r ++ hdS ++ x ++ nl; rw [ih]; simp [ByteArray.append_assoc]
theorem ptS_list (T : ByteArray) (f : Nat → ByteArray) (n : Nat) : ptS T f n = T ++ sgT ((List.range n).map f) := by
  induction n with
  | zero => show T = T ++ (⟨#[]⟩ : ByteArray); exact (app_emp T).symm
  | succ n ih =>
    rw [List.range_succ, List.map_append, List.map_cons, List.map_nil, sgT_snoc]
    show ptS T f n ++ hdS ++ f n ++ nl = _
    rw [ih]
    simp [ByteArray.append_assoc]
theorem hpQ_SF (x : ByteArray) : hpQ (hdS ++ x) hdF = false := by
  unfold hpQ
  rw [show hdF.size = hdS.size from rfl, app_left, show (hdS.toList == hdF.toList) = false from by decide +kernel, Bool.and_false]
theorem pz_signs : ∀ (L : List ByteArray) (k n : Nat) (s : IS), (sgT L).size < k → 4 ≤ n → ssOk (Sq.nth (s.S ++ L)) (s.S ++ L).length → pz k (sgT L) n s = ({ s with S := s.S ++ L }, 0, 0)
  | [], k, n, s, hk, hn, _ => by
    obtain ⟨k, rfl⟩ : ∃ m, k = m + 1 := ⟨k - 1, by omega⟩
    rw [pz_done ⟨hn, rfl⟩, List.append_nil]
  | x :: r, k, n, s, hk, hn, hok => by
    obtain ⟨k, rfl⟩ : ∃ m, k = m + 1 := ⟨k - 1, by omega⟩
    have hlen : (s.S ++ x :: r).length = s.S.length + (r.length + 1) := by rw [List.length_append, List.length_cons]
    have h1 := hok s.S.length (by omega)
    have ex : Sq.nth (s.S ++ x :: r) s.S.length = x := by unfold Sq.nth; simp [List.getD]
    have el : ∀ j, j < s.S.length → Sq.nth (s.S ++ x :: r) j = Sq.nth s.S j := fun j hj => by unfold Sq.nth; simp [List.getD, List.getElem?_append_left hj]
    rw [ex] at h1
    have hnx : nxC (Sq.nth s.S) s.S.length x = 0 := nxC_yes h1.1 (fun h0 => by have := h1.2 h0; rw [el _ (by omega)] at this; exact this)
    obtain ⟨b1, b2⟩ := rs_back hnx
    have h4 : ¬ (n = 4 ∧ hpQ (hdS ++ x) hdF = true) := fun c => by rw [hpQ_SF] at c; exact absurd c.2 (by decide)
    have ec : tkC s n (hdS ++ x) = 0 := by unfold tkC; rw [if_neg (by omega), if_neg (by omega), if_neg (by omega), if_neg (by omega), if_neg h4]; exact b1
    have es : tkS s n (hdS ++ x) = { s with S := s.S ++ [x] } := by unfold tkS; rw [if_neg (by omega), if_neg (by omega), if_neg (by omega), if_neg (by omega), if_neg h4, b2]
    have hsz : (sgT (x :: r)).size = (hdS ++ x).size + 1 + (sgT r).size := line_size (hdS ++ x) (sgT r)
    show pz (k + 1) (hdS ++ x ++ nl ++ sgT r) n s = _
    rw [pz_line (hd_nl.2.2.2.2.2.1.app (sn_nl h1.1)) ec, es]
    have := pz_signs r k (n + 1) { s with S := s.S ++ [x] } (by omega) (by omega) (by
      show ssOk (Sq.nth (s.S ++ [x] ++ r)) (s.S ++ [x] ++ r).length
      rw [List.append_assoc]; exact hok)
    rw [this]
    show ({ s with S := s.S ++ [x] ++ r }, _, _) = _
    rw [List.append_assoc]
    rfl

end Go.Proofs.YtjhbfkckkinfjaaDoor
namespace Go.Proofs.YtjhbfkckkinfjaaDoor
open Go.RowKit Go.Shelf

theorem pz_len (k : Nat) : ∀ (t : ByteArray) (n : Nat) (s : IS), t.size < k → (pz k t n s).1.S.length ≤ s.S.length + t.size := by
  induction k with
  | zero => intro t n s h; omega
  | succ k ih =>
    intro t n s hk
    by_cases hd : 4 ≤ n ∧ t.size = 0
    · rw [pz_done hd]; exact Nat.le_add_right _ _
    · cases hf : ctF t 10
      · rw [pz_open hd hf]; exact Nat.zero_le _
      · have hsz := ctB_lt hf
        by_cases hq : tkC s n (ctA t 10) = 0
        · rw [pz_next hd hf hq]
          have := ih (ctB t 10) (n + 1) (tkS s n (ctA t 10)) (by omega)
          have := tkS_len s n (ctA t 10)
          omega
        · rw [pz_bad hd hf hq]; exact Nat.zero_le _
theorem pz_err (k : Nat) : ∀ (t : ByteArray) (n : Nat) (s : IS), (pz k t n s).2.1 ≠ 0 → (pz k t n s).1 = IS.zero := by
  induction k with
  | zero => intro t n s h; exact absurd rfl h
  | succ k ih =>
    intro t n s h
    by_cases hd : 4 ≤ n ∧ t.size = 0
    · rw [pz_done hd] at h; exact absurd rfl h
    · cases hf : ctF t 10
      · rw [pz_open hd hf]
      · by_cases hq : tkC s n (ctA t 10) = 0
        · rw [pz_next hd hf hq] at h ⊢; exact ih _ _ _ h
        · rw [pz_bad hd hf hq]
theorem orC_0 {a b : Int} (h : orC a b = 0) : a = 0 ∧ b = 0 := by
  by_cases ha : a = 0
  · rw [orC_z ha] at h; exact ⟨ha, h⟩
  · rw [orC_n ha] at h; exact absurd h ha
theorem signs_small {P : ByteArray} {z : Int} {fr : Nat → ByteArray} {nr : Nat} {F : ByteArray} {fs : Nat → ByteArray} {ns : Nat} (h : ckC P z fr nr F fs ns = 0) (i : Nat) (hi : i < ns) : (fs i).size ≤ 85 := by
  have h2 := (orC_0 h).2
  unfold ssC at h2
  split at h2
  · rename_i g
    have h3 := (g i hi).1
    unfold snC at h3
    split at h3
    · rename_i g3; exact snOk_max g3
    · cases h3
  · cases h2
theorem sm_zero (fr fs fr' fs' : Nat → ByteArray) : smB ⟨#[]⟩ (fun _ => 0) 0 fr 0 ⟨#[]⟩ fs 0 ⟨#[]⟩ (fun _ => 0) 0 fr' 0 ⟨#[]⟩ fs' 0 = true := by
  unfold smB
  rw [eqT_all (fun i hi => absurd hi (by omega)), eqT_all (fun i hi => absurd hi (by omega))]
  decide +kernel
theorem wpList_load_infG {ops : Array Oper} {rest : List Oper} {o : Oper} {a : Act} {w : World} {Q : Exit → Act → World → Prop} {g : Nat} {P : ByteArray} {D : Nat → Int} {z : Int} {vr : Value} {F : ByteArray} {vs : Value} (hgd : Region.wanted o (yielded ops a.tmps) = true) (x : Operand) (ho : o.op = .load 26 x)
    (hx : a.eval x = .pointer (some ⟨g, 0, none⟩)) (h : Inf w g P D z vr F vs) (hK : wpList Tryd.prog ops Q rest (a.put o.dst (.agg (infC P D z vr F vs))) w) : wpList Tryd.prog ops Q (o :: rest) a w :=
  wpList_load_midG hgd 26 x ho g 0 hx (infL P D z vr F vs) _ h.range Tryd.underlying26 rfl (by rw [szINF]; exact congrArg some (infC_size P D z vr F vs).symm) hK

theorem wpList_load_rg {ops : Array Oper} {rest : List Oper} {o : Oper} {a : Act} {w : World} {Q : Exit → Act → World → Prop} {g : Nat} {P : ByteArray} {D : Nat → Int} {z : Int} {vr : Value} {F : ByteArray} {vs : Value} (hgd : Region.wanted o (yielded ops a.tmps) = true) (x : Operand) (ho : o.op = .load 26 x)
    (hx : a.eval x = .pointer (some ⟨g, 0, none⟩)) (h : w.rangeAt g 0 (infL P D z vr F vs)) (hK : wpList Tryd.prog ops Q rest (a.put o.dst (.agg (infC P D z vr F vs))) w) : wpList Tryd.prog ops Q (o :: rest) a w :=
  wpList_load_midG hgd 26 x ho g 0 hx (infL P D z vr F vs) _ h Tryd.underlying26 rfl (by rw [szINF]; exact congrArg some (infC_size P D z vr F vs).symm) hK
theorem range_same {w w' : World} {g : Nat} {L : List Value} (h : w.rangeAt g 0 L) (e : w'.heap[g]? = w.heap[g]?) : w'.rangeAt g 0 L := fun j u hj =>
  (World.cell?_of_block (w := w) (w' := w') (a := ⟨g, 0 + j, none⟩) e).trans (h j u hj)

end Go.Proofs.YtjhbfkckkinfjaaDoor
namespace Go.Proofs.YtjhbfkckkinfjaaDoor
open Go.RowKit Go.Shelf

theorem rh_back0 (D : Nat → Int) : rhC (hdH ++ b32Str (strFn 32 D)) = 0 := by
  obtain ⟨b1, b2⟩ := b32_back (strFn 32 D)
  exact rhC_yes (hpQ_app hdH (b32Str (strFn 32 D))) (by rw [cpQ_app]; exact ⟨b32_len D, b2⟩)
/-- The info that is read of a printed one. -/
def backS (P : ByteArray) (D : Nat → Int) (z : Int) (fr : Nat → ByteArray) (nr : Nat) (F : ByteArray) (fs : Nat → ByteArray) (ns : Nat) : IS := ⟨P, rhD (hdH ++ b32Str (strFn 32 D)), z, (List.range nr).map fr, F, (List.range ns).map fs⟩
theorem nth_range (f : Nat → ByteArray) (n j : Nat) (h : j < n) : Sq.nth ((List.range n).map f) j = f j := by unfold Sq.nth; simp [List.getD, h]
theorem ssOk_range {f : Nat → ByteArray} {n : Nat} (h : ssOk f n) : ssOk (Sq.nth ((List.range n).map f)) ((List.range n).map f).length := by
  rw [List.length_map, List.length_range]
  intro i hi
  obtain ⟨a, b⟩ := h i hi
  rw [nth_range f n i hi]
  exact ⟨a, fun h0 => by rw [nth_range f n (i - 1) (by omega)]; exact b h0⟩
theorem itB_nl {z : Int} (h : 0 ≤ z) : NoNl (itB z) := by rw [itB_dg h]; exact dgB_nl _
/-- What stands behind the first four lines. -/
def tailT (F : ByteArray) (L : List ByteArray) : ByteArray := if F.size = 0 then sgT L else hdF ++ F ++ nl ++ sgT L
theorem prT_lines (P : ByteArray) (D : Nat → Int) (z : Int) (fr : Nat → ByteArray) (nr : Nat) (F : ByteArray) (fs : Nat → ByteArray) (ns : Nat) :
    prT P D z fr nr F fs ns = (hdP ++ P) ++ nl ++ ((hdH ++ b32Str (strFn 32 D)) ++ nl ++ ((hdZ ++ itB z) ++ nl ++ ((hdR ++ bsS fr nr) ++ nl ++ tailT F ((List.range ns).map fs)))) := by
  unfold prT tailT
  rw [ptS_list]
  by_cases h : F.size = 0
  · rw [ptF_z h, if_pos h]
    unfold pt4 pt3 pt2 pt1
    rw [emp_app]
    simp [ByteArray.append_assoc]
  · rw [ptF_n h, if_neg h]
    unfold pt4 pt3 pt2 pt1
    rw [emp_app]
    simp [ByteArray.append_assoc]
theorem tail_back {P : ByteArray} {D : Nat → Int} {z : Int} {R : List ByteArray} {F : ByteArray} {L : List ByteArray} (k : Nat) (hk : (tailT F L).size < k) (hF : frC F = 0) (hL : ssOk (Sq.nth L) L.length) :
    pz k (tailT F L) 4 ⟨P, D, z, R, ⟨#[]⟩, []⟩ = (⟨P, D, z, R, F, L⟩, 0, 0) := by
  unfold tailT at hk ⊢
  by_cases h : F.size = 0
  · rw [if_pos h] at hk ⊢
    rw [pz_signs L k 4 _ hk (Nat.le_refl _) (by simpa using hL), empty_of_size h]
    rfl
  · rw [if_neg h] at hk ⊢
    rw [frC_n h] at hF
    obtain ⟨k, rfl⟩ : ∃ m, k = m + 1 := ⟨k - 1, by omega⟩
    obtain ⟨b1, b2⟩ := rp_back (h := hdF) hF
    have hp := hpQ_app hdF F
    have ec : tkC ⟨P, D, z, R, ⟨#[]⟩, []⟩ 4 (hdF ++ F) = 0 := by unfold tkC; simp [hp]; exact b1
    have es : tkS ⟨P, D, z, R, ⟨#[]⟩, []⟩ 4 (hdF ++ F) = ⟨P, D, z, R, F, []⟩ := by unfold tkS; simp [hp, b2]
    have hsz := line_size (hdF ++ F) (sgT L)
    rw [pz_line (hd_nl.2.2.2.2.1.app (pr_nl hF)) ec, es]
    rw [pz_signs L k 5 _ (by omega) (by omega) (by simpa using hL)]
    rfl
theorem back_form (P : ByteArray) (D : Nat → Int) (z : Int) (fr : Nat → ByteArray) (nr : Nat) (F : ByteArray) (fs : Nat → ByteArray) (ns : Nat) (h : ckC P z fr nr F fs ns = 0) :
    PZ (prT P D z fr nr F fs ns) = (backS P D z fr nr F fs ns, 0, 0) := by
  obtain ⟨u, hs⟩ := orC_0 h
  obtain ⟨hP, u⟩ := orC_0 u
  obtain ⟨hz, u⟩ := orC_0 u
  obtain ⟨hr, hF⟩ := orC_0 u
  have hs' : ssOk fs ns := by
    unfold ssC at hs
    split at hs
    · assumption
    · cases hs
  have hz0 : 0 ≤ z := by
    unfold szC at hz
    split at hz
    · rename_i g; exact g.1
    · cases hz
  obtain ⟨p1, p2⟩ := rp_back (h := hdP) hP
  have d1 := rh_back0 D
  obtain ⟨z1, z2⟩ := rz_back hz
  obtain ⟨r1, r2, r3⟩ := rr_back hr
  unfold PZ
  rw [prT_lines]
  have n0 := line_size (hdP ++ P) ((hdH ++ b32Str (strFn 32 D)) ++ nl ++ ((hdZ ++ itB z) ++ nl ++ ((hdR ++ bsS fr nr) ++ nl ++ tailT F ((List.range ns).map fs))))
  have n1 := line_size (hdH ++ b32Str (strFn 32 D)) ((hdZ ++ itB z) ++ nl ++ ((hdR ++ bsS fr nr) ++ nl ++ tailT F ((List.range ns).map fs)))
  have n2 := line_size (hdZ ++ itB z) ((hdR ++ bsS fr nr) ++ nl ++ tailT F ((List.range ns).map fs))
  have n3 := line_size (hdR ++ bsS fr nr) (tailT F ((List.range ns).map fs))
  obtain ⟨m, hm, hlt⟩ : ∃ m, ((hdP ++ P) ++ nl ++ ((hdH ++ b32Str (strFn 32 D)) ++ nl ++ ((hdZ ++ itB z) ++ nl ++ ((hdR ++ bsS fr nr) ++ nl ++ tailT F ((List.range ns).map fs))))).size + 1 = m + 1 + 1 + 1 + 1 ∧ (tailT F ((List.range ns).map fs)).size < m := ⟨(hdP ++ P).size + (hdH ++ b32Str (strFn 32 D)).size + (hdZ ++ itB z).size + (hdR ++ bsS fr nr).size + (tailT F ((List.range ns).map fs)).size + 1, by rw [n0, n1, n2, n3]; omega, by omega⟩
  rw [hm]
  have t0 : tkS IS.zero 0 (hdP ++ P) = ⟨P, fun _ => 0, 0, [], ⟨#[]⟩, []⟩ := by show IS.mk (rpS (hdP ++ P) hdP) _ _ _ _ _ = _; rw [p2]; rfl
  rw [pz_line (hd_nl.1.app (pr_nl hP)) (by exact p1), t0]
  rw [pz_line (hd_nl.2.1.app (b32_nl _)) (by exact d1)]
  have t1 : tkS ⟨P, fun _ => 0, 0, [], ⟨#[]⟩, []⟩ (0 + 1) (hdH ++ b32Str (strFn 32 D)) = ⟨P, rhD (hdH ++ b32Str (strFn 32 D)), 0, [], ⟨#[]⟩, []⟩ := rfl
  rw [t1, pz_line (hd_nl.2.2.1.app (itB_nl hz0)) (by exact z1)]
  have t2 : tkS ⟨P, rhD (hdH ++ b32Str (strFn 32 D)), 0, [], ⟨#[]⟩, []⟩ (0 + 1 + 1) (hdZ ++ itB z) = ⟨P, rhD (hdH ++ b32Str (strFn 32 D)), z, [], ⟨#[]⟩, []⟩ := by show IS.mk _ _ (rzV (hdZ ++ itB z)) _ _ _ = _; rw [z2]
  rw [t2, pz_line r3 (by exact r1)]
  have t3 : tkS ⟨P, rhD (hdH ++ b32Str (strFn 32 D)), z, [], ⟨#[]⟩, []⟩ (0 + 1 + 1 + 1) (hdR ++ bsS fr nr) = ⟨P, rhD (hdH ++ b32Str (strFn 32 D)), z, (List.range nr).map fr, ⟨#[]⟩, []⟩ := by show IS.mk _ _ _ (rrL (hdR ++ bsS fr nr)) _ _ = _; rw [r2]
  rw [t3]
  exact tail_back m hlt hF (ssOk_range hs')

end Go.Proofs.YtjhbfkckkinfjaaDoor
