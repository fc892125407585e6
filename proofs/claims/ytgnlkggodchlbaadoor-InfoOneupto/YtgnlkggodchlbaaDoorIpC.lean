/- What Parse reads, Print prints: plain. -/
import Derived.Test.YtgnlkggodchlbaaDoorIpB
namespace Go.Proofs.YtgnlkggodchlbaaDoor
open Go.RowKit Go.Shelf

theorem emp_app (a : ByteArray) : emp ++ a = a := by apply ByteArray.ext; simp [emp]
theorem app_emp (a : ByteArray) : a ++ (⟨#[]⟩ : ByteArray) = a := by apply ByteArray.ext; simp
/-- The text of the first n lines. -/
def outT (n : Nat) (s : IS) : ByteArray := if n = 0 then emp else if n = 1 then pt1 s.P else if n = 2 then pt2 s.P s.D else if n = 3 then pt3 s.P s.D s.z else prT s.P s.D s.z (Sq.nth s.R) s.R.length s.F (Sq.nth s.S) s.S.length
structure JJ (n : Nat) (s : IS) : Prop where
  hp : 1 ≤ n → prC s.P = 0
  hz : 3 ≤ n → szC s.z = 0
  hr : 4 ≤ n → crf (Sq.nth s.R) s.R.length = 0
  hf : frC s.F = 0
  hs : ssOk (Sq.nth s.S) s.S.length
  he : n ≤ 4 → s.S = [] ∧ s.F.size = 0
theorem JJ.zero : JJ 0 IS.zero := ⟨fun h => absurd h (by omega), fun h => absurd h (by omega), fun h => absurd h (by omega), by decide +kernel, fun i hi => absurd hi (by simp [IS.zero]), fun _ => ⟨rfl, rfl⟩⟩
theorem ptS_congr {t : ByteArray} {f h : Nat → ByteArray} {n : Nat} (e : ∀ j, j < n → f j = h j) : ptS t f n = ptS t h n := by
  induction n with
  | zero => rfl
  | succ n ih => show ptS t f n ++ hdS ++ f n ++ nl = ptS t h n ++ hdS ++ h n ++ nl; rw [ih (fun j hj => e j (by omega)), e n (by omega)]
theorem nth_left (L : List ByteArray) (x : ByteArray) (j : Nat) (h : j < L.length) : Sq.nth (L ++ [x]) j = Sq.nth L j := by rw [Sq.nth_snoc, if_neg (by omega)]
theorem nth_last (L : List ByteArray) (x : ByteArray) : Sq.nth (L ++ [x]) L.length = x := by rw [Sq.nth_snoc, if_pos rfl]

theorem step_line {n : Nat} {s : IS} {l : ByteArray} (J : JJ n s) (g : tkC s n l = 0) : JJ (n + 1) (tkS s n l) ∧ outT (n + 1) (tkS s n l) = outT n s ++ l ++ nl := by
  by_cases h0 : n = 0
  · subst h0
    have g' : rpC l hdP = 0 := g
    obtain ⟨h1, h2⟩ := rp_line g'
    refine ⟨⟨fun _ => h2, fun h => absurd h (by omega), fun h => absurd h (by omega), J.hf, J.hs, fun _ => J.he (by omega)⟩, ?_⟩
    show emp ++ hdP ++ rpS l hdP ++ nl = emp ++ l ++ nl
    conv => rhs; rw [h1]
    simp [ByteArray.append_assoc]
  by_cases h1 : n = 1
  · subst h1
    have g' : rhC l = 0 := g
    have e1 := rh_line g'
    refine ⟨⟨fun _ => J.hp (by omega), fun h => absurd h (by omega), fun h => absurd h (by omega), J.hf, J.hs, fun _ => J.he (by omega)⟩, ?_⟩
    show pt1 s.P ++ hdH ++ b32Str (strFn 32 (rhD l)) ++ nl = pt1 s.P ++ l ++ nl
    conv => rhs; rw [e1]
    simp [ByteArray.append_assoc]
  by_cases h2 : n = 2
  · subst h2
    have g' : rzC l = 0 := g
    obtain ⟨e1, e2⟩ := rz_line g'
    refine ⟨⟨fun _ => J.hp (by omega), fun _ => e2, fun h => absurd h (by omega), J.hf, J.hs, fun _ => J.he (by omega)⟩, ?_⟩
    show pt2 s.P s.D ++ hdZ ++ itB (rzV l) ++ nl = pt2 s.P s.D ++ l ++ nl
    conv => rhs; rw [e1]
    simp [ByteArray.append_assoc]
  by_cases h3 : n = 3
  · subst h3
    have g' : rrC l = 0 := g
    obtain ⟨e1, e2⟩ := rr_line g'
    obtain ⟨q1, q2⟩ := J.he (by omega)
    refine ⟨⟨fun _ => J.hp (by omega), fun _ => J.hz (by omega), fun _ => e2, J.hf, J.hs, fun _ => J.he (by omega)⟩, ?_⟩
    show ptS (ptF (pt3 s.P s.D s.z ++ hdR ++ bsS (Sq.nth (rrL l)) (rrL l).length ++ nl) s.F) (Sq.nth s.S) s.S.length = pt3 s.P s.D s.z ++ l ++ nl
    rw [ptF_z q2, q1]
    show pt3 s.P s.D s.z ++ hdR ++ bsS (Sq.nth (rrL l)) (rrL l).length ++ nl = pt3 s.P s.D s.z ++ l ++ nl
    conv => rhs; rw [e1]
    simp [ByteArray.append_assoc]
  have ho : outT n s = prT s.P s.D s.z (Sq.nth s.R) s.R.length s.F (Sq.nth s.S) s.S.length := by unfold outT; rw [if_neg h0, if_neg h1, if_neg h2, if_neg h3]
  have ho' : ∀ s, outT (n + 1) s = prT s.P s.D s.z (Sq.nth s.R) s.R.length s.F (Sq.nth s.S) s.S.length := fun s => by unfold outT; rw [if_neg (by omega), if_neg (by omega), if_neg (by omega), if_neg (by omega)]
  rw [ho, ho']
  by_cases h4 : n = 4 ∧ hpQ l hdF = true
  · have ec : tkC s n l = rpC l hdF := by unfold tkC; rw [if_neg h0, if_neg h1, if_neg h2, if_neg h3, if_pos h4]
    have es : tkS s n l = { s with F := rpS l hdF } := by unfold tkS; rw [if_neg h0, if_neg h1, if_neg h2, if_neg h3, if_pos h4]
    rw [ec] at g
    rw [es]
    obtain ⟨q1, q2⟩ := J.he (by omega)
    obtain ⟨e1, e2⟩ := rp_line g
    have hz : (rpS l hdF).size ≠ 0 := by
      intro c
      rw [empty_of_size c] at e2
      exact absurd e2 (by decide +kernel)
    refine ⟨⟨fun _ => J.hp (by omega), fun _ => J.hz (by omega), fun _ => J.hr (by omega), ?_, J.hs, fun h => absurd h (by omega)⟩, ?_⟩
    · show frC (rpS l hdF) = 0
      unfold frC
      rw [if_neg hz]
      exact e2
    · show ptS (ptF (pt4 s.P s.D s.z (Sq.nth s.R) s.R.length) (rpS l hdF)) (Sq.nth s.S) s.S.length = ptS (ptF (pt4 s.P s.D s.z (Sq.nth s.R) s.R.length) s.F) (Sq.nth s.S) s.S.length ++ l ++ nl
      rw [q1, ptF_n hz, ptF_z q2]
      show pt4 s.P s.D s.z (Sq.nth s.R) s.R.length ++ hdF ++ rpS l hdF ++ nl = pt4 s.P s.D s.z (Sq.nth s.R) s.R.length ++ l ++ nl
      conv => rhs; rw [e1]
      simp [ByteArray.append_assoc]
  · have ec : tkC s n l = rsC s.S l := by unfold tkC; rw [if_neg h0, if_neg h1, if_neg h2, if_neg h3, if_neg h4]
    have es : tkS s n l = { s with S := s.S ++ [rsS l] } := by unfold tkS; rw [if_neg h0, if_neg h1, if_neg h2, if_neg h3, if_neg h4]
    rw [ec] at g
    rw [es]
    obtain ⟨e1, e2⟩ := rs_line g
    have e3 : snC (rsS l) = 0 ∧ (0 < s.S.length → Op.bytesLess (Sq.nth s.S (s.S.length - 1)).toList (rsS l).toList = true) := by
      unfold nxC at e2
      split at e2
      · assumption
      · cases e2
    refine ⟨⟨fun _ => J.hp (by omega), fun _ => J.hz (by omega), fun _ => J.hr (by omega), J.hf, ?_, fun h => absurd h (by omega)⟩, ?_⟩
    · show ssOk (Sq.nth (s.S ++ [rsS l])) (s.S ++ [rsS l]).length
      rw [List.length_append]
      refine ssOk_succ (k := s.S.length) ?_ (by rw [nth_last]; exact e3.1) (fun h => by rw [nth_last, nth_left _ _ _ (by omega)]; exact e3.2 h)
      intro i hi
      have := J.hs i hi
      rw [nth_left _ _ _ hi]
      refine ⟨this.1, fun h0 => ?_⟩
      rw [nth_left _ _ _ (by omega)]
      exact this.2 h0
    · show ptS (ptF (pt4 s.P s.D s.z (Sq.nth s.R) s.R.length) s.F) (Sq.nth (s.S ++ [rsS l])) (s.S ++ [rsS l]).length = ptS (ptF (pt4 s.P s.D s.z (Sq.nth s.R) s.R.length) s.F) (Sq.nth s.S) s.S.length ++ l ++ nl
      generalize ptF (pt4 s.P s.D s.z (Sq.nth s.R) s.R.length) s.F = T
      rw [List.length_append]
      show ptS T (Sq.nth (s.S ++ [rsS l])) s.S.length ++ hdS ++ Sq.nth (s.S ++ [rsS l]) s.S.length ++ nl = _
      rw [nth_last, ptS_congr (h := Sq.nth s.S) (fun j hj => nth_left _ _ _ hj)]
      conv => rhs; rw [e1]
      simp [ByteArray.append_assoc]

theorem ct_split {t : ByteArray} (h : ctF t 10 = true) : t = ctA t 10 ++ nl ++ ctB t 10 := by
  have h1 : fst t 10 < t.size := of_decide_eq_true h
  have hb : bt t (fst t 10) = 10 := fst_at h1
  have e : nl = t.extract (fst t 10) (fst t 10 + 1) := by
    refine bytes_ext ?_ (fun k hk => ?_)
    · rw [ByteArray.size_extract]; show 1 = _; omega
    · have hk0 : k = 0 := by have : k < 1 := hk; omega
      subst hk0
      rw [bt_extract t _ _ 0 (by omega) (by omega), Nat.add_zero, hb]
      decide +kernel
  unfold ctA ctB
  rw [if_pos h1, if_pos h1, e, ByteArray.extract_append_extract, Nat.min_eq_left (by omega), Nat.max_eq_right (by omega), ByteArray.extract_append_extract, Nat.min_eq_left (by omega), Nat.max_eq_right (by omega), ByteArray.extract_zero_size]
theorem pz_one (k : Nat) : ∀ (t : ByteArray) (n : Nat) (s : IS), t.size < k → JJ n s → (pz k t n s).2.1 = 0 → ∃ m, 4 ≤ m ∧ JJ m (pz k t n s).1 ∧ outT m (pz k t n s).1 = outT n s ++ t := by
  induction k with
  | zero => intro t n s h; omega
  | succ k ih =>
    intro t n s hk J hc
    by_cases hd : 4 ≤ n ∧ t.size = 0
    · rw [pz_done hd]
      exact ⟨n, hd.1, J, by rw [empty_of_size hd.2]; exact (app_emp _).symm⟩
    · cases hf : ctF t 10
      · rw [pz_open hd hf] at hc; exact absurd hc (show ¬ (150 : Int) = 0 by decide)
      · by_cases hq : tkC s n (ctA t 10) = 0
        · obtain ⟨J2, o2⟩ := step_line J hq
          have hsz := ctB_lt hf
          rw [pz_next hd hf hq] at hc ⊢
          obtain ⟨m, h1, h2, h3⟩ := ih _ _ _ (by omega) J2 hc
          refine ⟨m, h1, h2, ?_⟩
          rw [h3, o2]
          conv => rhs; rw [ct_split hf]
          simp [ByteArray.append_assoc]
        · rw [pz_bad hd hf hq] at hc; exact absurd hc hq
/-- Whatever is read is printed again as it was. -/
theorem one_form (t : ByteArray) (h : (PZ t).2.1 = 0) : ckC (PZ t).1.P (PZ t).1.z (Sq.nth (PZ t).1.R) (PZ t).1.R.length (PZ t).1.F (Sq.nth (PZ t).1.S) (PZ t).1.S.length = 0 ∧ prT (PZ t).1.P (PZ t).1.D (PZ t).1.z (Sq.nth (PZ t).1.R) (PZ t).1.R.length (PZ t).1.F (Sq.nth (PZ t).1.S) (PZ t).1.S.length = t := by
  obtain ⟨m, h1, J, o⟩ := pz_one (t.size + 1) t 0 IS.zero (by omega) JJ.zero h
  have o2 : outT m (PZ t).1 = prT (PZ t).1.P (PZ t).1.D (PZ t).1.z (Sq.nth (PZ t).1.R) (PZ t).1.R.length (PZ t).1.F (Sq.nth (PZ t).1.S) (PZ t).1.S.length := by unfold outT; rw [if_neg (by omega), if_neg (by omega), if_neg (by omega), if_neg (by omega)]
  refine ⟨?_, ?_⟩
  · unfold ckC unC
    have a1 : prC (PZ t).1.P = 0 := J.hp (by omega)
    have a2 : szC (PZ t).1.z = 0 := J.hz (by omega)
    have a3 : crf (Sq.nth (PZ t).1.R) (PZ t).1.R.length = 0 := J.hr h1
    have a4 : frC (PZ t).1.F = 0 := J.hf
    rw [orC_z a1, orC_z a2, orC_z a3, orC_z a4]
    exact ssC_yes J.hs
  · rw [← o2]
    exact o.trans (emp_app t)

end Go.Proofs.YtgnlkggodchlbaaDoor
