/- Gathered: ScP ScQ ScR ScA. -/
import Derived.Test.YtdjjleahfciipaaGreatDoorQa
import Derived.Test.YtdjjleahfciipaaGreatDoorQy
/- Scan, plain: windows, what occurs, what is rewritten (own text of the verifier). -/
namespace Go.Proofs.YtdjjleahfciipaaGreatDoor
namespace Sc

/-- Thirty-two bytes from a place on, or what there are of them. -/
def win (l : List UInt8) (p : Nat) : List UInt8 := (l.drop p).take 32
theorem win_len (l : List UInt8) (p : Nat) : (win l p).length = min 32 (l.length - p) := by unfold win; rw [List.length_take, List.length_drop]
theorem win_full {l : List UInt8} {p : Nat} (h : (win l p).length = 32) : p + 32 ≤ l.length := by rw [win_len] at h; omega
theorem win_at {l : List UInt8} {p i : Nat} (hi : i < 32) : (win l p)[i]? = l[p + i]? := by
  unfold win
  rw [List.getElem?_take, if_pos hi, List.getElem?_drop]
theorem win_app {l x : List UInt8} {p : Nat} (h : p + 32 ≤ l.length) : win (l ++ x) p = win l p := by
  unfold win
  rw [List.drop_append_of_le_length (by omega), List.take_append_of_le_length (by rw [List.length_drop]; omega)]
theorem win_drop (l : List UInt8) (k p : Nat) : win (l.drop k) p = win l (k + p) := by unfold win; rw [List.drop_drop]

/-- A hash: thirty-two letters. -/
structure isH (L : UInt8 → Prop) (h : List UInt8) : Prop where
  len : h.length = 32
  all : ∀ b ∈ h, L b
/-- A byte that is no letter stands in the window. -/
def bad (L : UInt8 → Prop) (l : List UInt8) (p : Nat) : Prop := ∃ i b, p ≤ i ∧ i < p + 32 ∧ l[i]? = some b ∧ ¬ L b
theorem bad_app {L : UInt8 → Prop} {l : List UInt8} (x : List UInt8) {p : Nat} (h : bad L l p) : bad L (l ++ x) p := by
  obtain ⟨i, b, h1, h2, h3, h4⟩ := h
  exact ⟨i, b, h1, h2, by rw [List.getElem?_append_left (List.getElem?_eq_some_iff.1 h3).1]; exact h3, h4⟩
theorem bad_drop {L : UInt8 → Prop} {l : List UInt8} {k p : Nat} (h : bad L (l.drop k) p) : bad L l (k + p) := by
  obtain ⟨i, b, h1, h2, h3, h4⟩ := h
  rw [List.getElem?_drop] at h3
  exact ⟨k + i, b, by omega, by omega, h3, h4⟩
theorem bad_not {L : UInt8 → Prop} {l h : List UInt8} {p : Nat} (hb : bad L l p) (hh : isH L h) : win l p ≠ h := fun e => by
  obtain ⟨i, b, h1, h2, h3, h4⟩ := hb
  have h5 : (win l p)[i - p]? = some b := by rw [win_at (by omega), show p + (i - p) = i by omega]; exact h3
  rw [e] at h5
  exact h4 (hh.all b (List.mem_of_getElem? h5))

/-- The hash stands in the text. -/
def occ (h l : List UInt8) : Prop := ∃ p, win l p = h
/-- It stands there before a place. -/
def occB (h l : List UInt8) (P : Nat) : Prop := ∃ p, p < P ∧ win l p = h
/-- The windows before k are done with. -/
structure Base (L : UInt8 → Prop) (l : List UInt8) (k : Nat) : Prop where
  le : k ≤ l.length
  rest : l.length < k + 32
  done : ∀ q, q < k → q + 32 ≤ l.length ∨ bad L l q
theorem Base.nil (L : UInt8 → Prop) : Base L [] 0 := ⟨Nat.le_refl _, by simp, fun q h => by omega⟩
theorem Base.occ {L : UInt8 → Prop} {l h : List UInt8} {k : Nat} (b : Base L l k) (hh : isH L h) : occ h l ↔ occB h l k := by
  constructor
  · rintro ⟨p, e⟩
    refine ⟨p, ?_, e⟩
    have := win_full (l := l) (p := p) (by rw [e]; exact hh.len)
    have := b.rest
    omega
  · rintro ⟨p, _, e⟩; exact ⟨p, e⟩
theorem Base.more {L : UInt8 → Prop} {l h : List UInt8} {k : Nat} (b : Base L l k) (x : List UInt8) (hh : isH L h) : occB h (l ++ x) k ↔ occB h l k := by
  constructor
  · rintro ⟨p, hp, e⟩
    refine ⟨p, hp, ?_⟩
    rcases b.done p hp with h1 | h1
    · rw [← e, win_app h1]
    · exact absurd e (bad_not (bad_app x h1) hh)
  · rintro ⟨p, hp, e⟩
    refine ⟨p, hp, ?_⟩
    rw [win_app (win_full (by rw [e]; exact hh.len)), e]
theorem occB_succ {h l : List UInt8} {P : Nat} : occB h l (P + 1) ↔ occB h l P ∨ win l P = h := by
  constructor
  · rintro ⟨p, hp, e⟩
    rcases Nat.lt_or_ge p P with h1 | h1
    · exact .inl ⟨p, h1, e⟩
    · obtain rfl : p = P := by omega
      exact .inr e
  · rintro (⟨p, hp, e⟩ | e)
    · exact ⟨p, by omega, e⟩
    · exact ⟨P, by omega, e⟩

/-- The text with t where f stood, left to right. -/
def rwN (f t : List UInt8) : Nat → List UInt8 → List UInt8
  | 0, l => l
  | n + 1, l => if l.length < 32 then l else if l.take 32 = f then t ++ rwN f t n (l.drop 32) else l.take 1 ++ rwN f t n (l.drop 1)
def rw' (f t l : List UInt8) : List UInt8 := rwN f t l.length l
theorem rwN_stable (f t : List UInt8) : ∀ (n m : Nat) (l : List UInt8), l.length ≤ n → l.length ≤ m → rwN f t n l = rwN f t m l
  | 0, 0, _, _, _ => rfl
  | 0, m + 1, l, h, _ => by
    unfold rwN
    rw [if_pos (by omega)]
  | n + 1, 0, l, _, h => by
    unfold rwN
    rw [if_pos (by omega)]
  | n + 1, m + 1, l, h1, h2 => by
    unfold rwN
    by_cases h3 : l.length < 32
    · rw [if_pos h3, if_pos h3]
    · rw [if_neg h3, if_neg h3, rwN_stable f t n m (l.drop 32) (by rw [List.length_drop]; omega) (by rw [List.length_drop]; omega), rwN_stable f t n m (l.drop 1) (by rw [List.length_drop]; omega) (by rw [List.length_drop]; omega)]
theorem rw_short {f t l : List UInt8} (h : l.length < 32) : rw' f t l = l := by
  unfold rw'
  cases hl : l.length with
  | zero => rfl
  | succ n => unfold rwN; rw [if_pos (by omega)]
theorem rw_hit {f t l : List UInt8} (h : l.take 32 = f) (hl : 32 ≤ l.length) : rw' f t l = t ++ rw' f t (l.drop 32) := by
  unfold rw'
  cases hn : l.length with
  | zero => omega
  | succ n =>
    rw [rwN, if_neg (by omega), if_pos h, rwN_stable f t n (l.drop 32).length _ (by rw [List.length_drop]; omega) (Nat.le_refl _)]
theorem rw_miss {f t l : List UInt8} (h : l.take 32 ≠ f) (_hf : f.length = 32) (hl : 1 ≤ l.length) : rw' f t l = l.take 1 ++ rw' f t (l.drop 1) := by
  by_cases h32 : l.length < 32
  · rw [rw_short h32, rw_short (by rw [List.length_drop]; omega), List.take_append_drop]
  · unfold rw'
    cases hn : l.length with
    | zero => omega
    | succ n => rw [rwN, if_neg (by omega), if_neg h, rwN_stable f t n (l.drop 1).length _ (by rw [List.length_drop]; omega) (Nat.le_refl _)]

/-- The places where f stood, left to right, the text beginning at a place. -/
def plN (f : List UInt8) : Nat → Nat → List UInt8 → List Nat
  | 0, _, _ => []
  | n + 1, o, l => if l.length < 32 then [] else if l.take 32 = f then o :: plN f n (o + 32) (l.drop 32) else plN f n (o + 1) (l.drop 1)
def pl (f : List UInt8) (o : Nat) (l : List UInt8) : List Nat := plN f l.length o l
theorem plN_stable (f : List UInt8) : ∀ (n m o : Nat) (l : List UInt8), l.length ≤ n → l.length ≤ m → plN f n o l = plN f m o l
  | 0, 0, _, _, _, _ => rfl
  | 0, m + 1, o, l, h, _ => by
    unfold plN
    rw [if_pos (by omega)]
  | n + 1, 0, o, l, _, h => by
    unfold plN
    rw [if_pos (by omega)]
  | n + 1, m + 1, o, l, h1, h2 => by
    unfold plN
    by_cases h3 : l.length < 32
    · rw [if_pos h3, if_pos h3]
    · rw [if_neg h3, if_neg h3, plN_stable f n m (o + 32) (l.drop 32) (by rw [List.length_drop]; omega) (by rw [List.length_drop]; omega), plN_stable f n m (o + 1) (l.drop 1) (by rw [List.length_drop]; omega) (by rw [List.length_drop]; omega)]
theorem pl_short {f l : List UInt8} {o : Nat} (h : l.length < 32) : pl f o l = [] := by
  unfold pl
  cases hl : l.length with
  | zero => rfl
  | succ n => unfold plN; rw [if_pos (by omega)]
theorem pl_hit {f l : List UInt8} {o : Nat} (h : l.take 32 = f) (hl : 32 ≤ l.length) : pl f o l = o :: pl f (o + 32) (l.drop 32) := by
  unfold pl
  cases hn : l.length with
  | zero => omega
  | succ n => rw [plN, if_neg (by omega), if_pos h, plN_stable f n (l.drop 32).length _ _ (by rw [List.length_drop]; omega) (Nat.le_refl _)]
theorem pl_miss {f l : List UInt8} {o : Nat} (h : l.take 32 ≠ f) (_hf : f.length = 32) (hl : 1 ≤ l.length) : pl f o l = pl f (o + 1) (l.drop 1) := by
  by_cases h32 : l.length < 32
  · rw [pl_short h32, pl_short (by rw [List.length_drop]; omega)]
  · unfold pl
    cases hn : l.length with
    | zero => omega
    | succ n => rw [plN, if_neg (by omega), if_neg h, plN_stable f n (l.drop 1).length _ _ (by rw [List.length_drop]; omega) (Nat.le_refl _)]

end Sc
end Go.Proofs.YtdjjleahfciipaaGreatDoor
/- Scan, plain: a rewriter that goes through a text, and one that is fed (own text of the verifier). -/
namespace Go.Proofs.YtdjjleahfciipaaGreatDoor
namespace Sc

theorem take_app_win {l x : List UInt8} {p : Nat} : ((l.drop p) ++ x).take 32 = win (l.drop p ++ x) 0 := by unfold win; rw [List.drop_zero]
/-- At a place of the text: what was written out (O), from where on what stands there is still to be written, where f stood. -/
structure RS (f t text : List UInt8) (o at_ wr : Nat) (O : List UInt8) (Ps : List Nat) : Prop where
  wl : wr ≤ at_
  al : at_ ≤ text.length
  eq : ∀ x, rw' f t (text ++ x) = O ++ ((text.take at_).drop wr ++ rw' f t (text.drop at_ ++ x))
  pe : ∀ x, pl f o (text ++ x) = Ps ++ pl f (o + at_) (text.drop at_ ++ x)
theorem RS.start (f t text : List UInt8) (o : Nat) : RS f t text o 0 0 [] [] :=
  ⟨Nat.le_refl _, Nat.zero_le _, fun x => by simp, fun x => by simp⟩
theorem step_take {text : List UInt8} {a : Nat} (ha : a < text.length) {wr : Nat} (hw : wr ≤ a) : (text.take (a + 1)).drop wr = (text.take a).drop wr ++ (text.drop a).take 1 := by
  rw [List.take_add, List.drop_append_of_le_length (by rw [List.length_take]; omega)]
theorem RS.miss {f t text : List UInt8} {o a wr : Nat} {O : List UInt8} {Ps : List Nat} (h : RS f t text o a wr O Ps) (hf : f.length = 32) (ha : a < text.length) (hn : ∀ x, (text.drop a ++ x).take 32 ≠ f) : RS f t text o (a + 1) wr O Ps := by
  have hl : ∀ x : List UInt8, 1 ≤ (text.drop a ++ x).length := fun x => by rw [List.length_append, List.length_drop]; omega
  have hd : ∀ x : List UInt8, (text.drop a ++ x).drop 1 = text.drop (a + 1) ++ x := fun x => by
    rw [List.drop_append_of_le_length (by rw [List.length_drop]; omega), List.drop_drop]
  refine ⟨Nat.le_succ_of_le h.wl, ha, fun x => ?_, fun x => ?_⟩
  · rw [h.eq x, rw_miss (hn x) hf (hl x), hd x, step_take ha h.wl, List.take_append_of_le_length (by rw [List.length_drop]; omega), List.append_assoc]
  · rw [h.pe x, pl_miss (hn x) hf (hl x), hd x, Nat.add_assoc]
theorem RS.bad {L : UInt8 → Prop} {f t text : List UInt8} {o a wr : Nat} {O : List UInt8} {Ps : List Nat} (h : RS f t text o a wr O Ps) (hf : isH L f) (ha : a < text.length) (hb : bad L text a) : RS f t text o (a + 1) wr O Ps := by
  refine h.miss hf.len ha fun x e => ?_
  have h1 := bad_app x hb
  refine bad_not h1 hf ?_
  rw [← e]
  unfold win
  rw [List.drop_append_of_le_length (by omega)]
theorem RS.no {f t text : List UInt8} {o a wr : Nat} {O : List UInt8} {Ps : List Nat} (h : RS f t text o a wr O Ps) (hf : f.length = 32) (ha : a + 32 ≤ text.length) (hw : win text a ≠ f) : RS f t text o (a + 1) wr O Ps := by
  refine h.miss hf (by omega) fun x e => hw ?_
  rw [← e]
  unfold win
  rw [List.take_append_of_le_length (by rw [List.length_drop]; omega)]
theorem RS.hit {f t text : List UInt8} {o a wr : Nat} {O : List UInt8} {Ps : List Nat} (h : RS f t text o a wr O Ps) (ha : a + 32 ≤ text.length) (hw : win text a = f) : RS f t text o (a + 32) (a + 32) (O ++ ((text.take a).drop wr ++ t)) (Ps ++ [o + a]) := by
  have hl : ∀ x : List UInt8, 32 ≤ (text.drop a ++ x).length := fun x => by rw [List.length_append, List.length_drop]; omega
  have hd : ∀ x : List UInt8, (text.drop a ++ x).drop 32 = text.drop (a + 32) ++ x := fun x => by
    rw [List.drop_append_of_le_length (by rw [List.length_drop]; omega), List.drop_drop]
  have hw' : ∀ x : List UInt8, (text.drop a ++ x).take 32 = f := fun x => by
    rw [← hw]; unfold win
    rw [List.take_append_of_le_length (by rw [List.length_drop]; omega)]
  have hz : (text.take (a + 32)).drop (a + 32) = [] := by rw [List.drop_eq_nil_iff, List.length_take]; omega
  refine ⟨Nat.le_refl _, ha, fun x => ?_, fun x => ?_⟩
  · rw [h.eq x, rw_hit (hw' x) (hl x), hd x, hz]
    simp
  · rw [h.pe x, pl_hit (hw' x) (hl x), hd x, Nat.add_assoc]
    simp

/-- A rewriter that has taken A in and has told E; kept is what it has in hand. -/
structure GS (f t A E kept : List UInt8) (Ps : List Nat) : Prop where
  sh : kept.length < 32
  le : kept.length ≤ A.length
  eq : ∀ x, rw' f t (A ++ x) = E ++ rw' f t (kept ++ x)
  pe : ∀ x, pl f 0 (A ++ x) = Ps ++ pl f (A.length - kept.length) (kept ++ x)
theorem GS.start (f t : List UInt8) : GS f t [] [] [] [] := ⟨by simp, by simp, fun x => by simp, fun x => by simp⟩
theorem GS.fed {f t A E kept x : List UInt8} {Ps Qs : List Nat} {r wr : Nat} {O : List UInt8} (h : GS f t A E kept Ps) (s : RS f t (kept ++ x) (A.length - kept.length) r wr O Qs) (hr : (kept ++ x).length < r + 32) : GS f t (A ++ x) (E ++ (O ++ ((kept ++ x).take r).drop wr)) ((kept ++ x).drop r) (Ps ++ Qs) := by
  have hl := h.le
  have ha := s.al
  refine ⟨by rw [List.length_drop]; omega, by rw [List.length_drop, List.length_append, List.length_append] at *; omega, fun y => ?_, fun y => ?_⟩
  · rw [List.append_assoc, h.eq (x ++ y), ← List.append_assoc kept, s.eq y]
    simp
  · rw [List.append_assoc, h.pe (x ++ y), ← List.append_assoc kept, s.pe y]
    have e : A.length - kept.length + r = (A ++ x).length - ((kept ++ x).drop r).length := by
      rw [List.length_drop, List.length_append, List.length_append] at *
      omega
    rw [e]
    simp
/-- At the end: what was told, and what is in hand, are the rewritten text. -/
theorem GS.all {f t A E kept : List UInt8} {Ps : List Nat} (h : GS f t A E kept Ps) : rw' f t A = E ++ kept ∧ pl f 0 A = Ps := by
  have h1 := h.eq []
  have h2 := h.pe []
  rw [List.append_nil, List.append_nil] at h1 h2
  rw [h1, h2, rw_short h.sh, pl_short h.sh]
  simp

end Sc
end Go.Proofs.YtdjjleahfciipaaGreatDoor
/- Scan, plain: rising lists (own text of the verifier). -/
namespace Go.Proofs.YtdjjleahfciipaaGreatDoor
namespace Sc

/-- Two rising lists with the same members are one. -/
theorem rising_one {α : Type} {lt : α → α → Prop} (irr : ∀ a, ¬ lt a a) (tra : ∀ a b c, lt a b → lt b c → lt a c) : ∀ (l m : List α), l.Pairwise lt → m.Pairwise lt → (∀ x, x ∈ l ↔ x ∈ m) → l = m
  | [], [], _, _, _ => rfl
  | [], b :: m, _, _, h => absurd ((h b).2 (List.mem_cons_self ..)) (by simp)
  | a :: l, [], _, _, h => absurd ((h a).1 (List.mem_cons_self ..)) (by simp)
  | a :: l, b :: m, hl, hm, h => by
    obtain ⟨ha, hl'⟩ := List.pairwise_cons.1 hl
    obtain ⟨hb, hm'⟩ := List.pairwise_cons.1 hm
    have e : a = b := by
      rcases List.mem_cons.1 ((h a).1 (List.mem_cons_self ..)) with e | h1
      · exact e
      · rcases List.mem_cons.1 ((h b).2 (List.mem_cons_self ..)) with e | h2
        · exact e.symm
        · exact absurd (tra _ _ _ (hb a h1) (ha b h2)) (irr b)
    subst e
    rw [rising_one irr tra l m hl' hm' fun x => ?_]
    constructor
    · intro hx
      rcases List.mem_cons.1 ((h x).1 (List.mem_cons_of_mem _ hx)) with e | h1
      · subst e; exact absurd (ha x hx) (irr x)
      · exact h1
    · intro hx
      rcases List.mem_cons.1 ((h x).2 (List.mem_cons_of_mem _ hx)) with e | h1
      · subst e; exact absurd (hb x hx) (irr x)
      · exact h1
/-- What a scanner has found: each sought hash that stands in the text, once. -/
structure FS (H : List (List UInt8)) (A : List UInt8) (F : List (List UInt8)) : Prop where
  nd : F.Nodup
  mem : ∀ h, h ∈ F ↔ h ∈ H ∧ occ h A
/-- In the midst of a text: found before a place, and still sought. -/
structure FB (H : List (List UInt8)) (A : List UInt8) (P : Nat) (F S : List (List UInt8)) : Prop where
  nd : F.Nodup
  mem : ∀ h, h ∈ F ↔ h ∈ H ∧ occB h A P
  sgt : ∀ h, h ∈ S ↔ h ∈ H ∧ ¬ occB h A P
theorem FB.step_no {H : List (List UInt8)} {A : List UInt8} {P : Nat} {F S : List (List UInt8)} (h : FB H A P F S) (hn : win A P ∉ S) : FB H A (P + 1) F S := by
  have key : ∀ g, g ∈ H → (occB g A (P + 1) ↔ occB g A P) := fun g hg => by
    rw [occB_succ]
    constructor
    · rintro (h1 | h1)
      · exact h1
      · by_cases h2 : occB g A P
        · exact h2
        · exact absurd ((h.sgt g).2 ⟨hg, h2⟩) (by rw [← h1]; exact hn)
    · exact .inl
  exact ⟨h.nd, fun g => (h.mem g).trans ⟨fun ⟨a, b⟩ => ⟨a, (key g a).2 b⟩, fun ⟨a, b⟩ => ⟨a, (key g a).1 b⟩⟩, fun g => (h.sgt g).trans ⟨fun ⟨a, b⟩ => ⟨a, fun c => b ((key g a).1 c)⟩, fun ⟨a, b⟩ => ⟨a, fun c => b ((key g a).2 c)⟩⟩⟩
theorem FB.step_yes {H : List (List UInt8)} {A : List UInt8} {P : Nat} {F S S' : List (List UInt8)} (h : FB H A P F S) (hn : win A P ∈ S) (hS : ∀ g, g ∈ S' ↔ g ∈ S ∧ g ≠ win A P) : FB H A (P + 1) (F ++ [win A P]) S' := by
  have h0 := (h.sgt _).1 hn
  refine ⟨?_, fun g => ?_, fun g => ?_⟩
  · rw [List.nodup_append]
    refine ⟨h.nd, by simp, fun a ha b hb e => ?_⟩
    rw [List.mem_singleton] at hb
    subst e; subst hb
    exact h0.2 ((h.mem _).1 ha).2
  · rw [List.mem_append, List.mem_singleton, h.mem g, occB_succ]
    constructor
    · rintro (⟨a, b⟩ | e)
      · exact ⟨a, .inl b⟩
      · exact ⟨by rw [e]; exact h0.1, .inr e.symm⟩
    · rintro ⟨a, b | b⟩
      · exact .inl ⟨a, b⟩
      · exact .inr b.symm
  · rw [hS g, h.sgt g, occB_succ]
    constructor
    · rintro ⟨⟨a, b⟩, c⟩
      exact ⟨a, fun d => d.elim b fun e => c e.symm⟩
    · rintro ⟨a, b⟩
      exact ⟨⟨a, fun d => b (.inl d)⟩, fun e => b (.inr e.symm)⟩
theorem FB.step_bad {L : UInt8 → Prop} {H : List (List UInt8)} {A : List UInt8} {P : Nat} {F S : List (List UInt8)} (h : FB H A P F S) (hH : ∀ g ∈ H, isH L g) (hb : bad L A P) : FB H A (P + 1) F S :=
  h.step_no fun hm => bad_not hb (hH _ ((h.sgt _).1 hm).1) rfl

end Sc
end Go.Proofs.YtdjjleahfciipaaGreatDoor
/- scan.slide, walked (own text of the verifier). -/
namespace Go.Proofs.YtdjjleahfciipaaGreatDoor
namespace Sc
open Go.RowKit

/-- A letter of a hash. -/
def Lt (b : UInt8) : Prop := 0 ≤ vl (b.toNat : Int)
/-- The value is a slice of these bytes. -/
def Txt (W : World) (v : Value) (l : List UInt8) : Prop := ∃ x c, v = .slice x l.length c ∧ (∀ i b, l[i]? = some b → ∃ a o, x = some ⟨a, o, none⟩ ∧ W.cell? ⟨a, o + i, none⟩ = some (.int .u8 (b.toNat : Int))) ∧ l.length ≤ c

set_option maxRecDepth 100000 in
set_option maxHeartbeats 4000000 in
theorem slide_any (k : FuncId) (caps : Array Value) (he : ∀ args w, (callFunc k args).run Tryz.prog w = .ok (.enter k args) w) (v : Value) (l : List UInt8) (J : Nat → World → Prop) (hJt : ∀ p W, J p W → Txt W v l) (hl : l.length ≤ 1073741824)
    (hbad : ∀ p W, J p W → p < l.length → bad Lt l p → J (p + 1) W)
    (hlook : ∀ p W, J p W → p + 32 ≤ l.length → (∀ i, i < 32 → ∃ b, l[p + i]? = some b ∧ Lt b) → Calls Tryz.prog k (#[.int .i64 (p : Int)] ++ caps) W fun e W' => ∃ s : Nat, (s = 1 ∨ s = 32) ∧ e = .returned (.int .i64 (s : Int)) ∧ J (p + s) W')
    (w : World) (h0 : J 0 w) :
    Calls Tryz.prog 32 #[v, .func (.func k) #[] caps] w fun e w' => ∃ r : Nat, r ≤ l.length ∧ l.length < r + 32 ∧ e = .returned (.int .i64 (r : Int)) ∧ J r w' := by
  obtain ⟨x, c, rfl, _⟩ := hJt 0 w h0
  have HJ0 : Hid (J 0 w) := h0
  clear h0
  go_enter Tryz.func32, Tryz.ntmps32
  go_wp2
  go_step3
  go_wp2
  go_step3
  go_wp2
  go_loopw [5, 6] (fun av sv wr => ∃ at_ seen : Nat, av = .int .i64 (at_ : Int) ∧ sv = .int .i64 (seen : Int) ∧ at_ ≤ seen ∧ seen ≤ l.length ∧ seen ≤ at_ + 32 ∧ (∀ i, at_ ≤ i → i < seen → ∃ b, l[i]? = some b ∧ Lt b) ∧ Hid (J at_ wr)) (fun av _ _ => l.length - (intOf av).toNat)
  case atStart => exact ⟨0, 0, rfl, rfl, Nat.le_refl _, Nat.zero_le _, by omega, fun i h1 h2 => by omega, HJ0.out⟩
  case round =>
    obtain ⟨at_, seen, rfl, rfl, h1, h2, h2', hL, HJ⟩ := hrel
    clear HJ0
    by_cases hlt : at_ + 32 ≤ l.length
    · have e1 : (at_ : Int) + 32 ≤ (l.length : Int) := by omega
      obtain ⟨x', c', hx', hc', _⟩ := hJt _ _ HJ.out
      obtain ⟨rfl, rfl⟩ : x' = x ∧ c' = c := by injection hx' with a1 a2 a3; exact ⟨a1.symm, a3.symm⟩
      have HC : Hid (∀ i b, l[i]? = some b → ∃ a o, x' = some ⟨a, o, none⟩ ∧ wr.cell? ⟨a, o + i, none⟩ = some (.int .u8 (b.toNat : Int))) := hc'
      clear hx' hc'
      go_wp2
      go_loop [5, 6, 8] (fun av sv iv => ∃ m : Nat, av = .int .i64 (at_ : Int) ∧ sv = .int .i64 (seen : Int) ∧ iv = .int .i64 ((m : Int) - 1) ∧ seen ≤ m ∧ m ≤ at_ + 32 ∧ (∀ i, m ≤ i → i < at_ + 32 → ∃ b, l[i]? = some b ∧ Lt b)) (fun _ _ iv => (intOf iv + 1).toNat)
      case atStart => exact ⟨at_ + 32, rfl, rfl, by go_num, by omega, Nat.le_refl _, fun i a b => by omega⟩
      case round =>
        obtain ⟨m, rfl, rfl, rfl, h3, h4, hM⟩ := hrel
        by_cases hm : seen < m
        · obtain ⟨q, rfl⟩ : ∃ q, m = q + 1 := ⟨m - 1, by omega⟩
          obtain ⟨b, hb⟩ : ∃ b, l[q]? = some b := ⟨_, List.getElem?_eq_getElem (by omega)⟩
          obtain ⟨a, o, rfl, c0⟩ := HC.out q b hb
          have hb2 : b.toNat < 256 := b.toNat_lt
          have CV := value_any (b.toNat : Int) wr
          have b1 : (seen : Int) ≤ (q : Int) := by omega
          have b2 : (q : Int) < (l.length : Int) := by omega
          have b3 : q < l.length := by omega
          have b4 : ((q + 1 : Nat) : Int) - 1 = (q : Int) := by omega
          rw [b4]
          clear b4
          go_wp2_with fail
          refine CV.mono ?_
          rintro e w2 ⟨rfl, rfl⟩
          by_cases hv : vl (b.toNat : Int) < 0
          · have HQ : Hid (J (q + 1) w2) := by
              have key : ∀ n, at_ + n ≤ q + 1 → J (at_ + n) w2 := by
                intro n
                induction n with
                | zero => intro _; exact HJ.out
                | succ n ih =>
                  intro hn
                  exact hbad (at_ + n) w2 (ih (by omega)) (by omega) ⟨q, b, by omega, by omega, hb, fun h => by unfold Lt at h; omega⟩
              have := key (q + 1 - at_) (by omega)
              rw [show at_ + (q + 1 - at_) = q + 1 by omega] at this
              exact this
            go_wp2
            go_roundw
            case rel => exact ⟨q + 1, at_ + 32, by go_num, by go_num, by omega, by omega, by omega, fun i g1 g2 => hM i g1 g2, HQ.out⟩
            case measure => simp [intOf]; omega
          · have hv' : ¬ vl (b.toNat : Int) < 0 := hv
            go_wp2
            go_round
            case rel => exact ⟨q, rfl, rfl, by go_num, by omega, by omega, fun i g1 g2 => by
              by_cases e : i = q
              · subst e; exact ⟨b, hb, by unfold Lt; omega⟩
              · exact hM i (by omega) g2⟩
            case measure => simp [intOf]
        · obtain rfl : m = seen := by omega
          have CL := hlook at_ wr HJ.out hlt (fun i hi => by
            by_cases e : at_ + i < m
            · exact hL _ (by omega) e
            · exact hM _ (by omega) (by omega))
          have b1 : ¬ (m : Int) ≤ (m : Int) - 1 := by omega
          go_wp2_with fail
          refine CL.mono ?_
          rintro e w3 ⟨s, hs, rfl, HJ3⟩
          have HJ4 : Hid (J (at_ + s) w3) := HJ3
          have s1 : s ≤ 32 := by omega
          have s2 : 1 ≤ s := by omega
          clear CL HJ3 hs
          go_wp2
          go_roundw
          case rel => exact ⟨at_ + s, at_ + 32, by go_num, by go_num, by omega, by omega, by omega, fun i g1 g2 => by
            by_cases e : i < m
            · exact hL i (by omega) e
            · exact hM i (by omega) g2, HJ4.out⟩
          case measure => simp [intOf]; omega
    · have e1 : ¬ (at_ : Int) + 32 ≤ (l.length : Int) := by omega
      go_wp2
      go_ret
      exact ⟨at_, by omega, by omega, rfl, HJ.out⟩

end Sc
end Go.Proofs.YtdjjleahfciipaaGreatDoor
