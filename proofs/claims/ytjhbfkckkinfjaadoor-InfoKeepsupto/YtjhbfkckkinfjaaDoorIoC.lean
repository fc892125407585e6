/- info.takeLine at any line: one theorem. -/
import Derived.Test.YtjhbfkckkinfjaaDoorIoB
namespace Go.Proofs.YtjhbfkckkinfjaaDoor
open Go.RowKit Go.Shelf

/-- An info as data. -/
structure IS where
  P : ByteArray
  D : Nat → Int
  z : Int
  R : List ByteArray
  F : ByteArray
  S : List ByteArray
def IS.zero : IS := ⟨⟨#[]⟩, fun _ => 0, 0, [], ⟨#[]⟩, []⟩
/-- Line n taken: the error's number, and what is told then. -/
def tkC (s : IS) (n : Nat) (l : ByteArray) : Int := if n = 0 then rpC l hdP else if n = 1 then rhC l else if n = 2 then rzC l else if n = 3 then rrC l else if n = 4 ∧ hpQ l hdF = true then rpC l hdF else rsC s.S l
def tkS (s : IS) (n : Nat) (l : ByteArray) : IS := if n = 0 then { s with P := rpS l hdP } else if n = 1 then { s with D := rhD l } else if n = 2 then { s with z := rzV l } else if n = 3 then { s with R := rrL l } else if n = 4 ∧ hpQ l hdF = true then { s with F := rpS l hdF } else { s with S := s.S ++ [rsS l] }

/-- Block g holds the info that n lines told. -/
structure IM (w : World) (g n : Nat) (s : IS) (vr vs : Value) (B : Nat) : Prop where
  inf : Inf w g s.P s.D s.z vr s.F vs
  refs : OwnR w (g + 1) vr s.R
  rb : ∀ k, vr.ownBlock = some k → k < B
  signs : OwnS w B vs s.S
  hg : g < B
  hB : B ≤ w.heap.size
  e1 : n ≤ 3 → vr = .slice none 0 0 ∧ s.R = []
  e2 : n ≤ 4 → vs = .slice none 0 0 ∧ s.S = []
def IMx (w : World) (g n : Nat) (s : IS) : Prop := ∃ vr vs B, IM w g n s vr vs B

theorem IM.start {w : World} {g : Nat} (h : Inf w g ⟨#[]⟩ (fun _ => 0) 0 (.slice none 0 0) ⟨#[]⟩ (.slice none 0 0)) : IMx w g 0 IS.zero :=
  ⟨_, _, w.heap.size, h, Or.inl ⟨rfl, rfl⟩, fun k hk => (by cases hk), OwnS.nil _ _, h.lt, Nat.le_refl _, fun _ => ⟨rfl, rfl⟩, fun _ => ⟨rfl, rfl⟩⟩
/-- Another world in which nothing below its end has changed. -/
theorem IMx.below {w w' : World} {g n : Nat} {s : IS} (h : IMx w g n s) (b : Below w.heap.size w w') : IMx w' g n s := by
  obtain ⟨vr, vs, B, h⟩ := h
  exact ⟨vr, vs, B, h.inf.below b h.inf.lt, h.refs.same (fun k hk => b.block k (h.refs.ge hk).2), h.rb, h.signs.same (fun k hk => b.block k (h.signs.ge hk).2), h.hg, Nat.le_trans h.hB b.size, h.e1, h.e2⟩
theorem IMx.lt {w : World} {g n : Nat} {s : IS} (h : IMx w g n s) : g < w.heap.size := by
  obtain ⟨vr, vs, B, h⟩ := h
  exact h.inf.lt

/-- An early line: no references, no signatures yet. -/
theorem IM.early {w w' : World} {g n : Nat} {s s' : IS} {vr vs : Value} {B : Nat} (h : IM w g n s vr vs B) (hn : n ≤ 2) (h' : Inf w' g s'.P s'.D s'.z vr s'.F vs) (hR : s'.R = s.R) (hS : s'.S = s.S) : IMx w' g (n + 1) s' := by
  obtain ⟨r1, r2⟩ := h.e1 (by omega)
  obtain ⟨q1, q2⟩ := h.e2 (by omega)
  refine ⟨vr, vs, w'.heap.size, h', Or.inl ⟨r1, by rw [hR, r2]⟩, fun k hk => (by rw [r1] at hk; cases hk), by rw [q1, hS, q2]; exact OwnS.nil _ _, h'.lt, Nat.le_refl _, fun _ => ⟨r1, by rw [hR, r2]⟩, fun _ => ⟨q1, by rw [hS, q2]⟩⟩

theorem take_any (g n : Nat) (s : IS) (l : ByteArray) (w : World) (h : IMx w g n s) (hl : l.size ≤ 140737488351232) (hS : s.S.length ≤ 8796093022000) (hn2 : n ≤ 140737488355328) :
    Calls Tryd.prog 22 #[.pointer (some ⟨g, 0, none⟩), .int .i64 n, .string l] w fun e w' => e = .returned (.int .i64 (tkC s n l)) ∧ (tkC s n l = 0 → IMx w' g (n + 1) (tkS s n l)) ∧ Below g w w' := by
  obtain ⟨vr, vs, B, h⟩ := h
  have hgl := h.inf.lt
  by_cases h0 : n = 0
  · subst h0
    refine (tl0_any g l w h.inf).mono ?_
    rintro e w' ⟨rfl, I, b⟩
    exact ⟨rfl, fun _ => h.early (by omega) (s' := tkS s 0 l) I rfl rfl, b⟩
  by_cases h1 : n = 1
  · subst h1
    refine (tl1_any g l w (by omega) h.inf).mono ?_
    rintro e w' ⟨rfl, I, b⟩
    exact ⟨rfl, fun _ => h.early (by omega) (s' := tkS s 1 l) I rfl rfl, b⟩
  by_cases h2 : n = 2
  · subst h2
    refine (tl2_any g l w (by omega) h.inf).mono ?_
    rintro e w' ⟨rfl, I, b⟩
    exact ⟨rfl, fun _ => h.early (by omega) (s' := tkS s 2 l) I rfl rfl, b⟩
  by_cases h3 : n = 3
  · subst h3
    obtain ⟨q1, q2⟩ := h.e2 (by omega)
    refine (tl3_any g l w hl h.inf).mono ?_
    rintro e w' ⟨rfl, I, K⟩
    refine ⟨rfl, fun hc => ?_, K.below (Nat.le_of_lt hgl)⟩
    obtain ⟨v, I1, O1⟩ := I hc
    exact ⟨v, vs, w'.heap.size, I1, O1.mono hgl, fun k hk => (O1.ge hk).2, by rw [q1]; show OwnS _ _ _ s.S; rw [q2]; exact OwnS.nil _ _, I1.lt, Nat.le_refl _, fun h => absurd h (by omega), fun _ => ⟨q1, q2⟩⟩
  by_cases h4 : n = 4 ∧ hpQ l hdF = true
  · obtain ⟨rfl, hp⟩ := h4
    obtain ⟨q1, q2⟩ := h.e2 (by omega)
    have ec : tkC s 4 l = rpC l hdF := by unfold tkC; simp [hp]
    have es : tkS s 4 l = { s with F := rpS l hdF } := by unfold tkS; simp [hp]
    rw [ec, es]
    refine (tl4_any g l w hp h.inf).mono ?_
    rintro e w' ⟨rfl, I1, K⟩
    have O1 : OwnR w' (g + 1) vr s.R := h.refs.same (fun k hk => K.block k (h.refs.ge hk).2 (by have := (h.refs.ge hk).1; omega))
    exact ⟨rfl, fun hc => ⟨vr, vs, w'.heap.size, I1, O1, fun k hk => (O1.ge hk).2, by rw [q1]; show OwnS _ _ _ s.S; rw [q2]; exact OwnS.nil _ _, I1.lt, Nat.le_refl _, fun h => absurd h (by omega), fun h => absurd h (by omega)⟩, K.below (Nat.le_of_lt hgl)⟩
  · have ec : tkC s n l = rsC s.S l := by unfold tkC; rw [if_neg h0, if_neg h1, if_neg h2, if_neg h3, if_neg h4]
    have es : tkS s n l = { s with S := s.S ++ [rsS l] } := by unfold tkS; rw [if_neg h0, if_neg h1, if_neg h2, if_neg h3, if_neg h4]
    rw [ec, es]
    refine (tlS_any B g n s.S l w ?_ hn2 hS hl h.inf h.signs h.hg h.hB).mono ?_
    · by_cases h5 : n = 4
      · right
        refine ⟨h5, ?_⟩
        cases hp : hpQ l hdF
        · rfl
        · exact absurd ⟨h5, hp⟩ h4
      · left; omega
    rintro e w' ⟨rfl, I, K⟩
    refine ⟨rfl, fun hc => ?_, K.below (Nat.le_of_lt h.hg)⟩
    obtain ⟨v, I1, O1⟩ := I hc
    exact ⟨vr, v, B, I1, h.refs.same (fun k hk => K.block k (h.rb k hk) (by have := (h.refs.ge hk).1; omega)), h.rb, O1, h.hg, Nat.le_trans h.hB K.size, fun h => absurd h (by omega), fun h => absurd h (by omega)⟩

end Go.Proofs.YtjhbfkckkinfjaaDoor
