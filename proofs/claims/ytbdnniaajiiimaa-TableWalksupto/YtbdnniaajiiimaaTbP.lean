/- A table's trees, pure: what with, without, find, rank and at make of them. -/
import Derived.Test.YtbdnniaajiiimaaMem
namespace Go.Proofs.Ytbdnniaajiiimaa

/-- A tree of a table: key, value, the size that is kept, both sides. -/
inductive BT (K : Type) where
  | E : BT K
  | N : K → Int → Nat → BT K → BT K → BT K
namespace BT
variable {K : Type}

/-- The size that is kept. -/
def cnt : BT K → Nat
  | E => 0
  | N _ _ s _ _ => s
/-- How high it is. -/
def ht : BT K → Nat
  | E => 0
  | N _ _ _ l r => max (ht l) (ht r) + 1
/-- The pairs, rising. -/
def toL : BT K → List (K × Int)
  | E => []
  | N k v _ l r => toL l ++ (k, v) :: toL r
/-- The kept sizes are right. -/
def Ok : BT K → Prop
  | E => True
  | N _ _ s l r => s = cnt l + 1 + cnt r ∧ Ok l ∧ Ok r
theorem cnt_toL (t : BT K) (h : t.Ok) : t.cnt = t.toL.length := by
  induction t with
  | E => rfl
  | N k v s l r il ir =>
    obtain ⟨h1, h2, h3⟩ := h
    show s = (toL l ++ (k, v) :: toL r).length
    rw [List.length_append, List.length_cons, h1, il h2, ir h3]; omega

/-- A key between two sides. -/
def bet (k : K) (v : Int) (l r : BT K) : BT K := N k v (cnt l + 1 + cnt r) l r
theorem bet_toL (k : K) (v : Int) (l r : BT K) : (bet k v l r).toL = l.toL ++ (k, v) :: r.toL := rfl
theorem bet_ok (k : K) (v : Int) (l r : BT K) (hl : l.Ok) (hr : r.Ok) : (bet k v l r).Ok := ⟨rfl, hl, hr⟩
theorem bet_cnt (k : K) (v : Int) (l r : BT K) : (bet k v l r).cnt = cnt l + 1 + cnt r := rfl

def inR (k : K) (v : Int) (l : BT K) (rk : K) (rv : Int) (rr : BT K) : BT K → BT K
  | E => E
  | N ik iv _ il ir => bet ik iv (bet k v l il) (bet rk rv ir rr)
/-- The right side is too heavy. -/
def turnR (k : K) (v : Int) (l : BT K) : BT K → BT K
  | E => E
  | N rk rv _ rl rr => if 2 * (cnt rr + 1) ≤ cnt rl + 1 then inR k v l rk rv rr rl else bet rk rv (bet k v l rl) rr
def inL (k : K) (v : Int) (r : BT K) (lk : K) (lv : Int) (ll : BT K) : BT K → BT K
  | E => E
  | N ik iv _ il ir => bet ik iv (bet lk lv ll il) (bet k v ir r)
/-- The left side is too heavy. -/
def turnL (k : K) (v : Int) (r : BT K) : BT K → BT K
  | E => E
  | N lk lv _ ll lr => if 2 * (cnt ll + 1) ≤ cnt lr + 1 then inL k v r lk lv ll lr else bet lk lv ll (bet k v lr r)
/-- A key between two sides, balanced. -/
def bal (k : K) (v : Int) (l r : BT K) : BT K :=
  if 3 * (cnt l + 1) < cnt r + 1 then turnR k v l r
  else if 3 * (cnt r + 1) < cnt l + 1 then turnL k v r l
  else bet k v l r

theorem turnR_toL (k : K) (v : Int) (l r : BT K) (h : 3 * (cnt l + 1) < cnt r + 1) : (turnR k v l r).toL = l.toL ++ (k, v) :: r.toL := by
  cases r with
  | E => exfalso; simp [cnt] at h
  | N rk rv rs rl rr =>
    show (if 2 * (cnt rr + 1) ≤ cnt rl + 1 then inR k v l rk rv rr rl else bet rk rv (bet k v l rl) rr).toL = _
    by_cases g : 2 * (cnt rr + 1) ≤ cnt rl + 1
    · rw [if_pos g]
      cases rl with
      | E => exfalso; simp only [cnt] at g; omega
      | N ik iv is il ir => simp [inR, bet, toL]
    · rw [if_neg g]; simp [bet, toL]
theorem turnL_toL (k : K) (v : Int) (l r : BT K) (h : 3 * (cnt r + 1) < cnt l + 1) : (turnL k v r l).toL = l.toL ++ (k, v) :: r.toL := by
  cases l with
  | E => exfalso; simp [cnt] at h
  | N lk lv ls ll lr =>
    show (if 2 * (cnt ll + 1) ≤ cnt lr + 1 then inL k v r lk lv ll lr else bet lk lv ll (bet k v lr r)).toL = _
    by_cases g : 2 * (cnt ll + 1) ≤ cnt lr + 1
    · rw [if_pos g]
      cases lr with
      | E => exfalso; simp only [cnt] at g; omega
      | N ik iv is il ir => simp [inL, bet, toL]
    · rw [if_neg g]; simp [bet, toL]
theorem bal_toL (k : K) (v : Int) (l r : BT K) : (bal k v l r).toL = l.toL ++ (k, v) :: r.toL := by
  unfold bal
  split
  · exact turnR_toL k v l r (by assumption)
  · split
    · exact turnL_toL k v l r (by assumption)
    · rfl
theorem bal_ok (k : K) (v : Int) (l r : BT K) (hl : l.Ok) (hr : r.Ok) : (bal k v l r).Ok := by
  unfold bal
  by_cases g1 : 3 * (cnt l + 1) < cnt r + 1
  · rw [if_pos g1]
    cases r with
    | E => exact trivial
    | N rk rv rs rl rr =>
      obtain ⟨_, h1, h2⟩ := hr
      show (if 2 * (cnt rr + 1) ≤ cnt rl + 1 then inR k v l rk rv rr rl else bet rk rv (bet k v l rl) rr).Ok
      by_cases g : 2 * (cnt rr + 1) ≤ cnt rl + 1
      · rw [if_pos g]
        cases rl with
        | E => exact trivial
        | N ik iv is il ir => obtain ⟨_, h3, h4⟩ := h1; exact ⟨rfl, ⟨rfl, hl, h3⟩, ⟨rfl, h4, h2⟩⟩
      · rw [if_neg g]; exact ⟨rfl, ⟨rfl, hl, h1⟩, h2⟩
  · rw [if_neg g1]
    by_cases g2 : 3 * (cnt r + 1) < cnt l + 1
    · rw [if_pos g2]
      cases l with
      | E => exact trivial
      | N lk lv ls ll lr =>
        obtain ⟨_, h1, h2⟩ := hl
        show (if 2 * (cnt ll + 1) ≤ cnt lr + 1 then inL k v r lk lv ll lr else bet lk lv ll (bet k v lr r)).Ok
        by_cases g : 2 * (cnt ll + 1) ≤ cnt lr + 1
        · rw [if_pos g]
          cases lr with
          | E => exact trivial
          | N ik iv is il ir => obtain ⟨_, h3, h4⟩ := h2; exact ⟨rfl, ⟨rfl, h1, h3⟩, ⟨rfl, h4, hr⟩⟩
        · rw [if_neg g]; exact ⟨rfl, h1, ⟨rfl, h2, hr⟩⟩
    · rw [if_neg g2]; exact ⟨rfl, hl, hr⟩
theorem bal_cnt (k : K) (v : Int) (l r : BT K) (hl : l.Ok) (hr : r.Ok) : (bal k v l r).cnt = cnt l + 1 + cnt r := by
  rw [cnt_toL _ (bal_ok k v l r hl hr), bal_toL, List.length_append, List.length_cons, ← cnt_toL l hl, ← cnt_toL r hr]; omega

variable [DecidableEq K] (lt : K → K → Bool)
/-- v under k. -/
def wth (k : K) (v : Int) : BT K → BT K
  | E => N k v 1 E E
  | N nk nv s l r => if lt k nk = true then bal nk nv (wth k v l) r else if lt nk k = true then bal nk nv l (wth k v r) else N k v s l r
/-- The subtree of the key. -/
def fnd (k : K) : BT K → BT K
  | E => E
  | N nk nv s l r => if nk = k then N nk nv s l r else if lt k nk = true then fnd k l else fnd k r
/-- How many keys stand ahead. -/
def rnk (k : K) : BT K → Nat
  | E => 0
  | N nk _ _ l r => if lt nk k = true then cnt l + 1 + rnk k r else rnk k l
/-- The subtree at a place. -/
def atT : Nat → BT K → BT K
  | _, E => E
  | i, N nk nv s l r => if i < cnt l then atT i l else if cnt l < i then atT (i - (cnt l + 1)) r else N nk nv s l r
/-- Both sides of a key that goes. -/
def joinC (l r : BT K) (f : K → BT K) : BT K :=
  match r with
  | E => l
  | N a b c d e => match atT 0 (N a b c d e) with
    | E => E
    | N xk xv _ _ _ => bal xk xv l (f xk)
/-- Nothing under k. -/
def wtout : BT K → K → BT K
  | E, _ => E
  | N nk nv _ l r, k =>
    if lt k nk = true then bal nk nv (wtout l k) r
    else if lt nk k = true then bal nk nv l (wtout r k)
    else joinC l r (fun x => wtout r x)
end BT
end Go.Proofs.Ytbdnniaajiiimaa
