/- Words and texts: plain (own text of the verifier). -/
import Derived.Test.YthodlcmmagjboaaDoorHexC
import Derived.Test.YthodlcmmagjboaaDoorReB
namespace Go.Proofs.YthodlcmmagjboaaDoor

/-- A digit's byte. -/
def dgB (n : Nat) : UInt8 := (dig n).toNat.toUInt8
/-- A byte in a word. -/
def eb (c : UInt8) : List UInt8 := if 32 < c.toNat ∧ c.toNat < 127 ∧ c.toNat ≠ 37 then [c] else [37, dgB (c.toNat / 16), dgB (c.toNat % 16)]
/-- A text as a word. -/
def eT (l : List UInt8) : List UInt8 := if l = [] then [37] else l.flatMap eb
/-- The byte of two digits. -/
def uh (a b : UInt8) : UInt8 := (16 * hv a.toNat + hv b.toNat).toNat.toUInt8
/-- What the bytes of a word stand for. -/
def pl : List UInt8 → Option (List UInt8)
  | [] => some []
  | c :: l =>
    if c = 37 then
      match l with
      | a :: b :: l' => if 0 ≤ hv a.toNat ∧ 0 ≤ hv b.toNat then (pl l').map (uh a b :: ·) else none
      | _ => none
    else (pl l).map (c :: ·)
/-- What a word stands for. -/
def wd (w : List UInt8) : Option (List UInt8) := if w = [37] then some [] else if w = [] then none else pl w

theorem pl_nil : pl [] = some [] := by rw [pl]
theorem pl_hex (a b : UInt8) (l : List UInt8) : pl (37 :: a :: b :: l) = if 0 ≤ hv a.toNat ∧ 0 ≤ hv b.toNat then (pl l).map (uh a b :: ·) else none := by rw [pl, if_pos rfl]
theorem pl_one : pl [37] = none := by rw [pl, if_pos rfl]; rintro a b l' ⟨⟩
theorem pl_two (a : UInt8) : pl [37, a] = none := by rw [pl, if_pos rfl]; rintro a b l' ⟨⟩
theorem pl_cons (c : UInt8) (l : List UInt8) (h : c ≠ 37) : pl (c :: l) = (pl l).map (c :: ·) := by
  conv => lhs; unfold pl
  rw [if_neg h]
theorem pl_app (p m : List UInt8) (h : 37 ∉ p) : pl (p ++ m) = (pl m).map (p ++ ·) := by
  induction p with
  | nil => simp
  | cons c p ih =>
    rw [List.cons_append, pl_cons c _ (fun e => h (by rw [e]; exact List.mem_cons_self)), ih (fun e => h (List.mem_cons_of_mem _ e))]
    cases pl m <;> simp
theorem pl_plain (p : List UInt8) (h : 37 ∉ p) : pl p = some p := by
  have := pl_app p [] h
  rw [List.append_nil, pl_nil] at this
  rw [this]; simp

theorem eb_nat : ∀ n : Nat, n < 256 → (∀ b ∈ eb n.toUInt8, 32 < b.toNat ∧ b.toNat < 127) ∧ (eb n.toUInt8 = [n.toUInt8] ∧ n.toUInt8 ≠ 37 ∨ ∃ a ∈ [eb n.toUInt8], (match a with | [p, x, y] => decide (p = 37 ∧ 0 ≤ hv x.toNat ∧ 0 ≤ hv y.toNat ∧ uh x y = n.toUInt8) | _ => false) = true) := by decide +kernel
theorem eb_spec (c : UInt8) : (∀ b ∈ eb c, 32 < b.toNat ∧ b.toNat < 127) ∧ (eb c = [c] ∧ c ≠ 37 ∨ ∃ x y, eb c = [37, x, y] ∧ 0 ≤ hv x.toNat ∧ 0 ≤ hv y.toNat ∧ uh x y = c) := by
  have h := eb_nat c.toNat c.toNat_lt
  have e : c.toNat.toUInt8 = c := by simp
  rw [e] at h
  refine ⟨h.1, ?_⟩
  rcases h.2 with g | ⟨a, ha, g⟩
  · exact Or.inl g
  · right
    simp only [List.mem_singleton] at ha
    split at g
    · rename_i p x y
      have g' := of_decide_eq_true g
      exact ⟨x, y, by rw [← ha, g'.1], g'.2.1, g'.2.2.1, g'.2.2.2⟩
    · cases g
theorem pl_eb (c : UInt8) (l : List UInt8) : pl (eb c ++ l) = (pl l).map (c :: ·) := by
  rcases (eb_spec c).2 with ⟨e, h⟩ | ⟨x, y, e, h1, h2, h3⟩
  · rw [e]; exact pl_cons c l h
  · rw [e]
    show pl (37 :: x :: y :: l) = _
    rw [pl_hex, if_pos ⟨h1, h2⟩, h3]
theorem pl_flat (l : List UInt8) : pl (l.flatMap eb) = some l := by
  induction l with
  | nil => exact pl_nil
  | cons c l ih => rw [List.flatMap_cons, pl_eb, ih]; rfl
theorem eb_pos (c : UInt8) : 0 < (eb c).length := by
  rcases (eb_spec c).2 with ⟨e, h⟩ | ⟨x, y, e, _⟩ <;> rw [e] <;> simp
theorem eb_le (c : UInt8) : (eb c).length ≤ 3 := by
  rcases (eb_spec c).2 with ⟨e, h⟩ | ⟨x, y, e, _⟩ <;> rw [e] <;> simp
theorem wd_eT (l : List UInt8) : wd (eT l) = some l := by
  unfold wd eT
  cases l with
  | nil => simp
  | cons c l =>
    rw [if_neg (List.cons_ne_nil c l)]
    have h1 : (c :: l).flatMap eb ≠ [] := by
      rw [List.flatMap_cons]
      intro e
      have h0 := congrArg List.length e
      rw [List.length_append, List.length_nil] at h0
      have h9 := eb_pos c
      omega
    have h2 : (c :: l).flatMap eb ≠ [37] := by
      rw [List.flatMap_cons]
      intro e
      rcases (eb_spec c).2 with ⟨k, h⟩ | ⟨x, y, k, _⟩
      · rw [k] at e
        injection e with e1 e2
        exact h e1
      · rw [k] at e
        have := congrArg List.length e
        simp at this
    rw [if_neg h2, if_neg h1]
    exact pl_flat _
theorem eT_bytes (l : List UInt8) : ∀ b ∈ eT l, 32 < b.toNat ∧ b.toNat < 127 := by
  unfold eT
  split
  · intro b hb
    simp only [List.mem_singleton] at hb
    subst hb
    decide
  · intro b hb
    obtain ⟨c, _, h⟩ := List.mem_flatMap.1 hb
    exact (eb_spec c).1 b h
theorem flat_le (l : List UInt8) : (l.flatMap eb).length ≤ 3 * l.length := by
  induction l with
  | nil => simp
  | cons c l ih => rw [List.flatMap_cons, List.length_append, List.length_cons]; have := eb_le c; omega
theorem eT_le (l : List UInt8) : (eT l).length ≤ 3 * l.length + 1 := by
  unfold eT
  split
  · simp
  · have := flat_le l; omega
theorem pl_le (n : Nat) (l t : List UInt8) (hn : l.length ≤ n) (h : pl l = some t) : t.length ≤ l.length := by
  induction n generalizing l t with
  | zero =>
    have : l = [] := List.eq_nil_of_length_eq_zero (by omega)
    subst this
    rw [pl_nil] at h
    cases h
    simp
  | succ n ih =>
    cases l with
    | nil => rw [pl_nil] at h; cases h; simp
    | cons c l =>
      by_cases e : c = 37
      · subst e
        match l, hn, h with
        | [], _, h => rw [pl_one] at h; cases h
        | [a], _, h => rw [pl_two] at h; cases h
        | a :: b :: l, hn, h =>
          rw [pl_hex] at h
          split at h
          · obtain ⟨u, hu, rfl⟩ := Option.map_eq_some_iff.1 h
            have := ih l u (by simp at hn; omega) hu
            simp; omega
          · cases h
      · rw [pl_cons c l e] at h
        obtain ⟨u, hu, rfl⟩ := Option.map_eq_some_iff.1 h
        have := ih l u (by simp at hn; omega) hu
        simp; omega

/-- The pieces between blanks. -/
def spl : List UInt8 → List (List UInt8)
  | [] => [[]]
  | c :: l => if c = 32 then [] :: spl l else match spl l with
    | [] => [[c]]
    | p :: r => (c :: p) :: r
theorem spl_pos (l : List UInt8) : spl l ≠ [] := by
  cases l with
  | nil => rw [spl]; simp
  | cons c l =>
    rw [spl]
    split
    · simp
    · split <;> simp
theorem spl_app (a l : List UInt8) (h : 32 ∉ a) : spl (a ++ 32 :: l) = a :: spl l := by
  induction a with
  | nil => rw [List.nil_append, spl, if_pos rfl]
  | cons c a ih =>
    rw [List.cons_append, spl, if_neg (fun e => h (by rw [e]; exact List.mem_cons_self)), ih (fun e => h (List.mem_cons_of_mem _ e))]
theorem spl_last (a : List UInt8) (h : 32 ∉ a) : spl a = [a] := by
  induction a with
  | nil => rw [spl]
  | cons c a ih =>
    rw [spl, if_neg (fun e => h (by rw [e]; exact List.mem_cons_self)), ih (fun e => h (List.mem_cons_of_mem _ e))]
theorem spl_len (l : List UInt8) : (spl l).length ≤ l.length + 1 := by
  induction l with
  | nil => rw [spl]; simp
  | cons c l ih =>
    rw [spl]
    split
    · simp; omega
    · split
      · simp
      · rename_i p r e; rw [e] at ih; simp at ih ⊢; omega
/-- What the words of a line stand for. -/
def wds : List (List UInt8) → Option (List (List UInt8))
  | [] => some []
  | w :: r => match wd w with
    | none => none
    | some t => (wds r).map (t :: ·)
theorem wds_app (A B : List (List UInt8)) (T : List (List UInt8)) (h : wds A = some T) : wds (A ++ B) = (wds B).map (T ++ ·) := by
  induction A generalizing T with
  | nil => rw [wds] at h; cases h; simp
  | cons a A ih =>
    rw [wds] at h
    rw [List.cons_append, wds]
    cases hw : wd a with
    | none => rw [hw] at h; cases h
    | some t =>
      rw [hw] at h
      obtain ⟨U, hU, rfl⟩ := Option.map_eq_some_iff.1 h
      show (wds (A ++ B)).map _ = _
      rw [ih U hU]
      cases wds B <;> simp
/-- Words with blanks between. -/
def jn : List (List UInt8) → List UInt8
  | [] => []
  | [a] => a
  | a :: b :: r => a ++ 32 :: jn (b :: r)
theorem spl_jn (L : List (List UInt8)) (hL : L ≠ []) (h : ∀ a ∈ L, 32 ∉ a) : spl (jn L) = L := by
  induction L with
  | nil => exact absurd rfl hL
  | cons a L ih =>
    cases L with
    | nil => rw [jn]; exact spl_last a (h a List.mem_cons_self)
    | cons b r =>
      rw [jn, spl_app a _ (h a List.mem_cons_self), ih (by simp) (fun x hx => h x (List.mem_cons_of_mem _ hx))]
theorem wds_eT (L : List (List UInt8)) : wds (L.map eT) = some L := by
  induction L with
  | nil => rfl
  | cons a L ih => rw [List.map_cons, wds, wd_eT, ih]; rfl
theorem eT_blank (l : List UInt8) : (32 : UInt8) ∉ eT l := fun h => by
  have := (eT_bytes l 32 h).1
  revert this
  decide
/-- The words of a line that was made of words. -/
theorem wds_jn (L : List (List UInt8)) (hL : L ≠ []) : wds (spl (jn (L.map eT))) = some L := by
  rw [spl_jn _ (by simpa using hL) (fun a ha => by obtain ⟨t, _, rfl⟩ := List.mem_map.1 ha; exact eT_blank t)]
  exact wds_eT L
theorem jn_snoc (L : List (List UInt8)) (a : List UInt8) (h : L ≠ []) : jn (L ++ [a]) = jn L ++ 32 :: a := by
  induction L with
  | nil => exact absurd rfl h
  | cons b L ih =>
    cases L with
    | nil => rfl
    | cons c r =>
      have := ih (by simp)
      rw [List.cons_append, List.cons_append, jn, ← List.cons_append, this, jn, List.append_assoc]
      rfl

end Go.Proofs.YthodlcmmagjboaaDoor
