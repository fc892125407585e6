/- Pure: the first place of a byte; signatures; what Check says of an info. -/
import Derived.Test.YtjhbfkckkinfjaaDoorInA
import Derived.Lib.IndexLaws
namespace Go.Proofs.YtjhbfkckkinfjaaDoor
open Go.RowKit

/-- The first place of the byte c, or the text's length. -/
def fst (s : ByteArray) (c : Int) : Nat := s.data.toList.findIdx (fun b => (b.toNat : Int) == c)
theorem bt_list (s : ByteArray) (k : Nat) (h : k < s.size) : ∃ b, s.data.toList[k]? = some b ∧ (b.toNat : Int) = bt s k := by
  refine ⟨s[k]'h, ?_, get_bt s k h⟩
  have hk : k < s.data.size := h
  rw [Array.getElem?_toList, Array.getElem?_eq_getElem hk]
  rfl
theorem fst_le (s : ByteArray) (c : Int) : fst s c ≤ s.size := by
  have := List.findIdx_le_length (xs := s.data.toList) (p := fun b => (b.toNat : Int) == c)
  simpa [fst] using this
theorem fst_at {s : ByteArray} {c : Int} (h : fst s c < s.size) : bt s (fst s c) = c := by
  obtain ⟨b, hb, e⟩ := bt_list s _ h
  have hl : s.data.toList.findIdx (fun b => (b.toNat : Int) == c) < s.data.toList.length := by simpa [fst] using h
  have := List.findIdx_getElem (w := hl)
  obtain ⟨h1, h2⟩ := List.getElem?_eq_some_iff.1 hb
  rw [← e, ← h2]
  simpa [fst] using this
theorem fst_ne {s : ByteArray} {c : Int} {k : Nat} (h : k < fst s c) : bt s k ≠ c := by
  have hk : k < s.size := Nat.lt_of_lt_of_le h (fst_le s c)
  obtain ⟨b, hb, e⟩ := bt_list s k hk
  obtain ⟨h1, h2⟩ := List.getElem?_eq_some_iff.1 hb
  have := List.not_of_lt_findIdx (p := fun (b : UInt8) => (b.toNat : Int) == c) (xs := s.data.toList) (i := k) h
  intro he
  rw [h2, e, he] at this
  simp at this
theorem fst_uniq {s : ByteArray} {c : Int} {k : Nat} (hk : k ≤ s.size) (h : ∀ j, j < k → bt s j ≠ c) (h2 : k = s.size ∨ bt s k = c) : fst s c = k := by
  have h3 := fst_le s c
  by_cases h4 : fst s c < k
  · exact absurd (fst_at (by omega)) (h _ h4)
  · by_cases h5 : k < fst s c
    · rcases h2 with h2 | h2
      · omega
      · exact absurd h2 (fst_ne h5)
    · omega
theorem u8_cast (c : Int) (h0 : 0 ≤ c) (h1 : c < 256) : ((c.toNat.toUInt8).toNat : Int) = c := by
  have : c.toNat.toUInt8.toNat = c.toNat % 256 := by simp [Nat.toUInt8]
  rw [this]; omega
/-- strings.IndexByte's answer. -/
def ixI (s : ByteArray) (c : Int) : Int := if fst s c < s.size then fst s c else -1
theorem ib_fst (s : ByteArray) (c : Int) (h0 : 0 ≤ c) (h1 : c < 256) : Lib.indexByte s.data.toList c.toNat.toUInt8 = ixI s c := by
  have hge := Lib.indexByte_ge s.data.toList c.toNat.toUInt8
  unfold ixI
  by_cases hn : Lib.indexByte s.data.toList c.toNat.toUInt8 = -1
  · have := Lib.indexByte_none hn
    rw [if_neg, hn]
    intro hlt
    obtain ⟨b, hb, e⟩ := bt_list s _ hlt
    rw [fst_at hlt] at e
    apply this (fst s c)
    rw [hb]
    congr 1
    apply UInt8.toNat_inj.1
    have := u8_cast c h0 h1
    omega
  · obtain ⟨o, ho⟩ : ∃ o : Nat, Lib.indexByte s.data.toList c.toNat.toUInt8 = o := ⟨(Lib.indexByte s.data.toList c.toNat.toUInt8).toNat, by omega⟩
    obtain ⟨h2, h3⟩ := Lib.indexByte_some ho
    obtain ⟨hl, hg⟩ := List.getElem?_eq_some_iff.1 h2
    have hl' : o < s.size := by simpa using hl
    have e : fst s c = o := by
      apply fst_uniq (by omega)
      · intro j hj he
        obtain ⟨b, hb, e⟩ := bt_list s j (by omega)
        apply h3 j hj
        rw [hb]
        congr 1
        apply UInt8.toNat_inj.1
        have := u8_cast c h0 h1
        rw [he] at e
        omega
      · right
        obtain ⟨b, hb, e⟩ := bt_list s o hl'
        rw [h2] at hb
        cases hb
        rw [← e]
        exact u8_cast c h0 h1
    rw [e, if_pos hl', ho]
theorem ixI_yes {s : ByteArray} {c : Int} (h : fst s c < s.size) : ixI s c = fst s c := if_pos h
theorem ixI_no {s : ByteArray} {c : Int} (h : ¬ fst s c < s.size) : ixI s c = -1 := if_neg h

/-- Fifty-two letters of a digest. -/
def dOk (t : ByteArray) : Prop := t.size = 52 ∧ fbErr t = 0
instance (t : ByteArray) : Decidable (dOk t) := inferInstanceAs (Decidable (_ ∧ _))
theorem fbStr_size {t : ByteArray} (h : fbErr t = 0) : (fbStr t).size = 5 * t.size / 8 := by unfold fbStr; rw [if_pos h, strFn_size]
theorem dOk_iff (t : ByteArray) : dOk t ↔ fbErr t = 0 ∧ (fbStr t).size = 32 := by
  constructor
  · intro h
    refine ⟨h.2, ?_⟩
    rw [fbStr_size h.2, h.1]
  · intro h
    have h2 := h.2
    rw [fbStr_size h.1] at h2
    exact ⟨by omega, h.1⟩
/-- The digest, or noughts. -/
def dFn (t : ByteArray) (j : Nat) : Int := if dOk t then bt (fbStr t) j else 0
theorem dFn_yes {t : ByteArray} (h : dOk t) : dFn t = bt (fbStr t) := by funext j; unfold dFn; rw [if_pos h]
theorem dFn_no {t : ByteArray} (h : ¬ dOk t) : dFn t = fun _ => 0 := by funext j; unfold dFn; rw [if_neg h]

/-- A signature's two parts. -/
def snA (s : ByteArray) : ByteArray := s.extract 0 (fst s 58)
def snB (s : ByteArray) : ByteArray := s.extract (fst s 58 + 1) s.size
def snOk (s : ByteArray) : Prop := fst s 58 < s.size ∧ sgOk (snA s) ∧ dOk (snB s)
instance (s : ByteArray) : Decidable (snOk s) := inferInstanceAs (Decidable (_ ∧ _ ∧ _))
def snC (s : ByteArray) : Int := if snOk s then 0 else 151
def snN (s : ByteArray) : ByteArray := if snOk s then snA s else ⟨#[]⟩
def snD (s : ByteArray) (j : Nat) : Int := if snOk s then bt (fbStr (snB s)) j else 0
theorem snC_yes {s : ByteArray} (h : snOk s) : snC s = 0 := if_pos h
theorem snC_no {s : ByteArray} (h : ¬ snOk s) : snC s = 151 := if_neg h
theorem snN_yes {s : ByteArray} (h : snOk s) : snN s = snA s := if_pos h
theorem snN_no {s : ByteArray} (h : ¬ snOk s) : snN s = ⟨#[]⟩ := if_neg h
theorem snD_yes {s : ByteArray} (h : snOk s) : snD s = bt (fbStr (snB s)) := by funext j; unfold snD; rw [if_pos h]
theorem snD_no {s : ByteArray} (h : ¬ snOk s) : snD s = fun _ => 0 := by funext j; unfold snD; rw [if_neg h]
theorem snC_cases (s : ByteArray) : (snOk s ∧ snC s = 0) ∨ (¬ snOk s ∧ snC s = 151) := by
  by_cases h : snOk s
  · exact Or.inl ⟨h, snC_yes h⟩
  · exact Or.inr ⟨h, snC_no h⟩

/-- The first k signatures are ones, rising. -/
def ssOk (f : Nat → ByteArray) (k : Nat) : Prop := ∀ i, i < k → snC (f i) = 0 ∧ (0 < i → Op.bytesLess (f (i - 1)).toList (f i).toList = true)
instance (f : Nat → ByteArray) (k : Nat) : Decidable (ssOk f k) := inferInstanceAs (Decidable (∀ i, i < k → _))
def ssC (f : Nat → ByteArray) (n : Nat) : Int := if ssOk f n then 0 else 151
theorem ssC_no {f : Nat → ByteArray} {n : Nat} (g : ¬ ssOk f n) : ssC f n = 151 := if_neg g
theorem ssC_yes {f : Nat → ByteArray} {n : Nat} (g : ssOk f n) : ssC f n = 0 := if_pos g
theorem ssOk_succ {f : Nat → ByteArray} {k : Nat} (h : ssOk f k) (h1 : snC (f k) = 0) (h2 : 0 < k → Op.bytesLess (f (k - 1)).toList (f k).toList = true) : ssOk f (k + 1) := fun i hi => by
  by_cases e : i = k
  · rw [e]; exact ⟨h1, h2⟩
  · exact h i (by omega)

/-- May sign stand behind n signatures? -/
def nxC (f : Nat → ByteArray) (n : Nat) (s : ByteArray) : Int := if snC s = 0 ∧ (0 < n → Op.bytesLess (f (n - 1)).toList s.toList = true) then 0 else 151
theorem nxC_yes {f : Nat → ByteArray} {n : Nat} {s : ByteArray} (h : snC s = 0) (g : 0 < n → Op.bytesLess (f (n - 1)).toList s.toList = true) : nxC f n s = 0 := if_pos ⟨h, g⟩
theorem nxC_no1 {f : Nat → ByteArray} {n : Nat} {s : ByteArray} (h : snC s ≠ 0) : nxC f n s = 151 := if_neg (fun a => h a.1)
theorem nxC_no2 {f : Nat → ByteArray} {n : Nat} {s : ByteArray} (h0 : 0 < n) (h : Op.bytesLess (f (n - 1)).toList s.toList = false) : nxC f n s = 151 := if_neg (fun a => by rw [a.2 h0] at h; exact Bool.noConfusion h)
theorem nxC_cases (f : Nat → ByteArray) (n : Nat) (s : ByteArray) : (nxC f n s = 0 ∧ snC s = 0 ∧ (0 < n → Op.bytesLess (f (n - 1)).toList s.toList = true)) ∨ (nxC f n s = 151 ∧ ¬ (snC s = 0 ∧ (0 < n → Op.bytesLess (f (n - 1)).toList s.toList = true))) := by
  unfold nxC
  split
  · rename_i h; exact Or.inl ⟨rfl, h⟩
  · rename_i h; exact Or.inr ⟨rfl, h⟩

/-- An error, or the next. -/
def orC (a b : Int) : Int := if a = 0 then b else a
theorem orC_z {a : Int} (h : a = 0) (b : Int) : orC a b = b := if_pos h
theorem orC_n {a : Int} (h : a ≠ 0) (b : Int) : orC a b = a := if_neg h
def szC (z : Int) : Int := if 0 ≤ z ∧ z ≤ 1048576 then 0 else 152
theorem szC_yes {z : Int} (h : 0 ≤ z) (g : z ≤ 1048576) : szC z = 0 := if_pos ⟨h, g⟩
theorem szC_no {z : Int} (h : ¬ (0 ≤ z ∧ z ≤ 1048576)) : szC z = 152 := if_neg h
def frC (s : ByteArray) : Int := if s.size = 0 then 0 else prC s
theorem frC_z {s : ByteArray} (h : s.size = 0) : frC s = 0 := if_pos h
theorem frC_n {s : ByteArray} (h : s.size ≠ 0) : frC s = prC s := if_neg h
/-- What is wrong but for the signatures. -/
def unC (P : ByteArray) (z : Int) (fr : Nat → ByteArray) (nr : Nat) (F : ByteArray) : Int := orC (prC P) (orC (szC z) (orC (crf fr nr) (frC F)))
def ckC (P : ByteArray) (z : Int) (fr : Nat → ByteArray) (nr : Nat) (F : ByteArray) (fs : Nat → ByteArray) (ns : Nat) : Int := orC (unC P z fr nr F) (ssC fs ns)

end Go.Proofs.YtjhbfkckkinfjaaDoor
