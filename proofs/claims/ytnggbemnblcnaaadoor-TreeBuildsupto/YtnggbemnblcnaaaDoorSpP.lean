/- The pieces of a path, and what is wrong with the first that can't be: plain. -/
import Derived.Test.YtnggbemnblcnaaaDoorCkA
namespace Go.Proofs.YtnggbemnblcnaaaDoor
open Go.RowKit

def nxA (p : ByteArray) : Nat → Nat → Nat
  | 0, f => f
  | k + 1, f => if bt p f = 47 then f else nxA p k (f + 1)
/-- The first slash at f or behind it, or the end. -/
def nx (p : ByteArray) (f : Nat) : Nat := nxA p (p.size - f) f
theorem nxA_spec (p : ByteArray) (k f : Nat) : f ≤ nxA p k f ∧ nxA p k f ≤ f + k ∧ (∀ j, f ≤ j → j < nxA p k f → bt p j ≠ 47) ∧ (nxA p k f < f + k → bt p (nxA p k f) = 47) := by
  induction k generalizing f with
  | zero => exact ⟨Nat.le_refl _, Nat.le_refl _, fun j h1 h2 => by unfold nxA at h2; omega, fun h => by unfold nxA at h; omega⟩
  | succ k ih =>
    unfold nxA
    by_cases e : bt p f = 47
    · rw [if_pos e]
      exact ⟨Nat.le_refl _, by omega, fun j h1 h2 => by omega, fun _ => e⟩
    · rw [if_neg e]
      obtain ⟨i1, i2, i3, i4⟩ := ih (f + 1)
      refine ⟨by omega, by omega, fun j h1 h2 => ?_, fun h => i4 (by omega)⟩
      by_cases ej : j = f
      · rw [ej]; exact e
      · exact i3 j (by omega) h2
theorem nx_spec (p : ByteArray) (f : Nat) (hf : f ≤ p.size) : f ≤ nx p f ∧ nx p f ≤ p.size ∧ (∀ j, f ≤ j → j < nx p f → bt p j ≠ 47) ∧ (nx p f < p.size → bt p (nx p f) = 47) := by
  obtain ⟨h1, h2, h3, h4⟩ := nxA_spec p (p.size - f) f
  exact ⟨h1, by unfold nx; omega, h3, fun h => h4 (by unfold nx at h; omega)⟩
theorem nx_is (p : ByteArray) (f i : Nat) (hf : f ≤ i) (hi : i ≤ p.size) (h : ∀ j, f ≤ j → j < i → bt p j ≠ 47) (he : i < p.size → bt p i = 47) : nx p f = i := by
  obtain ⟨h1, h2, h3, h4⟩ := nx_spec p f (by omega)
  by_cases a : nx p f < i
  · exact absurd (h4 (by omega)) (h _ h1 a)
  · by_cases b : i < nx p f
    · exact absurd (he (by omega)) (h3 i hf b)
    · omega

/-- At most r slashes are taken for ends of pieces. -/
def pcs (p : ByteArray) : Nat → Nat → List ByteArray
  | 0, f => [p.extract f p.size]
  | r + 1, f => if nx p f = p.size then [p.extract f p.size] else p.extract f (nx p f) :: pcs p r (nx p f + 1)
theorem pcs_last (p : ByteArray) (r f : Nat) (h : nx p f = p.size) : pcs p r f = [p.extract f p.size] := by
  cases r with
  | zero => rfl
  | succ r => unfold pcs; rw [if_pos h]
theorem pcs_more (p : ByteArray) (r f : Nat) (h : nx p f ≠ p.size) : pcs p (r + 1) f = p.extract f (nx p f) :: pcs p r (nx p f + 1) := by rw [pcs, if_neg h]
theorem pcs_enough (p : ByteArray) (r r' f : Nat) (hf : f ≤ p.size) (h : p.size - f ≤ r) (h' : p.size - f ≤ r') : pcs p r f = pcs p r' f := by
  induction r generalizing f r' with
  | zero =>
    have : nx p f = p.size := by have := nx_spec p f hf; omega
    rw [pcs_last p 0 f this, pcs_last p r' f this]
  | succ r ih =>
    by_cases e : nx p f = p.size
    · rw [pcs_last p _ f e, pcs_last p _ f e]
    · obtain ⟨h1, h2, _, _⟩ := nx_spec p f hf
      cases r' with
      | zero => omega
      | succ r' => rw [pcs_more p r f e, pcs_more p r' f e, ih r' (nx p f + 1) (by omega) (by omega) (by omega)]
theorem pcs_pos (p : ByteArray) (r f : Nat) : 0 < (pcs p r f).length := by
  cases r with
  | zero => exact Nat.one_pos
  | succ r => unfold pcs; split <;> simp
theorem pcs_len (p : ByteArray) (r f : Nat) : (pcs p r f).length ≤ r + 1 := by
  induction r generalizing f with
  | zero => exact Nat.le_refl _
  | succ r ih => unfold pcs; split
                 · simp
                 · rw [List.length_cons]; have := ih (nx p f + 1); omega

/-- What is wrong with a piece, and where. -/
def scan : List ByteArray → Nat → Nat → Int × Int
  | [], _, _ => (0, 0)
  | x :: r, i, a => if 31 ≤ i then (61, (a : Int)) else if chk x = 0 then scan r (i + 1) (a + (x.size + 1)) else (chk x, (a : Int))
theorem scan_deep (x : ByteArray) (r : List ByteArray) (i a : Nat) (h : 31 ≤ i) : scan (x :: r) i a = (61, (a : Int)) := by unfold scan; rw [if_pos h]
theorem scan_bad (x : ByteArray) (r : List ByteArray) (i a : Nat) (h : i < 31) (hc : chk x ≠ 0) : scan (x :: r) i a = (chk x, (a : Int)) := by unfold scan; rw [if_neg (by omega), if_neg hc]
theorem scan_good (x : ByteArray) (r : List ByteArray) (i a : Nat) (h : i < 31) (hc : chk x = 0) : scan (x :: r) i a = scan r (i + 1) (a + (x.size + 1)) := by rw [scan, if_neg (by omega), if_pos hc]
theorem scan_bd (l : List ByteArray) (i a : Nat) (B : Nat) (hB : a + (l.map (fun x => x.size + 1)).sum ≤ B) : 0 ≤ (scan l i a).1 ∧ (scan l i a).1 ≤ 61 ∧ 0 ≤ (scan l i a).2 ∧ (scan l i a).2 ≤ B := by
  induction l generalizing i a with
  | nil => unfold scan; simp
  | cons x l ih =>
    rw [List.map_cons, List.sum_cons] at hB
    have cv := chk_vals x
    unfold scan
    split
    · simp; omega
    · split
      · exact ih (i + 1) (a + (x.size + 1)) (by omega)
      · simp; omega
theorem ext_size2 (p : ByteArray) (a b : Nat) (h1 : a ≤ b) (h2 : b ≤ p.size) : (p.extract a b).size = b - a := by rw [ByteArray.size_extract]; omega
theorem pcs_sum (p : ByteArray) (r f : Nat) (hf : f ≤ p.size) : ((pcs p r f).map (fun x => x.size + 1)).sum = p.size - f + 1 := by
  induction r generalizing f with
  | zero => unfold pcs; simp [ext_size2 p f p.size hf (Nat.le_refl _)]
  | succ r ih =>
    obtain ⟨h1, h2, _, _⟩ := nx_spec p f hf
    by_cases e : nx p f = p.size
    · rw [pcs_last p _ f e]; simp [ext_size2 p f p.size hf (Nat.le_refl _)]
    · rw [pcs_more p r f e, List.map_cons, List.sum_cons, ih (nx p f + 1) (by omega), ext_size2 p f _ h1 h2]; omega

/-- The first place of a byte. -/
theorem index_first (l : List UInt8) (c : UInt8) : (Lib.indexByte l c = -1 ∧ ∀ k (h : k < l.length), l[k] ≠ c) ∨ ∃ k : Nat, ∃ h : k < l.length, Lib.indexByte l c = k ∧ l[k] = c ∧ ∀ j (hj : j < k), l[j]'(by omega) ≠ c := by
  induction l with
  | nil => left; exact ⟨rfl, fun k h => by simp at h⟩
  | cons b l ih =>
    unfold Lib.indexByte
    by_cases e : b = c
    · right; exact ⟨0, by simp, by rw [if_pos (by simpa using e)]; rfl, e, fun j hj => by omega⟩
    · rw [if_neg (by simpa using e)]
      rcases ih with ⟨h1, h2⟩ | ⟨k, hk, h1, h2, h3⟩
      · left
        rw [if_pos (by simpa using h1)]
        refine ⟨rfl, fun k h => ?_⟩
        cases k with
        | zero => exact e
        | succ k => simp at h ⊢; exact h2 k (by omega)
      · right
        refine ⟨k + 1, by simp; omega, ?_, by simpa using h2, fun j hj => ?_⟩
        · rw [if_neg (by rw [h1]; simp <;> omega), h1]; omega
        · cases j with
          | zero => exact e
          | succ j => simp; exact h3 j (by omega)
theorem bt_ext (p : ByteArray) (a i : Nat) (hi : a + i < p.size) : bt (p.extract a p.size) i = bt p (a + i) := by
  have hz : (p.extract a p.size).size = p.size - a := by rw [ByteArray.size_extract]; omega
  rw [← get_bt p (a + i) hi, ← get_bt (p.extract a p.size) i (by omega)]
  rw [ByteArray.getElem_extract]
theorem idx_rest (p : ByteArray) (f : Nat) (hf : f ≤ p.size) : (nx p f = p.size ∧ Lib.indexByte (p.extract f p.size).data.toList 47 = -1) ∨ (nx p f < p.size ∧ Lib.indexByte (p.extract f p.size).data.toList 47 = ((nx p f - f : Nat) : Int)) := by
  have hz : (p.extract f p.size).size = p.size - f := by rw [ByteArray.size_extract]; omega
  have hb : ∀ k (h : k < (p.extract f p.size).data.toList.length), (((p.extract f p.size).data.toList[k]).toNat : Int) = bt p (f + k) := fun k h => by
    rw [← Lib.size_eq, hz] at h
    rw [← bt_ext p f k (by omega), ← get_bt (p.extract f p.size) k (by omega)]; rfl
  rcases index_first (p.extract f p.size).data.toList 47 with ⟨h1, h2⟩ | ⟨k, hk, h1, h2, h3⟩
  · left
    refine ⟨nx_is p f p.size hf (Nat.le_refl _) (fun j j1 j2 e => ?_) (fun h => by omega), h1⟩
    have hj : j - f < (p.extract f p.size).data.toList.length := by rw [← Lib.size_eq, hz]; omega
    have := hb (j - f) hj
    rw [show f + (j - f) = j by omega, e] at this
    exact h2 (j - f) hj (UInt8.toNat_inj.1 (by show _ = 47; omega))
  · right
    have hk' := hk
    rw [← Lib.size_eq, hz] at hk'
    have e : nx p f = f + k := nx_is p f (f + k) (by omega) (by omega) (fun j j1 j2 e => by
      have hj : j - f < k := by omega
      have := hb (j - f) (by omega)
      rw [show f + (j - f) = j by omega, e] at this
      exact h3 (j - f) hj (UInt8.toNat_inj.1 (by show _ = 47; omega))) (fun _ => by rw [← hb k hk, h2]; rfl)
    exact ⟨by omega, by rw [h1, e]; omega⟩
theorem ext_ext (p : ByteArray) (f a b : Nat) (hb : f + b ≤ p.size) : (p.extract f p.size).extract a b = p.extract (f + a) (f + b) := by
  rw [ByteArray.extract_extract]
  congr 1
  omega
theorem ext_rest (p : ByteArray) (f a : Nat) (hf : f + a ≤ p.size) : (p.extract f p.size).extract a (p.extract f p.size).size = p.extract (f + a) p.size := by
  have hz : (p.extract f p.size).size = p.size - f := by rw [ByteArray.size_extract]; omega
  rw [hz, ext_ext p f a (p.size - f) (by omega), show f + (p.size - f) = p.size by omega]

end Go.Proofs.YtnggbemnblcnaaaDoor
