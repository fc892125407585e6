/- Plain laws on the order of texts: hexadecimal texts stand in the order of the bytes, those of Base32 in the order of the bytes turned about. -/
import Derived.Test.YtholbaefmncphacBackW
namespace Go.Proofs.Ytholbaefmncphac
open Go.RowKit

theorem less_irr : ∀ x : List UInt8, Op.bytesLess x x = false
  | [] => rfl
  | a :: x => by
    rw [Op.bytesLess, less_irr x]
    simp

theorem less_asym : ∀ x y : List UInt8, Op.bytesLess x y = true → Op.bytesLess y x = false
  | [], [], h => by simp [Op.bytesLess] at h
  | [], _ :: _, _ => rfl
  | _ :: _, [], h => by simp [Op.bytesLess] at h
  | a :: x, b :: y, h => by
    simp only [Op.bytesLess, Bool.or_eq_true, decide_eq_true_eq, Bool.and_eq_true, beq_iff_eq] at h
    rw [Op.bytesLess]
    rcases h with h | ⟨h, g⟩
    · have h1 : ¬ b < a := UInt8.not_lt.2 (UInt8.le_of_lt h)
      have h2 : (b == a) = false := by rw [beq_eq_false_iff_ne]; intro e; subst e; exact absurd h (UInt8.lt_irrefl _)
      rw [h2]
      simp [h1]
    · subst h
      rw [less_asym x y g]
      simp

theorem less_tri : ∀ x y : List UInt8, Op.bytesLess x y = true ∨ x = y ∨ Op.bytesLess y x = true
  | [], [] => .inr (.inl rfl)
  | [], _ :: _ => .inl rfl
  | _ :: _, [] => .inr (.inr rfl)
  | a :: x, b :: y => by
    simp only [Op.bytesLess, Bool.or_eq_true, decide_eq_true_eq, Bool.and_eq_true, beq_iff_eq]
    by_cases h1 : a < b
    · exact .inl (.inl h1)
    · by_cases h2 : b < a
      · exact .inr (.inr (.inl h2))
      · have e : a = b := UInt8.le_antisymm (UInt8.not_lt.1 h2) (UInt8.not_lt.1 h1)
        subst e
        rcases less_tri x y with h | h | h
        · exact .inl (.inr ⟨rfl, h⟩)
        · subst h; exact .inr (.inl rfl)
        · exact .inr (.inr (.inr ⟨rfl, h⟩))

/-- Where two lists first part. -/
theorem less_iff : ∀ x y : List UInt8, Op.bytesLess x y = true ↔ ∃ k, k ≤ x.length ∧ k < y.length ∧ (∀ j, j < k → x[j]? = y[j]?) ∧ (k = x.length ∨ (x.getD k 0).toNat < (y.getD k 0).toNat)
  | _, [] => by simp [Op.bytesLess]
  | [], b :: y => by
    simp only [Op.bytesLess, true_iff]
    exact ⟨0, by simp, by simp, fun j hj => absurd hj (by omega), .inl rfl⟩
  | a :: x, b :: y => by
    simp only [Op.bytesLess, Bool.or_eq_true, decide_eq_true_eq, Bool.and_eq_true, beq_iff_eq, less_iff x y]
    constructor
    · rintro (h | ⟨rfl, k, h1, h2, h3, h4⟩)
      · exact ⟨0, by simp, by simp, fun j hj => absurd hj (by omega), .inr (by simpa using UInt8.lt_iff_toNat_lt.1 h)⟩
      · refine ⟨k + 1, by simpa using h1, by simpa using h2, fun j hj => ?_, ?_⟩
        · cases j with
          | zero => rfl
          | succ j => simpa using h3 j (by omega)
        · rcases h4 with h4 | h4
          · left; simp [h4]
          · right; simpa using h4
    · rintro ⟨k, h1, h2, h3, h4⟩
      cases k with
      | zero =>
        left
        rcases h4 with h4 | h4
        · simp at h4
        · exact UInt8.lt_iff_toNat_lt.2 (by simpa using h4)
      | succ k =>
        right
        have h0 := h3 0 (by omega)
        simp at h0
        refine ⟨h0, k, by simpa using h1, by simpa using h2, fun j hj => ?_, ?_⟩
        · simpa using h3 (j + 1) (by omega)
        · rcases h4 with h4 | h4
          · left; simpa using h4
          · right; simpa using h4

/-- a stands before b. -/
def ls (a b : ByteArray) : Bool := Op.bytesLess a.toList b.toList

theorem toList_data (s : ByteArray) : s.toList = s.data.toList := ByteArray.toList_eq s

theorem data_getD (s : ByteArray) (k : Nat) : ((s.data.toList.getD k 0).toNat : Int) = bt s k := by
  unfold bt
  by_cases h : k < s.size
  · have h2 : k < s.data.toList.length := by simpa using h
    rw [dif_pos h, List.getD_eq_getElem?_getD, List.getElem?_eq_getElem h2]
    rfl
  · have h2 : s.data.toList.length ≤ k := by
      have : s.data.toList.length = s.size := by simp
      omega
    rw [dif_neg h, List.getD_eq_getElem?_getD, List.getElem?_eq_none h2]
    rfl

theorem ls_of (a b : ByteArray) (k : Nat) (h1 : k ≤ a.size) (h2 : k < b.size) (h3 : ∀ j, j < k → bt a j = bt b j) (h4 : k = a.size ∨ bt a k < bt b k) : ls a b = true := by
  unfold ls
  rw [toList_data, toList_data, less_iff]
  have la : a.data.toList.length = a.size := by simp
  have lb : b.data.toList.length = b.size := by simp
  refine ⟨k, by omega, by omega, fun j hj => ?_, ?_⟩
  · have e := h3 j hj
    rw [← data_getD, ← data_getD] at e
    have ha : j < a.data.toList.length := by omega
    have hb : j < b.data.toList.length := by omega
    rw [List.getD_eq_getElem?_getD, List.getD_eq_getElem?_getD, List.getElem?_eq_getElem ha, List.getElem?_eq_getElem hb] at e
    rw [List.getElem?_eq_getElem ha, List.getElem?_eq_getElem hb]
    congr 1
    apply UInt8.toNat_inj.1
    simp only [Option.getD_some] at e
    omega
  · rcases h4 with h4 | h4
    · left; omega
    · right
      rw [← data_getD, ← data_getD] at h4
      omega

theorem ls_to (a b : ByteArray) (h : ls a b = true) : ∃ k, k ≤ a.size ∧ k < b.size ∧ (∀ j, j < k → bt a j = bt b j) ∧ (k = a.size ∨ bt a k < bt b k) := by
  unfold ls at h
  rw [toList_data, toList_data, less_iff] at h
  have la : a.data.toList.length = a.size := by simp
  have lb : b.data.toList.length = b.size := by simp
  obtain ⟨k, h1, h2, h3, h4⟩ := h
  refine ⟨k, by omega, by omega, fun j hj => ?_, ?_⟩
  · rw [← data_getD, ← data_getD, List.getD_eq_getElem?_getD, List.getD_eq_getElem?_getD, h3 j hj]
  · rcases h4 with h4 | h4
    · left; omega
    · right
      rw [← data_getD, ← data_getD]
      omega

theorem ls_asym (a b : ByteArray) (h : ls a b = true) : ls b a = false := less_asym _ _ h
theorem ls_irr (a : ByteArray) : ls a a = false := less_irr _
theorem ls_tri (a b : ByteArray) : ls a b = true ∨ a = b ∨ ls b a = true := by
  rcases less_tri a.toList b.toList with h | h | h
  · exact .inl h
  · right; left
    rw [toList_data, toList_data] at h
    exact ByteArray.ext (Array.toList_inj.1 h)
  · exact .inr (.inr h)

theorem dig_lt (u v : Int) (h : u < v) (_h0 : 0 ≤ u) (_h1 : v < 16) : dig u < dig v := by unfold dig; split <;> split <;> omega

theorem hex_less (a b : ByteArray) (h : ls a b = true) : ls (hexStr a) (hexStr b) = true := by
  obtain ⟨k, h1, h2, h3, h4⟩ := ls_to a b h
  have sa := hexStr_size a
  have sb := hexStr_size b
  have heq : ∀ j, j < 2 * k → bt (hexStr a) j = bt (hexStr b) j := fun j hj => by
    rw [hexStr_bt a j (by omega), hexStr_bt b j (by omega)]
    unfold hexFn
    rw [h3 (j / 2) (by omega)]
  rcases h4 with h4 | h4
  · exact ls_of _ _ (2 * k) (by omega) (by omega) heq (.inl (by omega))
  · by_cases hk : k = a.size
    · exact ls_of _ _ (2 * k) (by omega) (by omega) heq (.inl (by omega))
    · have ba := bt_bd a k
      have bb := bt_bd b k
      by_cases hh : bt a k / 16 < bt b k / 16
      · refine ls_of _ _ (2 * k) (by omega) (by omega) heq (.inr ?_)
        rw [hexStr_bt a _ (by omega), hexStr_bt b _ (by omega)]
        unfold hexFn
        rw [if_pos (by omega), if_pos (by omega), show 2 * k / 2 = k from by omega]
        exact dig_lt _ _ hh (by omega) (by omega)
      · refine ls_of _ _ (2 * k + 1) (by omega) (by omega) (fun j hj => ?_) (.inr ?_)
        · by_cases e : j = 2 * k
          · rw [e, hexStr_bt a _ (by omega), hexStr_bt b _ (by omega)]
            unfold hexFn
            rw [if_pos (by omega), if_pos (by omega), show 2 * k / 2 = k from by omega, show bt a k / 16 = bt b k / 16 from by omega]
          · exact heq j (by omega)
        · rw [hexStr_bt a _ (by omega), hexStr_bt b _ (by omega)]
          unfold hexFn
          rw [if_neg (by omega), if_neg (by omega), show (2 * k + 1) / 2 = k from by omega]
          exact dig_lt _ _ (by omega) (by omega) (by omega)

theorem hex_order (a b : ByteArray) : ls (hexStr a) (hexStr b) = ls a b := by
  rcases ls_tri a b with h | h | h
  · rw [h, hex_less a b h]
  · subst h; rw [ls_irr, ls_irr]
  · rw [ls_asym b a h, ls_asym _ _ (hex_less b a h)]

/-- The lesser number parts from the greater at a highest digit. -/
theorem num_part (B : Nat) (f g : Nat → Nat) (n : Nat) (hB : 0 < B) (hf : ∀ i, i < n → f i < B) (hg : ∀ i, i < n → g i < B) (h : num B f n < num B g n) :
    ∃ t, t < n ∧ f t < g t ∧ ∀ j, t < j → j < n → f j = g j := by
  induction n with
  | zero => simp [num] at h
  | succ n ih =>
    rw [num, num] at h
    by_cases e : f n = g n
    · rw [e] at h
      obtain ⟨t, h1, h2, h3⟩ := ih (fun i hi => hf i (by omega)) (fun i hi => hg i (by omega)) (by omega)
      refine ⟨t, by omega, h2, fun j hj hn => ?_⟩
      by_cases q : j = n
      · rw [q, e]
      · exact h3 j hj (by omega)
    · refine ⟨n, by omega, ?_, fun j hj hn => by omega⟩
      have h1 := num_lt B g n hB (fun i hi => hg i (by omega))
      rcases Nat.lt_or_ge (f n) (g n) with q | q
      · exact q
      · have q2 : g n + 1 ≤ f n := by omega
        have h2 : (g n + 1) * B ^ n ≤ f n * B ^ n := Nat.mul_le_mul_right _ q2
        rw [Nat.add_mul, Nat.one_mul] at h2
        omega

def turnStr (s : ByteArray) : ByteArray := strFn s.size (fun j => bt s (s.size - 1 - j))
theorem turnStr_bt (s : ByteArray) (j : Nat) (h : j < s.size) : bt (turnStr s) j = bt s (s.size - 1 - j) := bt_strFn _ _ _ h (bt_bd _ _).1 (bt_bd _ _).2
theorem turnStr_size (s : ByteArray) : (turnStr s).size = s.size := strFn_size _ _

theorem turn_less (a b : ByteArray) (hs : a.size = b.size) (h : bnum a < bnum b) : ls (turnStr a) (turnStr b) = true := by
  unfold bnum at h
  rw [hs] at h
  obtain ⟨t, h1, h2, h3⟩ := num_part 256 _ _ b.size (by omega) (fun i _ => by have := bt_bd a i; omega) (fun i _ => by have := bt_bd b i; omega) h
  have sa := turnStr_size a
  have sb := turnStr_size b
  have ba := bt_bd a t
  have bb := bt_bd b t
  refine ls_of _ _ (b.size - 1 - t) (by omega) (by omega) (fun j hj => ?_) (.inr ?_)
  · rw [turnStr_bt a j (by omega), turnStr_bt b j (by omega), hs]
    have e := h3 (b.size - 1 - j) (by omega) (by omega)
    have c1 := bt_bd a (b.size - 1 - j)
    have c2 := bt_bd b (b.size - 1 - j)
    omega
  · rw [turnStr_bt a _ (by omega), turnStr_bt b _ (by omega), hs, show b.size - 1 - (b.size - 1 - t) = t from by omega]
    omega

theorem lt32_lt : ∀ u : Nat, u < 32 → ∀ v : Nat, v < 32 → u < v → lt32 u < lt32 v := by decide +kernel

theorem b32_less (a b : ByteArray) (hs : a.size = b.size) (h : bnum a < bnum b) : ls (b32Str a) (b32Str b) = true := by
  have h8 : 8 * b.size ≤ 5 * lf b.size := by unfold lf; omega
  have ea : num 32 (fun t => bnum a / 32 ^ t % 32) (lf b.size) = bnum a := by
    rw [num_of 32 _ _ (by omega)]
    exact Nat.mod_eq_of_lt (Nat.lt_of_lt_of_le (bnum_lt a) (by rw [hs]; exact pow_le_32 _ _ h8))
  have eb : num 32 (fun t => bnum b / 32 ^ t % 32) (lf b.size) = bnum b := by
    rw [num_of 32 _ _ (by omega)]
    exact Nat.mod_eq_of_lt (Nat.lt_of_lt_of_le (bnum_lt b) (pow_le_32 _ _ h8))
  have h' : num 32 (fun t => bnum a / 32 ^ t % 32) (lf b.size) < num 32 (fun t => bnum b / 32 ^ t % 32) (lf b.size) := by rw [ea, eb]; exact h
  obtain ⟨t, h1, h2, h3⟩ := num_part 32 _ _ (lf b.size) (by omega) (fun i _ => Nat.mod_lt _ (by omega)) (fun i _ => Nat.mod_lt _ (by omega)) h'
  have sa : (b32Str a).size = lf b.size := by rw [b32Str_size, hs]
  have sb := b32Str_size b
  refine ls_of _ _ (lf b.size - 1 - t) (by omega) (by omega) (fun j hj => ?_) (.inr ?_)
  · rw [b32Str_bt a j (by rw [hs]; omega), b32Str_bt b j (by omega), hs]
    have e : bnum a / 32 ^ (lf b.size - 1 - j) % 32 = bnum b / 32 ^ (lf b.size - 1 - j) % 32 := h3 (lf b.size - 1 - j) (by omega) (by omega)
    rw [e]
  · rw [b32Str_bt a _ (by rw [hs]; omega), b32Str_bt b _ (by omega), hs, show lf b.size - 1 - (lf b.size - 1 - t) = t from by omega]
    exact lt32_lt _ (Nat.mod_lt _ (by omega)) _ (Nat.mod_lt _ (by omega)) h2

theorem turn_order (a b : ByteArray) (hs : a.size = b.size) : ls (turnStr a) (turnStr b) = ls (b32Str a) (b32Str b) := by
  rcases Nat.lt_trichotomy (bnum a) (bnum b) with h | h | h
  · rw [turn_less a b hs h, b32_less a b hs h]
  · rw [bnum_inj hs h, ls_irr, ls_irr]
  · rw [ls_asym _ _ (turn_less b a hs.symm h), ls_asym _ _ (b32_less b a hs.symm h)]
#print axioms turn_order
#print axioms hex_order
end Go.Proofs.Ytholbaefmncphac
