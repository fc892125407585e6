/- Splitting and joining undo each other, for trees: plain (own text of the verifier). -/
import Derived.Test.YtmknnblogfpifaaDoorTxE
namespace Go.Proofs.YtmknnblogfpifaaDoor
open Go.RowKit

theorem scan_parts (L : List ByteArray) (i a : Nat) (h : (scan L i a).1 = 0) : (∀ x ∈ L, chk x = 0) ∧ (L = [] ∨ i + L.length ≤ 31) := by
  induction L generalizing i a with
  | nil => exact ⟨fun x hx => absurd hx (by simp), Or.inl rfl⟩
  | cons x r ih =>
    by_cases h31 : 31 ≤ i
    · rw [scan_deep x r i a h31] at h; exact absurd h (show ¬ (61 : Int) = 0 by decide)
    · by_cases hc : chk x = 0
      · rw [scan_good x r i a (by omega) hc] at h
        obtain ⟨h2, h3⟩ := ih _ _ h
        refine ⟨fun y hy => ?_, Or.inr ?_⟩
        · rcases List.mem_cons.1 hy with e | e
          · rw [e]; exact hc
          · exact h2 y e
        · rcases h3 with e | e
          · rw [e]; simp; omega
          · simp; omega
      · rw [scan_bad x r i a (by omega) hc] at h; exact absurd h hc
theorem scan_ok (L : List ByteArray) (i a : Nat) (h : ∀ x ∈ L, chk x = 0) (hl : i + L.length ≤ 31) : scan L i a = (0, 0) := by
  induction L generalizing i a with
  | nil => rfl
  | cons x r ih =>
    rw [List.length_cons] at hl
    rw [scan_good x r i a (by omega) (h x (by simp))]
    exact ih _ _ (fun y hy => h y (by simp [hy])) (by omega)

theorem ext_split (p : ByteArray) (f q : Nat) (hf : f ≤ q) (hq : q < p.size) (hb : bt p q = 47) : p.extract f q ++ ⟨#[47]⟩ ++ p.extract (q + 1) p.size = p.extract f p.size := by
  apply bytes_ext
  · rw [ByteArray.size_append, ByteArray.size_append, ext_size2 p f q hf (by omega), ext_size2 p (q + 1) p.size (by omega) (Nat.le_refl _), ext_size2 p f p.size (by omega) (Nat.le_refl _)]
    show q - f + 1 + _ = _; omega
  · intro k hk
    have s1 := ext_size2 p f q hf (by omega)
    have s2 := ext_size2 p (q + 1) p.size (by omega) (Nat.le_refl _)
    rw [ByteArray.size_append, ByteArray.size_append, s1, s2] at hk
    have hk' : k < q - f + 1 + (p.size - (q + 1)) := hk
    have e0 : bt (p.extract f p.size) k = bt p (f + k) := bt_ext p f k (by omega)
    rw [e0]
    have sz : (p.extract f q ++ ⟨#[47]⟩ ++ p.extract (q + 1) p.size).size = q - f + 1 + (p.size - (q + 1)) := by
      rw [ByteArray.size_append, ByteArray.size_append, s1, s2]; rfl
    rw [← get_bt _ k (by rw [sz]; exact hk')]
    have s3 : (p.extract f q ++ ⟨#[47]⟩).size = q - f + 1 := by rw [ByteArray.size_append, s1]; rfl
    by_cases h1 : k < q - f
    · rw [ByteArray.getElem_append_left (by rw [s3]; omega), ByteArray.getElem_append_left (by rw [s1]; exact h1), ByteArray.getElem_extract, ← get_bt p (f + k) (by omega)]
    · by_cases h2 : k = q - f
      · rw [ByteArray.getElem_append_left (by rw [s3]; omega), ByteArray.getElem_append_right (by rw [s1]; omega)]
        rw [show f + k = q by omega, hb]
        have : k - (p.extract f q).size = 0 := by rw [s1]; omega
        simp only [this]
        rfl
      · rw [ByteArray.getElem_append_right (by rw [s3]; omega), ByteArray.getElem_extract, ← get_bt p (f + k) (by omega)]
        congr 3
        rw [s3]; omega

theorem joinB_one (x : ByteArray) : joinB [x] = x := rfl
theorem joinB_cons (x : ByteArray) (L : List ByteArray) (h : L ≠ []) : joinB (x :: L) = x ++ ⟨#[47]⟩ ++ joinB L := by
  cases L with
  | nil => exact absurd rfl h
  | cons y r => rfl
theorem pcs_ne (p : ByteArray) (r f : Nat) : pcs p r f ≠ [] := fun e => by have := pcs_pos p r f; rw [e] at this; simp at this
theorem join_pcs (p : ByteArray) (r f : Nat) (hf : f ≤ p.size) : joinB (pcs p r f) = p.extract f p.size := by
  induction r generalizing f with
  | zero => exact joinB_one _
  | succ r ih =>
    by_cases e : nx p f = p.size
    · rw [pcs_last p _ f e]; exact joinB_one _
    · obtain ⟨h1, h2, _, h4⟩ := nx_spec p f hf
      rw [pcs_more p r f e, joinB_cons _ _ (pcs_ne _ _ _), ih (nx p f + 1) (by omega)]
      exact ext_split p f (nx p f) h1 (by omega) (h4 (by omega))

theorem chk_parts (x : ByteArray) (h : chk x = 0) : x.size ≠ 0 ∧ ∀ k, k < x.size → bt x k ≠ 47 := by
  unfold chk at h
  split at h
  · cases h
  · rename_i h1
    split at h
    · cases h
    · split at h
      · cases h
      · rename_i h3
        refine ⟨empty_size x (by simpa using h1), fun k hk e => h3 ?_⟩
        rw [Bool.or_eq_true]; left; exact (hasB_iff x 47).2 ⟨k, hk, e⟩

theorem bt_app_left (a b : ByteArray) (i : Nat) (hi : i < a.size) : bt (a ++ b) i = bt a i := by
  rw [← get_bt a i hi, ← get_bt (a ++ b) i (by rw [ByteArray.size_append]; omega), ByteArray.getElem_append_left hi]
theorem bt_app_right (a b : ByteArray) (i : Nat) (hi : i < b.size) : bt (a ++ b) (a.size + i) = bt b i := by
  rw [← get_bt b i hi, ← get_bt (a ++ b) (a.size + i) (by rw [ByteArray.size_append]; omega), ByteArray.getElem_append_right (by omega)]
  simp

theorem pcs_join (p : ByteArray) (L : List ByteArray) (r f : Nat) (hf : f ≤ p.size) (hL : L ≠ []) (hr : L.length ≤ r + 1) (hc : ∀ x ∈ L, chk x = 0) (he : p.extract f p.size = joinB L) : pcs p r f = L := by
  induction L generalizing r f with
  | nil => exact absurd rfl hL
  | cons x L ih =>
    obtain ⟨hx0, hxs⟩ := chk_parts x (hc x (by simp))
    have hsz : (p.extract f p.size).size = p.size - f := ext_size2 p f p.size hf (Nat.le_refl _)
    by_cases hl : L = []
    · subst hl
      rw [joinB_one] at he
      have hn : nx p f = p.size := nx_is p f p.size hf (Nat.le_refl _) (fun j j1 j2 e => by
        have := bt_ext p f (j - f) (by omega)
        rw [show f + (j - f) = j by omega, e, he] at this
        exact hxs (j - f) (by rw [← he, hsz]; omega) this) (fun h => by omega)
      rw [pcs_last p r f hn, he]
    · rw [joinB_cons x L hl] at he
      have hs2 : p.size - f = x.size + 1 + (joinB L).size := by rw [← hsz, he, ByteArray.size_append, ByteArray.size_append]; rfl
      have hb : ∀ i, i < x.size → bt p (f + i) = bt x i := fun i hi => by
        rw [← bt_ext p f i (by omega), he, ByteArray.append_assoc, bt_app_left _ _ i hi]
      have hb2 : bt p (f + x.size) = 47 := by
        rw [← bt_ext p f x.size (by omega), he, ByteArray.append_assoc]
        have := bt_app_right x (⟨#[47]⟩ ++ joinB L) 0 (by rw [ByteArray.size_append]; show 0 < 1 + _; omega)
        rw [Nat.add_zero] at this
        rw [this, bt_app_left _ _ 0 (by show 0 < 1; omega)]; decide +kernel
      have hn : nx p f = f + x.size := nx_is p f (f + x.size) (by omega) (by omega) (fun j j1 j2 e => by
        have := hb (j - f) (by omega)
        rw [show f + (j - f) = j by omega, e] at this
        exact hxs (j - f) (by omega) this.symm) (fun _ => hb2)
      have hlen : 0 < L.length := by cases L with
        | nil => exact absurd rfl hl
        | cons _ _ => simp
      rw [List.length_cons] at hr
      obtain ⟨r, rfl⟩ : ∃ r', r = r' + 1 := ⟨r - 1, by omega⟩
      have ex : p.extract f (f + x.size) = x := by
        apply bytes_ext
        · rw [ext_size2 p f (f + x.size) (by omega) (by omega)]; omega
        · intro k hk
          rw [ext_size2 p f (f + x.size) (by omega) (by omega)] at hk
          rw [← get_bt _ k (by rw [ext_size2 p f (f + x.size) (by omega) (by omega)]; exact hk), ByteArray.getElem_extract, get_bt p (f + k) (by omega)]
          exact hb k (by omega)
      have er : p.extract (f + x.size + 1) p.size = joinB L := by
        apply bytes_ext
        · rw [ext_size2 p _ p.size (by omega) (Nat.le_refl _)]; omega
        · intro k hk
          rw [ext_size2 p _ p.size (by omega) (Nat.le_refl _)] at hk
          rw [bt_ext p _ k (by omega), show f + x.size + 1 + k = f + (x.size + 1 + k) by omega, ← bt_ext p f _ (by omega), he]
          have := bt_app_right (x ++ ⟨#[47]⟩) (joinB L) k (by omega)
          rw [ByteArray.size_append] at this
          exact this
      rw [pcs_more p r f (by omega), hn, ex, ih r (f + x.size + 1) (by omega) hl (by omega) (fun y hy => hc y (by simp [hy])) er]

theorem spN_right : SpRight spN := by
  intro p ns h
  unfold spN at h
  split at h
  · rename_i hF
    cases h
    by_cases hz : p.size = 0
    · have e : pathN p = [] := by unfold pathN; rw [if_pos hz]
      rw [e]
      refine ⟨?_, fun x hx => absurd hx (by simp), by simp⟩
      show (⟨#[]⟩ : ByteArray) = p
      apply bytes_ext
      · exact hz.symm
      · intro k hk; exact absurd hk (by show ¬ k < 0; omega)
    · have e : pathN p = pcs p 31 0 := by unfold pathN; rw [if_neg hz, if_pos hF]
      have h2 : (scan (pcs p 31 0) 0 0).1 = 0 := by unfold pathF at hF; rw [if_neg hz] at hF; exact hF
      obtain ⟨h3, h4⟩ := scan_parts _ _ _ h2
      rw [e]
      refine ⟨by rw [join_pcs p 31 0 (Nat.zero_le _)]; simp, h3, ?_⟩
      rcases h4 with h4 | h4
      · rw [h4]; simp
      · omega
  · cases h
theorem joinB_pos (ns : List ByteArray) (h : ns ≠ []) (hc : ∀ s ∈ ns, chk s = 0) : (joinB ns).size ≠ 0 := by
  cases ns with
  | nil => exact absurd rfl h
  | cons x r =>
    have hx := (chk_parts x (hc x (by simp))).1
    cases r with
    | nil => exact hx
    | cons y r =>
      rw [joinB_cons x (y :: r) (by simp), ByteArray.size_append, ByteArray.size_append]
      omega
theorem spN_ok : SpOk spN := by
  intro ns hl hc
  unfold spN
  by_cases hn : ns = []
  · subst hn
    have hz : (joinB []).size = 0 := rfl
    have e1 : (pathF (joinB [])).1 = 0 := by unfold pathF; rw [if_pos hz]
    have e2 : pathN (joinB []) = [] := by unfold pathN; rw [if_pos hz]
    rw [if_pos e1, e2]
  · have hz := joinB_pos ns hn hc
    have hp : pcs (joinB ns) 31 0 = ns := pcs_join (joinB ns) ns 31 0 (Nat.zero_le _) hn (by omega) hc (by simp)
    have hs : scan (pcs (joinB ns) 31 0) 0 0 = (0, 0) := by rw [hp]; exact scan_ok ns 0 0 hc (by omega)
    have e1 : (pathF (joinB ns)).1 = 0 := by unfold pathF; rw [if_neg hz, hs]
    have e2 : pathN (joinB ns) = ns := by unfold pathN; rw [if_neg hz, if_pos e1, hp]
    rw [if_pos e1, e2]

end Go.Proofs.YtmknnblogfpifaaDoor
