/- Gathered: IpD IpE IpF IpG IpH IpI IoG IrW. -/
import Derived.BigFrame
import Derived.Test.YtgnlkggodchlbaaDoorQl
import Derived.Test.YtgnlkggodchlbaaDoorQm
/- The other way, parts: a line that is printed is read as it was; plain. -/
namespace Go.Proofs.YtgnlkggodchlbaaDoor
open Go.RowKit Go.Shelf

theorem app_left (h x : ByteArray) : (h ++ x).extract 0 h.size = h := by
  refine bytes_ext ?_ (fun k hk => ?_)
  · rw [ByteArray.size_extract, ByteArray.size_append]; omega
  · rw [ByteArray.size_extract, ByteArray.size_append] at hk
    rw [bt_extract _ _ _ _ (by omega) (by rw [ByteArray.size_append]; omega), Nat.zero_add, bt_append, if_pos (by omega)]
theorem app_right (h x : ByteArray) : (h ++ x).extract h.size (h ++ x).size = x := by
  refine bytes_ext ?_ (fun k hk => ?_)
  · rw [ByteArray.size_extract, ByteArray.size_append]; omega
  · rw [ByteArray.size_extract, ByteArray.size_append] at hk
    rw [bt_extract _ _ _ _ (by rw [ByteArray.size_append]; omega) (Nat.le_refl _), bt_append, if_neg (by omega), Nat.add_sub_cancel_left]
theorem hpQ_app (h x : ByteArray) : hpQ (h ++ x) h = true := by
  unfold hpQ
  rw [app_left, Bool.and_eq_true]
  exact ⟨decide_eq_true (by rw [ByteArray.size_append]; omega), by simp⟩
theorem cpQ_app (h x : ByteArray) : cpQ (h ++ x) h = x := by rw [cpQ_yes (hpQ_app h x), app_right]
/-- A text without an end of line, that end, and the rest. -/
theorem fst_line (l r : ByteArray) (h : ∀ k, k < l.size → bt l k ≠ 10) : fst (l ++ nl ++ r) 10 = l.size := by
  have hs : (l ++ nl ++ r).size = l.size + 1 + r.size := by rw [ByteArray.size_append, ByteArray.size_append]; rfl
  refine fst_uniq (by omega) (fun j hj => ?_) (Or.inr ?_)
  · rw [bt_append, if_pos (by rw [ByteArray.size_append]; omega), bt_append, if_pos hj]
    exact h j hj
  · rw [bt_append, if_pos (by rw [ByteArray.size_append]; show l.size < l.size + 1; omega), bt_append, if_neg (by omega), Nat.sub_self]
    decide +kernel
theorem ct_line (l r : ByteArray) (h : ∀ k, k < l.size → bt l k ≠ 10) : ctA (l ++ nl ++ r) 10 = l ∧ ctB (l ++ nl ++ r) 10 = r ∧ ctF (l ++ nl ++ r) 10 = true := by
  have hf := fst_line l r h
  have hs : (l ++ nl ++ r).size = l.size + 1 + r.size := by rw [ByteArray.size_append, ByteArray.size_append]; rfl
  have hlt : fst (l ++ nl ++ r) 10 < (l ++ nl ++ r).size := by omega
  have e1 : (l ++ nl).size = l.size + 1 := by rw [ByteArray.size_append]; rfl
  refine ⟨?_, ?_, decide_eq_true hlt⟩
  · unfold ctA
    rw [if_pos hlt, hf, ByteArray.append_assoc, app_left]
  · unfold ctB
    rw [if_pos hlt, hf, ← e1, app_right]
theorem rp_back {P h : ByteArray} (g : prC P = 0) : rpC (h ++ P) h = 0 ∧ rpS (h ++ P) h = P := by
  have e : rpC (h ++ P) h = 0 := by rw [rpC_yes (hpQ_app h P), cpQ_app]; exact g
  exact ⟨e, by unfold rpS; rw [if_pos e, cpQ_app]⟩
theorem rs_back {L : List ByteArray} {s : ByteArray} (g : nxC (Sq.nth L) L.length s = 0) : rsC L (hdS ++ s) = 0 ∧ rsS (hdS ++ s) = s := by
  have e : rsS (hdS ++ s) = s := cpQ_app hdS s
  refine ⟨?_, e⟩
  unfold rsC
  rw [if_pos (hpQ_app hdS s), e]
  exact g
theorem b32_len (D : Nat → Int) : (b32Str (strFn 32 D)).size = 52 := by
  rw [b32Str_size, strFn_size]; decide
theorem rh_back (D : Nat → Int) (h : ∀ j, j < 32 → 0 ≤ D j ∧ D j < 256) : rhC (hdH ++ b32Str (strFn 32 D)) = 0 ∧ ∀ j, j < 32 → rhD (hdH ++ b32Str (strFn 32 D)) j = D j := by
  obtain ⟨b1, b2⟩ := b32_back (strFn 32 D)
  have hd : dOk (cpQ (hdH ++ b32Str (strFn 32 D)) hdH) := by rw [cpQ_app]; exact ⟨b32_len D, b2⟩
  have hc := rhC_yes (hpQ_app hdH (b32Str (strFn 32 D))) hd
  refine ⟨hc, fun j hj => ?_⟩
  unfold rhD
  rw [if_pos hc, dFn_yes hd, cpQ_app, b1, bt_strFn 32 D j hj (h j hj).1 (h j hj).2]

end Go.Proofs.YtgnlkggodchlbaaDoor
/- A number's digits are that number; lines hold no end of line; plain. -/
namespace Go.Proofs.YtgnlkggodchlbaaDoor
open Go.RowKit Go.Shelf

def dgB (u : Nat) : ByteArray := ⟨(Lib.decDigits u).toArray⟩
theorem bt_one (n : Nat) (h : n < 256) : bt ⟨#[UInt8.ofNat n]⟩ 0 = n := by
  unfold bt
  rw [dif_pos (show 0 < (⟨#[UInt8.ofNat n]⟩ : ByteArray).size from by show 0 < 1; omega)]
  show (((UInt8.ofNat n).toNat : Nat) : Int) = n
  rw [UInt8.toNat_ofNat', Nat.mod_eq_of_lt h]
theorem dgB_small {u : Nat} (h : u < 10) : dgB u = ⟨#[UInt8.ofNat (48 + u)]⟩ := by unfold dgB; rw [Lib.decDigits_one h]
theorem dgB_big {u : Nat} (h : ¬ u < 10) : dgB u = dgB (u / 10) ++ ⟨#[UInt8.ofNat (48 + u % 10)]⟩ := by
  unfold dgB
  rw [Lib.decDigits, dif_neg h]
  apply ByteArray.ext
  apply Array.toList_inj.1
  simp
theorem nv_congr {a b : ByteArray} {n : Nat} (h : ∀ k, k < n → bt a k = bt b k) : nv a n = nv b n := by
  induction n with
  | zero => rfl
  | succ n ih => show 10 * nv a n + (bt a n - 48) = 10 * nv b n + (bt b n - 48); rw [ih (fun k hk => h k (by omega)), h n (by omega)]
theorem dgB_ok (u : Nat) : (dgB u).size ≠ 0 ∧ (∀ k, k < (dgB u).size → 48 ≤ bt (dgB u) k ∧ bt (dgB u) k ≤ 57) ∧ nv (dgB u) (dgB u).size = u ∧ (bt (dgB u) 0 = 48 → u = 0) := by
  induction u using Nat.strongRecOn with
  | _ u ih =>
    by_cases h : u < 10
    · rw [dgB_small h]
      have b := bt_one (48 + u) (by omega)
      have hs : (⟨#[UInt8.ofNat (48 + u)]⟩ : ByteArray).size = 1 := rfl
      rw [hs]
      refine ⟨by decide, fun k hk => ?_, ?_, fun e => by rw [b] at e; omega⟩
      · obtain rfl : k = 0 := by omega
        rw [b]; omega
      · show 10 * 0 + (bt _ 0 - 48) = _
        rw [b]; omega
    · obtain ⟨i1, i2, i3, i4⟩ := ih (u / 10) (by omega)
      rw [dgB_big h]
      have hs : (dgB (u / 10) ++ ⟨#[UInt8.ofNat (48 + u % 10)]⟩ : ByteArray).size = (dgB (u / 10)).size + 1 := by rw [ByteArray.size_append]; rfl
      have b := bt_one (48 + u % 10) (by omega)
      have bl : bt (dgB (u / 10) ++ ⟨#[UInt8.ofNat (48 + u % 10)]⟩) (dgB (u / 10)).size = ((48 + u % 10 : Nat) : Int) := by rw [bt_append, if_neg (by omega), Nat.sub_self]; exact b
      have bk : ∀ k, k < (dgB (u / 10)).size → bt (dgB (u / 10) ++ ⟨#[UInt8.ofNat (48 + u % 10)]⟩) k = bt (dgB (u / 10)) k := fun k hk => by rw [bt_append, if_pos hk]
      rw [hs]
      refine ⟨by omega, fun k hk => ?_, ?_, fun e => ?_⟩
      · by_cases e : k < (dgB (u / 10)).size
        · rw [bk k e]; exact i2 k e
        · obtain rfl : k = (dgB (u / 10)).size := by omega
          rw [bl]; omega
      · show 10 * nv _ (dgB (u / 10)).size + (bt _ (dgB (u / 10)).size - 48) = _
        rw [nv_congr bk, i3, bl]
        omega
      · rw [bk 0 (by omega)] at e
        have := i4 e
        omega
theorem itB_dg {z : Int} (h : 0 ≤ z) : itB z = dgB z.toNat := by unfold itB dgB Lib.itoa; rw [if_neg (by omega)]
theorem dgB_nm (u : Nat) : nmOk (dgB u) := by
  obtain ⟨h1, h2, h3, h4⟩ := dgB_ok u
  refine ⟨h1, fun c => ?_, h2⟩
  have := h4 c.1
  subst this
  rw [dgB_small (by omega)] at c
  exact absurd c.2 (by decide)
theorem rz_back {z : Int} (h : szC z = 0) : rzC (hdZ ++ itB z) = 0 ∧ rzV (hdZ ++ itB z) = z := by
  have hz : 0 ≤ z ∧ z ≤ 1048576 := by
    unfold szC at h
    split at h
    · assumption
    · cases h
  obtain ⟨_, _, h3, _⟩ := dgB_ok z.toNat
  have hn : nmOk (cpQ (hdZ ++ itB z) hdZ) := by rw [cpQ_app, itB_dg hz.1]; exact dgB_nm _
  have hv : nv (cpQ (hdZ ++ itB z) hdZ) (cpQ (hdZ ++ itB z) hdZ).size = z := by rw [cpQ_app, itB_dg hz.1, h3]; omega
  have hc := rzC_yes ⟨hpQ_app hdZ (itB z), hn⟩ (by rw [hv]; exact hz.2)
  exact ⟨hc, by unfold rzV; rw [if_pos hc, hv]⟩

/-- No end of line. -/
def NoNl (t : ByteArray) : Prop := ∀ k, k < t.size → bt t k ≠ 10
theorem NoNl.app {a b : ByteArray} (ha : NoNl a) (hb : NoNl b) : NoNl (a ++ b) := fun k hk => by
  rw [ByteArray.size_append] at hk
  rw [bt_append]
  split
  · exact ha k (by assumption)
  · exact hb _ (by omega)
theorem dgB_nl (u : Nat) : NoNl (dgB u) := fun k hk => by
  have := (dgB_ok u).2.1 k hk
  omega
theorem hd_nl : NoNl hdP ∧ NoNl hdH ∧ NoNl hdZ ∧ NoNl hdR ∧ NoNl hdF ∧ NoNl hdS ∧ NoNl blk1 := by
  refine ⟨?_, ?_, ?_, ?_, ?_, ?_, ?_⟩ <;> (unfold NoNl; decide +kernel)

end Go.Proofs.YtgnlkggodchlbaaDoor
/- Paths hold no blank and no end of line; references back; plain. -/
namespace Go.Proofs.YtgnlkggodchlbaaDoor
open Go.RowKit Go.Shelf

theorem pr_parts {p : ByteArray} (h : prC p = 0) : shp p ∧ hshOk (pHash p) ∧ labOk (pLab p) := by
  unfold prC at h
  split at h
  · rename_i h1
    split at h
    · rename_i h2
      rcases lab_cases (pLab p) with ⟨h3, _⟩ | ⟨_, h3⟩
      · exact ⟨h1, h2, h3⟩
      · rw [h3] at h; cases h
    · cases h
  · cases h
theorem pr_dir {p : ByteArray} (h : prC p = 0) : p = dirR ++ p.extract 13 p.size := by
  have h1 := (pr_parts h).1.2.1
  have e : p.extract 0 13 = dirR := bytes_toList_inj (eq_of_beq h1)
  have c := ext_cat p 13
  rw [e] at c
  exact c.symm
theorem dirR_ch : ∀ k, k < dirR.size → bt dirR k ≠ 10 ∧ bt dirR k ≠ 32 := by decide +kernel
theorem pr_ch {p : ByteArray} (h : prC p = 0) (k : Nat) (hk : k < p.size) : bt p k ≠ 10 ∧ bt p k ≠ 32 := by
  obtain ⟨⟨s1, s2, s3⟩, ⟨h1, h2⟩, l1, l2, l3, l4⟩ := pr_parts h
  by_cases a : k < 13
  · have e := pr_dir h
    have hb : bt p k = bt dirR k := by
      conv => lhs; rw [e]
      rw [bt_append, if_pos (by rw [dirR_size]; exact a)]
    rw [hb]
    exact dirR_ch k (by rw [dirR_size]; exact a)
  by_cases b : k < 45
  · have hv := h2 (k - 13) (by omega)
    have hb : bt (pHash p) (k - 13) = bt p k := by
      unfold pHash
      rw [bt_extract p 13 45 (k - 13) (by omega) (by omega), show 13 + (k - 13) = k by omega]
    rw [hb] at hv
    constructor <;> (intro c; rw [c] at hv; exact absurd hv (by decide +kernel))
  by_cases d : k = 45
  · subst d
    rw [s3]
    decide
  · have hs : (pLab p).size = p.size - 46 := by unfold pLab; rw [ByteArray.size_extract]; omega
    have hv := l4 (k - 46) (by omega)
    have hb : bt (pLab p) (k - 46) = bt p k := by
      unfold pLab
      rw [bt_extract p 46 p.size (k - 46) (by omega) (Nat.le_refl _), show 46 + (k - 46) = k by omega]
    rw [hb] at hv
    constructor <;> (intro c; rw [c] at hv; exact absurd hv (by decide +kernel))
theorem pr_nl {p : ByteArray} (h : prC p = 0) : NoNl p := fun k hk => (pr_ch h k hk).1
/-- What stands behind the directory. -/
def baseB (p : ByteArray) : ByteArray := p.extract 13 p.size
theorem base_ch {p : ByteArray} (h : prC p = 0) (k : Nat) (hk : k < (baseB p).size) : bt (baseB p) k ≠ 10 ∧ bt (baseB p) k ≠ 32 := by
  unfold baseB at hk ⊢
  rw [ByteArray.size_extract] at hk
  rw [bt_extract p 13 p.size k (by omega) (Nat.le_refl _)]
  exact pr_ch h _ (by omega)

/-- Joined with one blank between two. -/
def joinBl : List ByteArray → ByteArray
  | [] => ⟨#[]⟩
  | [x] => x
  | x :: y :: r => x ++ (blk1 ++ joinBl (y :: r))
theorem catB_join : ∀ (x : ByteArray) (r : List ByteArray), catB (x :: r) = blk1 ++ joinBl (x :: r)
  | x, [] => by show blk1 ++ x ++ (⟨#[]⟩ : ByteArray) = blk1 ++ x; exact app_emp _
  | x, y :: r => by
    show blk1 ++ x ++ catB (y :: r) = blk1 ++ (x ++ (blk1 ++ joinBl (y :: r)))
    rw [catB_join y r, ByteArray.append_assoc]
theorem ext_bt (p : ByteArray) (f k : Nat) (h : f + k < p.size) : bt (p.extract f p.size) k = bt p (f + k) := bt_extract p f p.size k h (Nat.le_refl _)
/-- The pieces of texts that were joined are those texts. -/
theorem pcs_join (p : ByteArray) : ∀ (L : List ByteArray) (r f : Nat), f ≤ p.size → L ≠ [] → L.length ≤ r + 1 → (∀ x ∈ L, ∀ k, k < x.size → bt x k ≠ 32) → p.extract f p.size = joinBl L → Sq.pcs p r f = L
  | [], _, _, _, h, _, _, _ => absurd rfl h
  | [x], r, f, hf, _, _, hb, e => by
    have e' : p.extract f p.size = x := e
    have hs : x.size = p.size - f := by rw [← e', ByteArray.size_extract]; omega
    rw [Sq.pcs_last p r f (Sq.nx_is p f p.size hf (Nat.le_refl _) (fun j h1 h2 => by
      have := hb x (by simp) (j - f) (by omega)
      rw [← e', ext_bt p f (j - f) (by omega), show f + (j - f) = j by omega] at this
      exact this) (fun h => absurd h (by omega))), e']
  | x :: y :: r', r, f, hf, _, hl, hb, e => by
    have e' : p.extract f p.size = x ++ (blk1 ++ joinBl (y :: r')) := e
    have hs : p.size - f = x.size + (1 + (joinBl (y :: r')).size) := by
      have := congrArg ByteArray.size e'
      rw [ByteArray.size_extract, ByteArray.size_append, ByteArray.size_append] at this
      have h1 : blk1.size = 1 := rfl
      omega
    have bx : ∀ k, k < x.size → bt p (f + k) = bt x k := fun k hk => by
      rw [← ext_bt p f k (by omega), e', bt_append, if_pos hk]
    have bb : bt p (f + x.size) = 32 := by
      rw [← ext_bt p f x.size (by omega), e', bt_append, if_neg (by omega), Nat.sub_self, bt_append, if_pos (by decide)]
      decide +kernel
    have hnx : Sq.nx p f = f + x.size := Sq.nx_is p f _ (by omega) (by omega) (fun j h1 h2 => by
      have := hb x (by simp) (j - f) (by omega)
      rw [← bx (j - f) (by omega), show f + (j - f) = j by omega] at this
      exact this) (fun _ => bb)
    have ex : p.extract f (f + x.size) = x := by
      refine bytes_ext (by rw [ByteArray.size_extract]; omega) (fun k hk => ?_)
      rw [ByteArray.size_extract] at hk
      rw [bt_extract p f (f + x.size) k (by omega) (by omega), bx k (by omega)]
    have er : p.extract (f + x.size + 1) p.size = joinBl (y :: r') := by
      refine bytes_ext (by rw [ByteArray.size_extract]; omega) (fun k hk => ?_)
      rw [ByteArray.size_extract] at hk
      rw [ext_bt p _ k (by omega), show f + x.size + 1 + k = f + (x.size + 1 + k) by omega, ← ext_bt p f _ (by omega), e', bt_append, if_neg (by omega), bt_append, if_neg (by show ¬ _ < 1; omega), show x.size + 1 + k - x.size - blk1.size = k by show x.size + 1 + k - x.size - 1 = k; omega]
    obtain ⟨r, rfl⟩ : ∃ m, r = m + 1 := ⟨r - 1, by simp at hl; omega⟩
    rw [Sq.pcs_more p r f (by omega), hnx, ex, pcs_join p (y :: r') r (f + x.size + 1) (by omega) (by simp) (by simp at hl ⊢; omega) (fun z hz => hb z (by simp at hz ⊢; exact Or.inr hz)) er]

end Go.Proofs.YtgnlkggodchlbaaDoor
/- References, letters and signatures back; the whole text read again; plain. -/
namespace Go.Proofs.YtgnlkggodchlbaaDoor
open Go.RowKit Go.Shelf

theorem crf_congr {f h : Nat → ByteArray} {n : Nat} (hh : ∀ j, j < n → f j = h j) : crf f n = crf h n := by
  unfold crf
  have hiff : refsOk f n ↔ refsOk h n := by
    constructor <;> intro H i hi
    · obtain ⟨a, b⟩ := H i hi
      rw [hh i hi] at a b
      exact ⟨a, fun h0 => by have := b h0; rw [hh (i - 1) (by omega)] at this; exact this⟩
    · obtain ⟨a, b⟩ := H i hi
      rw [hh i hi]
      exact ⟨a, fun h0 => by rw [hh (i - 1) (by omega)]; exact b h0⟩
  by_cases hk : refsOk h n
  · rw [if_pos hk, if_pos (hiff.2 hk)]
  · rw [if_neg hk, if_neg (fun c => hk (hiff.1 c))]
theorem crf_0 {f : Nat → ByteArray} {n : Nat} (h : crf f n = 0) : n ≤ 1024 ∧ refsOk f n := by
  unfold crf at h
  split at h
  · cases h
  · split at h
    · exact ⟨by omega, by assumption⟩
    · cases h
theorem bsS_list (f : Nat → ByteArray) (n : Nat) : bsS f n = catB ((List.range n).map (fun i => baseB (f i))) := by
  induction n with
  | zero => rfl
  | succ n ih =>
    rw [List.range_succ, List.map_append, List.map_cons, List.map_nil, catB_snoc, ← ih]
    rfl
theorem catB_nl {L : List ByteArray} (h : ∀ x ∈ L, NoNl x) : NoNl (catB L) := by
  induction L with
  | nil => intro k hk; exact absurd hk (by show ¬ k < 0; omega)
  | cons x r ih => exact (hd_nl.2.2.2.2.2.2.app (h x (by simp))).app (ih (fun y hy => h y (by simp [hy])))
theorem rr_back {f : Nat → ByteArray} {n : Nat} (h : crf f n = 0) : rrC (hdR ++ bsS f n) = 0 ∧ rrL (hdR ++ bsS f n) = (List.range n).map f ∧ NoNl (hdR ++ bsS f n) := by
  obtain ⟨hn, hok⟩ := crf_0 h
  have hnl : NoNl (hdR ++ bsS f n) := by
    refine hd_nl.2.2.2.1.app ?_
    rw [bsS_list]
    refine catB_nl (fun x hx => ?_)
    obtain ⟨i, hi, rfl⟩ := List.mem_map.1 hx
    exact fun k hk => (base_ch (hok i (List.mem_range.1 hi)).1 k hk).1
  refine (and_assoc.1 ⟨?_, hnl⟩)
  have hp := hpQ_app hdR (bsS f n)
  by_cases h0 : n = 0
  · subst h0
    have hz : (cpQ (hdR ++ bsS f 0) hdR).size = 0 := by rw [cpQ_app]; rfl
    exact ⟨by unfold rrC; rw [if_pos ⟨hp, hz⟩], by unfold rrL; rw [if_pos hz]; rfl⟩
  · obtain ⟨m, rfl⟩ : ∃ m, n = m + 1 := ⟨n - 1, by omega⟩
    have eL : (List.range (m + 1)).map (fun i => baseB (f i)) = baseB (f 0) :: (List.range m).map (fun i => baseB (f (i + 1))) := by
      rw [List.range_succ_eq_map, List.map_cons, List.map_map]; rfl
    have ej : bsS f (m + 1) = blk1 ++ joinBl ((List.range (m + 1)).map (fun i => baseB (f i))) := by rw [bsS_list, eL, catB_join]
    have hc : cpQ (hdR ++ bsS f (m + 1)) hdR = blk1 ++ joinBl ((List.range (m + 1)).map (fun i => baseB (f i))) := by rw [cpQ_app, ej]
    have hz : (cpQ (hdR ++ bsS f (m + 1)) hdR).size ≠ 0 := by rw [hc, ByteArray.size_append]; show 1 + _ ≠ 0; omega
    have hq : hpQ (cpQ (hdR ++ bsS f (m + 1)) hdR) blk1 = true := by rw [hc]; exact hpQ_app _ _
    have ht : rrT (hdR ++ bsS f (m + 1)) = joinBl ((List.range (m + 1)).map (fun i => baseB (f i))) := by unfold rrT; rw [hc]; exact cpQ_app _ _
    have hpc : Sq.pcs (rrT (hdR ++ bsS f (m + 1))) 1024 0 = (List.range (m + 1)).map (fun i => baseB (f i)) := by
      refine pcs_join _ _ 1024 0 (Nat.zero_le _) (by rw [eL]; simp) (by simp; omega) (fun x hx => ?_) (by rw [ByteArray.extract_zero_size]; exact ht)
      obtain ⟨i, hi, rfl⟩ := List.mem_map.1 hx
      exact fun k hk => (base_ch (hok i (List.mem_range.1 hi)).1 k hk).2
    have hN : rrN (hdR ++ bsS f (m + 1)) = m + 1 := by unfold rrN; rw [hpc]; simp
    have hF : ∀ j, j < m + 1 → rrF (hdR ++ bsS f (m + 1)) j = f j := fun j hj => by
      unfold rrF
      rw [hpc]
      have : Sq.nth ((List.range (m + 1)).map (fun i => baseB (f i))) j = baseB (f j) := by unfold Sq.nth; simp [List.getD, hj]
      rw [this]
      exact (pr_dir (hok j hj).1).symm
    refine ⟨?_, ?_⟩
    · unfold rrC
      rw [if_neg (fun c => hz c.2), if_pos ⟨hp, hq⟩, hN, crf_congr hF]
      exact h
    · unfold rrL
      rw [if_neg hz, hpc, List.map_map]
      refine List.map_congr_left (fun i hi => ?_)
      exact (pr_dir (hok i (List.mem_range.1 hi)).1).symm

theorem vl_nl : vl 10 < 0 := by decide +kernel
theorem b32_nl (b : ByteArray) : NoNl (b32Str b) := fun k hk => by
  rw [b32Str_size] at hk
  intro c
  have h := vl_b32 b k hk
  rw [c] at h
  have := vl_nl
  omega
theorem fb_nl {t : ByteArray} (h : fbErr t = 0) : NoNl t := by
  unfold fbErr at h
  split at h
  · split at h
    · rename_i g
      intro k hk c
      have h1 := (fbOk_iff t t.size).1 g k hk
      rw [c] at h1
      have := vl_nl
      omega
    · cases h
  · cases h
theorem sn_nl {s : ByteArray} (h : snC s = 0) : NoNl s := by
  have hok : snOk s := by
    unfold snC at h
    split at h
    · assumption
    · cases h
  obtain ⟨h1, ⟨_, _, h2⟩, h3⟩ := hok
  intro k hk c
  by_cases a : k < fst s 58
  · have hs : (snA s).size = fst s 58 := by unfold snA; rw [ByteArray.size_extract]; omega
    have hb := h2 k (by omega)
    have e : bt (snA s) k = bt s k := by
      unfold snA
      rw [bt_extract s 0 _ k (by omega) (by omega), Nat.zero_add]
    rw [e, c] at hb
    exact absurd hb (by decide)
  by_cases b : k = fst s 58
  · have := fst_at h1
    rw [← b, c] at this
    exact absurd this (by decide)
  · have hn := fb_nl h3.2 (k - (fst s 58 + 1)) (by unfold snB; rw [ByteArray.size_extract]; omega)
    unfold snB at hn
    rw [bt_extract s _ s.size _ (by omega) (Nat.le_refl _), show fst s 58 + 1 + (k - (fst s 58 + 1)) = k by omega] at hn
    exact hn c

end Go.Proofs.YtgnlkggodchlbaaDoor
/- What Check takes is printed and read again; plain. -/
namespace Go.Proofs.YtgnlkggodchlbaaDoor
open Go.RowKit Go.Shelf

theorem line_size (l r : ByteArray) : (l ++ nl ++ r).size = l.size + 1 + r.size := by rw [ByteArray.size_append, ByteArray.size_append]; rfl
theorem pz_line {k n : Nat} {s : IS} {l r : ByteArray} (hl : NoNl l) (hc : tkC s n l = 0) : pz (k + 1) (l ++ nl ++ r) n s = pz k r (n + 1) (tkS s n l) := by
  obtain ⟨a, b, c⟩ := ct_line l r hl
  have hd : ¬ (4 ≤ n ∧ (l ++ nl ++ r).size = 0) := fun h => by have := line_size l r; omega
  have := pz_next (k := k) (s := s) hd c (by rw [a]; exact hc)
  rw [a, b] at this
  exact this
/-- The lines of signatures. -/
def sgT : List ByteArray → ByteArray
  | [] => ⟨#[]⟩
  | x :: r => hdS ++ x ++ nl ++ sgT r
theorem sgT_snoc (L : List ByteArray) (x : ByteArray) : sgT (L ++ [x]) = sgT L ++ hdS ++ x ++ nl := by
  induction L with
  | nil => show hdS ++ x ++ nl ++ (⟨#[]⟩ : ByteArray) = (⟨#[]⟩ : ByteArray) ++ hdS ++ x ++ nl; rw [app_emp]; rw [show (⟨#[]⟩ : ByteArray) = emp from rfl, emp_app]
  | cons a r ih => show hdS ++ a ++ nl ++ sgT (r ++ [x]) = hdS ++ a ++ nl ++ sgT r ++ hdS ++ x ++ nl; rw [ih]; simp [ByteArray.append_assoc]
theorem ptS_list (T : ByteArray) (f : Nat → ByteArray) (n : Nat) : ptS T f n = T ++ sgT ((List.range n).map f) := by
  induction n with
  | zero => show T = T ++ (⟨#[]⟩ : ByteArray); exact (app_emp T).symm
  | succ n ih =>
    rw [List.range_succ, List.map_append, List.map_cons, List.map_nil, sgT_snoc]
    show ptS T f n ++ hdS ++ f n ++ nl = _
    rw [ih]
    simp [ByteArray.append_assoc]
theorem hpQ_SF (x : ByteArray) : hpQ (hdS ++ x) hdF = false := by
  unfold hpQ
  rw [show hdF.size = hdS.size from rfl, app_left, show (hdS.toList == hdF.toList) = false from by decide +kernel, Bool.and_false]
theorem pz_signs : ∀ (L : List ByteArray) (k n : Nat) (s : IS), (sgT L).size < k → 4 ≤ n → ssOk (Sq.nth (s.S ++ L)) (s.S ++ L).length → pz k (sgT L) n s = ({ s with S := s.S ++ L }, 0, 0)
  | [], k, n, s, hk, hn, _ => by
    obtain ⟨k, rfl⟩ : ∃ m, k = m + 1 := ⟨k - 1, by omega⟩
    rw [pz_done ⟨hn, rfl⟩, List.append_nil]
  | x :: r, k, n, s, hk, hn, hok => by
    obtain ⟨k, rfl⟩ : ∃ m, k = m + 1 := ⟨k - 1, by omega⟩
    have hlen : (s.S ++ x :: r).length = s.S.length + (r.length + 1) := by rw [List.length_append, List.length_cons]
    have h1 := hok s.S.length (by omega)
    have ex : Sq.nth (s.S ++ x :: r) s.S.length = x := by unfold Sq.nth; simp [List.getD]
    have el : ∀ j, j < s.S.length → Sq.nth (s.S ++ x :: r) j = Sq.nth s.S j := fun j hj => by unfold Sq.nth; simp [List.getD, List.getElem?_append_left hj]
    rw [ex] at h1
    have hnx : nxC (Sq.nth s.S) s.S.length x = 0 := nxC_yes h1.1 (fun h0 => by have := h1.2 h0; rw [el _ (by omega)] at this; exact this)
    obtain ⟨b1, b2⟩ := rs_back hnx
    have h4 : ¬ (n = 4 ∧ hpQ (hdS ++ x) hdF = true) := fun c => by rw [hpQ_SF] at c; exact absurd c.2 (by decide)
    have ec : tkC s n (hdS ++ x) = 0 := by unfold tkC; rw [if_neg (by omega), if_neg (by omega), if_neg (by omega), if_neg (by omega), if_neg h4]; exact b1
    have es : tkS s n (hdS ++ x) = { s with S := s.S ++ [x] } := by unfold tkS; rw [if_neg (by omega), if_neg (by omega), if_neg (by omega), if_neg (by omega), if_neg h4, b2]
    have hsz : (sgT (x :: r)).size = (hdS ++ x).size + 1 + (sgT r).size := line_size (hdS ++ x) (sgT r)
    show pz (k + 1) (hdS ++ x ++ nl ++ sgT r) n s = _
    rw [pz_line (hd_nl.2.2.2.2.2.1.app (sn_nl h1.1)) ec, es]
    have := pz_signs r k (n + 1) { s with S := s.S ++ [x] } (by omega) (by omega) (by
      show ssOk (Sq.nth (s.S ++ [x] ++ r)) (s.S ++ [x] ++ r).length
      rw [List.append_assoc]; exact hok)
    rw [this]
    show ({ s with S := s.S ++ [x] ++ r }, _, _) = _
    rw [List.append_assoc]
    rfl

end Go.Proofs.YtgnlkggodchlbaaDoor
/- What Check takes is printed and read again, whole; plain. -/
namespace Go.Proofs.YtgnlkggodchlbaaDoor
open Go.RowKit Go.Shelf

theorem rh_back0 (D : Nat → Int) : rhC (hdH ++ b32Str (strFn 32 D)) = 0 := by
  obtain ⟨b1, b2⟩ := b32_back (strFn 32 D)
  exact rhC_yes (hpQ_app hdH (b32Str (strFn 32 D))) (by rw [cpQ_app]; exact ⟨b32_len D, b2⟩)
/-- The info that is read of a printed one. -/
def backS (P : ByteArray) (D : Nat → Int) (z : Int) (fr : Nat → ByteArray) (nr : Nat) (F : ByteArray) (fs : Nat → ByteArray) (ns : Nat) : IS := ⟨P, rhD (hdH ++ b32Str (strFn 32 D)), z, (List.range nr).map fr, F, (List.range ns).map fs⟩
theorem nth_range (f : Nat → ByteArray) (n j : Nat) (h : j < n) : Sq.nth ((List.range n).map f) j = f j := by unfold Sq.nth; simp [List.getD, h]
theorem ssOk_range {f : Nat → ByteArray} {n : Nat} (h : ssOk f n) : ssOk (Sq.nth ((List.range n).map f)) ((List.range n).map f).length := by
  rw [List.length_map, List.length_range]
  intro i hi
  obtain ⟨a, b⟩ := h i hi
  rw [nth_range f n i hi]
  exact ⟨a, fun h0 => by rw [nth_range f n (i - 1) (by omega)]; exact b h0⟩
theorem itB_nl {z : Int} (h : 0 ≤ z) : NoNl (itB z) := by rw [itB_dg h]; exact dgB_nl _
/-- What stands behind the first four lines. -/
def tailT (F : ByteArray) (L : List ByteArray) : ByteArray := if F.size = 0 then sgT L else hdF ++ F ++ nl ++ sgT L
theorem prT_lines (P : ByteArray) (D : Nat → Int) (z : Int) (fr : Nat → ByteArray) (nr : Nat) (F : ByteArray) (fs : Nat → ByteArray) (ns : Nat) :
    prT P D z fr nr F fs ns = (hdP ++ P) ++ nl ++ ((hdH ++ b32Str (strFn 32 D)) ++ nl ++ ((hdZ ++ itB z) ++ nl ++ ((hdR ++ bsS fr nr) ++ nl ++ tailT F ((List.range ns).map fs)))) := by
  unfold prT tailT
  rw [ptS_list]
  by_cases h : F.size = 0
  · rw [ptF_z h, if_pos h]
    unfold pt4 pt3 pt2 pt1
    rw [emp_app]
    simp [ByteArray.append_assoc]
  · rw [ptF_n h, if_neg h]
    unfold pt4 pt3 pt2 pt1
    rw [emp_app]
    simp [ByteArray.append_assoc]
theorem tail_back {P : ByteArray} {D : Nat → Int} {z : Int} {R : List ByteArray} {F : ByteArray} {L : List ByteArray} (k : Nat) (hk : (tailT F L).size < k) (hF : frC F = 0) (hL : ssOk (Sq.nth L) L.length) :
    pz k (tailT F L) 4 ⟨P, D, z, R, ⟨#[]⟩, []⟩ = (⟨P, D, z, R, F, L⟩, 0, 0) := by
  unfold tailT at hk ⊢
  by_cases h : F.size = 0
  · rw [if_pos h] at hk ⊢
    rw [pz_signs L k 4 _ hk (Nat.le_refl _) (by simpa using hL), empty_of_size h]
    rfl
  · rw [if_neg h] at hk ⊢
    rw [frC_n h] at hF
    obtain ⟨k, rfl⟩ : ∃ m, k = m + 1 := ⟨k - 1, by omega⟩
    obtain ⟨b1, b2⟩ := rp_back (h := hdF) hF
    have hp := hpQ_app hdF F
    have ec : tkC ⟨P, D, z, R, ⟨#[]⟩, []⟩ 4 (hdF ++ F) = 0 := by unfold tkC; simp [hp]; exact b1
    have es : tkS ⟨P, D, z, R, ⟨#[]⟩, []⟩ 4 (hdF ++ F) = ⟨P, D, z, R, F, []⟩ := by unfold tkS; simp [hp, b2]
    have hsz := line_size (hdF ++ F) (sgT L)
    rw [pz_line (hd_nl.2.2.2.2.1.app (pr_nl hF)) ec, es]
    rw [pz_signs L k 5 _ (by omega) (by omega) (by simpa using hL)]
    rfl
theorem back_form (P : ByteArray) (D : Nat → Int) (z : Int) (fr : Nat → ByteArray) (nr : Nat) (F : ByteArray) (fs : Nat → ByteArray) (ns : Nat) (h : ckC P z fr nr F fs ns = 0) :
    PZ (prT P D z fr nr F fs ns) = (backS P D z fr nr F fs ns, 0, 0) := by
  obtain ⟨u, hs⟩ := orC_0 h
  obtain ⟨hP, u⟩ := orC_0 u
  obtain ⟨hz, u⟩ := orC_0 u
  obtain ⟨hr, hF⟩ := orC_0 u
  have hs' : ssOk fs ns := by
    unfold ssC at hs
    split at hs
    · assumption
    · cases hs
  have hz0 : 0 ≤ z := by
    unfold szC at hz
    split at hz
    · rename_i g; exact g.1
    · cases hz
  obtain ⟨p1, p2⟩ := rp_back (h := hdP) hP
  have d1 := rh_back0 D
  obtain ⟨z1, z2⟩ := rz_back hz
  obtain ⟨r1, r2, r3⟩ := rr_back hr
  unfold PZ
  rw [prT_lines]
  have n0 := line_size (hdP ++ P) ((hdH ++ b32Str (strFn 32 D)) ++ nl ++ ((hdZ ++ itB z) ++ nl ++ ((hdR ++ bsS fr nr) ++ nl ++ tailT F ((List.range ns).map fs))))
  have n1 := line_size (hdH ++ b32Str (strFn 32 D)) ((hdZ ++ itB z) ++ nl ++ ((hdR ++ bsS fr nr) ++ nl ++ tailT F ((List.range ns).map fs)))
  have n2 := line_size (hdZ ++ itB z) ((hdR ++ bsS fr nr) ++ nl ++ tailT F ((List.range ns).map fs))
  have n3 := line_size (hdR ++ bsS fr nr) (tailT F ((List.range ns).map fs))
  obtain ⟨m, hm, hlt⟩ : ∃ m, ((hdP ++ P) ++ nl ++ ((hdH ++ b32Str (strFn 32 D)) ++ nl ++ ((hdZ ++ itB z) ++ nl ++ ((hdR ++ bsS fr nr) ++ nl ++ tailT F ((List.range ns).map fs))))).size + 1 = m + 1 + 1 + 1 + 1 ∧ (tailT F ((List.range ns).map fs)).size < m := ⟨(hdP ++ P).size + (hdH ++ b32Str (strFn 32 D)).size + (hdZ ++ itB z).size + (hdR ++ bsS fr nr).size + (tailT F ((List.range ns).map fs)).size + 1, by rw [n0, n1, n2, n3]; omega, by omega⟩
  rw [hm]
  have t0 : tkS IS.zero 0 (hdP ++ P) = ⟨P, fun _ => 0, 0, [], ⟨#[]⟩, []⟩ := by show IS.mk (rpS (hdP ++ P) hdP) _ _ _ _ _ = _; rw [p2]; rfl
  rw [pz_line (hd_nl.1.app (pr_nl hP)) (by exact p1), t0]
  rw [pz_line (hd_nl.2.1.app (b32_nl _)) (by exact d1)]
  have t1 : tkS ⟨P, fun _ => 0, 0, [], ⟨#[]⟩, []⟩ (0 + 1) (hdH ++ b32Str (strFn 32 D)) = ⟨P, rhD (hdH ++ b32Str (strFn 32 D)), 0, [], ⟨#[]⟩, []⟩ := rfl
  rw [t1, pz_line (hd_nl.2.2.1.app (itB_nl hz0)) (by exact z1)]
  have t2 : tkS ⟨P, rhD (hdH ++ b32Str (strFn 32 D)), 0, [], ⟨#[]⟩, []⟩ (0 + 1 + 1) (hdZ ++ itB z) = ⟨P, rhD (hdH ++ b32Str (strFn 32 D)), z, [], ⟨#[]⟩, []⟩ := by show IS.mk _ _ (rzV (hdZ ++ itB z)) _ _ _ = _; rw [z2]
  rw [t2, pz_line r3 (by exact r1)]
  have t3 : tkS ⟨P, rhD (hdH ++ b32Str (strFn 32 D)), z, [], ⟨#[]⟩, []⟩ (0 + 1 + 1 + 1) (hdR ++ bsS fr nr) = ⟨P, rhD (hdH ++ b32Str (strFn 32 D)), z, (List.range nr).map fr, ⟨#[]⟩, []⟩ := by show IS.mk _ _ _ (rrL (hdR ++ bsS fr nr)) _ _ = _; rw [r2]
  rw [t3]
  exact tail_back m hlt hF (ssOk_range hs')

end Go.Proofs.YtgnlkggodchlbaaDoor
/- The laws' alike; walked. -/
namespace Go.Proofs.YtgnlkggodchlbaaDoor
open Go.RowKit Go.Shelf

set_option maxRecDepth 100000 in
set_option maxHeartbeats 4000000 in
theorem alike_any (P : ByteArray) (D : Nat → Int) (z : Int) (F : ByteArray) (xr : Option Addr) (nr cr : Nat) (fr : Nat → ByteArray) (xs : Option Addr) (ns cz : Nat) (fs : Nat → ByteArray) (P' : ByteArray) (D' : Nat → Int) (z' : Int) (F' : ByteArray) (xr' : Option Addr) (nr' cr' : Nat) (fr' : Nat → ByteArray) (xs' : Option Addr) (ns' cz' : Nat) (fs' : Nat → ByteArray) (w : World)
    (hr : SIs w xr nr fr) (hs : SIs w xs ns fs) (hr' : SIs w xr' nr' fr') (hs' : SIs w xs' ns' fs') (h1 : nr ≤ 1152921504606846976) (h2 : ns ≤ 1152921504606846976) (h3 : nr' ≤ 1152921504606846976) (h4 : ns' ≤ 1152921504606846976) :
    Calls Tryd.prog 19 #[.agg (infC P D z (.slice xr nr cr) F (.slice xs ns cz)), .agg (infC P' D' z' (.slice xr' nr' cr') F' (.slice xs' ns' cz'))] w fun e w' => e = .returned (.bool (smB P D z fr nr F fs ns P' D' z' fr' nr' F' fs' ns')) ∧ Below w.heap.size w w' := by
  have I0 : Hid (Inf ((w.alloc (.cells (infC P D z (.slice xr nr cr) F (.slice xs ns cz)) 36)).alloc (.cells (infC P' D' z' (.slice xr' nr' cr') F' (.slice xs' ns' cz')) 36)) w.heap.size P D z (.slice xr nr cr) F (.slice xs ns cz)) := (Inf.box _ _ _ _ _ _ _ _).same (Below.heap_alloc _ _ _ (by rw [World.size_alloc]; omega))
  have J0 : Hid (Inf ((w.alloc (.cells (infC P D z (.slice xr nr cr) F (.slice xs ns cz)) 36)).alloc (.cells (infC P' D' z' (.slice xr' nr' cr') F' (.slice xs' ns' cz')) 36)) (w.heap.size + 1) P' D' z' (.slice xr' nr' cr') F' (.slice xs' ns' cz')) := by
    have := Inf.box (w.alloc (.cells (infC P D z (.slice xr nr cr) F (.slice xs ns cz)) 36)) 36 P' D' z' (.slice xr' nr' cr') F' (.slice xs' ns' cz')
    rw [World.size_alloc] at this
    exact this
  have B0 : Hid (Below w.heap.size w ((w.alloc (.cells (infC P D z (.slice xr nr cr) F (.slice xs ns cz)) 36)).alloc (.cells (infC P' D' z' (.slice xr' nr' cr') F' (.slice xs' ns' cz')) 36))) := ((Below.refl _ _).alloc (Nat.le_refl _) _).alloc (by rw [World.size_alloc]; omega) _
  have C1 := fun W (b : Below w.heap.size w W) => texts_any xr xr' nr cr nr' cr' fr fr' W (hr.below b (Nat.le_refl _)) (hr'.below b (Nat.le_refl _)) h1 h3
  have C2 := fun W (b : Below w.heap.size w W) => texts_any xs xs' ns cz ns' cz' fs fs' W (hs.below b (Nat.le_refl _)) (hs'.below b (Nat.le_refl _)) h2 h4
  have heq : ∀ w, (Op.equalIn 10000 22 (.agg (cs .u8 32 D)) (.agg (cs .u8 32 D'))).run Tryd.prog w = .ok ((List.range 32).all fun i => D i == D' i) w := fun w => by
    obtain ⟨i, hi⟩ := Option.isSome_iff_exists.1 (show (Tryd.prog.info? 5).isSome = true by kernel_rfl)
    exact run_equalIn_cs w 9998 22 5 .u8 .u8 32 D D' undD32 hi (by kernel_rfl) (by kernel_rfl)
  clear hr hs hr' hs' h1 h2 h3 h4
  unfold smB
  generalize e5 : eqT fr nr fr' nr' = b5 at C1 ⊢
  generalize e6 : eqT fs ns fs' ns' = b6 at C2 ⊢
  generalize (List.range 32).all (fun i => D i == D' i) = b2 at heq ⊢
  cases e1 : (P.toList == P'.toList)
  rotate_left
  · cases b2
    rotate_left
    · cases e3 : (z == z')
      rotate_left
      · cases e4 : (F.toList == F'.toList)
        rotate_left
        · cases b5
          rotate_left
          · clear e5 e6
            go_enter Tryd.func19, Tryd.ntmps19
            iterate 12 go_step
            generalize (w.alloc (.cells (infC P D z (.slice xr nr cr) F (.slice xs ns cz)) 36)).alloc (.cells (infC P' D' z' (.slice xr' nr' cr') F' (.slice xs' ns' cz')) 36) = w0 at I0 J0 B0 ⊢
            have p1 := I0.out.path
            have p2 := I0.out.size
            have p3 := I0.out.refs
            have p4 := I0.out.from_
            have p5 := I0.out.signs
            have q1 := J0.out.path
            have q2 := J0.out.size
            have q3 := J0.out.refs
            have q4 := J0.out.from_
            have q5 := J0.out.signs
            have R1 := I0.out.digRange
            have R2 := J0.out.digRange
            go_wp2_with (first
              | (refine wpList_load_midG (by rfl) 22 (.tmp 11) (by rfl) w.heap.size 1 (by rfl) (cs .u8 32 D).toList (.array 32 5) R1 undD32 rfl (by rw [szR32, Array.length_toList, cs_size]) ?_)
              | (refine wpList_load_midG (by rfl) 22 (.tmp 13) (by rfl) (w.heap.size + 1) 1 (by rfl) (cs .u8 32 D').toList (.array 32 5) R2 undD32 rfl (by rw [szR32, Array.length_toList, cs_size]) ?_))
            refine (C1 _ B0.out).mono ?_
            rintro e w1 ⟨rfl, b1⟩
            have c34' := (I0.out.below b1 I0.out.lt).refs
            have c36a := (I0.out.below b1 I0.out.lt).signs
            have c36b := (J0.out.below b1 J0.out.lt).signs
            have B1 : Hid (Below w.heap.size w w1) := B0.out.trans (b1.mono B0.out.size)
            clear b1 C1
            go_wp2_with fail
            refine (C2 _ B1.out).mono ?_
            rintro e w2 ⟨rfl, b2⟩
            have B2 : Hid (Below w.heap.size w w2) := B1.out.trans (b2.mono B1.out.size)
            clear b2 C2
            go_wp2
            go_ret
            exact ⟨rfl, B2.out⟩
          · clear e5 e6
            go_enter Tryd.func19, Tryd.ntmps19
            iterate 12 go_step
            generalize (w.alloc (.cells (infC P D z (.slice xr nr cr) F (.slice xs ns cz)) 36)).alloc (.cells (infC P' D' z' (.slice xr' nr' cr') F' (.slice xs' ns' cz')) 36) = w0 at I0 J0 B0 ⊢
            have p1 := I0.out.path
            have p2 := I0.out.size
            have p3 := I0.out.refs
            have p4 := I0.out.from_
            have p5 := I0.out.signs
            have q1 := J0.out.path
            have q2 := J0.out.size
            have q3 := J0.out.refs
            have q4 := J0.out.from_
            have q5 := J0.out.signs
            have R1 := I0.out.digRange
            have R2 := J0.out.digRange
            go_wp2_with (first
              | (refine wpList_load_midG (by rfl) 22 (.tmp 11) (by rfl) w.heap.size 1 (by rfl) (cs .u8 32 D).toList (.array 32 5) R1 undD32 rfl (by rw [szR32, Array.length_toList, cs_size]) ?_)
              | (refine wpList_load_midG (by rfl) 22 (.tmp 13) (by rfl) (w.heap.size + 1) 1 (by rfl) (cs .u8 32 D').toList (.array 32 5) R2 undD32 rfl (by rw [szR32, Array.length_toList, cs_size]) ?_))
            refine (C1 _ B0.out).mono ?_
            rintro e w1 ⟨rfl, b1⟩
            have c34' := (I0.out.below b1 I0.out.lt).refs
            have c36a := (I0.out.below b1 I0.out.lt).signs
            have c36b := (J0.out.below b1 J0.out.lt).signs
            have B1 : Hid (Below w.heap.size w w1) := B0.out.trans (b1.mono B0.out.size)
            clear b1 C1
            go_wp2_with fail
            go_ret
            exact ⟨rfl, B1.out⟩
        · clear e5 e6
          go_enter Tryd.func19, Tryd.ntmps19
          iterate 12 go_step
          generalize (w.alloc (.cells (infC P D z (.slice xr nr cr) F (.slice xs ns cz)) 36)).alloc (.cells (infC P' D' z' (.slice xr' nr' cr') F' (.slice xs' ns' cz')) 36) = w0 at I0 J0 B0 ⊢
          have p1 := I0.out.path
          have p2 := I0.out.size
          have p3 := I0.out.refs
          have p4 := I0.out.from_
          have p5 := I0.out.signs
          have q1 := J0.out.path
          have q2 := J0.out.size
          have q3 := J0.out.refs
          have q4 := J0.out.from_
          have q5 := J0.out.signs
          have R1 := I0.out.digRange
          have R2 := J0.out.digRange
          go_wp2_with (first
            | (refine wpList_load_midG (by rfl) 22 (.tmp 11) (by rfl) w.heap.size 1 (by rfl) (cs .u8 32 D).toList (.array 32 5) R1 undD32 rfl (by rw [szR32, Array.length_toList, cs_size]) ?_)
            | (refine wpList_load_midG (by rfl) 22 (.tmp 13) (by rfl) (w.heap.size + 1) 1 (by rfl) (cs .u8 32 D').toList (.array 32 5) R2 undD32 rfl (by rw [szR32, Array.length_toList, cs_size]) ?_))
          go_ret
          exact ⟨rfl, B0.out⟩
      · clear e5 e6
        go_enter Tryd.func19, Tryd.ntmps19
        iterate 12 go_step
        generalize (w.alloc (.cells (infC P D z (.slice xr nr cr) F (.slice xs ns cz)) 36)).alloc (.cells (infC P' D' z' (.slice xr' nr' cr') F' (.slice xs' ns' cz')) 36) = w0 at I0 J0 B0 ⊢
        have p1 := I0.out.path
        have p2 := I0.out.size
        have p3 := I0.out.refs
        have p4 := I0.out.from_
        have p5 := I0.out.signs
        have q1 := J0.out.path
        have q2 := J0.out.size
        have q3 := J0.out.refs
        have q4 := J0.out.from_
        have q5 := J0.out.signs
        have R1 := I0.out.digRange
        have R2 := J0.out.digRange
        go_wp2_with (first
          | (refine wpList_load_midG (by rfl) 22 (.tmp 11) (by rfl) w.heap.size 1 (by rfl) (cs .u8 32 D).toList (.array 32 5) R1 undD32 rfl (by rw [szR32, Array.length_toList, cs_size]) ?_)
          | (refine wpList_load_midG (by rfl) 22 (.tmp 13) (by rfl) (w.heap.size + 1) 1 (by rfl) (cs .u8 32 D').toList (.array 32 5) R2 undD32 rfl (by rw [szR32, Array.length_toList, cs_size]) ?_))
        go_ret
        exact ⟨rfl, B0.out⟩
    · clear e5 e6
      go_enter Tryd.func19, Tryd.ntmps19
      iterate 12 go_step
      generalize (w.alloc (.cells (infC P D z (.slice xr nr cr) F (.slice xs ns cz)) 36)).alloc (.cells (infC P' D' z' (.slice xr' nr' cr') F' (.slice xs' ns' cz')) 36) = w0 at I0 J0 B0 ⊢
      have p1 := I0.out.path
      have p2 := I0.out.size
      have p3 := I0.out.refs
      have p4 := I0.out.from_
      have p5 := I0.out.signs
      have q1 := J0.out.path
      have q2 := J0.out.size
      have q3 := J0.out.refs
      have q4 := J0.out.from_
      have q5 := J0.out.signs
      have R1 := I0.out.digRange
      have R2 := J0.out.digRange
      go_wp2_with (first
        | (refine wpList_load_midG (by rfl) 22 (.tmp 11) (by rfl) w.heap.size 1 (by rfl) (cs .u8 32 D).toList (.array 32 5) R1 undD32 rfl (by rw [szR32, Array.length_toList, cs_size]) ?_)
        | (refine wpList_load_midG (by rfl) 22 (.tmp 13) (by rfl) (w.heap.size + 1) 1 (by rfl) (cs .u8 32 D').toList (.array 32 5) R2 undD32 rfl (by rw [szR32, Array.length_toList, cs_size]) ?_))
      go_ret
      exact ⟨rfl, B0.out⟩
  · clear e5 e6
    go_enter Tryd.func19, Tryd.ntmps19
    iterate 12 go_step
    generalize (w.alloc (.cells (infC P D z (.slice xr nr cr) F (.slice xs ns cz)) 36)).alloc (.cells (infC P' D' z' (.slice xr' nr' cr') F' (.slice xs' ns' cz')) 36) = w0 at I0 J0 B0 ⊢
    have p1 := I0.out.path
    have p2 := I0.out.size
    have p3 := I0.out.refs
    have p4 := I0.out.from_
    have p5 := I0.out.signs
    have q1 := J0.out.path
    have q2 := J0.out.size
    have q3 := J0.out.refs
    have q4 := J0.out.from_
    have q5 := J0.out.signs
    have R1 := I0.out.digRange
    have R2 := J0.out.digRange
    go_wp2_with fail
    go_ret
    exact ⟨rfl, B0.out⟩
end Go.Proofs.YtgnlkggodchlbaaDoor
/- The law InfoBack walked. -/
namespace Go.Proofs.YtgnlkggodchlbaaDoor
open Go.RowKit Go.Shelf

theorem pr_small {P : ByteArray} {D : Nat → Int} {z : Int} {fr : Nat → ByteArray} {nr : Nat} {F : ByteArray} {fs : Nat → ByteArray} {ns : Nat} (h : ckC P z fr nr F fs ns = 0) (hn : ns ≤ 1048576) : (prT P D z fr nr F fs ns).size ≤ 1000000000 := by
  obtain ⟨h1, ⟨h2, h2'⟩, h3, h4, h5⟩ := ckC_parts h
  obtain ⟨h6, h7⟩ := crf_ok h3
  have mP := prC_max h1
  have mI := itoa_le z h2 h2'
  have mB := bsS_size fr nr (fun i hi => prC_max (h7 i hi).1)
  have m4 := pt4_size P D z fr nr
  have mS := ptS_size (ptF (pt4 P D z fr nr) F) fs ns (fun i hi => signs_small h i hi)
  unfold prT
  by_cases hF : F.size = 0
  · rw [ptF_z hF] at mS ⊢
    omega
  · have hF2 := h4
    rw [frC_n hF] at hF2
    have mF := prC_max hF2
    have e : (ptF (pt4 P D z fr nr) F).size = (pt4 P D z fr nr).size + 6 + F.size + 1 := by rw [ptF_n hF, app_size, app_size, app_size]; rfl
    omega
theorem sm_refl (P : ByteArray) (D : Nat → Int) (z : Int) (fr : Nat → ByteArray) (nr : Nat) (F : ByteArray) (fs : Nat → ByteArray) (ns : Nat) : smB P D z fr nr F fs ns P D z fr nr F fs ns = true := by
  unfold smB
  rw [eqT_all (fun _ _ => rfl), eqT_all (fun _ _ => rfl)]
  simp
theorem sm_back {P : ByteArray} {D : Nat → Int} {z : Int} {fr : Nat → ByteArray} {nr : Nat} {F : ByteArray} {fs : Nat → ByteArray} {ns : Nat} (hD : ∀ j, 0 ≤ D j ∧ D j < 256) :
    smB P (backS P D z fr nr F fs ns).D z (Sq.nth ((List.range nr).map fr)) ((List.range nr).map fr).length F (Sq.nth ((List.range ns).map fs)) ((List.range ns).map fs).length P D z fr nr F fs ns = true := by
  have h := (rh_back D (fun j _ => hD j)).2
  unfold smB
  rw [List.length_map, List.length_range, List.length_map, List.length_range, eqT_all (fun i hi => nth_range fr nr i hi), eqT_all (fun i hi => nth_range fs ns i hi)]
  have hd : ((List.range 32).all fun i => (backS P D z fr nr F fs ns).D i == D i) = true := by
    rw [List.all_eq_true]
    intro i hi
    rw [beq_iff_eq]
    exact h i (List.mem_range.1 hi)
  rw [hd]
  simp
theorem sm_one (fr fs fr' fs' : Nat → ByteArray) : smB ⟨#[]⟩ (fun _ => 0) 1 fr 0 ⟨#[]⟩ fs 0 ⟨#[]⟩ (fun _ => 0) 0 fr' 0 ⟨#[]⟩ fs' 0 = false := by
  unfold smB
  simp
theorem wpList_build_someG {ops : Array Oper} {rest : List Oper} {o : Oper} {a : Act} {w : World} {Q : Exit → Act → World → Prop} (hg : Region.wanted o (yielded ops a.tmps) = true) (t : TypeId) (parts : Array (Nat × Operand)) (ho : o.op = .build t parts) (cells : Array Value)
    (l : List (Nat × Value)) (hl : (parts.map fun (i, x) => (i, a.eval x)).toList = l) (hb : Tryd.prog.built t l = some cells) (h : wpList Tryd.prog ops Q rest (a.put o.dst (.agg cells)) w) : wpList Tryd.prog ops Q (o :: rest) a w := by
  refine BigFrame.wpList_want hg fun _ hK => wp_build t parts ho (by rw [hl, hb]; rfl) (hK _ _ ?_)
  rw [hl, hb]; exact h
theorem built_one : Tryd.prog.built 26 [(2, .int .i64 1)] = some (infC ⟨#[]⟩ (fun _ => 0) 1 (.slice none 0 0) ⟨#[]⟩ (.slice none 0 0)) := by kernel_rfl
theorem inf_oneZ : (#[.string ⟨#[]⟩, .int .u8 0, .int .u8 0, .int .u8 0, .int .u8 0, .int .u8 0, .int .u8 0, .int .u8 0, .int .u8 0, .int .u8 0, .int .u8 0, .int .u8 0, .int .u8 0, .int .u8 0, .int .u8 0, .int .u8 0, .int .u8 0, .int .u8 0, .int .u8 0, .int .u8 0, .int .u8 0, .int .u8 0, .int .u8 0, .int .u8 0, .int .u8 0, .int .u8 0, .int .u8 0, .int .u8 0, .int .u8 0, .int .u8 0, .int .u8 0, .int .u8 0, .int .u8 0, .int .i64 1, .slice none 0 0, .string ⟨#[]⟩, .slice none 0 0] : Array Value) = infC ⟨#[]⟩ (fun _ => 0) 1 (.slice none 0 0) ⟨#[]⟩ (.slice none 0 0) := by rfl
/-- What the law's drawn region keeps. -/
structure BkW (w : World) (P : ByteArray) (D : Nat → Int) (z : Int) (F : ByteArray) (vr vs : Value) (P' : ByteArray) (D' : Nat → Int) (z' : Int) (F' : ByteArray) (vr' vs' : Value) (g g' : Nat) (W : World) : Prop where
  i1 : Inf W g P D z vr F vs
  i2 : Inf W g' P' D' z' vr' F' vs'
  bel : Below w.heap.size w W
theorem BkW.next {w : World} {P : ByteArray} {D : Nat → Int} {z : Int} {F : ByteArray} {vr vs : Value} {P' : ByteArray} {D' : Nat → Int} {z' : Int} {F' : ByteArray} {vr' vs' : Value} {g g' : Nat} {W W' : World} (h : BkW w P D z F vr vs P' D' z' F' vr' vs' g g' W) (c : Below W.heap.size W W') : BkW w P D z F vr vs P' D' z' F' vr' vs' g g' W' :=
  ⟨h.i1.below c h.i1.lt, h.i2.below c h.i2.lt, h.bel.trans (c.mono h.bel.size)⟩

set_option maxRecDepth 100000 in
set_option maxHeartbeats 4000000 in
theorem ibk_walk (P : ByteArray) (D : Nat → Int) (z : Int) (F : ByteArray) (xr : Option Addr) (nr cr : Nat) (fr : Nat → ByteArray) (xs : Option Addr) (ns cz : Nat) (fs : Nat → ByteArray)
    (P' : ByteArray) (D' : Nat → Int) (z' : Int) (F' : ByteArray) (xr' : Option Addr) (nr' cr' : Nat) (fr' : Nat → ByteArray) (xs' : Option Addr) (ns' cz' : Nat) (fs' : Nat → ByteArray) (w : World)
    (hr : SIs w xr nr fr) (hs : SIs w xs ns fs) (hnc : ns ≤ cz) (hm : nr ≤ 1048576 ∧ ns ≤ 1048576) (hsz : ∀ i, i < ns → (fs i).size ≤ 1048576) (_hrz : ∀ i, i < nr → (fr i).size ≤ 1048576) (hD : ∀ j, 0 ≤ D j ∧ D j < 256) (_hPz : P.size ≤ 1048576) (_hFz : F.size ≤ 1048576)
    (hr' : SIs w xr' nr' fr') (hs' : SIs w xs' ns' fs') (_hnc' : ns' ≤ cz') (hm' : nr' ≤ 1048576 ∧ ns' ≤ 1048576) (_hsz' : ∀ i, i < ns' → (fs' i).size ≤ 1048576) (_hrz' : ∀ i, i < nr' → (fr' i).size ≤ 1048576) (_hD' : ∀ j, 0 ≤ D' j ∧ D' j < 256) (_hPz' : P'.size ≤ 1048576) (_hFz' : F'.size ≤ 1048576) (hT : PT w) :
    Calls Tryd.prog 5 #[.agg (infC P D z (.slice xr nr cr) F (.slice xs ns cz)), .agg (infC P' D' z' (.slice xr' nr' cr') F' (.slice xs' ns' cz'))] w fun e w' => e = .returned (.bool true) ∧ Below w.heap.size w w' := by
  have I0 : Inf ((w.alloc (.cells (infC P D z (.slice xr nr cr) F (.slice xs ns cz)) 26)).alloc (.cells (infC P' D' z' (.slice xr' nr' cr') F' (.slice xs' ns' cz')) 26)) w.heap.size P D z (.slice xr nr cr) F (.slice xs ns cz) := (Inf.box _ _ _ _ _ _ _ _).same (Below.heap_alloc _ _ _ (by rw [World.size_alloc]; omega))
  have J0 : Inf ((w.alloc (.cells (infC P D z (.slice xr nr cr) F (.slice xs ns cz)) 26)).alloc (.cells (infC P' D' z' (.slice xr' nr' cr') F' (.slice xs' ns' cz')) 26)) (w.heap.size + 1) P' D' z' (.slice xr' nr' cr') F' (.slice xs' ns' cz') := by
    have := Inf.box (w.alloc (.cells (infC P D z (.slice xr nr cr) F (.slice xs ns cz)) 26)) 26 P' D' z' (.slice xr' nr' cr') F' (.slice xs' ns' cz')
    rw [World.size_alloc] at this
    exact this
  have B0 : Below w.heap.size w ((w.alloc (.cells (infC P D z (.slice xr nr cr) F (.slice xs ns cz)) 26)).alloc (.cells (infC P' D' z' (.slice xr' nr' cr') F' (.slice xs' ns' cz')) 26)) := ((Below.refl _ _).alloc (Nat.le_refl _) _).alloc (by rw [World.size_alloc]; omega) _
  have CA := fun W (b : Below w.heap.size w W) => iaw_any W (hT.below b)
  have CZ := fun W => same_any ⟨#[]⟩ (fun _ => 0) 1 ⟨#[]⟩ none 0 0 (fun _ => emp) none 0 0 (fun _ => emp) ⟨#[]⟩ (fun _ => 0) 0 ⟨#[]⟩ none 0 0 (fun _ => emp) none 0 0 (fun _ => emp) W (fun i hi => absurd hi (by omega)) (fun i hi => absurd hi (by omega)) (fun i hi => absurd hi (by omega)) (fun i hi => absurd hi (by omega)) (by omega) (by omega) (by omega) (by omega)
  have CR := fun W (b : Below w.heap.size w W) => print_any P D z F xr nr cr fr xs ns cz fs W (hr.below b (Nat.le_refl _)) (hs.below b (Nat.le_refl _)) hnc (by omega) (fun i hi => by have := hsz i hi; omega) (hT.below b)
  have CC := fun W (b : Below w.heap.size w W) => ick_any P D z F xr nr cr fr xs ns cz fs W (hr.below b (Nat.le_refl _)) (hs.below b (Nat.le_refl _)) hnc (by omega) (fun i hi => by have := hsz i hi; omega)
  have CS := fun W (b : Below w.heap.size w W) => same_any P D z F xr nr cr fr xs ns cz fs P' D' z' F' xr' nr' cr' fr' xs' ns' cz' fs' W (hr.below b (Nat.le_refl _)) (hs.below b (Nat.le_refl _)) (hr'.below b (Nat.le_refl _)) (hs'.below b (Nat.le_refl _)) (by omega) (by omega) (by omega) (by omega)
  have CI := fun W (b : Below w.heap.size w W) => same_any P D z F xr nr cr fr xs ns cz fs P D z F xr nr cr fr xs ns cz fs W (hr.below b (Nat.le_refl _)) (hs.below b (Nat.le_refl _)) (hr.below b (Nat.le_refl _)) (hs.below b (Nat.le_refl _)) (by omega) (by omega) (by omega) (by omega)
  have CL := fun W (b : Below w.heap.size w W) => alike_any P D z F xr nr cr fr xs ns cz fs P' D' z' F' xr' nr' cr' fr' xs' ns' cz' fs' W (hr.below b (Nat.le_refl _)) (hs.below b (Nat.le_refl _)) (hr'.below b (Nat.le_refl _)) (hs'.below b (Nat.le_refl _)) (by omega) (by omega) (by omega) (by omega)
  have CP1 := fun W => plain_any P D z F xr nr cr xs ns cz W
  have CP2 := fun W => plain_any P' D' z' F' xr' nr' cr' xs' ns' cz' W
  have HR : Hid (SIs w xr nr fr) := hr
  have HS : Hid (SIs w xs ns fs) := hs
  have HM : Hid (nr ≤ 1048576 ∧ ns ≤ 1048576) := hm
  have HB := sm_back (P := P) (z := z) (fr := fr) (nr := nr) (F := F) (fs := fs) (ns := ns) hD
  have HQ : Hid (∀ (_ : ckC P z fr nr F fs ns = 0), PZ (prT P D z fr nr F fs ns) = (backS P D z fr nr F fs ns, 0, 0) ∧ (prT P D z fr nr F fs ns).size ≤ 1000000000) := fun h => ⟨back_form P D z fr nr F fs ns h, pr_small h hm.2⟩
  simp only [sm_one] at CZ
  simp only [sm_refl] at CI
  generalize smB P D z fr nr F fs ns P' D' z' fr' nr' F' fs' ns' = b0 at CS CL
  generalize hTX : prT P D z fr nr F fs ns = tx at CR HQ
  clear hTX
  generalize hc0 : ckC P z fr nr F fs ns = c0 at CR CC HQ
  clear hc0 hr hs hr' hs' hnc _hnc' hm hm' hsz _hsz' _hrz _hrz' hD _hD' _hPz _hPz' _hFz _hFz' hT
  go_enter Tryd.func5, Tryd.ntmps5
  go_wp2_with fail
  generalize (w.alloc (.cells (infC P D z (.slice xr nr cr) F (.slice xs ns cz)) 26)).alloc (.cells (infC P' D' z' (.slice xr' nr' cr') F' (.slice xs' ns' cz')) 26) = w0 at I0 J0 B0 ⊢
  refine (CA w0 B0).mono ?_
  rintro e w1 ⟨rfl, b1⟩
  have I1 : Hid (Inf w1 w.heap.size P D z (.slice xr nr cr) F (.slice xs ns cz)) := I0.below b1 I0.lt
  have J1 : Hid (Inf w1 (w.heap.size + 1) P' D' z' (.slice xr' nr' cr') F' (.slice xs' ns' cz')) := J0.below b1 J0.lt
  have B1 : Hid (Below w.heap.size w w1) := B0.trans (b1.mono B0.size)
  clear I0 J0 B0 b1 CA
  -- @1
  go_wp2_with fail
  rw [inf_oneZ, inf_zero]
  refine (CZ w1).mono ?_
  rintro e w2 ⟨rfl, b2⟩
  have I2 : Inf w2 w.heap.size P D z (.slice xr nr cr) F (.slice xs ns cz) := I1.out.below b2 I1.out.lt
  have J2 : Hid (Inf w2 (w.heap.size + 1) P' D' z' (.slice xr' nr' cr') F' (.slice xs' ns' cz')) := J1.out.below b2 J1.out.lt
  have B2 : Hid (Below w.heap.size w w2) := B1.out.trans (b2.mono B1.out.size)
  clear I1 J1 B1 b2 CZ
  go_wp2_with (refine wpList_load_infG (by rfl) (.tmp 2) (by rfl) (by rfl) I2 ?_)
  refine (CR w2 B2.out).mono ?_
  rintro e w3 ⟨rfl, b3⟩
  have I3 : Inf w3 w.heap.size P D z (.slice xr nr cr) F (.slice xs ns cz) := I2.below b3 I2.lt
  have J3 : Hid (Inf w3 (w.heap.size + 1) P' D' z' (.slice xr' nr' cr') F' (.slice xs' ns' cz')) := J2.out.below b3 J2.out.lt
  have B3 : Hid (Below w.heap.size w w3) := B2.out.trans (b3.mono B2.out.size)
  clear I2 J2 B2 b3 CR
  go_wp2_with (refine wpList_load_infG (by rfl) (.tmp 2) (by rfl) (by rfl) I3 ?_)
  refine (CC w3 B3.out).mono ?_
  rintro e w4 ⟨rfl, b4⟩
  have I4 : Inf w4 w.heap.size P D z (.slice xr nr cr) F (.slice xs ns cz) := I3.below b4 I3.lt
  have J4 : Hid (Inf w4 (w.heap.size + 1) P' D' z' (.slice xr' nr' cr') F' (.slice xs' ns' cz')) := J3.out.below b4 J3.out.lt
  have B4 : Hid (Below w.heap.size w w4) := B3.out.trans (b4.mono B3.out.size)
  clear I3 J3 B3 b4 CC
  have ec : (c0 != c0) = false := by simp
  go_wp2_with fail
  -- @2
  have K4 : BkW w P D z F (.slice xr nr cr) (.slice xs ns cz) P' D' z' F' (.slice xr' nr' cr') (.slice xs' ns' cz') w.heap.size (w.heap.size + 1) w4.drew := ⟨I4.same rfl, J4.out.same rfl, B4.out.drew⟩
  have eb : (b0 != b0) = false := by simp
  clear I4 J4 B4 ec
  refine wp_region_held_drew (S := BkW w P D z F (.slice xr nr cr) (.slice xs ns cz) P' D' z' F' (.slice xr' nr' cr') (.slice xs' ns' cz') w.heap.size (w.heap.size + 1)) (by kernel_rfl) K4 (fun hH => ?_)
  generalize w4.drew = W at hH ⊢
  clear K4
  -- @R
  refine wpAnyH_take (i := 0) (oi := { dst := some 25, op := Op.load 26 (Operand.tmp 2), type := 26, pos := "law.go:86", after := #[], guard := none }) rfl (by kernel_rfl) (by kernel_rfl) (by kernel_rfl) (fun _ _ _ h => h) (yieldsIf_inf (by rfl) (.tmp 2) rfl rfl (fun w' s => s.i1)) hH ?_
  simp only [Act.put, List.setIfInBounds_toArray, List.set_cons_zero, List.set_cons_succ]
  refine wpAnyH_take (i := 1) (oi := { dst := some 26, op := Op.load 26 (Operand.tmp 3), type := 26, pos := "law.go:86", after := #[], guard := none }) rfl (by kernel_rfl) (by kernel_rfl) (by kernel_rfl) (fun _ _ _ h => h) (yieldsIf_inf (by rfl) (.tmp 3) rfl rfl (fun w' s => s.i2)) hH ?_
  simp only [Act.put, List.setIfInBounds_toArray, List.set_cons_zero, List.set_cons_succ]
  refine wpAnyH_take (i := 3) (oi := { dst := some 28, op := Op.load 26 (Operand.tmp 2), type := 26, pos := "law.go:86", after := #[], guard := none }) rfl (by kernel_rfl) (by kernel_rfl) (by kernel_rfl) (fun _ _ _ h => h) (yieldsIf_inf (by rfl) (.tmp 2) rfl rfl (fun w' s => s.i1)) hH ?_
  simp only [Act.put, List.setIfInBounds_toArray, List.set_cons_zero, List.set_cons_succ]
  refine wpAnyH_take (i := 5) (oi := { dst := some 30, op := Op.load 26 (Operand.tmp 3), type := 26, pos := "law.go:86", after := #[], guard := none }) rfl (by kernel_rfl) (by kernel_rfl) (by kernel_rfl) (fun _ _ _ h => h) (yieldsIf_inf (by rfl) (.tmp 3) rfl rfl (fun w' s => s.i2)) hH ?_
  simp only [Act.put, List.setIfInBounds_toArray, List.set_cons_zero, List.set_cons_succ]
  refine wpAnyH_ready (rs := [2]) (by kernel_rfl) (by decide) (AllReadyH.cons rfl (fun K hK => ?_) AllReadyH.nil)
  rw [if_pos (by rfl)]
  go_simp
  refine (CS _ hH.bel).mono ?_
  rintro e v1 ⟨rfl, c1⟩
  go_wp2_with fail
  have hH1 := hH.next c1
  refine hK.out _ _ hH1 (fun _ => ?_)
  clear hK K
  try simp only [Act.put, List.setIfInBounds_toArray, List.set_cons_zero, List.set_cons_succ]
  refine wpAnyH_ready (rs := [4]) (by kernel_rfl) (by decide) (AllReadyH.cons rfl (fun K hK => ?_) AllReadyH.nil)
  rw [if_pos (by rfl)]
  go_simp
  refine (CP1 _).mono ?_
  rintro e v2 ⟨rfl, c2⟩
  go_wp2_with fail
  have hH2 := hH1.next c2
  refine hK.out _ _ hH2 (fun _ => ?_)
  clear hK K
  try simp only [Act.put, List.setIfInBounds_toArray, List.set_cons_zero, List.set_cons_succ]
  refine wpAnyH_ready (rs := [6]) (by kernel_rfl) (by decide) (AllReadyH.cons rfl (fun K hK => ?_) AllReadyH.nil)
  rw [if_pos (by rfl)]
  go_simp
  refine (CP2 _).mono ?_
  rintro e v3 ⟨rfl, c3⟩
  go_wp2_with fail
  have hH3 := hH2.next c3
  refine hK.out _ _ hH3 (fun _ => ?_)
  clear hK K
  try simp only [Act.put, List.setIfInBounds_toArray, List.set_cons_zero, List.set_cons_succ]
  refine wpAnyH_ready (rs := [7]) (by kernel_rfl) (by decide) (AllReadyH.cons rfl (fun K hK => ?_) AllReadyH.nil)
  rw [if_pos (by rfl)]
  go_simp
  refine (CL _ hH3.bel).mono ?_
  rintro e v4 ⟨rfl, c4⟩
  go_wp2_with fail
  have hH4 := hH3.next c4
  refine hK.out _ _ hH4 (fun _ => ?_)
  clear hK K
  try simp only [Act.put, List.setIfInBounds_toArray, List.set_cons_zero, List.set_cons_succ]
  refine wpAnyH_ready (rs := [8]) (by kernel_rfl) (by decide) (AllReadyH.cons rfl (fun K hK => ?_) AllReadyH.nil)
  rw [if_pos (by rfl)]
  go_simp
  refine hK.out _ _ hH4 (fun _ => ?_)
  clear hK K
  try simp only [Act.put, List.setIfInBounds_toArray, List.set_cons_zero, List.set_cons_succ]
  refine wpAnyH_ready (rs := [9]) (by kernel_rfl) (by decide) (AllReadyH.cons rfl (fun K hK => ?_) AllReadyH.nil)
  rw [if_pos (by rfl)]
  go_simp
  refine hK.out _ _ hH4 (fun _ => ?_)
  clear hK K
  try simp only [Act.put, List.setIfInBounds_toArray, List.set_cons_zero, List.set_cons_succ]
  refine wpAnyH_take (i := 10) (oi := { dst := some 35, op := Op.load 26 (Operand.tmp 2), type := 26, pos := "law.go:86", after := #[{ on := 9, ground := Ground.guard }], guard := some (9, false) }) rfl (by kernel_rfl) (by kernel_rfl) (by kernel_rfl) (fun _ _ _ h => h) (yieldsIf_inf (by rfl) (.tmp 2) rfl rfl (fun w' s => s.i1)) hH4 ?_
  simp only [Act.put, List.setIfInBounds_toArray, List.set_cons_zero, List.set_cons_succ]
  refine wpAnyH_take (i := 11) (oi := { dst := some 36, op := Op.load 26 (Operand.tmp 2), type := 26, pos := "law.go:86", after := #[{ on := 9, ground := Ground.guard }], guard := some (9, false) }) rfl (by kernel_rfl) (by kernel_rfl) (by kernel_rfl) (fun _ _ _ h => h) (yieldsIf_inf (by rfl) (.tmp 2) rfl rfl (fun w' s => s.i1)) hH4 ?_
  simp only [Act.put, List.setIfInBounds_toArray, List.set_cons_zero, List.set_cons_succ]
  refine wpAnyH_ready (rs := [12]) (by kernel_rfl) (by decide) (AllReadyH.cons rfl (fun K hK => ?_) AllReadyH.nil)
  rw [if_pos (by rfl)]
  go_simp
  refine (CI _ hH4.bel).mono ?_
  rintro e v5 ⟨rfl, c5⟩
  go_wp2_with fail
  have hH5 := hH4.next c5
  refine hK.out _ _ hH5 (fun _ => ?_)
  clear hK K
  try simp only [Act.put, List.setIfInBounds_toArray, List.set_cons_zero, List.set_cons_succ]
  refine wpAnyH_ready (rs := [13]) (by kernel_rfl) (by decide) (AllReadyH.cons rfl (fun K hK => ?_) AllReadyH.nil)
  rw [if_pos (by rfl)]
  go_simp
  refine hK.out _ _ hH5 (fun _ => ?_)
  clear hK K
  try simp only [Act.put, List.setIfInBounds_toArray, List.set_cons_zero, List.set_cons_succ]
  refine wpAnyH_ready (rs := [14]) (by kernel_rfl) (by decide) (AllReadyH.cons rfl (fun K hK => ?_) AllReadyH.nil)
  rw [if_pos (by rfl)]
  go_simp
  refine hK.out _ _ hH5 (fun _ => ?_)
  clear hK K
  try simp only [Act.put, List.setIfInBounds_toArray, List.set_cons_zero, List.set_cons_succ]
  -- @E
  refine wpAnyH_done (by kernel_rfl) ?_ _
  have I5 := hH5.i1
  have B5 : Hid (Below w.heap.size w v5) := hH5.bel
  clear hH hH1 hH2 hH3 hH4 hH5 c1 c2 c3 c4 c5 CS CL CI CP1 CP2 eb
  by_cases hc : c0 = 0
  · subst hc
    obtain ⟨q1, q2⟩ := HQ.out rfl
    have CP := iparse_any tx v5 (by omega)
    rw [q1] at CP
    change Calls _ _ _ _ (fun e w' => (∃ vr vs, e = .returned (.tuple #[.agg (infC P (backS P D z fr nr F fs ns).D z vr F vs), .agg #[.int .i64 0, .int .i64 ((0 : Nat) : Int)]]) ∧ OwnR w' v5.heap.size vr ((List.range nr).map fr) ∧ OwnS w' v5.heap.size vs ((List.range ns).map fs) ∧ _) ∧ Below v5.heap.size v5 w') at CP
    rw [prS_z rfl]
    have hlr : ((List.range nr).map fr).length ≤ 1048576 := by rw [List.length_map, List.length_range]; exact HM.out.1
    have hls : ((List.range ns).map fs).length ≤ 1048576 := by rw [List.length_map, List.length_range]; exact HM.out.2
    generalize (backS P D z fr nr F fs ns).D = E at CP HB
    generalize (List.range nr).map fr = R at CP HB hlr
    generalize (List.range ns).map fs = S at CP HB hls
    clear HQ q1 q2
    go_wp2_with fail
    refine CP.mono ?_
    clear CP
    -- @3
    rintro e w6 ⟨⟨vr, vs, rfl, OR, OS, _⟩, b6⟩
    obtain ⟨yr, dr, rfl, hdr, SR⟩ := OR.shape
    obtain ⟨ys, dz, rfl, hdz, SS⟩ := OS.shape
    have I6 : Hid (Inf w6 w.heap.size P D z (.slice xr nr cr) F (.slice xs ns cz)) := I5.below b6 I5.lt
    have B6 : Hid (Below w.heap.size w w6) := B5.out.trans (b6.mono B5.out.size)
    clear b6 I5 B5 OR OS
    have J0 : Inf ((w6.alloc (.cells (infC ⟨#[]⟩ (fun _ => 0) 0 (.slice none 0 0) ⟨#[]⟩ (.slice none 0 0)) 26)).alloc (.cells #[.int .i64 0, .int .i64 0] 42)) w6.heap.size ⟨#[]⟩ (fun _ => 0) 0 (.slice none 0 0) ⟨#[]⟩ (.slice none 0 0) := (Inf.box _ _ _ _ _ _ _ _).same (Below.heap_alloc _ _ _ (by rw [World.size_alloc]; omega))
    have F0 : Hid (Row .i64 ((w6.alloc (.cells (infC ⟨#[]⟩ (fun _ => 0) 0 (.slice none 0 0) ⟨#[]⟩ (.slice none 0 0)) 26)).alloc (.cells #[.int .i64 0, .int .i64 0] 42)) (w6.heap.size + 1) 2 (fun _ => 0)) := by
      have := Row.arr (k := .i64) (w := w6.alloc (.cells (infC ⟨#[]⟩ (fun _ => 0) 0 (.slice none 0 0) ⟨#[]⟩ (.slice none 0 0)) 26)) (e := 42) (C := #[.int .i64 0, .int .i64 0]) (n := 2) (f := fun _ => 0) (fun j hj => by rcases (show j = 0 ∨ j = 1 from by omega) with rfl | rfl <;> rfl)
      rw [World.size_alloc] at this
      exact this
    have B0 : Hid (Below w6.heap.size w6 ((w6.alloc (.cells (infC ⟨#[]⟩ (fun _ => 0) 0 (.slice none 0 0) ⟨#[]⟩ (.slice none 0 0)) 26)).alloc (.cells #[.int .i64 0, .int .i64 0] 42))) := ((Below.refl _ _).alloc (Nat.le_refl _) _).alloc (by rw [World.size_alloc]; omega) _
    have z0 : Hid (w6.heap.size + 2 = ((w6.alloc (.cells (infC ⟨#[]⟩ (fun _ => 0) 0 (.slice none 0 0) ⟨#[]⟩ (.slice none 0 0)) 26)).alloc (.cells #[.int .i64 0, .int .i64 0] 42)).heap.size) := by unfold Hid; rw [World.size_alloc, World.size_alloc]
    go_wp2_with (refine wpList_store_inf (by rfl) (.tmp 7) (.tmp 47) (by rfl) (by rfl) (by rfl) J0 rfl rfl (by rfl) ?_; intro W5 R5 U5; refine Hid.out ?_)
    unfold Hid
    have F5 : Row .i64 W5 (w6.heap.size + 1) 2 (fun _ => 0) := F0.out.upd U5 (by have := z0.out; omega) (by omega)
    have B5' : Hid (Below w6.heap.size w6 W5) := U5.below B0.out (Nat.le_refl _) B0.out.size
    have z5 : Hid (w6.heap.size + 2 = W5.heap.size) := by unfold Hid; rw [U5.size]; exact z0.out
    have d0 := F5.cell 0 (by omega)
    have d1 := F5.cell 1 (by omega)
    have g0 := F5.free 0 (by omega)
    have g1 := F5.free 1 (by omega)
    have F6 : Row .i64 ((W5.setCell ⟨w6.heap.size + 1, 0, none⟩ (.int .i64 0)).setCell ⟨w6.heap.size + 1, 1, none⟩ (.int .i64 0)) (w6.heap.size + 1) 2 (fun j => if j = 1 then (0 : Int) else if j = 0 then 0 else 0) := (F5.set 0 0 (by omega)).set 1 0 (by omega)
    have R6 : ((W5.setCell ⟨w6.heap.size + 1, 0, none⟩ (.int .i64 0)).setCell ⟨w6.heap.size + 1, 1, none⟩ (.int .i64 0)).rangeAt w6.heap.size 0 (infL P E z (.slice yr R.length dr) F (.slice ys S.length dz)) := range_set (range_set R5 _ _ _ (by omega)) _ _ _ (by omega)
    have B7 : Below w6.heap.size w6 ((W5.setCell ⟨w6.heap.size + 1, 0, none⟩ (.int .i64 0)).setCell ⟨w6.heap.size + 1, 1, none⟩ (.int .i64 0)) := (B5'.out.setCell (by show _ ≤ w6.heap.size + 1; omega) _).setCell (by show _ ≤ w6.heap.size + 1; omega) _
    have e0 := F6.cell 0 (by omega)
    have e1 := F6.cell 1 (by omega)
    have I7 : Inf ((W5.setCell ⟨w6.heap.size + 1, 0, none⟩ (.int .i64 0)).setCell ⟨w6.heap.size + 1, 1, none⟩ (.int .i64 0)) w.heap.size P D z (.slice xr nr cr) F (.slice xs ns cz) := I6.out.below B7 I6.out.lt
    clear J0 F0 R5 U5 F5 B5' B0 z0
    have CI := same_any P E z F yr R.length dr (Sq.nth R) ys S.length dz (Sq.nth S) P D z F xr nr cr fr xs ns cz fs ((W5.setCell ⟨w6.heap.size + 1, 0, none⟩ (.int .i64 0)).setCell ⟨w6.heap.size + 1, 1, none⟩ (.int .i64 0)) (SR.below B7 (Nat.le_refl _)) (SS.below B7 (Nat.le_refl _)) (HR.out.below (B6.out.trans (B7.mono B6.out.size)) (Nat.le_refl _)) (HS.out.below (B6.out.trans (B7.mono B6.out.size)) (Nat.le_refl _)) (by omega) (by omega) (by have := HM.out; omega) (by have := HM.out; omega)
    rw [HB] at CI
    have B8 : Hid (Below w.heap.size w ((W5.setCell ⟨w6.heap.size + 1, 0, none⟩ (.int .i64 0)).setCell ⟨w6.heap.size + 1, 1, none⟩ (.int .i64 0))) := B6.out.trans (B7.mono B6.out.size)
    clear HB SR SS B7 B6 I6 F6 HR HS HM hlr hls
    go_wp2_with (first | (refine wpList_load_rg (by rfl) (.tmp 7) (by rfl) (by rfl) R6 ?_; refine Hid.out ?_))
    unfold Hid
    go_wp2_with (first | (refine wpList_load_infG (by rfl) (.tmp 2) (by rfl) (by rfl) I7 ?_; refine Hid.out ?_))
    unfold Hid
    go_wp2_with fail
    refine CI.mono ?_
    rintro e w9 ⟨rfl, b9⟩
    have B9 : Hid (Below w.heap.size w w9) := B8.out.trans (b9.mono B8.out.size)
    clear CI R6 I7
    go_wp2
    go_ret
    exact ⟨rfl, B9.out⟩
  · rw [prS_n hc, show emp = (⟨#[]⟩ : ByteArray) from rfl]
    have hc' : (c0 != 0) = true := by rw [bne_iff_ne]; exact hc
    clear HQ
    go_wp2
    go_ret
    exact ⟨rfl, B5.out⟩
end Go.Proofs.YtgnlkggodchlbaaDoor
