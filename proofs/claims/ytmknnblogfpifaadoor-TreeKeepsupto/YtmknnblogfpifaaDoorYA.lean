/- TyF, gathered (own text of the verifier; made by joint.py). -/
import Derived.Test.YtmknnblogfpifaaDoorTyE
import Derived.Lib.SmallJoins
import Derived.Test.YtmknnblogfpifaaDoorTvE
import Derived.Test.YtmknnblogfpifaaDoorTwD
namespace Go.Proofs.YtmknnblogfpifaaDoor
open Go.RowKit

/-- The names of a path, or none. -/
def spN (p : ByteArray) : Option (List ByteArray) := if (pathF p).1 = 0 then some (pathN p) else none
theorem scan_parts (L : List ByteArray) (i a : Nat) (h : (scan L i a).1 = 0) : (∀ x ∈ L, chk x = 0) ∧ (L = [] ∨ i + L.length ≤ 31) := by
  induction L generalizing i a with
  | nil => exact ⟨fun x hx => absurd hx (by simp), Or.inl rfl⟩
  | cons x r ih =>
    by_cases h31 : 31 ≤ i
    · rw [scan_deep x r i a h31] at h; exact absurd h (show ¬ (61 : Int) = 0 by decide)
    · by_cases hc : chk x = 0
      · rw [scan_good x r i a (by omega) hc] at h
        obtain ⟨h2, h3⟩ := ih _ _ h
        refine ⟨fun y hy => ?_, Or.inr ?_⟩
        · rcases List.mem_cons.1 hy with e | e
          · rw [e]; exact hc
          · exact h2 y e
        · rcases h3 with e | e
          · rw [e]; simp; omega
          · simp; omega
      · rw [scan_bad x r i a (by omega) hc] at h; exact absurd h hc
theorem scan_ok (L : List ByteArray) (i a : Nat) (h : ∀ x ∈ L, chk x = 0) (hl : i + L.length ≤ 31) : scan L i a = (0, 0) := by
  induction L generalizing i a with
  | nil => rfl
  | cons x r ih =>
    rw [List.length_cons] at hl
    rw [scan_good x r i a (by omega) (h x (by simp))]
    exact ih _ _ (fun y hy => h y (by simp [hy])) (by omega)

theorem ext_split (p : ByteArray) (f q : Nat) (hf : f ≤ q) (hq : q < p.size) (hb : bt p q = 47) : p.extract f q ++ ⟨#[47]⟩ ++ p.extract (q + 1) p.size = p.extract f p.size := by
  apply bytes_ext
  · rw [ByteArray.size_append, ByteArray.size_append, ext_size2 p f q hf (by omega), ext_size2 p (q + 1) p.size (by omega) (Nat.le_refl _), ext_size2 p f p.size (by omega) (Nat.le_refl _)]
    show q - f + 1 + _ = _; omega
  · intro k hk
    have s1 := ext_size2 p f q hf (by omega)
    have s2 := ext_size2 p (q + 1) p.size (by omega) (Nat.le_refl _)
    rw [ByteArray.size_append, ByteArray.size_append, s1, s2] at hk
    have hk' : k < q - f + 1 + (p.size - (q + 1)) := hk
    have e0 : bt (p.extract f p.size) k = bt p (f + k) := bt_ext p f k (by omega)
    rw [e0]
    have sz : (p.extract f q ++ ⟨#[47]⟩ ++ p.extract (q + 1) p.size).size = q - f + 1 + (p.size - (q + 1)) := by
      rw [ByteArray.size_append, ByteArray.size_append, s1, s2]; rfl
    rw [← get_bt _ k (by rw [sz]; exact hk')]
    have s3 : (p.extract f q ++ ⟨#[47]⟩).size = q - f + 1 := by rw [ByteArray.size_append, s1]; rfl
    by_cases h1 : k < q - f
    · rw [ByteArray.getElem_append_left (by rw [s3]; omega), ByteArray.getElem_append_left (by rw [s1]; exact h1), ByteArray.getElem_extract, ← get_bt p (f + k) (by omega)]
    · by_cases h2 : k = q - f
      · rw [ByteArray.getElem_append_left (by rw [s3]; omega), ByteArray.getElem_append_right (by rw [s1]; omega)]
        rw [show f + k = q by omega, hb]
        have : k - (p.extract f q).size = 0 := by rw [s1]; omega
        simp only [this]
        rfl
      · rw [ByteArray.getElem_append_right (by rw [s3]; omega), ByteArray.getElem_extract, ← get_bt p (f + k) (by omega)]
        congr 3
        rw [s3]; omega

theorem joinB_one (x : ByteArray) : joinB [x] = x := rfl
theorem joinB_cons (x : ByteArray) (L : List ByteArray) (h : L ≠ []) : joinB (x :: L) = x ++ ⟨#[47]⟩ ++ joinB L := by
  cases L with
  | nil => exact absurd rfl h
  | cons y r => rfl
theorem pcs_ne (p : ByteArray) (r f : Nat) : pcs p r f ≠ [] := fun e => by have := pcs_pos p r f; rw [e] at this; simp at this
theorem join_pcs (p : ByteArray) (r f : Nat) (hf : f ≤ p.size) : joinB (pcs p r f) = p.extract f p.size := by
  induction r generalizing f with
  | zero => exact joinB_one _
  | succ r ih =>
    by_cases e : nx p f = p.size
    · rw [pcs_last p _ f e]; exact joinB_one _
    · obtain ⟨h1, h2, _, h4⟩ := nx_spec p f hf
      rw [pcs_more p r f e, joinB_cons _ _ (pcs_ne _ _ _), ih (nx p f + 1) (by omega)]
      exact ext_split p f (nx p f) h1 (by omega) (h4 (by omega))

theorem chk_parts (x : ByteArray) (h : chk x = 0) : x.size ≠ 0 ∧ ∀ k, k < x.size → bt x k ≠ 47 := by
  unfold chk at h
  split at h
  · cases h
  · rename_i h1
    split at h
    · cases h
    · split at h
      · cases h
      · rename_i h3
        refine ⟨empty_size x (by simpa using h1), fun k hk e => h3 ?_⟩
        rw [Bool.or_eq_true]; left; exact (hasB_iff x 47).2 ⟨k, hk, e⟩

theorem bt_app_left (a b : ByteArray) (i : Nat) (hi : i < a.size) : bt (a ++ b) i = bt a i := by
  rw [← get_bt a i hi, ← get_bt (a ++ b) i (by rw [ByteArray.size_append]; omega), ByteArray.getElem_append_left hi]
theorem bt_app_right (a b : ByteArray) (i : Nat) (hi : i < b.size) : bt (a ++ b) (a.size + i) = bt b i := by
  rw [← get_bt b i hi, ← get_bt (a ++ b) (a.size + i) (by rw [ByteArray.size_append]; omega), ByteArray.getElem_append_right (by omega)]
  simp

theorem pcs_join (p : ByteArray) (L : List ByteArray) (r f : Nat) (hf : f ≤ p.size) (hL : L ≠ []) (hr : L.length ≤ r + 1) (hc : ∀ x ∈ L, chk x = 0) (he : p.extract f p.size = joinB L) : pcs p r f = L := by
  induction L generalizing r f with
  | nil => exact absurd rfl hL
  | cons x L ih =>
    obtain ⟨hx0, hxs⟩ := chk_parts x (hc x (by simp))
    have hsz : (p.extract f p.size).size = p.size - f := ext_size2 p f p.size hf (Nat.le_refl _)
    by_cases hl : L = []
    · subst hl
      rw [joinB_one] at he
      have hn : nx p f = p.size := nx_is p f p.size hf (Nat.le_refl _) (fun j j1 j2 e => by
        have := bt_ext p f (j - f) (by omega)
        rw [show f + (j - f) = j by omega, e, he] at this
        exact hxs (j - f) (by rw [← he, hsz]; omega) this) (fun h => by omega)
      rw [pcs_last p r f hn, he]
    · rw [joinB_cons x L hl] at he
      have hs2 : p.size - f = x.size + 1 + (joinB L).size := by rw [← hsz, he, ByteArray.size_append, ByteArray.size_append]; rfl
      have hb : ∀ i, i < x.size → bt p (f + i) = bt x i := fun i hi => by
        rw [← bt_ext p f i (by omega), he, ByteArray.append_assoc, bt_app_left _ _ i hi]
      have hb2 : bt p (f + x.size) = 47 := by
        rw [← bt_ext p f x.size (by omega), he, ByteArray.append_assoc]
        have := bt_app_right x (⟨#[47]⟩ ++ joinB L) 0 (by rw [ByteArray.size_append]; show 0 < 1 + _; omega)
        rw [Nat.add_zero] at this
        rw [this, bt_app_left _ _ 0 (by show 0 < 1; omega)]; decide +kernel
      have hn : nx p f = f + x.size := nx_is p f (f + x.size) (by omega) (by omega) (fun j j1 j2 e => by
        have := hb (j - f) (by omega)
        rw [show f + (j - f) = j by omega, e] at this
        exact hxs (j - f) (by omega) this.symm) (fun _ => hb2)
      have hlen : 0 < L.length := by cases L with
        | nil => exact absurd rfl hl
        | cons _ _ => simp
      rw [List.length_cons] at hr
      obtain ⟨r, rfl⟩ : ∃ r', r = r' + 1 := ⟨r - 1, by omega⟩
      have ex : p.extract f (f + x.size) = x := by
        apply bytes_ext
        · rw [ext_size2 p f (f + x.size) (by omega) (by omega)]; omega
        · intro k hk
          rw [ext_size2 p f (f + x.size) (by omega) (by omega)] at hk
          rw [← get_bt _ k (by rw [ext_size2 p f (f + x.size) (by omega) (by omega)]; exact hk), ByteArray.getElem_extract, get_bt p (f + k) (by omega)]
          exact hb k (by omega)
      have er : p.extract (f + x.size + 1) p.size = joinB L := by
        apply bytes_ext
        · rw [ext_size2 p _ p.size (by omega) (Nat.le_refl _)]; omega
        · intro k hk
          rw [ext_size2 p _ p.size (by omega) (Nat.le_refl _)] at hk
          rw [bt_ext p _ k (by omega), show f + x.size + 1 + k = f + (x.size + 1 + k) by omega, ← bt_ext p f _ (by omega), he]
          have := bt_app_right (x ++ ⟨#[47]⟩) (joinB L) k (by omega)
          rw [ByteArray.size_append] at this
          exact this
      rw [pcs_more p r f (by omega), hn, ex, ih r (f + x.size + 1) (by omega) hl (by omega) (fun y hy => hc y (by simp [hy])) er]

theorem spN_right : SpRight spN := by
  intro p ns h
  unfold spN at h
  split at h
  · rename_i hF
    cases h
    by_cases hz : p.size = 0
    · have e : pathN p = [] := by unfold pathN; rw [if_pos hz]
      rw [e]
      refine ⟨?_, fun x hx => absurd hx (by simp), by simp⟩
      show (⟨#[]⟩ : ByteArray) = p
      apply bytes_ext
      · exact hz.symm
      · intro k hk; exact absurd hk (by show ¬ k < 0; omega)
    · have e : pathN p = pcs p 31 0 := by unfold pathN; rw [if_neg hz, if_pos hF]
      have h2 : (scan (pcs p 31 0) 0 0).1 = 0 := by unfold pathF at hF; rw [if_neg hz] at hF; exact hF
      obtain ⟨h3, h4⟩ := scan_parts _ _ _ h2
      rw [e]
      refine ⟨by rw [join_pcs p 31 0 (Nat.zero_le _)]; simp, h3, ?_⟩
      rcases h4 with h4 | h4
      · rw [h4]; simp
      · omega
  · cases h
theorem joinB_pos (ns : List ByteArray) (h : ns ≠ []) (hc : ∀ s ∈ ns, chk s = 0) : (joinB ns).size ≠ 0 := by
  cases ns with
  | nil => exact absurd rfl h
  | cons x r =>
    have hx := (chk_parts x (hc x (by simp))).1
    cases r with
    | nil => exact hx
    | cons y r =>
      rw [joinB_cons x (y :: r) (by simp), ByteArray.size_append, ByteArray.size_append]
      omega
theorem spN_ok : SpOk spN := by
  intro ns hl hc
  unfold spN
  by_cases hn : ns = []
  · subst hn
    have hz : (joinB []).size = 0 := rfl
    have e1 : (pathF (joinB [])).1 = 0 := by unfold pathF; rw [if_pos hz]
    have e2 : pathN (joinB []) = [] := by unfold pathN; rw [if_pos hz]
    rw [if_pos e1, e2]
  · have hz := joinB_pos ns hn hc
    have hp : pcs (joinB ns) 31 0 = ns := pcs_join (joinB ns) ns 31 0 (Nat.zero_le _) hn (by omega) hc (by simp)
    have hs : scan (pcs (joinB ns) 31 0) 0 0 = (0, 0) := by rw [hp]; exact scan_ok ns 0 0 hc (by omega)
    have e1 : (pathF (joinB ns)).1 = 0 := by unfold pathF; rw [if_neg hz, hs]
    have e2 : pathN (joinB ns) = ns := by unfold pathN; rw [if_neg hz, if_pos e1, hp]
    rw [if_pos e1, e2]
theorem chk_short (x : ByteArray) (h : chk x = 0) : x.size ≤ 255 := by
  unfold chk at h
  split at h
  · cases h
  · split at h
    · cases h
    · omega
theorem wfL_of (P : Tr → Prop) (hP : ∀ T, P T → wfT T) : ∀ (nms : List ByteArray) (ks : List Tr), nms.length = ks.length → (∀ (j : Nat) (T : Tr), ks[j]? = some T → P T) → wfL nms ks
  | [], [], _, _ => by simp [wfL]
  | s :: nms, T :: ks, hl, h => by
    rw [wfL]
    exact ⟨hP T (h 0 T rfl), wfL_of P hP nms ks (by simpa using hl) (fun j T hj => h (j + 1) T hj)⟩
  | [], _ :: _, hl, _ => by simp at hl
  | _ :: _, [], hl, _ => by simp at hl
theorem At.wf {w : World} : ∀ (m : Nat) (v : Value) (T : Tr), At w m v T → wfT T
  | 0, _, _, h => h.elim
  | m + 1, v, .mk k e t ns ks, h => by
    obtain ⟨x, n, c, _, h1, h2, _, _, h5⟩ := h
    rw [wfT]
    refine wfL_of (fun T => ∃ v, At w m v T) (fun T hT => by obtain ⟨v, hv⟩ := hT; exact At.wf m v T hv) ns ks (by omega) (fun j T hj => ?_)
    have hjn : j < ns.length := by have := (List.getElem?_eq_some_iff.1 hj).1; omega
    rcases h5 with h5 | ⟨g, o, _, _, h6⟩
    · omega
    · obtain ⟨a, b, d, f, p, q, _, _, _, _, _, hA⟩ := h6 j ns[j] T (List.getElem?_eq_getElem hjn) hj
      exact ⟨_, hA⟩
theorem KidV.get {w : World} {B : Nat} : ∀ (nms : List ByteArray) (ks : List Tr) (cs : List Value) (fq : List Nat), KidV w B nms ks cs fq → ∀ (j : Nat) (s : ByteArray) (K : Tr), nms[j]? = some s → ks[j]? = some K → ∃ u fk, (∀ i, i < 5 → cs[j * 5 + i]? = (entV s K u)[i]?) ∧ TrV w B K u fk ∧ ∀ b ∈ fk, b ∈ fq
  | [], [], cs, fq, _, j, s, K, h1, _ => by simp at h1
  | a :: nms, T :: ks, cs, fq, h, j, s, K, h1, h2 => by
    rw [KidV] at h
    obtain ⟨v, cs', fp, fq', rfl, h3, h4, rfl⟩ := h
    cases j with
    | zero =>
      simp at h1 h2
      subst h1 h2
      refine ⟨v, fp, fun i hi => ?_, h3, fun b hb => by simp [hb]⟩
      rw [Nat.zero_mul, Nat.zero_add, List.getElem?_append_left (by show i < 5; exact hi)]
    | succ j =>
      simp at h1 h2
      obtain ⟨u, fk, h5, h6, h7⟩ := KidV.get nms ks cs' fq' h4 j s K h1 h2
      refine ⟨u, fk, fun i hi => ?_, h6, fun b hb => by simp [h7 b hb]⟩
      rw [← h5 i hi, List.getElem?_append_right (by show 5 ≤ _; omega)]
      congr 1
      show (j + 1) * 5 + i - 5 = _
      omega
  | [], _ :: _, cs, fq, h, _, _, _, _, _ => by simp [KidV] at h
  | _ :: _, [], cs, fq, h, _, _, _, _, _ => by simp [KidV] at h
theorem TrV.get {w : World} {B : Nat} {T : Tr} {v : Value} {fp : List Nat} (h : TrV w B T v fp) (j : Nat) (s : ByteArray) (K : Tr) (h1 : T.nms[j]? = some s) (h2 : T.ks[j]? = some K) :
    ∃ g cap u fk, v = .slice (some ⟨g, 0, none⟩) T.nms.length cap ∧ T.nms.length ≤ cap ∧ g ∈ fp ∧ (∀ i, i < 5 → w.cell? ⟨g, j * 5 + i, none⟩ = (entV s K u)[i]?) ∧ TrV w B K u fk ∧ ∀ b ∈ fk, b ∈ fp := by
  obtain ⟨k, e, t, nms, ks⟩ := T
  rw [TrV] at h
  obtain ⟨cs, fq, ho, hk, rfl⟩ := h
  have h1 : nms[j]? = some s := h1
  have h2 : ks[j]? = some K := h2
  have hj : j < nms.length := (List.getElem?_eq_some_iff.1 h1).1
  obtain ⟨u, fk, h3, h4, h5⟩ := KidV.get nms ks cs fq hk j s K h1 h2
  obtain ⟨g, cap, hv, _, _⟩ := World.ownsRow.form ho (by omega)
  have hcap : nms.length ≤ cap := by
    rcases ho.2 with ⟨e, _⟩ | ⟨_, cap', _, e, _, _, hn, _⟩
    · rw [e] at hv; cases hv
    · rw [hv] at e; injection e with _ _ e; subst e; exact hn
  subst hv
  refine ⟨g, cap, u, fk, rfl, hcap, by simp [blkL, Value.ownBlock], fun i hi => ?_, h4, fun b hb => by simp [h5 b hb]⟩
  rw [← h3 i hi]
  exact World.ownsRow.cellAt ho _ (by omega)


/-- The node that is none. -/
def zT : Tr := .mk 0 false ⟨#[]⟩ [] []
/-- What Get answers. -/
def getT (T : Tr) (p : ByteArray) : Int × Tr := if nmO [T] p ≠ 0 then (nmO [T] p, zT) else if (rch (pathN p) T).1 ≠ 0 then ((rch (pathN p) T).1, zT) else rch (pathN p) T
def NdP (R : Int × Tr) (w : World) (e : Ending) (w' : World) : Prop := (∃ x fp, e = .returned (.tuple #[.agg #[.int .i64 R.2.k, .bool R.2.e, .string R.2.t, x], .int .i64 R.1]) ∧ TrV w' w.heap.size R.2 x fp ∧ fp.Nodup) ∧ Below w.heap.size w w'
theorem NdP.bad {R : Int × Tr} {w w' : World} {c : Int} (h : R = (c, zT)) (b : Below w.heap.size w w') : NdP R w (.returned (.tuple #[.agg #[.int .i64 0, .bool false, .string ⟨#[]⟩, .slice none 0 0], .int .i64 c])) w' := by
  rw [h]
  exact ⟨⟨_, [], rfl, TrV.zero _ _ _ _ _ rfl rfl, List.nodup_nil⟩, b⟩

theorem NdP.ok {R : Int × Tr} {w w' : World} {c : Int} {T : Tr} {x : Value} {fp : List Nat} (h : R = (c, T)) (hV : TrV w' w.heap.size T x fp) (hn : fp.Nodup) (b : Below w.heap.size w w') : NdP R w (.returned (.tuple #[.agg #[.int .i64 T.k, .bool T.e, .string T.t, x], .int .i64 c])) w' := by
  rw [h]
  exact ⟨⟨x, fp, rfl, hV, hn⟩, b⟩

theorem At.NP {w : World} {m : Nat} {k : Int} {e : Bool} {t : ByteArray} {x : Option Addr} {n c : Nat} {T : Tr} (h : At w m (.agg #[.int .i64 k, .bool e, .string t, .slice x n c]) T) : T.k = k ∧ T.e = e ∧ T.t = t := by
  cases m with
  | zero => exact h.elim
  | succ m =>
    obtain ⟨k', e', t', ns, ks⟩ := T
    obtain ⟨x', n', c', h1, _⟩ := h
    injection h1 with h1; simp at h1
    exact ⟨h1.1.symm, h1.2.1.symm, h1.2.2.1.symm⟩
/-- A node just laid. -/
theorem NP.new {w : World} {m : Nat} {k : Int} {e : Bool} {t : ByteArray} {x : Option Addr} {n c : Nat} {T : Tr} (h : At w m (.agg #[.int .i64 k, .bool e, .string t, .slice x n c]) T) (ty : TypeId) : NP (w.alloc (.cells #[.int .i64 k, .bool e, .string t, .slice x n c] ty)) m w.heap.size 0 T := by
  obtain ⟨e1, e2, e3⟩ := h.NP
  refine ⟨by rw [World.size_alloc]; omega, x, n, c, ?_, ?_, ?_, ?_, ?_⟩
  · rw [World.cell?_alloc_new, e1]; rfl
  · rw [World.cell?_alloc_new, e2]; rfl
  · rw [World.cell?_alloc_new, e3]; rfl
  · rw [World.cell?_alloc_new]; rfl
  · rw [e1, e2, e3]; exact h.below ((Below.refl _ _).alloc (Nat.le_refl _) _)
theorem ckS_asc {T : Tr} {l : List Tr} (h : ckS l = 0) (hm : T ∈ l) (hw : wfT T) : ascT T := by
  induction l with
  | nil => cases hm
  | cons K l ih =>
    rw [ckS] at h
    by_cases hk : (ckT K).2 ≠ 0
    · rw [if_pos hk] at h; exact absurd h hk
    · rw [if_neg hk] at h
      rcases List.mem_cons.1 hm with rfl | hm
      · refine vT_asc T [] 24 hw ?_
        cases ho : (vT [] 24 T).off with
        | none => rfl
        | some o =>
          exfalso
          apply hk
          unfold ckT
          rw [ho]
          exact vT_code _ _ _ _ ho
      · exact ih h hm

theorem pathN_short (p : ByteArray) : (pathN p).length ≤ 32 := by
  unfold pathN
  split
  · simp
  · split
    · exact pcs_len p 31 0
    · simp
theorem cell4 {w : World} {R : Nat} {a b c d : Value} {ty : TypeId} (h : w.heap[R]? = some (.cells #[a, b, c, d] ty (0, 0))) : w.cell? ⟨R, 0, none⟩ = some a ∧ w.cell? ⟨R, 1, none⟩ = some b ∧ w.cell? ⟨R, 2, none⟩ = some c ∧ w.cell? ⟨R, 3, none⟩ = some d ∧ ∀ i, w.frozen? ⟨R, i, none⟩ = false :=
  ⟨by rw [Lib.cell_of_heap h]; rfl, by rw [Lib.cell_of_heap h]; rfl, by rw [Lib.cell_of_heap h]; rfl, by rw [Lib.cell_of_heap h]; rfl, fun i => by unfold World.frozen?; rw [h]; simp⟩
theorem put4 {w : World} {R : Nat} {a b c d : Value} {ty : TypeId} (h : w.heap[R]? = some (.cells #[a, b, c, d] ty (0, 0))) (a' b' c' d' : Value) : (w.setCells R 0 [a', b', c', d']).heap[R]? = some (.cells #[a', b', c', d'] ty (0, 0)) := by
  have h1 := Go.Joins.block_setCell (i := 0) h a'
  have h2 := Go.Joins.block_setCell (i := 1) h1 b'
  have h3 := Go.Joins.block_setCell (i := 2) h2 c'
  have h4 := Go.Joins.block_setCell (i := 3) h3 d'
  exact h4

set_option maxHeartbeats 8000000 in
set_option maxRecDepth 10000 in
theorem get_any (m : Nat) (k : Int) (e : Bool) (t : ByteArray) (x : Option Addr) (n c : Nat) (T : Tr) (p : ByteArray) (w : World) (hp : p.size ≤ 1048576) (H : At w m (.agg #[.int .i64 k, .bool e, .string t, .slice x n c]) T) (S : smT T) :
    Calls Tryd.prog 13 #[.agg #[.int .i64 k, .bool e, .string t, .slice x n c], .string p] w (NdP (getT T p) w) := by
  have HH : Hid (At w m (.agg #[.int .i64 k, .bool e, .string t, .slice x n c]) T ∧ smT T ∧ wfT T) := ⟨H, S, At.wf _ _ _ H⟩
  clear H S
  go_enter Tryd.func13, Tryd.ntmps13
  go_wp2_with fail
  obtain ⟨w3, hw3⟩ : ∃ w3, w3 = (((w.alloc (Obj.cells #[Value.int IntKind.i64 k, Value.bool e, Value.string t, Value.slice x n c] 25)).alloc (Obj.cells #[Value.int IntKind.i64 0, Value.bool false, Value.string ⟨#[]⟩, Value.slice none 0 0] 25)).alloc (Obj.cells #[Value.int IntKind.i64 k, Value.bool e, Value.string t, Value.slice x n c] 25)) := ⟨_, rfl⟩
  have b1 : Below w.heap.size w (w.alloc (Obj.cells #[Value.int IntKind.i64 k, Value.bool e, Value.string t, Value.slice x n c] 25)) := (Below.refl _ _).alloc (Nat.le_refl _) _
  have hs1 : (w.alloc (Obj.cells #[Value.int IntKind.i64 k, Value.bool e, Value.string t, Value.slice x n c] 25)).heap.size = w.heap.size + 1 := World.size_alloc _ _
  have hs2 : ((w.alloc (Obj.cells #[Value.int IntKind.i64 k, Value.bool e, Value.string t, Value.slice x n c] 25)).alloc (Obj.cells #[Value.int IntKind.i64 0, Value.bool false, Value.string ⟨#[]⟩, Value.slice none 0 0] 25)).heap.size = w.heap.size + 1 + 1 := by rw [World.size_alloc, hs1]
  have P0 : Hid (NP w3 m w.heap.size 0 T) := by
    rw [hw3]
    exact ((NP.new HH.out.1 25).below ((Below.refl _ _).alloc (Nat.le_refl _) _)).below ((Below.refl _ _).alloc (Nat.le_refl _) _)
  have P1 : Hid (Nds w3 (some ⟨w.heap.size + 1 + 1, 0, none⟩) [T]) := fun j K hj => by
    have h0 : j = 0 := by
      have := (List.getElem?_eq_some_iff.1 hj).1
      simp at this; omega
    subst h0
    simp at hj
    subst hj
    refine ⟨HH.out.2.1, m, _, 0, rfl, ?_⟩
    have := NP.new ((HH.out.1.below b1).below ((Below.refl _ _).alloc (Nat.le_refl _) (Obj.cells #[Value.int IntKind.i64 0, Value.bool false, Value.string ⟨#[]⟩, Value.slice none 0 0] 25))) 25
    rw [hs2] at this
    rw [hw3]
    exact this
  have P2 : Hid (w3.heap[w.heap.size + 1]? = some (Obj.cells #[Value.int IntKind.i64 0, Value.bool false, Value.string ⟨#[]⟩, Value.slice none 0 0] 25 (0, 0)) ∧ w.heap.size + 1 + 1 < w3.heap.size ∧ Below w.heap.size w w3) := by
    rw [hw3]
    refine ⟨?_, by rw [World.size_alloc, hs2]; omega, (b1.alloc (by rw [hs1]; omega) _).alloc (by rw [hs2]; omega) _⟩
    rw [Below.heap_alloc _ _ _ (by rw [hs2]; omega), ← hs1]; exact heap_alloc_new _ _
  rw [← hw3]
  clear hw3 b1 hs1 hs2
  refine (namesOf_any p _ [T] 1 1 w3 (by omega) rfl (by omega) P1.out).mono ?_
  rintro en w4 ⟨⟨v, rfl, hv⟩, b4⟩
  have P3 : Hid (NP w4 m w.heap.size 0 T) := P0.out.below b4
  have P4 : Hid (w4.heap[w.heap.size + 1]? = some (Obj.cells #[Value.int IntKind.i64 0, Value.bool false, Value.string ⟨#[]⟩, Value.slice none 0 0] 25 (0, 0)) ∧ w.heap.size + 1 + 1 < w4.heap.size ∧ Below w.heap.size w w4) := ⟨(b4.block _ (by have := P2.out.2.1; omega)).trans P2.out.1, Nat.lt_of_lt_of_le P2.out.2.1 b4.size, P2.out.2.2.trans (b4.mono P2.out.2.2.size)⟩
  clear P0 P1 P2 b4
  obtain ⟨G, hG⟩ : ∃ G, w.heap.size = G := ⟨_, rfl⟩
  have HG : Hid (w.heap.size = G) := hG
  rw [hG] at P3 P4 ⊢
  clear hG
  obtain ⟨c1, hc1⟩ : ∃ c1, nmO [T] p = c1 := ⟨_, rfl⟩
  have HC : Hid (nmO [T] p = c1) := hc1
  rw [hc1] at hv ⊢
  clear hc1
  by_cases hz : c1 = 0
  · subst hz
    obtain ⟨y, cy, rfl, hcy, hT⟩ := (hv rfl).tns
    have HT : Hid (Tns w4 y (pathN p)) := hT
    have HA : Hid (ascT T) := by
      refine ckS_asc (l := [T]) ?_ (by simp) HH.out.2.2
      have := HC.out
      unfold nmO at this
      by_cases hk : ckS [T] ≠ 0
      · rw [if_pos hk] at this; exact absurd this hk
      · omega
    clear hv hT
    go_wp2_with fail
    refine (reach_any m G 0 cy T y (pathN p) w4 P3.out HA.out HT.out (by have := pathN_short p; omega)).mono ?_
    rintro e5 w5 ⟨⟨pv, rfl, h1, h2⟩, b5⟩
    have P5 : Hid (w5.heap[G + 1]? = some (Obj.cells #[Value.int IntKind.i64 0, Value.bool false, Value.string ⟨#[]⟩, Value.slice none 0 0] 25 (0, 0)) ∧ G + 1 + 1 < w5.heap.size ∧ Below G w w5) := ⟨(b5.block _ (by have := P4.out.2.1; omega)).trans P4.out.1, Nat.lt_of_lt_of_le P4.out.2.1 b5.size, P4.out.2.2.trans (b5.mono (by rw [← HG.out]; have := P4.out.2.2.size; rw [HG.out] at this; rw [HG.out]; omega))⟩
    have B5 : Hid (Below w4.heap.size w4 w5) := b5
    clear b5 P4
    obtain ⟨c2, hc2⟩ : ∃ c2, (rch (pathN p) T).1 = c2 := ⟨_, rfl⟩
    have HC2 : Hid ((rch (pathN p) T).1 = c2) := hc2
    rw [hc2] at h1 h2 ⊢
    clear hc2
    by_cases hz2 : c2 = 0
    · subst hz2
      obtain ⟨g', o', m', rfl, i1, i2, _⟩ := h2 rfl
      have HR : Hid (getT T p = (0, (rch (pathN p) T).2)) := by
        show getT T p = (0, (rch (pathN p) T).2)
        unfold getT; rw [if_neg (by rw [HC.out]; decide), if_neg (by rw [HC2.out]; decide), ← HC2.out]
      clear h1 h2 i2
      generalize (rch (pathN p) T).2 = R at HR i1
      obtain ⟨hg', x1, n1, c1, d0, d1, d2, d3, hA⟩ := i1.below B5.out
      have HA2 : Hid (At w5 m' (.agg #[.int .i64 R.k, .bool R.e, .string R.t, .slice x1 n1 c1]) R) := hA
      clear hA i1
      generalize q1 : R.k = rk at d0 HA2
      generalize q2 : R.e = re at d1 HA2
      generalize q3 : R.t = rt at d2 HA2
      have HQ : Hid (R.k = rk ∧ R.e = re ∧ R.t = rt) := ⟨q1, q2, q3⟩
      clear q1 q2 q3
      go_wp2_with fail
      refine (copyV_any m' _ R w5 HA2.out).mono ?_
      rintro e6 w6 ⟨⟨x6, fp, rfl, hV, hn⟩, b6⟩
      have P6 : Hid (w6.heap[G + 1]? = some (Obj.cells #[Value.int IntKind.i64 0, Value.bool false, Value.string ⟨#[]⟩, Value.slice none 0 0] 25 (0, 0)) ∧ Below G w w6) := ⟨(b6.block _ (by have := P5.out.2.1; omega)).trans P5.out.1, P5.out.2.2.trans (b6.mono (by have := P5.out.2.1; omega))⟩
      have HV : Hid (TrV w6 w5.heap.size R x6 fp ∧ fp.Nodup ∧ G + 1 + 1 < w5.heap.size) := ⟨hV, hn, P5.out.2.1⟩
      obtain ⟨y6, c6, rfl⟩ := hV.shape
      clear b6 hV hn d0 d1 d2 d3 hg' B5 HA2
      obtain ⟨u0, u1, u2, u3, uf⟩ := cell4 P6.out.1
      have v0 := uf 0
      have v1 := uf 1
      have v2 := uf 2
      have v3 := uf 3
      clear uf
      go_wp2
      have hq := put4 P6.out.1 (Value.int .i64 R.k) (.bool R.e) (.string R.t) (.slice y6 R.nms.length c6)
      have hB : Below w.heap.size w (w6.setCells (G + 1) 0 [Value.int .i64 R.k, .bool R.e, .string R.t, .slice y6 R.nms.length c6]) := belowE_setCells _ _ _ (by rw [HG.out]; omega) (by rw [HG.out]; exact P6.out.2)
      have hV2 : TrV (w6.setCells (G + 1) 0 [Value.int .i64 R.k, .bool R.e, .string R.t, .slice y6 R.nms.length c6]) w.heap.size R (.slice y6 R.nms.length c6) fp := TrV.low (by rw [HG.out]; have := HV.out.2.2; omega) _ _ _ (TrV.same _ _ _ HV.out.1 (fun z hz => heapE_setCells _ _ _ z (by have := (TrV.lt _ _ _ HV.out.1 z hz).1; have := HV.out.2.2; omega) _))
      change bodyPost _ _ _ _ _ (w6.setCells (G + 1) 0 [Value.int .i64 R.k, .bool R.e, .string R.t, .slice y6 R.nms.length c6])
      generalize w6.setCells (G + 1) 0 [Value.int .i64 R.k, .bool R.e, .string R.t, .slice y6 R.nms.length c6] = W at *
      obtain ⟨q0, q1, q2, q3, _⟩ := cell4 hq
      exact bodyPost_ret (v := .tuple #[.agg #[.int .i64 R.k, .bool R.e, .string R.t, .slice y6 R.nms.length c6], .int .i64 0]) (by simp [results, Tryd.results13, go_sem, q0, q1, q2, q3]) rfl (NdP.ok HR.out hV2 HV.out.2.1 hB)
    · obtain rfl := h1 hz2
      have HR : Hid (getT T p = (c2, zT)) := by
        show getT T p = (c2, zT)
        unfold getT; rw [if_neg (by rw [HC.out]; decide), if_pos (by rw [HC2.out]; exact hz2), HC2.out]
      clear h1 h2
      obtain ⟨u0, u1, u2, u3, uf⟩ := cell4 P5.out.1
      have v0 := uf 0
      have v1 := uf 1
      have v2 := uf 2
      have v3 := uf 3
      clear uf
      go_wp2
      have hq := put4 P5.out.1 (Value.int .i64 0) (.bool false) (.string ⟨#[]⟩) (.slice none 0 0)
      have hB : Below w.heap.size w (w5.setCells (G + 1) 0 [Value.int .i64 0, .bool false, .string ⟨#[]⟩, .slice none 0 0]) := belowE_setCells _ _ _ (by rw [HG.out]; omega) (by rw [HG.out]; exact P5.out.2.2)
      change bodyPost _ _ _ _ _ (w5.setCells (G + 1) 0 [Value.int .i64 0, .bool false, .string ⟨#[]⟩, .slice none 0 0])
      generalize w5.setCells (G + 1) 0 [Value.int .i64 0, .bool false, .string ⟨#[]⟩, .slice none 0 0] = W at *
      obtain ⟨q0, q1, q2, q3, _⟩ := cell4 hq
      exact bodyPost_ret (v := .tuple #[.agg #[.int .i64 0, .bool false, .string ⟨#[]⟩, .slice none 0 0], .int .i64 c2]) (by simp [results, Tryd.results13, go_sem, q0, q1, q2, q3]) rfl (NdP.bad HR.out hB)
  · have HR : Hid (getT T p = (c1, zT)) := by
      show getT T p = (c1, zT)
      unfold getT; rw [if_pos (by rw [HC.out]; exact hz), HC.out]
    clear hv
    obtain ⟨u0, u1, u2, u3, uf⟩ := cell4 P4.out.1
    have v0 := uf 0
    have v1 := uf 1
    have v2 := uf 2
    have v3 := uf 3
    clear uf
    go_wp2
    have hq := put4 P4.out.1 (Value.int .i64 0) (.bool false) (.string ⟨#[]⟩) (.slice none 0 0)
    have hB : Below w.heap.size w (w4.setCells (G + 1) 0 [Value.int .i64 0, .bool false, .string ⟨#[]⟩, .slice none 0 0]) := belowE_setCells _ _ _ (by rw [HG.out]; omega) (by rw [HG.out]; exact P4.out.2.2)
    change bodyPost _ _ _ _ _ (w4.setCells (G + 1) 0 [Value.int .i64 0, .bool false, .string ⟨#[]⟩, .slice none 0 0])
    generalize w4.setCells (G + 1) 0 [Value.int .i64 0, .bool false, .string ⟨#[]⟩, .slice none 0 0] = W at *
    obtain ⟨q0, q1, q2, q3, _⟩ := cell4 hq
    exact bodyPost_ret (v := .tuple #[.agg #[.int .i64 0, .bool false, .string ⟨#[]⟩, .slice none 0 0], .int .i64 c1]) (by simp [results, Tryd.results13, go_sem, q0, q1, q2, q3]) rfl (NdP.bad HR.out hB)
end Go.Proofs.YtmknnblogfpifaaDoor
