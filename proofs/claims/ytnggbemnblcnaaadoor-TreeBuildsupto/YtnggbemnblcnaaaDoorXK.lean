/- YA YB YC YK, gathered (own text of the verifier). -/
import Derived.Test.YtnggbemnblcnaaaDoorTyEx
import Derived.Lib.SmallJoins
import Derived.Test.YtnggbemnblcnaaaDoorTvE
import Derived.Test.YtnggbemnblcnaaaDoorXJ
import Derived.Lib.SliceRun
import Derived.Deep.RegionLaw
namespace Go.Proofs.YtnggbemnblcnaaaDoor
open Go.RowKit

/-- The names of a path, or none. -/
def spN (p : ByteArray) : Option (List ByteArray) := if (pathF p).1 = 0 then some (pathN p) else none
theorem scan_parts (L : List ByteArray) (i a : Nat) (h : (scan L i a).1 = 0) : (∀ x ∈ L, chk x = 0) ∧ (L = [] ∨ i + L.length ≤ 31) := by
  induction L generalizing i a with
  | nil => exact ⟨fun x hx => absurd hx (by simp), Or.inl rfl⟩
  | cons x r ih =>
    by_cases h31 : 31 ≤ i
    · rw [scan_deep x r i a h31] at h; exact absurd h (show ¬ (61 : Int) = 0 by decide)
    · by_cases hc : chk x = 0
      · rw [scan_good x r i a (by omega) hc] at h
        obtain ⟨h2, h3⟩ := ih _ _ h
        refine ⟨fun y hy => ?_, Or.inr ?_⟩
        · rcases List.mem_cons.1 hy with e | e
          · rw [e]; exact hc
          · exact h2 y e
        · rcases h3 with e | e
          · rw [e]; simp; omega
          · simp; omega
      · rw [scan_bad x r i a (by omega) hc] at h; exact absurd h hc
theorem scan_ok (L : List ByteArray) (i a : Nat) (h : ∀ x ∈ L, chk x = 0) (hl : i + L.length ≤ 31) : scan L i a = (0, 0) := by
  induction L generalizing i a with
  | nil => rfl
  | cons x r ih =>
    rw [List.length_cons] at hl
    rw [scan_good x r i a (by omega) (h x (by simp))]
    exact ih _ _ (fun y hy => h y (by simp [hy])) (by omega)

theorem ext_split (p : ByteArray) (f q : Nat) (hf : f ≤ q) (hq : q < p.size) (hb : bt p q = 47) : p.extract f q ++ ⟨#[47]⟩ ++ p.extract (q + 1) p.size = p.extract f p.size := by
  apply bytes_ext
  · rw [ByteArray.size_append, ByteArray.size_append, ext_size2 p f q hf (by omega), ext_size2 p (q + 1) p.size (by omega) (Nat.le_refl _), ext_size2 p f p.size (by omega) (Nat.le_refl _)]
    show q - f + 1 + _ = _; omega
  · intro k hk
    have s1 := ext_size2 p f q hf (by omega)
    have s2 := ext_size2 p (q + 1) p.size (by omega) (Nat.le_refl _)
    rw [ByteArray.size_append, ByteArray.size_append, s1, s2] at hk
    have hk' : k < q - f + 1 + (p.size - (q + 1)) := hk
    have e0 : bt (p.extract f p.size) k = bt p (f + k) := bt_ext p f k (by omega)
    rw [e0]
    have sz : (p.extract f q ++ ⟨#[47]⟩ ++ p.extract (q + 1) p.size).size = q - f + 1 + (p.size - (q + 1)) := by
      rw [ByteArray.size_append, ByteArray.size_append, s1, s2]; rfl
    rw [← get_bt _ k (by rw [sz]; exact hk')]
    have s3 : (p.extract f q ++ ⟨#[47]⟩).size = q - f + 1 := by rw [ByteArray.size_append, s1]; rfl
    by_cases h1 : k < q - f
    · rw [ByteArray.getElem_append_left (by rw [s3]; omega), ByteArray.getElem_append_left (by rw [s1]; exact h1), ByteArray.getElem_extract, ← get_bt p (f + k) (by omega)]
    · by_cases h2 : k = q - f
      · rw [ByteArray.getElem_append_left (by rw [s3]; omega), ByteArray.getElem_append_right (by rw [s1]; omega)]
        rw [show f + k = q by omega, hb]
        have : k - (p.extract f q).size = 0 := by rw [s1]; omega
        simp only [this]
        rfl
      · rw [ByteArray.getElem_append_right (by rw [s3]; omega), ByteArray.getElem_extract, ← get_bt p (f + k) (by omega)]
        congr 3
        rw [s3]; omega

theorem joinB_one (x : ByteArray) : joinB [x] = x := rfl
theorem joinB_cons (x : ByteArray) (L : List ByteArray) (h : L ≠ []) : joinB (x :: L) = x ++ ⟨#[47]⟩ ++ joinB L := by
  cases L with
  | nil => exact absurd rfl h
  | cons y r => rfl
theorem pcs_ne (p : ByteArray) (r f : Nat) : pcs p r f ≠ [] := fun e => by have := pcs_pos p r f; rw [e] at this; simp at this
theorem join_pcs (p : ByteArray) (r f : Nat) (hf : f ≤ p.size) : joinB (pcs p r f) = p.extract f p.size := by
  induction r generalizing f with
  | zero => exact joinB_one _
  | succ r ih =>
    by_cases e : nx p f = p.size
    · rw [pcs_last p _ f e]; exact joinB_one _
    · obtain ⟨h1, h2, _, h4⟩ := nx_spec p f hf
      rw [pcs_more p r f e, joinB_cons _ _ (pcs_ne _ _ _), ih (nx p f + 1) (by omega)]
      exact ext_split p f (nx p f) h1 (by omega) (h4 (by omega))

theorem chk_parts (x : ByteArray) (h : chk x = 0) : x.size ≠ 0 ∧ ∀ k, k < x.size → bt x k ≠ 47 := by
  unfold chk at h
  split at h
  · cases h
  · rename_i h1
    split at h
    · cases h
    · split at h
      · cases h
      · rename_i h3
        refine ⟨empty_size x (by simpa using h1), fun k hk e => h3 ?_⟩
        rw [Bool.or_eq_true]; left; exact (hasB_iff x 47).2 ⟨k, hk, e⟩

theorem bt_app_left (a b : ByteArray) (i : Nat) (hi : i < a.size) : bt (a ++ b) i = bt a i := by
  rw [← get_bt a i hi, ← get_bt (a ++ b) i (by rw [ByteArray.size_append]; omega), ByteArray.getElem_append_left hi]
theorem bt_app_right (a b : ByteArray) (i : Nat) (hi : i < b.size) : bt (a ++ b) (a.size + i) = bt b i := by
  rw [← get_bt b i hi, ← get_bt (a ++ b) (a.size + i) (by rw [ByteArray.size_append]; omega), ByteArray.getElem_append_right (by omega)]
  simp

theorem pcs_join (p : ByteArray) (L : List ByteArray) (r f : Nat) (hf : f ≤ p.size) (hL : L ≠ []) (hr : L.length ≤ r + 1) (hc : ∀ x ∈ L, chk x = 0) (he : p.extract f p.size = joinB L) : pcs p r f = L := by
  induction L generalizing r f with
  | nil => exact absurd rfl hL
  | cons x L ih =>
    obtain ⟨hx0, hxs⟩ := chk_parts x (hc x (by simp))
    have hsz : (p.extract f p.size).size = p.size - f := ext_size2 p f p.size hf (Nat.le_refl _)
    by_cases hl : L = []
    · subst hl
      rw [joinB_one] at he
      have hn : nx p f = p.size := nx_is p f p.size hf (Nat.le_refl _) (fun j j1 j2 e => by
        have := bt_ext p f (j - f) (by omega)
        rw [show f + (j - f) = j by omega, e, he] at this
        exact hxs (j - f) (by rw [← he, hsz]; omega) this) (fun h => by omega)
      rw [pcs_last p r f hn, he]
    · rw [joinB_cons x L hl] at he
      have hs2 : p.size - f = x.size + 1 + (joinB L).size := by rw [← hsz, he, ByteArray.size_append, ByteArray.size_append]; rfl
      have hb : ∀ i, i < x.size → bt p (f + i) = bt x i := fun i hi => by
        rw [← bt_ext p f i (by omega), he, ByteArray.append_assoc, bt_app_left _ _ i hi]
      have hb2 : bt p (f + x.size) = 47 := by
        rw [← bt_ext p f x.size (by omega), he, ByteArray.append_assoc]
        have := bt_app_right x (⟨#[47]⟩ ++ joinB L) 0 (by rw [ByteArray.size_append]; show 0 < 1 + _; omega)
        rw [Nat.add_zero] at this
        rw [this, bt_app_left _ _ 0 (by show 0 < 1; omega)]; decide +kernel
      have hn : nx p f = f + x.size := nx_is p f (f + x.size) (by omega) (by omega) (fun j j1 j2 e => by
        have := hb (j - f) (by omega)
        rw [show f + (j - f) = j by omega, e] at this
        exact hxs (j - f) (by omega) this.symm) (fun _ => hb2)
      have hlen : 0 < L.length := by cases L with
        | nil => exact absurd rfl hl
        | cons _ _ => simp
      rw [List.length_cons] at hr
      obtain ⟨r, rfl⟩ : ∃ r', r = r' + 1 := ⟨r - 1, by omega⟩
      have ex : p.extract f (f + x.size) = x := by
        apply bytes_ext
        · rw [ext_size2 p f (f + x.size) (by omega) (by omega)]; omega
        · intro k hk
          rw [ext_size2 p f (f + x.size) (by omega) (by omega)] at hk
          rw [← get_bt _ k (by rw [ext_size2 p f (f + x.size) (by omega) (by omega)]; exact hk), ByteArray.getElem_extract, get_bt p (f + k) (by omega)]
          exact hb k (by omega)
      have er : p.extract (f + x.size + 1) p.size = joinB L := by
        apply bytes_ext
        · rw [ext_size2 p _ p.size (by omega) (Nat.le_refl _)]; omega
        · intro k hk
          rw [ext_size2 p _ p.size (by omega) (Nat.le_refl _)] at hk
          rw [bt_ext p _ k (by omega), show f + x.size + 1 + k = f + (x.size + 1 + k) by omega, ← bt_ext p f _ (by omega), he]
          have := bt_app_right (x ++ ⟨#[47]⟩) (joinB L) k (by omega)
          rw [ByteArray.size_append] at this
          exact this
      rw [pcs_more p r f (by omega), hn, ex, ih r (f + x.size + 1) (by omega) hl (by omega) (fun y hy => hc y (by simp [hy])) er]

theorem spN_right : SpRight spN := by
  intro p ns h
  unfold spN at h
  split at h
  · rename_i hF
    cases h
    by_cases hz : p.size = 0
    · have e : pathN p = [] := by unfold pathN; rw [if_pos hz]
      rw [e]
      refine ⟨?_, fun x hx => absurd hx (by simp), by simp⟩
      show (⟨#[]⟩ : ByteArray) = p
      apply bytes_ext
      · exact hz.symm
      · intro k hk; exact absurd hk (by show ¬ k < 0; omega)
    · have e : pathN p = pcs p 31 0 := by unfold pathN; rw [if_neg hz, if_pos hF]
      have h2 : (scan (pcs p 31 0) 0 0).1 = 0 := by unfold pathF at hF; rw [if_neg hz] at hF; exact hF
      obtain ⟨h3, h4⟩ := scan_parts _ _ _ h2
      rw [e]
      refine ⟨by rw [join_pcs p 31 0 (Nat.zero_le _)]; simp, h3, ?_⟩
      rcases h4 with h4 | h4
      · rw [h4]; simp
      · omega
  · cases h
theorem joinB_pos (ns : List ByteArray) (h : ns ≠ []) (hc : ∀ s ∈ ns, chk s = 0) : (joinB ns).size ≠ 0 := by
  cases ns with
  | nil => exact absurd rfl h
  | cons x r =>
    have hx := (chk_parts x (hc x (by simp))).1
    cases r with
    | nil => exact hx
    | cons y r =>
      rw [joinB_cons x (y :: r) (by simp), ByteArray.size_append, ByteArray.size_append]
      omega
theorem spN_ok : SpOk spN := by
  intro ns hl hc
  unfold spN
  by_cases hn : ns = []
  · subst hn
    have hz : (joinB []).size = 0 := rfl
    have e1 : (pathF (joinB [])).1 = 0 := by unfold pathF; rw [if_pos hz]
    have e2 : pathN (joinB []) = [] := by unfold pathN; rw [if_pos hz]
    rw [if_pos e1, e2]
  · have hz := joinB_pos ns hn hc
    have hp : pcs (joinB ns) 31 0 = ns := pcs_join (joinB ns) ns 31 0 (Nat.zero_le _) hn (by omega) hc (by simp)
    have hs : scan (pcs (joinB ns) 31 0) 0 0 = (0, 0) := by rw [hp]; exact scan_ok ns 0 0 hc (by omega)
    have e1 : (pathF (joinB ns)).1 = 0 := by unfold pathF; rw [if_neg hz, hs]
    have e2 : pathN (joinB ns) = ns := by unfold pathN; rw [if_neg hz, if_pos e1, hp]
    rw [if_pos e1, e2]
theorem chk_short (x : ByteArray) (h : chk x = 0) : x.size ≤ 255 := by
  unfold chk at h
  split at h
  · cases h
  · split at h
    · cases h
    · omega
theorem wfL_of (P : Tr → Prop) (hP : ∀ T, P T → wfT T) : ∀ (nms : List ByteArray) (ks : List Tr), nms.length = ks.length → (∀ (j : Nat) (T : Tr), ks[j]? = some T → P T) → wfL nms ks
  | [], [], _, _ => by simp [wfL]
  | s :: nms, T :: ks, hl, h => by
    rw [wfL]
    exact ⟨hP T (h 0 T rfl), wfL_of P hP nms ks (by simpa using hl) (fun j T hj => h (j + 1) T hj)⟩
  | [], _ :: _, hl, _ => by simp at hl
  | _ :: _, [], hl, _ => by simp at hl
theorem At.wf {w : World} : ∀ (m : Nat) (v : Value) (T : Tr), At w m v T → wfT T
  | 0, _, _, h => h.elim
  | m + 1, v, .mk k e t ns ks, h => by
    obtain ⟨x, n, c, _, h1, h2, _, _, h5⟩ := h
    rw [wfT]
    refine wfL_of (fun T => ∃ v, At w m v T) (fun T hT => by obtain ⟨v, hv⟩ := hT; exact At.wf m v T hv) ns ks (by omega) (fun j T hj => ?_)
    have hjn : j < ns.length := by have := (List.getElem?_eq_some_iff.1 hj).1; omega
    rcases h5 with h5 | ⟨g, o, _, _, h6⟩
    · omega
    · obtain ⟨a, b, d, f, p, q, _, _, _, _, _, hA⟩ := h6 j ns[j] T (List.getElem?_eq_getElem hjn) hj
      exact ⟨_, hA⟩
theorem KidV.get {w : World} {B : Nat} : ∀ (nms : List ByteArray) (ks : List Tr) (cs : List Value) (fq : List Nat), KidV w B nms ks cs fq → ∀ (j : Nat) (s : ByteArray) (K : Tr), nms[j]? = some s → ks[j]? = some K → ∃ u fk, (∀ i, i < 5 → cs[j * 5 + i]? = (entV s K u)[i]?) ∧ TrV w B K u fk ∧ ∀ b ∈ fk, b ∈ fq
  | [], [], cs, fq, _, j, s, K, h1, _ => by simp at h1
  | a :: nms, T :: ks, cs, fq, h, j, s, K, h1, h2 => by
    rw [KidV] at h
    obtain ⟨v, cs', fp, fq', rfl, h3, h4, rfl⟩ := h
    cases j with
    | zero =>
      simp at h1 h2
      subst h1 h2
      refine ⟨v, fp, fun i hi => ?_, h3, fun b hb => by simp [hb]⟩
      rw [Nat.zero_mul, Nat.zero_add, List.getElem?_append_left (by show i < 5; exact hi)]
    | succ j =>
      simp at h1 h2
      obtain ⟨u, fk, h5, h6, h7⟩ := KidV.get nms ks cs' fq' h4 j s K h1 h2
      refine ⟨u, fk, fun i hi => ?_, h6, fun b hb => by simp [h7 b hb]⟩
      rw [← h5 i hi, List.getElem?_append_right (by show 5 ≤ _; omega)]
      congr 1
      show (j + 1) * 5 + i - 5 = _
      omega
  | [], _ :: _, cs, fq, h, _, _, _, _, _ => by simp [KidV] at h
  | _ :: _, [], cs, fq, h, _, _, _, _, _ => by simp [KidV] at h
theorem TrV.get {w : World} {B : Nat} {T : Tr} {v : Value} {fp : List Nat} (h : TrV w B T v fp) (j : Nat) (s : ByteArray) (K : Tr) (h1 : T.nms[j]? = some s) (h2 : T.ks[j]? = some K) :
    ∃ g cap u fk, v = .slice (some ⟨g, 0, none⟩) T.nms.length cap ∧ T.nms.length ≤ cap ∧ g ∈ fp ∧ (∀ i, i < 5 → w.cell? ⟨g, j * 5 + i, none⟩ = (entV s K u)[i]?) ∧ TrV w B K u fk ∧ ∀ b ∈ fk, b ∈ fp := by
  obtain ⟨k, e, t, nms, ks⟩ := T
  rw [TrV] at h
  obtain ⟨cs, fq, ho, hk, rfl⟩ := h
  have h1 : nms[j]? = some s := h1
  have h2 : ks[j]? = some K := h2
  have hj : j < nms.length := (List.getElem?_eq_some_iff.1 h1).1
  obtain ⟨u, fk, h3, h4, h5⟩ := KidV.get nms ks cs fq hk j s K h1 h2
  obtain ⟨g, cap, hv, _, _⟩ := World.ownsRow.form ho (by omega)
  have hcap : nms.length ≤ cap := by
    rcases ho.2 with ⟨e, _⟩ | ⟨_, cap', _, e, _, _, hn, _⟩
    · rw [e] at hv; cases hv
    · rw [hv] at e; injection e with _ _ e; subst e; exact hn
  subst hv
  refine ⟨g, cap, u, fk, rfl, hcap, by simp [blkL, Value.ownBlock], fun i hi => ?_, h4, fun b hb => by simp [h5 b hb]⟩
  rw [← h3 i hi]
  exact World.ownsRow.cellAt ho _ (by omega)


/-- The node that is none. -/
def zT : Tr := .mk 0 false ⟨#[]⟩ [] []
/-- What Get answers. -/
def getT (T : Tr) (p : ByteArray) : Int × Tr := if nmO [T] p ≠ 0 then (nmO [T] p, zT) else if (rch (pathN p) T).1 ≠ 0 then ((rch (pathN p) T).1, zT) else rch (pathN p) T
def NdP (R : Int × Tr) (w : World) (e : Ending) (w' : World) : Prop := (∃ x fp, e = .returned (.tuple #[.agg #[.int .i64 R.2.k, .bool R.2.e, .string R.2.t, x], .int .i64 R.1]) ∧ TrV w' w.heap.size R.2 x fp ∧ fp.Nodup) ∧ Below w.heap.size w w'
theorem NdP.bad {R : Int × Tr} {w w' : World} {c : Int} (h : R = (c, zT)) (b : Below w.heap.size w w') : NdP R w (.returned (.tuple #[.agg #[.int .i64 0, .bool false, .string ⟨#[]⟩, .slice none 0 0], .int .i64 c])) w' := by
  rw [h]
  exact ⟨⟨_, [], rfl, TrV.zero _ _ _ _ _ rfl rfl, List.nodup_nil⟩, b⟩

theorem NdP.ok {R : Int × Tr} {w w' : World} {c : Int} {T : Tr} {x : Value} {fp : List Nat} (h : R = (c, T)) (hV : TrV w' w.heap.size T x fp) (hn : fp.Nodup) (b : Below w.heap.size w w') : NdP R w (.returned (.tuple #[.agg #[.int .i64 T.k, .bool T.e, .string T.t, x], .int .i64 c])) w' := by
  rw [h]
  exact ⟨⟨x, fp, rfl, hV, hn⟩, b⟩

theorem At.NP {w : World} {m : Nat} {k : Int} {e : Bool} {t : ByteArray} {x : Option Addr} {n c : Nat} {T : Tr} (h : At w m (.agg #[.int .i64 k, .bool e, .string t, .slice x n c]) T) : T.k = k ∧ T.e = e ∧ T.t = t := by
  cases m with
  | zero => exact h.elim
  | succ m =>
    obtain ⟨k', e', t', ns, ks⟩ := T
    obtain ⟨x', n', c', h1, _⟩ := h
    injection h1 with h1; simp at h1
    exact ⟨h1.1.symm, h1.2.1.symm, h1.2.2.1.symm⟩
/-- A node just laid. -/
theorem NP.new {w : World} {m : Nat} {k : Int} {e : Bool} {t : ByteArray} {x : Option Addr} {n c : Nat} {T : Tr} (h : At w m (.agg #[.int .i64 k, .bool e, .string t, .slice x n c]) T) (ty : TypeId) : NP (w.alloc (.cells #[.int .i64 k, .bool e, .string t, .slice x n c] ty)) m w.heap.size 0 T := by
  obtain ⟨e1, e2, e3⟩ := h.NP
  refine ⟨by rw [World.size_alloc]; omega, x, n, c, ?_, ?_, ?_, ?_, ?_⟩
  · rw [World.cell?_alloc_new, e1]; rfl
  · rw [World.cell?_alloc_new, e2]; rfl
  · rw [World.cell?_alloc_new, e3]; rfl
  · rw [World.cell?_alloc_new]; rfl
  · rw [e1, e2, e3]; exact h.below ((Below.refl _ _).alloc (Nat.le_refl _) _)
theorem ckS_asc {T : Tr} {l : List Tr} (h : ckS l = 0) (hm : T ∈ l) (hw : wfT T) : ascT T := by
  induction l with
  | nil => cases hm
  | cons K l ih =>
    rw [ckS] at h
    by_cases hk : (ckT K).2 ≠ 0
    · rw [if_pos hk] at h; exact absurd h hk
    · rw [if_neg hk] at h
      rcases List.mem_cons.1 hm with rfl | hm
      · refine vT_asc T [] 24 hw ?_
        cases ho : (vT [] 24 T).off with
        | none => rfl
        | some o =>
          exfalso
          apply hk
          unfold ckT
          rw [ho]
          exact vT_code _ _ _ _ ho
      · exact ih h hm

theorem pathN_short (p : ByteArray) : (pathN p).length ≤ 32 := by
  unfold pathN
  split
  · simp
  · split
    · exact pcs_len p 31 0
    · simp
theorem cell4 {w : World} {R : Nat} {a b c d : Value} {ty : TypeId} (h : w.heap[R]? = some (.cells #[a, b, c, d] ty (0, 0))) : w.cell? ⟨R, 0, none⟩ = some a ∧ w.cell? ⟨R, 1, none⟩ = some b ∧ w.cell? ⟨R, 2, none⟩ = some c ∧ w.cell? ⟨R, 3, none⟩ = some d ∧ ∀ i, w.frozen? ⟨R, i, none⟩ = false :=
  ⟨by rw [Lib.cell_of_heap h]; rfl, by rw [Lib.cell_of_heap h]; rfl, by rw [Lib.cell_of_heap h]; rfl, by rw [Lib.cell_of_heap h]; rfl, fun i => by unfold World.frozen?; rw [h]; simp⟩
theorem put4 {w : World} {R : Nat} {a b c d : Value} {ty : TypeId} (h : w.heap[R]? = some (.cells #[a, b, c, d] ty (0, 0))) (a' b' c' d' : Value) : (w.setCells R 0 [a', b', c', d']).heap[R]? = some (.cells #[a', b', c', d'] ty (0, 0)) := by
  have h1 := Go.Joins.block_setCell (i := 0) h a'
  have h2 := Go.Joins.block_setCell (i := 1) h1 b'
  have h3 := Go.Joins.block_setCell (i := 2) h2 c'
  have h4 := Go.Joins.block_setCell (i := 3) h3 d'
  exact h4

set_option maxHeartbeats 8000000 in
set_option maxRecDepth 10000 in
theorem get_any (m : Nat) (k : Int) (e : Bool) (t : ByteArray) (x : Option Addr) (n c : Nat) (T : Tr) (p : ByteArray) (w : World) (hp : p.size ≤ 1048576) (H : At w m (.agg #[.int .i64 k, .bool e, .string t, .slice x n c]) T) (S : smT T) :
    Calls Tryd.prog 10 #[.agg #[.int .i64 k, .bool e, .string t, .slice x n c], .string p] w (NdP (getT T p) w) := by
  have HH : Hid (At w m (.agg #[.int .i64 k, .bool e, .string t, .slice x n c]) T ∧ smT T ∧ wfT T) := ⟨H, S, At.wf _ _ _ H⟩
  clear H S
  go_enter Tryd.func10, Tryd.ntmps10
  go_wp2_with fail
  obtain ⟨w3, hw3⟩ : ∃ w3, w3 = (((w.alloc (Obj.cells #[Value.int IntKind.i64 k, Value.bool e, Value.string t, Value.slice x n c] 32)).alloc (Obj.cells #[Value.int IntKind.i64 0, Value.bool false, Value.string ⟨#[]⟩, Value.slice none 0 0] 32)).alloc (Obj.cells #[Value.int IntKind.i64 k, Value.bool e, Value.string t, Value.slice x n c] 32)) := ⟨_, rfl⟩
  have b1 : Below w.heap.size w (w.alloc (Obj.cells #[Value.int IntKind.i64 k, Value.bool e, Value.string t, Value.slice x n c] 32)) := (Below.refl _ _).alloc (Nat.le_refl _) _
  have hs1 : (w.alloc (Obj.cells #[Value.int IntKind.i64 k, Value.bool e, Value.string t, Value.slice x n c] 32)).heap.size = w.heap.size + 1 := World.size_alloc _ _
  have hs2 : ((w.alloc (Obj.cells #[Value.int IntKind.i64 k, Value.bool e, Value.string t, Value.slice x n c] 32)).alloc (Obj.cells #[Value.int IntKind.i64 0, Value.bool false, Value.string ⟨#[]⟩, Value.slice none 0 0] 32)).heap.size = w.heap.size + 1 + 1 := by rw [World.size_alloc, hs1]
  have P0 : Hid (NP w3 m w.heap.size 0 T) := by
    rw [hw3]
    exact ((NP.new HH.out.1 32).below ((Below.refl _ _).alloc (Nat.le_refl _) _)).below ((Below.refl _ _).alloc (Nat.le_refl _) _)
  have P1 : Hid (Nds w3 (some ⟨w.heap.size + 1 + 1, 0, none⟩) [T]) := fun j K hj => by
    have h0 : j = 0 := by
      have := (List.getElem?_eq_some_iff.1 hj).1
      simp at this; omega
    subst h0
    simp at hj
    subst hj
    refine ⟨HH.out.2.1, m, _, 0, rfl, ?_⟩
    have := NP.new ((HH.out.1.below b1).below ((Below.refl _ _).alloc (Nat.le_refl _) (Obj.cells #[Value.int IntKind.i64 0, Value.bool false, Value.string ⟨#[]⟩, Value.slice none 0 0] 32))) 32
    rw [hs2] at this
    rw [hw3]
    exact this
  have P2 : Hid (w3.heap[w.heap.size + 1]? = some (Obj.cells #[Value.int IntKind.i64 0, Value.bool false, Value.string ⟨#[]⟩, Value.slice none 0 0] 32 (0, 0)) ∧ w.heap.size + 1 + 1 < w3.heap.size ∧ Below w.heap.size w w3) := by
    rw [hw3]
    refine ⟨?_, by rw [World.size_alloc, hs2]; omega, (b1.alloc (by rw [hs1]; omega) _).alloc (by rw [hs2]; omega) _⟩
    rw [Below.heap_alloc _ _ _ (by rw [hs2]; omega), ← hs1]; exact heap_alloc_new _ _
  rw [← hw3]
  clear hw3 b1 hs1 hs2
  refine (namesOf_any p _ [T] 1 1 w3 (by omega) rfl (by omega) P1.out).mono ?_
  rintro en w4 ⟨⟨v, rfl, hv⟩, b4⟩
  have P3 : Hid (NP w4 m w.heap.size 0 T) := P0.out.below b4
  have P4 : Hid (w4.heap[w.heap.size + 1]? = some (Obj.cells #[Value.int IntKind.i64 0, Value.bool false, Value.string ⟨#[]⟩, Value.slice none 0 0] 32 (0, 0)) ∧ w.heap.size + 1 + 1 < w4.heap.size ∧ Below w.heap.size w w4) := ⟨(b4.block _ (by have := P2.out.2.1; omega)).trans P2.out.1, Nat.lt_of_lt_of_le P2.out.2.1 b4.size, P2.out.2.2.trans (b4.mono P2.out.2.2.size)⟩
  clear P0 P1 P2 b4
  obtain ⟨G, hG⟩ : ∃ G, w.heap.size = G := ⟨_, rfl⟩
  have HG : Hid (w.heap.size = G) := hG
  rw [hG] at P3 P4 ⊢
  clear hG
  obtain ⟨c1, hc1⟩ : ∃ c1, nmO [T] p = c1 := ⟨_, rfl⟩
  have HC : Hid (nmO [T] p = c1) := hc1
  rw [hc1] at hv ⊢
  clear hc1
  by_cases hz : c1 = 0
  · subst hz
    obtain ⟨y, cy, rfl, hcy, hT⟩ := (hv rfl).tns
    have HT : Hid (Tns w4 y (pathN p)) := hT
    have HA : Hid (ascT T) := by
      refine ckS_asc (l := [T]) ?_ (by simp) HH.out.2.2
      have := HC.out
      unfold nmO at this
      by_cases hk : ckS [T] ≠ 0
      · rw [if_pos hk] at this; exact absurd this hk
      · omega
    clear hv hT
    go_wp2_with fail
    refine (reach_any m G 0 cy T y (pathN p) w4 P3.out HA.out HT.out (by have := pathN_short p; omega)).mono ?_
    rintro e5 w5 ⟨⟨pv, rfl, h1, h2⟩, b5⟩
    have P5 : Hid (w5.heap[G + 1]? = some (Obj.cells #[Value.int IntKind.i64 0, Value.bool false, Value.string ⟨#[]⟩, Value.slice none 0 0] 32 (0, 0)) ∧ G + 1 + 1 < w5.heap.size ∧ Below G w w5) := ⟨(b5.block _ (by have := P4.out.2.1; omega)).trans P4.out.1, Nat.lt_of_lt_of_le P4.out.2.1 b5.size, P4.out.2.2.trans (b5.mono (by rw [← HG.out]; have := P4.out.2.2.size; rw [HG.out] at this; rw [HG.out]; omega))⟩
    have B5 : Hid (Below w4.heap.size w4 w5) := b5
    clear b5 P4
    obtain ⟨c2, hc2⟩ : ∃ c2, (rch (pathN p) T).1 = c2 := ⟨_, rfl⟩
    have HC2 : Hid ((rch (pathN p) T).1 = c2) := hc2
    rw [hc2] at h1 h2 ⊢
    clear hc2
    by_cases hz2 : c2 = 0
    · subst hz2
      obtain ⟨g', o', m', rfl, i1, i2, _⟩ := h2 rfl
      have HR : Hid (getT T p = (0, (rch (pathN p) T).2)) := by
        show getT T p = (0, (rch (pathN p) T).2)
        unfold getT; rw [if_neg (by rw [HC.out]; decide), if_neg (by rw [HC2.out]; decide), ← HC2.out]
      clear h1 h2 i2
      generalize (rch (pathN p) T).2 = R at HR i1
      obtain ⟨hg', x1, n1, c1, d0, d1, d2, d3, hA⟩ := i1.below B5.out
      have HA2 : Hid (At w5 m' (.agg #[.int .i64 R.k, .bool R.e, .string R.t, .slice x1 n1 c1]) R) := hA
      clear hA i1
      generalize q1 : R.k = rk at d0 HA2
      generalize q2 : R.e = re at d1 HA2
      generalize q3 : R.t = rt at d2 HA2
      have HQ : Hid (R.k = rk ∧ R.e = re ∧ R.t = rt) := ⟨q1, q2, q3⟩
      clear q1 q2 q3
      go_wp2_with fail
      refine (copyV_any m' _ R w5 HA2.out).mono ?_
      rintro e6 w6 ⟨⟨x6, fp, rfl, hV, hn⟩, b6⟩
      have P6 : Hid (w6.heap[G + 1]? = some (Obj.cells #[Value.int IntKind.i64 0, Value.bool false, Value.string ⟨#[]⟩, Value.slice none 0 0] 32 (0, 0)) ∧ Below G w w6) := ⟨(b6.block _ (by have := P5.out.2.1; omega)).trans P5.out.1, P5.out.2.2.trans (b6.mono (by have := P5.out.2.1; omega))⟩
      have HV : Hid (TrV w6 w5.heap.size R x6 fp ∧ fp.Nodup ∧ G + 1 + 1 < w5.heap.size) := ⟨hV, hn, P5.out.2.1⟩
      obtain ⟨y6, c6, rfl⟩ := hV.shape
      clear b6 hV hn d0 d1 d2 d3 hg' B5 HA2
      obtain ⟨u0, u1, u2, u3, uf⟩ := cell4 P6.out.1
      have v0 := uf 0
      have v1 := uf 1
      have v2 := uf 2
      have v3 := uf 3
      clear uf
      go_wp2
      have hq := put4 P6.out.1 (Value.int .i64 R.k) (.bool R.e) (.string R.t) (.slice y6 R.nms.length c6)
      have hB : Below w.heap.size w (w6.setCells (G + 1) 0 [Value.int .i64 R.k, .bool R.e, .string R.t, .slice y6 R.nms.length c6]) := belowE_setCells _ _ _ (by rw [HG.out]; omega) (by rw [HG.out]; exact P6.out.2)
      have hV2 : TrV (w6.setCells (G + 1) 0 [Value.int .i64 R.k, .bool R.e, .string R.t, .slice y6 R.nms.length c6]) w.heap.size R (.slice y6 R.nms.length c6) fp := TrV.low (by rw [HG.out]; have := HV.out.2.2; omega) _ _ _ (TrV.same _ _ _ HV.out.1 (fun z hz => heapE_setCells _ _ _ z (by have := (TrV.lt _ _ _ HV.out.1 z hz).1; have := HV.out.2.2; omega) _))
      change bodyPost _ _ _ _ _ (w6.setCells (G + 1) 0 [Value.int .i64 R.k, .bool R.e, .string R.t, .slice y6 R.nms.length c6])
      generalize w6.setCells (G + 1) 0 [Value.int .i64 R.k, .bool R.e, .string R.t, .slice y6 R.nms.length c6] = W at *
      obtain ⟨q0, q1, q2, q3, _⟩ := cell4 hq
      exact bodyPost_ret (v := .tuple #[.agg #[.int .i64 R.k, .bool R.e, .string R.t, .slice y6 R.nms.length c6], .int .i64 0]) (by simp [results, Tryd.results10, go_sem, q0, q1, q2, q3]) rfl (NdP.ok HR.out hV2 HV.out.2.1 hB)
    · obtain rfl := h1 hz2
      have HR : Hid (getT T p = (c2, zT)) := by
        show getT T p = (c2, zT)
        unfold getT; rw [if_neg (by rw [HC.out]; decide), if_pos (by rw [HC2.out]; exact hz2), HC2.out]
      clear h1 h2
      obtain ⟨u0, u1, u2, u3, uf⟩ := cell4 P5.out.1
      have v0 := uf 0
      have v1 := uf 1
      have v2 := uf 2
      have v3 := uf 3
      clear uf
      go_wp2
      have hq := put4 P5.out.1 (Value.int .i64 0) (.bool false) (.string ⟨#[]⟩) (.slice none 0 0)
      have hB : Below w.heap.size w (w5.setCells (G + 1) 0 [Value.int .i64 0, .bool false, .string ⟨#[]⟩, .slice none 0 0]) := belowE_setCells _ _ _ (by rw [HG.out]; omega) (by rw [HG.out]; exact P5.out.2.2)
      change bodyPost _ _ _ _ _ (w5.setCells (G + 1) 0 [Value.int .i64 0, .bool false, .string ⟨#[]⟩, .slice none 0 0])
      generalize w5.setCells (G + 1) 0 [Value.int .i64 0, .bool false, .string ⟨#[]⟩, .slice none 0 0] = W at *
      obtain ⟨q0, q1, q2, q3, _⟩ := cell4 hq
      exact bodyPost_ret (v := .tuple #[.agg #[.int .i64 0, .bool false, .string ⟨#[]⟩, .slice none 0 0], .int .i64 c2]) (by simp [results, Tryd.results10, go_sem, q0, q1, q2, q3]) rfl (NdP.bad HR.out hB)
  · have HR : Hid (getT T p = (c1, zT)) := by
      show getT T p = (c1, zT)
      unfold getT; rw [if_pos (by rw [HC.out]; exact hz), HC.out]
    clear hv
    obtain ⟨u0, u1, u2, u3, uf⟩ := cell4 P4.out.1
    have v0 := uf 0
    have v1 := uf 1
    have v2 := uf 2
    have v3 := uf 3
    clear uf
    go_wp2
    have hq := put4 P4.out.1 (Value.int .i64 0) (.bool false) (.string ⟨#[]⟩) (.slice none 0 0)
    have hB : Below w.heap.size w (w4.setCells (G + 1) 0 [Value.int .i64 0, .bool false, .string ⟨#[]⟩, .slice none 0 0]) := belowE_setCells _ _ _ (by rw [HG.out]; omega) (by rw [HG.out]; exact P4.out.2.2)
    change bodyPost _ _ _ _ _ (w4.setCells (G + 1) 0 [Value.int .i64 0, .bool false, .string ⟨#[]⟩, .slice none 0 0])
    generalize w4.setCells (G + 1) 0 [Value.int .i64 0, .bool false, .string ⟨#[]⟩, .slice none 0 0] = W at *
    obtain ⟨q0, q1, q2, q3, _⟩ := cell4 hq
    exact bodyPost_ret (v := .tuple #[.agg #[.int .i64 0, .bool false, .string ⟨#[]⟩, .slice none 0 0], .int .i64 c1]) (by simp [results, Tryd.results10, go_sem, q0, q1, q2, q3]) rfl (NdP.bad HR.out hB)
end Go.Proofs.YtnggbemnblcnaaaDoor
namespace Go.Proofs.YtnggbemnblcnaaaDoor
open Go.RowKit

theorem entV_len (s : ByteArray) (T : Tr) (v : Value) : (entV s T v).length = 5 := rfl
/-- One kid, and what holds when it is another. -/
theorem KidV.rep {w : World} {B : Nat} : ∀ (nms : List ByteArray) (ks : List Tr) (cs : List Value) (fq : List Nat), KidV w B nms ks cs fq → ∀ (i : Nat) (s : ByteArray) (K0 : Tr), nms[i]? = some s → ks[i]? = some K0 →
    ∃ u fk cs1 cs2 fa fb, cs = cs1 ++ entV s K0 u ++ cs2 ∧ cs1.length = i * 5 ∧ fq = fa ++ (fk ++ fb) ∧ TrV w B K0 u fk ∧
      ∀ (w2 : World) (K : Tr) (u' : Value) (fk' : List Nat), TrV w2 B K u' fk' → (∀ b ∈ fa ++ fb, w2.heap[b]? = w.heap[b]?) → KidV w2 B nms (ks.set i K) (cs1 ++ entV s K u' ++ cs2) (fa ++ (fk' ++ fb))
  | [], _, cs, fq, _, i, s, K0, h, _ => by simp at h
  | _ :: _, [], cs, fq, _, i, s, K0, _, h => by simp at h
  | a :: nms, T :: ks, cs, fq, h, 0, s, K0, hs, hK => by
    simp at hs hK
    subst hs hK
    rw [KidV] at h
    obtain ⟨v, cs', fp, fq', rfl, h2, h3, rfl⟩ := h
    refine ⟨v, fp, [], cs', [], fq', rfl, rfl, rfl, h2, fun w2 K u' fk' hV hb => ?_⟩
    rw [List.set_cons_zero, KidV]
    exact ⟨u', cs', fk', fq', rfl, hV, KidV.same _ _ _ _ h3 (fun b hm => hb b (by simpa using hm)), rfl⟩
  | a :: nms, T :: ks, cs, fq, h, i + 1, s, K0, hs, hK => by
    rw [KidV] at h
    obtain ⟨v, cs', fp, fq', rfl, h2, h3, rfl⟩ := h
    obtain ⟨u, fk, cs1, cs2, fa, fb, rfl, e2, rfl, e4, e5⟩ := KidV.rep nms ks cs' fq' h3 i s K0 (by simpa using hs) (by simpa using hK)
    refine ⟨u, fk, entV a T v ++ cs1, cs2, fp ++ fa, fb, by simp, by rw [List.length_append, e2, entV_len]; omega, by simp, e4, fun w2 K u' fk' hV hb => ?_⟩
    rw [List.set_cons_succ, KidV]
    refine ⟨v, cs1 ++ entV s K u' ++ cs2, fp, fa ++ (fk' ++ fb), by simp, TrV.same _ _ _ h2 (fun b hm => hb b (by simp [hm])), e5 w2 K u' fk' hV (fun b hm => hb b ?_), by simp⟩
    rcases List.mem_append.1 hm with hm | hm
    · simp [hm]
    · simp [hm]

/-- The tree with another one where the names lead. -/
def repT : List ByteArray → Tr → Tr → Tr
  | [], _, K => K
  | s :: l, .mk k e t nms ks, K => match nms.findIdx? (fun n => decide (n = s)) with
    | none => .mk k e t nms ks
    | some i => match ks[i]? with
      | none => .mk k e t nms ks
      | some K0 => .mk k e t nms (ks.set i (repT l K0 K))

/-- A node at a place, its kids in rows of their own. -/
def TN (w : World) (B g o : Nat) (T : Tr) (v : Value) (fp : List Nat) : Prop := w.cell? ⟨g, o, none⟩ = some (.int .i64 T.k) ∧ w.cell? ⟨g, o + 1, none⟩ = some (.bool T.e) ∧ w.cell? ⟨g, o + 2, none⟩ = some (.string T.t) ∧ w.cell? ⟨g, o + 3, none⟩ = some v ∧ TrV w B T v fp ∧ fp.Nodup ∧ g ∉ fp

theorem Rch.head {w : World} {g o g' o' : Nat} {L : List ByteArray} (h : Rch w g o L g' o') : (L = [] ∧ g' = g ∧ o' = o) ∨ ∃ s l q z n c i, L = s :: l ∧ w.cell? ⟨g, o + 3, none⟩ = some (.slice (some ⟨q, z, none⟩) n c) ∧ i < n ∧ w.cell? ⟨q, z + i * 5, none⟩ = some (.string s) ∧ Rch w q (z + i * 5 + 1) l g' o' := by
  induction h with
  | nil => exact .inl ⟨rfl, rfl, rfl⟩
  | @snoc g1 o1 q z n c i l s h1 h2 h3 h4 ih =>
    rcases ih with ⟨rfl, rfl, rfl⟩ | ⟨s', l', q', z', n', c', i', rfl, e2, e3, e4, e5⟩
    · exact .inr ⟨s, [], q, z, n, c, i, rfl, h2, h3, h4, Rch.nil _ _⟩
    · exact .inr ⟨s', l' ++ [s], q', z', n', c', i', rfl, e2, e3, e4, e5.snoc h2 h3 h4⟩

theorem cell_lt {w : World} {g o : Nat} {v : Value} (h : w.cell? ⟨g, o, none⟩ = some v) : g < w.heap.size := World.block_lt_of_cell? _ _ h
theorem cell_same {w w2 : World} {g o : Nat} (h : w2.heap[g]? = w.heap[g]?) : w2.cell? ⟨g, o, none⟩ = w.cell? ⟨g, o, none⟩ := World.cell?_of_block (w := w) (w' := w2) (a := ⟨g, o, none⟩) h

/-- One level down, and back up when the kid is another. -/
theorem TN.level {w : World} {B g o : Nat} {T : Tr} {v : Value} {fp : List Nat} (h : TN w B g o T v fp) (i : Nat) (s : ByteArray) (K0 : Tr) (hs : T.nms[i]? = some s) (hK : T.ks[i]? = some K0) :
    ∃ q cap u0 fk0, v = .slice (some ⟨q, 0, none⟩) T.nms.length cap ∧ w.cell? ⟨q, i * 5, none⟩ = some (.string s) ∧ TN w B q (i * 5 + 1) K0 u0 fk0 ∧ q ∈ fp ∧ (∀ b ∈ fk0, b ∈ fp) ∧
      ∀ (w2 : World) (K : Tr) (v2 : Value) (fk2 : List Nat), TN w2 B q (i * 5 + 1) K v2 fk2 → (∀ b ∈ fk2, b ∈ fk0 ∨ w.heap.size ≤ b) → (∀ b, b < w.heap.size → b ∉ fk0 → b ≠ q → w2.heap[b]? = w.heap[b]?) → (w2.heap[q]? = w.heap[q]? ∨ ((w2.heap[q]? = (w.setCell ⟨q, i * 5 + 4, none⟩ v2).heap[q]?) ∧ K.k = K0.k ∧ K.e = K0.e ∧ K.t = K0.t)) →
        ∃ fp2, TN w2 B g o (.mk T.k T.e T.t T.nms (T.ks.set i K)) v fp2 ∧ ∀ b ∈ fp2, b ∈ fp ∨ w.heap.size ≤ b := by
  obtain ⟨k, e, t, nms, ks⟩ := T
  obtain ⟨c0, c1, c2, c3, hV, hn, hg⟩ := h
  change nms[i]? = some s at hs
  change ks[i]? = some K0 at hK
  have hi : i < nms.length := (List.getElem?_eq_some_iff.1 hs).1
  rw [TrV] at hV
  obtain ⟨cs, fq, h1, h2, rfl⟩ := hV
  obtain ⟨u, fk, cs1, cs2, fa, fb, rfl, e2, rfl, e4, e5⟩ := KidV.rep nms ks cs fq h2 i s K0 hs hK
  rcases h1.2 with ⟨_, h0⟩ | ⟨q, cap, cur, rfl, hb, hq, hnc, hcm, hsz, htk⟩
  · omega
  have hcell : ∀ j, j < 5 → w.cell? ⟨q, i * 5 + j, none⟩ = (entV s K0 u)[j]? := fun j hj => by
    rw [World.ownsRow.cellAt h1 (i * 5 + j) (by omega)]
    rw [List.append_assoc, List.getElem?_append_right (by omega), e2, List.getElem?_append_left (by rw [entV_len]; omega)]
    congr 1; omega
  have hbl : blkL (Value.slice (some ⟨q, 0, none⟩) nms.length cap) = [q] := rfl
  rw [hbl] at hn hg ⊢
  have hqn : q ∉ fa ++ (fk ++ fb) := (List.nodup_cons.1 hn).1
  have hn2 : (fa ++ (fk ++ fb)).Nodup := (List.nodup_cons.1 hn).2
  have hqf : q ∉ fk := fun hm => hqn (by simp [hm])
  have hgq : g ≠ q := fun hh => hg (by rw [hh]; simp)
  have hgk : g ∉ fk := fun hm => hg (by simp [hm])
  have hfk : fk.Nodup := (List.nodup_append.1 (List.nodup_append.1 hn2).2.1).1
  refine ⟨q, cap, u, fk, rfl, hcell 0 (by omega), ⟨hcell 1 (by omega), hcell 2 (by omega), hcell 3 (by omega), hcell 4 (by omega), e4, hfk, hqf⟩, by simp, fun b hb => by simp [hb], fun w2 K v2 fk2 hT hk2 hfr hqq => ?_⟩
  obtain ⟨d0, d1, d2, d3, dV, dn, dq⟩ := hT
  have hab : ∀ b ∈ fa ++ fb, w2.heap[b]? = w.heap[b]? := fun b hm => by
    have hb1 : b ∈ fa ++ (fk ++ fb) := by
      rcases List.mem_append.1 hm with hm | hm
      · simp [hm]
      · simp [hm]
    have hlt := (KidV.lt _ _ _ _ h2 b hb1).2
    refine hfr b hlt (fun hbk => ?_) (fun hbq => hqn (by rw [← hbq]; exact hb1))
    rcases List.mem_append.1 hm with hm | hm
    · exact (List.nodup_append.1 hn2).2.2 b hm b (by simp [hbk]) rfl
    · exact (List.nodup_append.1 (List.nodup_append.1 hn2).2.1).2.2 b hbk b hm rfl
  have hKV := e5 w2 K v2 fk2 dV hab
  have hrow : w2.ownsRow B 52 5 (.slice (some ⟨q, 0, none⟩) nms.length cap) nms.length (cs1 ++ entV s K v2 ++ cs2) := by
    rcases hqq with hqq | ⟨hqq, f1, f2, f3⟩
    · have hw := own_same (w' := w2) h1 (fun x hx => by rw [hbl] at hx; simp at hx; rw [hx]; exact hqq)
      have g1 : Value.int .i64 K0.k = .int .i64 K.k := by have := hcell 1 (by omega); rw [← cell_same hqq, d0] at this; exact (Option.some.inj this).symm
      have g2 : Value.bool K0.e = .bool K.e := by have := hcell 2 (by omega); rw [← cell_same hqq, show i * 5 + 2 = i * 5 + 1 + 1 from rfl, d1] at this; exact (Option.some.inj this).symm
      have g3 : Value.string K0.t = .string K.t := by have := hcell 3 (by omega); rw [← cell_same hqq, show i * 5 + 3 = i * 5 + 1 + 2 from rfl, d2] at this; exact (Option.some.inj this).symm
      have g4 : u = v2 := by have := hcell 4 (by omega); rw [← cell_same hqq, show i * 5 + 4 = i * 5 + 1 + 3 from rfl, d3] at this; exact (Option.some.inj this).symm
      have : entV s K v2 = entV s K0 u := by unfold entV; rw [g1, g2, g3, g4]
      rw [this]; exact hw
    · have hst := (World.ownsRow.stored h1 (i * 5 + 4) v2).1
      have key : (cs1 ++ entV s K0 u ++ cs2).set (i * 5 + 4) v2 = cs1 ++ entV s K v2 ++ cs2 := by
        rw [List.append_assoc, List.set_append_right _ _ (by omega), e2, show i * 5 + 4 - i * 5 = 4 by omega, List.append_assoc]
        unfold entV; rw [f1, f2, f3]; rfl
      rw [key] at hst
      exact own_same hst (fun x hx => by rw [hbl] at hx; simp at hx; rw [hx]; exact hqq)
  have hgs : w2.heap[g]? = w.heap[g]? := hfr g (cell_lt c0) hgk hgq
  have hks : ∀ b ∈ fa ++ fb, b ∉ fk2 := fun b hm hb2 => by
    have hb1 : b ∈ fa ++ (fk ++ fb) := by
      rcases List.mem_append.1 hm with hm | hm
      · simp [hm]
      · simp [hm]
    have hlt := (KidV.lt _ _ _ _ h2 b hb1).2
    rcases hk2 b hb2 with hbk | hbk
    · rcases List.mem_append.1 hm with hm | hm
      · exact (List.nodup_append.1 hn2).2.2 b hm b (by simp [hbk]) rfl
      · exact (List.nodup_append.1 (List.nodup_append.1 hn2).2.1).2.2 b hbk b hm rfl
    · omega
  have hqlt : q < w.heap.size := heap_lt hq
  refine ⟨q :: (fa ++ (fk2 ++ fb)), ⟨(cell_same hgs).trans c0, (cell_same hgs).trans c1, (cell_same hgs).trans c2, (cell_same hgs).trans c3, ?_, ?_, ?_⟩, fun b hb => ?_⟩
  · rw [TrV]
    exact ⟨_, _, hrow, hKV, rfl⟩
  · refine List.nodup_cons.2 ⟨fun hm => ?_, List.nodup_append.2 ⟨(List.nodup_append.1 hn2).1, List.nodup_append.2 ⟨dn, (List.nodup_append.1 (List.nodup_append.1 hn2).2.1).2.1, fun x hx y hy hxy => hks y (by simp [hy]) (by rw [← hxy]; exact hx)⟩, fun x hx y hy hxy => ?_⟩⟩
    · rcases List.mem_append.1 hm with hm | hm
      · exact hqn (by simp [hm])
      · rcases List.mem_append.1 hm with hm | hm
        · exact dq hm
        · exact hqn (by simp [hm])
    · rcases List.mem_append.1 hy with hy | hy
      · exact hks x (by simp [hx]) (by rw [hxy]; exact hy)
      · exact (List.nodup_append.1 hn2).2.2 x hx y (by simp [hy]) hxy
  · intro hm
    rcases List.mem_cons.1 hm with hm | hm
    · exact hgq hm
    · rcases List.mem_append.1 hm with hm | hm
      · exact hg (by simp [hm])
      · rcases List.mem_append.1 hm with hm | hm
        · rcases hk2 g hm with hm | hm
          · exact hgk hm
          · have := cell_lt c0; omega
        · exact hg (by simp [hm])
  · rcases List.mem_cons.1 hb with hb | hb
    · exact .inl (by simp [hb])
    · rcases List.mem_append.1 hb with hb | hb
      · exact .inl (by simp [hb])
      · rcases List.mem_append.1 hb with hb | hb
        · rcases hk2 b hb with hb | hb
          · exact .inl (by simp [hb])
          · exact .inr hb
        · exact .inl (by simp [hb])

theorem KidV.lenE {w : World} {B : Nat} : ∀ (nms : List ByteArray) (ks : List Tr) (cs : List Value) (fq : List Nat), KidV w B nms ks cs fq → nms.length = ks.length
  | [], [], _, _, _ => rfl
  | s :: nms, T :: ks, cs, fq, h => by
    rw [KidV] at h
    obtain ⟨v, cs', fp, fq', _, _, h3, _⟩ := h
    simp [KidV.lenE nms ks cs' fq' h3]
  | [], _ :: _, cs, fq, h => by simp [KidV] at h
  | _ :: _, [], cs, fq, h => by simp [KidV] at h
theorem TrV.lenE {w : World} {B : Nat} {T : Tr} {v : Value} {fp : List Nat} (h : TrV w B T v fp) : T.nms.length = T.ks.length := by
  obtain ⟨k, e, t, nms, ks⟩ := T
  rw [TrV] at h
  obtain ⟨cs, fq, _, h2, _⟩ := h
  exact KidV.lenE _ _ _ _ h2
theorem Up.find {ns : List ByteArray} (U : Up ns) {i : Nat} {s : ByteArray} (h : ns[i]? = some s) : ns.findIdx? (fun n => decide (n = s)) = some i := by
  obtain ⟨hi, he⟩ := List.getElem?_eq_some_iff.1 h
  rw [List.findIdx?_eq_some_iff_getElem]
  refine ⟨hi, by simp [he], fun j hj hp => ?_⟩
  have hp' : ns[j] = s := by simpa using hp
  have := U.at hj hi
  rw [nmA_of (List.getElem?_eq_getElem (by omega : j < ns.length)), nmA_of h, hp', cmpB_refl] at this
  omega
theorem Up.sub {ns : List ByteArray} (U : Up ns) {i : Nat} {s : ByteArray} (h : ns[i]? = some s) {ks : List Tr} {K : Tr} (hK : ks[i]? = some K) : sub s ns ks = some K := by
  obtain ⟨hi, he⟩ := List.getElem?_eq_some_iff.1 h
  refine sub_at s ns ks i K (fun j hj hp => ?_) h hK
  have := U.at hj hi
  rw [hp, nmA_of h, cmpB_refl] at this
  omega
theorem repT_at {k : Int} {e : Bool} {t : ByteArray} {nms : List ByteArray} {ks : List Tr} (U : Up nms) {i : Nat} {s : ByteArray} {K0 : Tr} (h : nms[i]? = some s) (hK : ks[i]? = some K0) (l : List ByteArray) (K : Tr) : repT (s :: l) (.mk k e t nms ks) K = .mk k e t nms (ks.set i (repT l K0 K)) := by
  rw [repT, U.find h]
  simp only [hK]

/-- What holds where the names lead, and back at the root when it is changed there. -/
def Foc (w : World) (B g o : Nat) (T : Tr) (fp : List Nat) (L : List ByteArray) (g' o' : Nat) : Prop := ∃ T' v' fp', TN w B g' o' T' v' fp' ∧ (∀ b ∈ fp', b ∈ fp) ∧ ((L = [] ∧ g' = g ∧ o' = o ∧ T' = T) ∨ g' ∈ fp) ∧ ((rch L T).1 = 0 → (rch L T).2 = T') ∧
  ∀ (w2 : World) (K : Tr) (u : Value) (fk : List Nat), K.k = T'.k → K.e = T'.e → K.t = T'.t → TrV w2 B K u fk → fk.Nodup → (∀ b ∈ fk, b ∈ fp' ∨ w.heap.size ≤ b) → (∀ b, b < w.heap.size → b ∉ fp' → b ≠ g' → w2.heap[b]? = w.heap[b]?) → w2.heap[g']? = (w.setCell ⟨g', o' + 3, none⟩ u).heap[g']? →
    ∃ v2 fp2, TN w2 B g o (repT L T K) v2 fp2 ∧ ∀ b ∈ fp2, b ∈ fp ∨ w.heap.size ≤ b

theorem TN.set {w w2 : World} {B g o : Nat} {T K : Tr} {v u : Value} {fp fk : List Nat} (h : TN w B g o T v fp) (k1 : K.k = T.k) (k2 : K.e = T.e) (k3 : K.t = T.t) (hV : TrV w2 B K u fk) (hn : fk.Nodup) (hf : ∀ b ∈ fk, b ∈ fp ∨ w.heap.size ≤ b) (hw : w2.heap[g]? = (w.setCell ⟨g, o + 3, none⟩ u).heap[g]?) : TN w2 B g o K u fk := by
  obtain ⟨c0, c1, c2, c3, _, _, hg⟩ := h
  have hs : ∀ j, w2.cell? ⟨g, j, none⟩ = (w.setCell ⟨g, o + 3, none⟩ u).cell? ⟨g, j, none⟩ := fun j => cell_same hw
  refine ⟨?_, ?_, ?_, ?_, hV, hn, fun hm => ?_⟩
  · rw [hs, World.cell?_setCell_other (w := w) (a := ⟨g, o + 3, none⟩) (b := ⟨g, o, none⟩) (h := fun h => by injection h with h1 h2; omega), k1]; exact c0
  · rw [hs, World.cell?_setCell_other (w := w) (a := ⟨g, o + 3, none⟩) (b := ⟨g, o + 1, none⟩) (h := fun h => by injection h with h1 h2; omega), k2]; exact c1
  · rw [hs, World.cell?_setCell_other (w := w) (a := ⟨g, o + 3, none⟩) (b := ⟨g, o + 2, none⟩) (h := fun h => by injection h with h1 h2; omega), k3]; exact c2
  · rw [hs]; exact World.cell?_setCell_same _ _ _ c3
  · rcases hf g hm with hm | hm
    · exact hg hm
    · have := cell_lt c0; omega

theorem TN.focus {w : World} {B : Nat} : ∀ (L : List ByteArray) (g o : Nat) (T : Tr) (v : Value) (fp : List Nat) (g' o' : Nat), TN w B g o T v fp → ascT T → Rch w g o L g' o' → Foc w B g o T fp L g' o'
  | [], g, o, T, v, fp, g', o', h, hA, hR => by
    rcases hR.head with ⟨_, rfl, rfl⟩ | ⟨s, l, q, z, n, c, i, e1, _⟩
    · exact ⟨T, v, fp, h, fun b hb => hb, .inl ⟨rfl, rfl, rfl, rfl⟩, fun _ => rfl, fun w2 K u fk k1 k2 k3 hV hn hf _ hw => ⟨u, fk, h.set k1 k2 k3 hV hn hf hw, hf⟩⟩
    · cases e1
  | s :: l, g, o, T, v, fp, g', o', h, hA, hR => by
    rcases hR.head with ⟨e1, _⟩ | ⟨s', l', q', z, n, c, i, e1, e2, e3, e4, e5⟩
    · cases e1
    obtain ⟨rfl, rfl⟩ : s = s' ∧ l = l' := by simpa using e1
    have hc3 := h.2.2.2.1
    have hV := h.2.2.2.2.1
    obtain ⟨x, c', hx⟩ := hV.shape
    have hv : v = .slice (some ⟨q', z, none⟩) n c := by rw [hc3] at e2; exact Option.some.inj e2
    have hn : n = T.nms.length := by rw [hv] at hx; injection hx
    obtain ⟨s0, hs0⟩ : ∃ s0, T.nms[i]? = some s0 := ⟨_, List.getElem?_eq_getElem (by omega)⟩
    obtain ⟨K0, hK0⟩ : ∃ K0, T.ks[i]? = some K0 := ⟨_, List.getElem?_eq_getElem (by rw [← hV.lenE]; omega)⟩
    obtain ⟨q, cap, u0, fk0, hvq, hcell, hTN, hqf, hsub, hback⟩ := h.level i s0 K0 hs0 hK0
    obtain ⟨rfl, rfl⟩ : q' = q ∧ z = 0 := by
      rw [hv] at hvq
      injection hvq with h1
      injection h1 with h1
      injection h1 with h1 h2
      exact ⟨h1, h2⟩
    have hss : s0 = s := by
      rw [Nat.zero_add, hcell] at e4
      simpa using e4
    subst hss
    obtain ⟨U1, U2⟩ := Tr.up hA
    rw [Nat.zero_add] at e5
    obtain ⟨T', v', fp', f1, f2, f3, f4, f5⟩ := TN.focus l q' (i * 5 + 1) K0 u0 fk0 g' o' hTN (ascL_at _ _ _ U2 hK0) e5
    have hg'fp : g' ∈ fp := by
      rcases f3 with ⟨_, rfl, _, _⟩ | f3
      · exact hqf
      · exact hsub _ f3
    refine ⟨T', v', fp', f1, fun b hb => hsub b (f2 b hb), .inr hg'fp, fun hr => ?_, fun w2 K u fk k1 k2 k3 hV2 hn2 hf hfr hw => ?_⟩
    · rw [rch] at hr ⊢
      by_cases hk : T.k ≠ 3
      · rw [if_pos hk] at hr; cases hr
      · rw [if_neg hk, U1.sub hs0 hK0] at hr ⊢
        exact f4 hr
    · obtain ⟨v2, fp2, hT2, hsub2⟩ := f5 w2 K u fk k1 k2 k3 hV2 hn2 hf hfr hw
      have hqlt : q' < w.heap.size := cell_lt hcell
      obtain ⟨fp3, hT3, hsub3⟩ := hback w2 (repT l K0 K) v2 fp2 hT2 hsub2 (fun b hb h1 h2 => hfr b hb (fun hm => h1 (f2 b hm)) (fun hm => by
        rcases f3 with ⟨_, e, _, _⟩ | f3
        · exact h2 (hm.trans e)
        · exact h1 (by rw [hm]; exact f3))) (by
        rcases f3 with ⟨rfl, rfl, rfl, rfl⟩ | f3
        · right
          have hvu : v2 = u := by
            have a1 := hT2.2.2.2.1
            have a2 := (hTN.set k1 k2 k3 hV2 hn2 (fun b hb => (hf b hb).imp (fun h => f2 b h) id) hw).2.2.2.1
            rw [a1] at a2; exact Option.some.inj a2
          rw [hvu]
          exact ⟨hw, k1, k2, k3⟩
        · left
          exact hfr q' hqlt (fun hm => hTN.2.2.2.2.2.2 (f2 q' hm)) (fun hm => hTN.2.2.2.2.2.2 (by rw [hm]; exact f3)))
      obtain ⟨k, e, t, nms, ks⟩ := T
      refine ⟨v, fp3, ?_, hsub3⟩
      rw [repT_at (k := k) (e := e) (t := t) (nms := nms) (ks := ks) U1 hs0 hK0]
      exact hT3

theorem zeroET (w : World) : (zeroValue 52).run Tryd.prog w = .ok (.agg #[.string ⟨#[]⟩, .int .i64 0, .bool false, .string ⟨#[]⟩, .slice none 0 0]) w := by
  obtain ⟨i0, hi, hz0, hz1, hz2⟩ := info_parts infoET
  simp [zeroValue, typeInfo, hi, hz0]
theorem zcE : (Builtin.zeroCells #[.string ⟨#[]⟩, .int .i64 0, .bool false, .string ⟨#[]⟩, .slice none 0 0] 1).toList = zEnt := by kernel_rfl
theorem run_clear5 (w : World) (ty : TypeId) (b o c : Nat) (hc : ∀ j, j < 5 → (w.cell? ⟨b, o + j, none⟩).isSome = true) (hf : ∀ j, j < 5 → w.frozen? ⟨b, o + j, none⟩ = false) :
    (Builtin.clear_ #[30] ty #[.slice (some ⟨b, o, none⟩) 1 c]).run Tryd.prog w = .ok (.tuple #[]) (w.setCells b o zEnt) := by
  have hst := run_storeCells_cells (P := Tryd.prog) b o zEnt 0 w (by simpa [zEnt] using hc) (by simpa [zEnt] using hf) (by simp [zEnt, Value.oneCell'])
  simp only [Nat.add_zero] at hst
  simp [Builtin.clear_, run_underlying undLET, Value.cells]
  rw [zcE, hst]
  rfl

/-- A row of entries' cells are of one cell each. -/
theorem KidV.one {w : World} {B : Nat} : ∀ (nms : List ByteArray) (ks : List Tr) (cs : List Value) (fq : List Nat), KidV w B nms ks cs fq → ∀ u ∈ cs, u.oneCell' = true
  | [], [], cs, fq, h, u, hu => by rw [KidV] at h; rw [h.1] at hu; cases hu
  | s :: nms, T :: ks, cs, fq, h, u, hu => by
    rw [KidV] at h
    obtain ⟨v, cs', fp, fq', rfl, h2, h3, _⟩ := h
    rcases List.mem_append.1 hu with hu | hu
    · obtain ⟨x, c, rfl⟩ := h2.shape
      simp [entV] at hu
      rcases hu with rfl | rfl | rfl | rfl | rfl <;> rfl
    · exact KidV.one nms ks cs' fq' h3 u hu
  | [], _ :: _, cs, fq, h, u, hu => by simp [KidV] at h
  | _ :: _, [], cs, fq, h, u, hu => by simp [KidV] at h

set_option maxHeartbeats 4000000 in
set_option maxRecDepth 100000 in
theorem delete_any (B q n cap i : Nat) (cs : List Value) (w : World) (h : w.ownsRow B 52 5 (.slice (some ⟨q, 0, none⟩) n cap) n cs) (h1 : ∀ u ∈ cs, u.oneCell' = true) (hi : i < n) (hn : n ≤ 1954687338211) :
    Calls Tryd.prog 36 #[.slice (some ⟨q, 0, none⟩) n cap, .int .i64 i, .int .i64 (i + 1)] w fun e w' => e = .returned (.slice (some ⟨q, 0, none⟩) (n - 1) cap) ∧ w' = (w.drew.setCells q (i * 5) (cs.drop ((i + 1) * 5))).setCells q ((n - 1) * 5) zEnt := by
  obtain ⟨cur, hb, hq, hnc, hcm, hsz, htk⟩ : ∃ cur, B ≤ q ∧ w.heap[q]? = some (.cells cur 52 (0, 0)) ∧ n ≤ cap ∧ cap ≤ maxLen ∧ cur.size = cap * 5 ∧ cur.toList.take (n * 5) = cs := by
    rcases h.2 with ⟨h0, _⟩ | ⟨g, cap', cur, h0, r⟩
    · cases h0
    · injection h0 with e1 e2 e3
      injection e1 with e1
      injection e1 with e1
      subst e1 e3
      exact ⟨cur, r⟩
  have hlen : cs.length = n * 5 := h.1
  have hcap : cap ≤ 9223372036854775807 := hcm
  obtain ⟨i0, hi0, hz0, hz1, hz2⟩ := info_parts infoET
  obtain ⟨news, hnews⟩ : ∃ news, news = cs.drop ((i + 1) * 5) := ⟨_, rfl⟩
  have s1 : Hid (news.length = (n - (i + 1)) * 5) := by
    show news.length = _
    rw [hnews, List.length_drop, hlen]; omega
  have s2 : Hid (∀ u ∈ news, u.oneCell' = true) := fun u hu => by rw [hnews] at hu; exact h1 u (List.mem_of_mem_drop hu)
  have hcells : ∀ j, j < cap * 5 → (w.drew.cell? ⟨q, j, none⟩).isSome = true ∧ w.drew.frozen? ⟨q, j, none⟩ = false := fun j hj => by
    have hq' : w.drew.heap[q]? = some (.cells cur 52 (0, 0)) := hq
    refine ⟨?_, by unfold World.frozen?; rw [hq']; simp⟩
    rw [Lib.cell_of_heap hq', Array.getElem?_eq_getElem (by omega)]; rfl
  obtain ⟨A, hA, hsrc⟩ : ∃ A : Addr, (if cap = i + 1 then some (⟨q, 0, none⟩ : Addr) else some ⟨q, (i + 1) * 5, none⟩) = some A ∧ Hid (∀ t u, news[t]? = some u → w.drew.cell? (A.add t) = some u) := by
    by_cases hc : cap = i + 1
    · refine ⟨⟨q, 0, none⟩, by simp [hc], fun t u hu => ?_⟩
      have h0 : news.length = 0 := by rw [s1.out]; omega
      rw [List.length_eq_zero_iff.1 h0] at hu
      simp at hu
    · refine ⟨⟨q, (i + 1) * 5, none⟩, by simp [hc], fun t u hu => ?_⟩
      have hq' : w.drew.heap[q]? = some (.cells cur 52 (0, 0)) := hq
      have ht : t < news.length := (List.getElem?_eq_some_iff.1 hu).1
      rw [s1.out] at ht
      rw [hnews, List.getElem?_drop, ← htk, List.getElem?_take_of_lt (by omega), Array.getElem?_toList] at hu
      rw [Addr.add_lit, Lib.cell_of_heap hq']
      exact hu
  have s3 : Hid (∀ t, t < news.length → (w.drew.cell? ⟨q, 0 + i * 5 + t, none⟩).isSome = true ∧ w.drew.frozen? ⟨q, 0 + i * 5 + t, none⟩ = false) := fun t ht => by
    rw [s1.out] at ht
    exact hcells _ (by omega)
  obtain ⟨W1, hW1⟩ : ∃ W1, W1 = w.drew.setCells q (0 + i * 5) news := ⟨_, rfl⟩
  have hW : Hid (W1 = w.drew.setCells q (0 + i * 5) news) := hW1
  have HN : Hid (news = cs.drop ((i + 1) * 5)) := hnews
  have hic : i ≤ cap := by omega
  have hjc : i + 1 ≤ cap := by omega
  have hcl : ∀ ty, (Builtin.clear_ #[30] ty #[.slice (some ⟨q, (n - 1) * 5, none⟩) 1 (cap - (n - 1))]).run Tryd.prog W1 = .ok (.tuple #[]) (W1.setCells q ((n - 1) * 5) zEnt) := fun ty => by
    refine run_clear5 W1 ty q _ _ (fun j hj => ?_) (fun j hj => ?_)
    · rw [hW1]
      by_cases hin : 0 + i * 5 ≤ (n - 1) * 5 + j ∧ (n - 1) * 5 + j < 0 + i * 5 + news.length
      · have := World.cell?_setCells_in q news (0 + i * 5) w.drew (fun t ht => (s3.out t ht).1) ((n - 1) * 5 + j - (0 + i * 5)) (by omega)
        rw [show 0 + i * 5 + ((n - 1) * 5 + j - (0 + i * 5)) = (n - 1) * 5 + j by omega] at this
        rw [this]; rfl
      · rw [World.cell?_setCells_out q news _ w.drew ⟨q, (n - 1) * 5 + j, none⟩ (fun _ _ => by show (n - 1) * 5 + j < 0 + i * 5 ∨ 0 + i * 5 + news.length ≤ (n - 1) * 5 + j; omega)]
        exact (hcells _ (by omega)).1
    · rw [hW1, World.frozen?_setCells]; exact (hcells _ (by omega)).2
  have e1 : i + (n - (i + 1)) = n - 1 := by omega
  have e2 : n - (n - 1) = 1 := by omega
  have e3 : ¬ cap = n - 1 := by omega
  clear hnews hW1 hcells hq htk hsz hlen h h1
  go_enter Tryd.func36, Tryd.ntmps36
  go_wp2_with fail
  have j1 : (i : Int) + 1 ≤ (n : Int) := by omega
  have j2 : (0 : Int) ≤ (i : Int) + 1 := by omega
  go_region_law (refine step_append_room rfl (.tmp 22) (.tmp 25) 30 rfl 52 i0 5 undLET hi0 hz1 q 0 i cap (by simp [Act.eval, Act.put]) A (n - (i + 1)) (cap - (i + 1)) news (by simp [Act.eval, Act.put]) s1.out hsrc.out s2.out (by omega) s3.out ?_; rw [← hW.out])
  go_wp2_with fail
  go_ret
  exact ⟨rfl, by rw [hW.out, HN.out, Nat.zero_add]⟩

theorem setCells_block (q : Nat) (ty : TypeId) : ∀ (vs : List Value) (o : Nat) (w : World) (C : Array Value), w.heap[q]? = some (.cells C ty (0, 0)) → o + vs.length ≤ C.size → ∃ C' : Array Value, (w.setCells q o vs).heap[q]? = some (.cells C' ty (0, 0)) ∧ C'.toList = C.toList.take o ++ vs ++ C.toList.drop (o + vs.length)
  | [], o, w, C, h, ho => ⟨C, h, by simp⟩
  | v :: vs, o, w, C, h, ho => by
    simp at ho
    have h1 := Go.Joins.block_setCell (i := o) h v
    obtain ⟨C', h2, h3⟩ := setCells_block q ty vs (o + 1) (w.setCell ⟨q, o, none⟩ v) (C.setIfInBounds o v) h1 (by rw [Array.size_setIfInBounds]; omega)
    refine ⟨C', h2, ?_⟩
    rw [h3, Array.toList_setIfInBounds]
    have hlt : o < C.toList.length := by rw [Array.length_toList]; omega
    rw [List.take_set, List.drop_set_of_lt (by omega), List.take_add_one, List.getElem?_eq_getElem hlt]
    simp
    rw [show o + 1 + vs.length = o + (vs.length + 1) by omega]
    have e0 : (List.take o C.toList).length = o := by rw [List.length_take]; omega
    rw [List.set_append_right _ _ (by omega), e0, Nat.sub_self]
    simp

theorem own_heapC {w : World} {B q n cap : Nat} {cs : List Value} (h : w.ownsRow B 52 5 (.slice (some ⟨q, 0, none⟩) n cap) n cs) : ∃ cur, B ≤ q ∧ w.heap[q]? = some (.cells cur 52 (0, 0)) ∧ n ≤ cap ∧ cap ≤ maxLen ∧ cur.size = cap * 5 ∧ cur.toList.take (n * 5) = cs := by
  rcases h.2 with ⟨h0, _⟩ | ⟨g, cap', cur, h0, r⟩
  · cases h0
  · injection h0 with e1 e2 e3
    injection e1 with e1
    injection e1 with e1
    subst e1 e3
    exact ⟨cur, r⟩

/-- The row behind Delete. -/
theorem own_delete {w : World} {B q n cap i : Nat} {cs : List Value} (h : w.ownsRow B 52 5 (.slice (some ⟨q, 0, none⟩) n cap) n cs) (hi : i < n) :
    ((w.drew.setCells q (i * 5) (cs.drop ((i + 1) * 5))).setCells q ((n - 1) * 5) zEnt).ownsRow B 52 5 (.slice (some ⟨q, 0, none⟩) (n - 1) cap) (n - 1) (cs.take (i * 5) ++ cs.drop ((i + 1) * 5)) := by
  obtain ⟨cur, hb, hq, hnc, hcm, hsz, htk⟩ := own_heapC h
  have hlen : cs.length = n * 5 := h.1
  have hq' : w.drew.heap[q]? = some (.cells cur 52 (0, 0)) := hq
  have hcl : cur.toList.length = cap * 5 := by rw [Array.length_toList]; exact hsz
  obtain ⟨C1, g1, g2⟩ := setCells_block q 52 (cs.drop ((i + 1) * 5)) (i * 5) w.drew cur hq' (by rw [List.length_drop]; omega)
  have l1 : C1.size = cap * 5 := by
    have := congrArg List.length g2
    rw [List.length_append, List.length_append, List.length_take, List.length_drop, List.length_drop, Array.length_toList, hcl, hlen] at this
    omega
  obtain ⟨C2, g3, g4⟩ := setCells_block q 52 zEnt ((n - 1) * 5) _ C1 g1 (by rw [show zEnt.length = 5 from rfl]; omega)
  generalize (w.drew.setCells q (i * 5) (cs.drop ((i + 1) * 5))).setCells q ((n - 1) * 5) zEnt = W at g3 ⊢
  have lz : zEnt.length = 5 := rfl
  generalize zEnt = Z at g4 lz
  have l2 : C2.size = cap * 5 := by
    have := congrArg List.length g4
    rw [List.length_append, List.length_append, List.length_take, List.length_drop, Array.length_toList, Array.length_toList, lz] at this
    omega
  refine ⟨by rw [List.length_append, List.length_take, List.length_drop]; omega, .inr ⟨q, cap, C2, rfl, hb, g3, by omega, hcm, l2, ?_⟩⟩
  have hl3 : (C1.toList.take ((n - 1) * 5)).length = (n - 1) * 5 := by rw [List.length_take, Array.length_toList]; omega
  rw [g4, List.append_assoc, List.take_append_of_le_length (by rw [hl3]; exact Nat.le_refl _), List.take_of_length_le (by rw [hl3]; exact Nat.le_refl _), g2]
  have hl4 : (cur.toList.take (i * 5) ++ cs.drop ((i + 1) * 5)).length = (n - 1) * 5 := by rw [List.length_append, List.length_take, List.length_drop, hcl]; omega
  rw [List.take_append_of_le_length (by rw [hl4]; exact Nat.le_refl _), List.take_of_length_le (by rw [hl4]; exact Nat.le_refl _)]
  congr 1
  rw [← htk, List.take_take, Nat.min_eq_left (by omega)]

theorem KidV.del {w : World} {B : Nat} : ∀ (nms : List ByteArray) (ks : List Tr) (cs : List Value) (fq : List Nat), KidV w B nms ks cs fq → ∀ i, i < nms.length →
    ∃ fq', KidV w B (nms.eraseIdx i) (ks.eraseIdx i) (cs.take (i * 5) ++ cs.drop ((i + 1) * 5)) fq' ∧ fq'.Sublist fq
  | [], _, cs, fq, _, i, h => by simp at h
  | _ :: _, [], cs, fq, h, i, _ => by simp [KidV] at h
  | a :: nms, T :: ks, cs, fq, h, 0, _ => by
    rw [KidV] at h
    obtain ⟨v, cs', fp, fq', rfl, h2, h3, rfl⟩ := h
    refine ⟨fq', ?_, List.sublist_append_right _ _⟩
    rw [List.eraseIdx_cons_zero, List.eraseIdx_cons_zero]
    have e : (entV a T v ++ cs').take (0 * 5) ++ (entV a T v ++ cs').drop ((0 + 1) * 5) = cs' := by simp [entV]
    rw [e]; exact h3
  | a :: nms, T :: ks, cs, fq, h, i + 1, hi => by
    rw [KidV] at h
    obtain ⟨v, cs', fp, fq', rfl, h2, h3, rfl⟩ := h
    obtain ⟨fr, h4, h5⟩ := KidV.del nms ks cs' fq' h3 i (by simpa using hi)
    refine ⟨fp ++ fr, ?_, List.Sublist.append (List.Sublist.refl _) h5⟩
    rw [List.eraseIdx_cons_succ, List.eraseIdx_cons_succ, KidV]
    refine ⟨v, _, fp, fr, ?_, h2, h4, rfl⟩
    rw [List.take_append, List.drop_append, List.take_of_length_le (by rw [entV_len]; omega), List.drop_of_length_le (by rw [entV_len]; omega), entV_len, show (i + 1) * 5 - 5 = i * 5 by omega, show (i + 1 + 1) * 5 - 5 = (i + 1) * 5 by omega]
    simp

/-- A directory without its kid i. -/
def delK (T : Tr) (i : Nat) : Tr := .mk T.k T.e T.t (T.nms.eraseIdx i) (T.ks.eraseIdx i)
/-- What Delete leaves is the directory without that kid. -/
theorem TrV.del {w : World} {B q cap : Nat} {T : Tr} {fp : List Nat} {i : Nat} (h : TrV w B T (.slice (some ⟨q, 0, none⟩) T.nms.length cap) fp) (hn : fp.Nodup) (hi : i < T.nms.length) :
    ∃ cs, w.ownsRow B 52 5 (.slice (some ⟨q, 0, none⟩) T.nms.length cap) T.nms.length cs ∧ (∀ u ∈ cs, u.oneCell' = true) ∧
      ∃ fp', TrV ((w.drew.setCells q (i * 5) (cs.drop ((i + 1) * 5))).setCells q ((T.nms.length - 1) * 5) zEnt) B (delK T i) (.slice (some ⟨q, 0, none⟩) (T.nms.length - 1) cap) fp' ∧ fp'.Nodup ∧ ∀ b ∈ fp', b ∈ fp := by
  obtain ⟨k, e, t, nms, ks⟩ := T
  rw [TrV] at h
  obtain ⟨cs, fq, h1, h2, rfl⟩ := h
  change i < nms.length at hi
  obtain ⟨fq', h3, h4⟩ := KidV.del nms ks cs fq h2 i hi
  have hq : q ∉ fq := (List.nodup_cons.1 hn).1
  refine ⟨cs, h1, KidV.one _ _ _ _ h2, q :: fq', ?_, ?_, ?_⟩
  · show TrV _ B (.mk k e t (nms.eraseIdx i) (ks.eraseIdx i)) (.slice (some ⟨q, 0, none⟩) (nms.length - 1) cap) (q :: fq')
    rw [TrV]
    have hl : (nms.eraseIdx i).length = nms.length - 1 := by rw [List.length_eraseIdx, if_pos hi]
    refine ⟨cs.take (i * 5) ++ cs.drop ((i + 1) * 5), fq', by rw [hl]; exact own_delete h1 hi, ?_, rfl⟩
    refine KidV.same _ _ _ _ h3 (fun b hb => ?_)
    have hbq : b ≠ q := fun he => hq (by rw [← he]; exact h4.subset hb)
    exact (heapE_setCells q _ _ b hbq _).trans (heapE_setCells q _ _ b hbq _)
  · exact List.nodup_cons.2 ⟨fun hm => hq (h4.subset hm), ((List.nodup_cons.1 hn).2).sublist h4⟩
  · intro b hb
    rcases List.mem_cons.1 hb with rfl | hb
    · exact List.mem_cons_self
    · exact List.mem_cons_of_mem _ (h4.subset hb)

mutual
theorem TrV.cells {w : World} {B : Nat} : ∀ (T : Tr) (v : Value) (fp : List Nat), TrV w B T v fp → ∀ b ∈ fp, ∃ C, w.heap[b]? = some (.cells C 52 (0, 0))
  | .mk k e t nms ks, v, fp, h, b, hb => by
    rw [TrV] at h
    obtain ⟨cs, fq, h1, h2, rfl⟩ := h
    rcases List.mem_append.1 hb with hb | hb
    · rcases h1.2 with ⟨rfl, _⟩ | ⟨g, cap, cur, rfl, _, hg, _⟩
      · simp [blkL, Value.ownBlock] at hb
      · simp [blkL, Value.ownBlock] at hb
        subst hb
        exact ⟨cur, hg⟩
    · exact KidV.cells nms ks cs fq h2 b hb
theorem KidV.cells {w : World} {B : Nat} : ∀ (nms : List ByteArray) (ks : List Tr) (cs : List Value) (fq : List Nat), KidV w B nms ks cs fq → ∀ b ∈ fq, ∃ C, w.heap[b]? = some (.cells C 52 (0, 0))
  | [], [], cs, fq, h, b, hb => by rw [KidV] at h; rw [h.2] at hb; cases hb
  | s :: nms, T :: ks, cs, fq, h, b, hb => by
    rw [KidV] at h
    obtain ⟨v, cs', fp, fq', _, h2, h3, rfl⟩ := h
    rcases List.mem_append.1 hb with hb | hb
    · exact TrV.cells T v fp h2 b hb
    · exact KidV.cells nms ks cs' fq' h3 b hb
  | [], _ :: _, cs, fq, h, b, hb => by simp [KidV] at h
  | _ :: _, [], cs, fq, h, b, hb => by simp [KidV] at h
end
theorem TrV.unfrozen {w : World} {B : Nat} {T : Tr} {v : Value} {fp : List Nat} (h : TrV w B T v fp) (b i : Nat) (hb : b ∈ fp) : w.frozen? ⟨b, i, none⟩ = false := by
  obtain ⟨C, hC⟩ := TrV.cells T v fp h b hb
  unfold World.frozen?; rw [hC]; simp

/-- Names none of which is s. -/
theorem BS.none {ns : List ByteArray} {s : ByteArray} {i : Nat} (B : BS ns s i) (U : Up ns) (hc : ¬ (i < ns.length ∧ cmpB (nmA ns i) s = 0)) : ns.findIdx? (fun n => decide (n = s)) = Option.none := by
  rw [List.findIdx?_eq_none_iff]
  intro x hx
  obtain ⟨j, hj, rfl⟩ := List.getElem_of_mem hx
  simp only [decide_eq_false_iff_not]
  intro he
  have he' : nmA ns j = s := by rw [nmA_of (List.getElem?_eq_getElem hj)]; exact he
  by_cases h1 : j < i
  · have := B.lo j h1; rw [he', cmpB_refl] at this; omega
  · by_cases h2 : j = i
    · exact hc ⟨by omega, by rw [← h2, he', cmpB_refl]⟩
    · have := U.at (a := i) (b := j) (by omega) hj
      have h3 := B.hi i (Nat.le_refl _) (by omega)
      rw [he'] at this; omega
end Go.Proofs.YtnggbemnblcnaaaDoor
namespace Go.Proofs.YtnggbemnblcnaaaDoor
open Go.RowKit

theorem sub_find (s : ByteArray) : ∀ (ns : List ByteArray) (ks : List Tr), sub s ns ks = (ns.findIdx? (fun n => decide (n = s))).bind (fun i => ks[i]?)
  | [], ks => by rw [sub] <;> simp
  | n :: ns, [] => by rw [sub] <;> simp
  | n :: ns, K :: ks => by
    rw [sub, List.findIdx?_cons]
    by_cases h : n = s
    · simp [h]
    · rw [if_neg h, sub_find s ns ks]
      simp [h]
      cases ns.findIdx? (fun n => decide (n = s)) <;> simp

theorem rch_cons {s : ByteArray} {l : List ByteArray} {k : Int} {e : Bool} {t : ByteArray} {nms : List ByteArray} {ks : List Tr} (h : (rch (s :: l) (.mk k e t nms ks)).1 = 0) :
    k = 3 ∧ ∃ i K0, nms.findIdx? (fun n => decide (n = s)) = some i ∧ ks[i]? = some K0 ∧ (rch l K0).1 = 0 ∧ rch (s :: l) (.mk k e t nms ks) = rch l K0 ∧ ∀ K, repT (s :: l) (.mk k e t nms ks) K = .mk k e t nms (ks.set i (repT l K0 K)) := by
  have e0 : rch (s :: l) (.mk k e t nms ks) = if k ≠ 3 then (65, .mk k e t nms ks) else match sub s nms ks with
    | none => (3, .mk k e t nms ks)
    | some K => rch l K := rfl
  rw [e0] at h
  by_cases hk : k ≠ 3
  · rw [if_pos hk] at h; exact absurd (show (65 : Int) = 0 from h) (by decide)
  · rw [if_neg hk] at h
    rw [sub_find] at h
    cases hf : nms.findIdx? (fun n => decide (n = s)) with
    | none => rw [hf] at h; exact absurd (show (3 : Int) = 0 from h) (by decide)
    | some i =>
      rw [hf] at h
      cases hK : ks[i]? with
      | none => simp only [Option.bind_some, hK] at h; exact absurd (show (3 : Int) = 0 from h) (by decide)
      | some K0 =>
        simp only [Option.bind_some, hK] at h
        refine ⟨by omega, i, K0, rfl, hK, h, ?_, fun K => ?_⟩
        · rw [e0, if_neg hk, sub_find, hf]; simp only [Option.bind_some, hK]
        · rw [repT, hf]; simp only [hK]
theorem rch_of {s : ByteArray} {l : List ByteArray} {k : Int} {e : Bool} {t : ByteArray} {nms : List ByteArray} {ks : List Tr} {i : Nat} {K0 : Tr} (hk : k = 3) (hf : nms.findIdx? (fun n => decide (n = s)) = some i) (hK : ks[i]? = some K0) : rch (s :: l) (.mk k e t nms ks) = rch l K0 := by
  show (if k ≠ 3 then _ else match sub s nms ks with
    | none => (3, Tr.mk k e t nms ks)
    | some K => rch l K) = _
  rw [if_neg (by omega), sub_find, hf]
  simp only [Option.bind_some, hK]
theorem rep_of {s : ByteArray} {l : List ByteArray} {k : Int} {e : Bool} {t : ByteArray} {nms : List ByteArray} {ks : List Tr} {i : Nat} {K0 : Tr} (hf : nms.findIdx? (fun n => decide (n = s)) = some i) (hK : ks[i]? = some K0) (K : Tr) : repT (s :: l) (.mk k e t nms ks) K = .mk k e t nms (ks.set i (repT l K0 K)) := by
  rw [repT, hf]; simp only [hK]
theorem set_at {ks : List Tr} {i : Nat} {K0 X : Tr} (h : ks[i]? = some K0) : (ks.set i X)[i]? = some X := by
  have := (List.getElem?_eq_some_iff.1 h).1
  rw [List.getElem?_set]; simp [this]

theorem rch_app : ∀ (L M : List ByteArray) (T : Tr), (rch L T).1 = 0 → rch (L ++ M) T = rch M (rch L T).2
  | [], M, T, _ => rfl
  | s :: l, M, .mk k e t nms ks, h => by
    obtain ⟨hk, i, K0, hf, hK, h1, h2, _⟩ := rch_cons h
    rw [h2]
    show rch (s :: (l ++ M)) (.mk k e t nms ks) = _
    rw [rch_of hk hf hK]
    exact rch_app l M K0 h1
theorem rch_rep : ∀ (L : List ByteArray) (T K : Tr), (rch L T).1 = 0 → rch L (repT L T K) = (0, K)
  | [], T, K, _ => rfl
  | s :: l, .mk k e t nms ks, K, h => by
    obtain ⟨hk, i, K0, hf, hK, h1, _, h3⟩ := rch_cons h
    rw [h3, rch_of hk hf (set_at hK)]
    exact rch_rep l K0 K h1
theorem rep_rep : ∀ (L : List ByteArray) (T K K' : Tr), (rch L T).1 = 0 → repT L (repT L T K) K' = repT L T K'
  | [], T, K, K', _ => rfl
  | s :: l, .mk k e t nms ks, K, K', h => by
    obtain ⟨hk, i, K0, hf, hK, h1, _, h3⟩ := rch_cons h
    rw [h3, rep_of hf (set_at hK), List.set_set, rep_rep l K0 K K' h1, h3]

theorem cb_swap : ∀ a b : List UInt8, Lib.compareBytes a b = - Lib.compareBytes b a
  | [], [] => rfl
  | [], _ :: _ => by simp [Lib.compareBytes]
  | _ :: _, [] => by simp [Lib.compareBytes]
  | x :: a, y :: b => by
    rw [Lib.compareBytes, Lib.compareBytes]
    by_cases h1 : x < y
    · have h2 : ¬ y < x := by rw [UInt8.lt_iff_toNat_lt] at h1 ⊢; omega
      rw [if_pos h1, if_neg h2, if_pos h1]
    · rw [if_neg h1]
      by_cases h2 : y < x
      · rw [if_pos h2, if_pos h2]; rfl
      · rw [if_neg h2, if_neg h2, if_neg h1]; exact cb_swap a b
theorem cmpB_swap (a b : ByteArray) : cmpB a b = - cmpB b a := cb_swap _ _

/-- The place at which a name would stand. -/
def pos (ns : List ByteArray) (s : ByteArray) : Nat := ns.findIdx (fun n => decide (0 ≤ cmpB n s))
theorem BS.pos {ns : List ByteArray} {s : ByteArray} {i : Nat} (B : BS ns s i) : pos ns s = i := by
  unfold Go.Proofs.YtnggbemnblcnaaaDoor.pos
  by_cases h : i < ns.length
  · rw [List.findIdx_eq h]
    refine ⟨?_, fun j hj => ?_⟩
    · have := B.hi i (Nat.le_refl _) h
      rw [nmA_of (List.getElem?_eq_getElem h)] at this
      exact decide_eq_true this
    · have := B.lo j hj
      rw [nmA_of (List.getElem?_eq_getElem (by omega : j < ns.length))] at this
      exact decide_eq_false (by omega)
  · have hl : i = ns.length := by have := B.le; omega
    rw [hl, List.findIdx_eq_length]
    intro x hx
    obtain ⟨j, hj, rfl⟩ := List.getElem_of_mem hx
    have := B.lo j (by omega)
    rw [nmA_of (List.getElem?_eq_getElem hj)] at this
    exact decide_eq_false (by omega)
/-- A directory with one kid more, with another kid. -/
def insK (T : Tr) (i : Nat) (s : ByteArray) (K : Tr) : Tr := .mk T.k T.e T.t (T.nms.take i ++ s :: T.nms.drop i) (T.ks.take i ++ K :: T.ks.drop i)
def setK (T : Tr) (i : Nat) (K : Tr) : Tr := .mk T.k T.e T.t T.nms (T.ks.set i K)
def putK (T : Tr) (s : ByteArray) (K : Tr) : Tr := match T.nms.findIdx? (fun n => decide (n = s)) with
  | some i => setK T i K
  | none => insK T (pos T.nms s) s K

theorem pos_lo {ns : List ByteArray} {s : ByteArray} {j : Nat} {n : ByteArray} (h : ns[j]? = some n) (hj : j < pos ns s) : cmpB n s < 0 := by
  obtain ⟨h1, rfl⟩ := List.getElem?_eq_some_iff.1 h
  have := List.not_of_lt_findIdx hj
  simp at this
  omega
theorem pos_hi {ns : List ByteArray} {s : ByteArray} (U : Up ns) {j : Nat} {n : ByteArray} (h : ns[j]? = some n) (hj : pos ns s ≤ j) (hne : n ≠ s) : cmpB s n < 0 := by
  obtain ⟨h1, rfl⟩ := List.getElem?_eq_some_iff.1 h
  have hp : pos ns s < ns.length := by omega
  have h2' : decide (0 ≤ cmpB ns[pos ns s] s) = true := List.findIdx_getElem (xs := ns) (p := fun n => decide (0 ≤ cmpB n s)) (w := hp)
  have h2 : 0 ≤ cmpB ns[pos ns s] s := of_decide_eq_true h2'
  have h3 : 0 ≤ cmpB ns[j] s := by
    by_cases he : pos ns s = j
    · subst he; exact h2
    · have h4 := U.at (a := pos ns s) (b := j) (by omega) h1
      rw [nmA_of (List.getElem?_eq_getElem hp), nmA_of (List.getElem?_eq_getElem h1)] at h4
      by_cases h5 : cmpB ns[j] s < 0
      · have h7 : cmpB ns[pos ns s] s < 0 := cmpB_trans h4 (Int.le_of_lt h5)
        omega
      · omega
  have h6 : cmpB ns[j] s ≠ 0 := fun hh => hne (cmpB_eq hh)
  have := cmpB_swap s ns[j]
  omega
theorem find_none_ne {ns : List ByteArray} {s : ByteArray} (h : ns.findIdx? (fun n => decide (n = s)) = none) {n : ByteArray} (hn : n ∈ ns) : n ≠ s := by
  rw [List.findIdx?_eq_none_iff] at h
  have := h n hn
  simpa using this
theorem Up.ins {ns : List ByteArray} (U : Up ns) {s : ByteArray} (h : ns.findIdx? (fun n => decide (n = s)) = none) : Up (ns.take (pos ns s) ++ s :: ns.drop (pos ns s)) := by
  unfold Up at U ⊢
  have U' := U
  rw [← List.take_append_drop (pos ns s) ns, List.pairwise_append] at U'
  obtain ⟨u1, u2, u3⟩ := U'
  have lo : ∀ a ∈ ns.take (pos ns s), cmpB a s < 0 := fun a ha => by
    obtain ⟨j, hj, rfl⟩ := List.getElem_of_mem ha
    rw [List.length_take] at hj
    rw [List.getElem_take]
    exact pos_lo (List.getElem?_eq_getElem (by omega)) (by omega)
  have hi : ∀ b ∈ ns.drop (pos ns s), cmpB s b < 0 := fun b hb => by
    obtain ⟨j, hj, rfl⟩ := List.getElem_of_mem hb
    rw [List.length_drop] at hj
    rw [List.getElem_drop]
    exact pos_hi U (List.getElem?_eq_getElem (by omega)) (by omega) (find_none_ne h (List.getElem_mem _))
  rw [List.pairwise_append]
  refine ⟨u1, List.pairwise_cons.2 ⟨hi, u2⟩, fun a ha b hb => ?_⟩
  rcases List.mem_cons.1 hb with rfl | hb
  · exact lo a ha
  · exact u3 a ha b hb

/-- What putK leaves: the name, and the kid, at one place; the names rise. -/
theorem putK_at {T : Tr} (U : Up T.nms) (hl : T.nms.length = T.ks.length) (s : ByteArray) (K : Tr) : ∃ i : Nat, (putK T s K).nms[i]? = some s ∧ (putK T s K).ks[i]? = some K ∧ Up (putK T s K).nms ∧ (putK T s K).nms.length = (putK T s K).ks.length ∧ (putK T s K).k = T.k := by
  unfold putK
  cases hf : T.nms.findIdx? (fun n => decide (n = s)) with
  | some i =>
    have := List.findIdx?_eq_some_iff_getElem.1 hf
    obtain ⟨h1, h2, _⟩ := this
    have h2' : T.nms[i] = s := by simpa using h2
    exact ⟨i, by show T.nms[i]? = _; rw [List.getElem?_eq_getElem h1, h2'], by show (T.ks.set i K)[i]? = _; rw [List.getElem?_set]; simp; omega, U, by show T.nms.length = (T.ks.set i K).length; rw [List.length_set]; exact hl, rfl⟩
  | none =>
    have hp : pos T.nms s ≤ T.nms.length := List.findIdx_le_length
    refine ⟨pos T.nms s, ?_, ?_, Up.ins U hf, ?_, rfl⟩
    · show (T.nms.take (pos T.nms s) ++ s :: T.nms.drop (pos T.nms s))[pos T.nms s]? = _
      rw [List.getElem?_append_right (by rw [List.length_take]; omega), List.length_take, Nat.min_eq_left hp, Nat.sub_self]; rfl
    · show (T.ks.take (pos T.nms s) ++ K :: T.ks.drop (pos T.nms s))[pos T.nms s]? = _
      rw [List.getElem?_append_right (by rw [List.length_take]; omega), List.length_take, Nat.min_eq_left (by omega), Nat.sub_self]; rfl
    · show (T.nms.take (pos T.nms s) ++ s :: T.nms.drop (pos T.nms s)).length = (T.ks.take (pos T.nms s) ++ K :: T.ks.drop (pos T.nms s)).length
      simp; omega

theorem sub_app (s : ByteArray) : ∀ (a : List ByteArray) (c : List Tr) (b : List ByteArray) (d : List Tr), a.length = c.length → sub s (a ++ b) (c ++ d) = (sub s a c).or (sub s b d)
  | [], [], b, d, _ => by
    have : sub s [] [] = none := by rw [sub]; intros; simp_all
    rw [this]; rfl
  | n :: a, K :: c, b, d, h => by
    rw [List.cons_append, List.cons_append, sub, sub]
    by_cases hn : n = s
    · rw [if_pos hn, if_pos hn]; rfl
    · rw [if_neg hn, if_neg hn]; exact sub_app s a c b d (by simpa using h)
  | [], _ :: _, _, _, h => by simp at h
  | _ :: _, [], _, _, h => by simp at h
/-- The other kids are as they were. -/
theorem putK_other {T : Tr} (hl : T.nms.length = T.ks.length) {s s2 : ByteArray} (K : Tr) (hne : s2 ≠ s) : sub s2 (putK T s K).nms (putK T s K).ks = sub s2 T.nms T.ks := by
  unfold putK
  cases hf : T.nms.findIdx? (fun n => decide (n = s)) with
  | some i =>
    show sub s2 T.nms (T.ks.set i K) = _
    rw [sub_find, sub_find]
    cases hg : T.nms.findIdx? (fun n => decide (n = s2)) with
    | none => rfl
    | some j =>
      obtain ⟨h1, h2, _⟩ := List.findIdx?_eq_some_iff_getElem.1 hf
      obtain ⟨h3, h4, _⟩ := List.findIdx?_eq_some_iff_getElem.1 hg
      have hij : i ≠ j := fun e => by
        subst e
        simp at h2 h4
        exact hne (h4.symm.trans h2)
      simp only [Option.bind_some]
      rw [List.getElem?_set_ne hij]
  | none =>
    show sub s2 (T.nms.take (pos T.nms s) ++ s :: T.nms.drop (pos T.nms s)) (T.ks.take (pos T.nms s) ++ K :: T.ks.drop (pos T.nms s)) = _
    have e1 : (T.nms.take (pos T.nms s)).length = (T.ks.take (pos T.nms s)).length := by simp; omega
    rw [sub_app _ _ _ _ _ e1, sub, if_neg (fun h => hne h.symm), ← sub_app _ _ _ _ _ e1, List.take_append_drop, List.take_append_drop]

theorem Up.erase {ns : List ByteArray} (U : Up ns) (i : Nat) : Up (ns.eraseIdx i) := List.Pairwise.sublist (List.eraseIdx_sublist _ _) U
theorem erase_none {ns : List ByteArray} (U : Up ns) {i : Nat} {s : ByteArray} (h : ns[i]? = some s) : (ns.eraseIdx i).findIdx? (fun n => decide (n = s)) = none := by
  rw [List.findIdx?_eq_none_iff]
  intro x hx
  simp only [decide_eq_false_iff_not]
  rintro rfl
  obtain ⟨hi, he⟩ := List.getElem?_eq_some_iff.1 h
  unfold Up at U
  rw [List.eraseIdx_eq_take_drop_succ] at hx
  rcases List.mem_append.1 hx with hx | hx
  · obtain ⟨j, hj, e⟩ := List.getElem_of_mem hx
    rw [List.length_take] at hj
    rw [List.getElem_take] at e
    have := Up.at U (a := j) (b := i) (by omega) hi
    rw [nmA_of (List.getElem?_eq_getElem (by omega : j < ns.length)), nmA_of h, e, cmpB_refl] at this
    omega
  · obtain ⟨j, hj, e⟩ := List.getElem_of_mem hx
    rw [List.length_drop] at hj
    rw [List.getElem_drop] at e
    have := Up.at U (a := i) (b := i + 1 + j) (by omega) (by omega)
    rw [nmA_of (List.getElem?_eq_getElem (by omega : i + 1 + j < ns.length)), nmA_of h, e, cmpB_refl] at this
    omega
theorem erase_pos {ns : List ByteArray} (U : Up ns) {i : Nat} {s : ByteArray} (h : ns[i]? = some s) : pos (ns.eraseIdx i) s = i := by
  obtain ⟨hi, he⟩ := List.getElem?_eq_some_iff.1 h
  have hl : (ns.eraseIdx i).length = ns.length - 1 := by rw [List.length_eraseIdx, if_pos hi]
  refine BS.pos ⟨by omega, fun j hj => ?_, fun j hj hj2 => ?_⟩
  · have e : (ns.eraseIdx i)[j]? = ns[j]? := by rw [List.getElem?_eraseIdx, if_pos hj]
    have := U.at (a := j) (b := i) hj hi
    rw [nmA_of h] at this
    unfold nmA; rw [e]; exact this
  · have e : (ns.eraseIdx i)[j]? = ns[j + 1]? := by rw [List.getElem?_eraseIdx, if_neg (by omega)]
    have := U.at (a := i) (b := j + 1) (by omega) (by omega)
    rw [nmA_of h] at this
    have h2 : nmA (ns.eraseIdx i) j = nmA ns (j + 1) := by unfold nmA; rw [e]
    rw [h2]
    have := cmpB_swap s (nmA ns (j + 1))
    omega
theorem erase_back {α : Type} {l : List α} {i : Nat} {a : α} (h : l[i]? = some a) : (l.eraseIdx i).take i ++ a :: (l.eraseIdx i).drop i = l := by
  obtain ⟨hi, he⟩ := List.getElem?_eq_some_iff.1 h
  rw [List.eraseIdx_eq_take_drop_succ]
  have e0 : (l.take i).length = i := by rw [List.length_take]; omega
  rw [List.take_append_of_le_length (by omega), List.take_of_length_le (by omega), List.drop_append_of_le_length (by omega), List.drop_of_length_le (by omega), List.nil_append]
  subst he
  rw [← List.drop_eq_getElem_cons hi]
  exact List.take_append_drop _ _
/-- Cut, then put again. -/
theorem putK_back {P : Tr} (U : Up P.nms) {i : Nat} {s : ByteArray} {K : Tr} (h1 : P.nms[i]? = some s) (h2 : P.ks[i]? = some K) : putK (delK P i) s K = P := by
  obtain ⟨k, e, t, nms, ks⟩ := P
  change nms[i]? = some s at h1
  change ks[i]? = some K at h2
  unfold putK
  show (match (nms.eraseIdx i).findIdx? (fun n => decide (n = s)) with
    | some j => setK (delK (.mk k e t nms ks) i) j K
    | none => insK (delK (.mk k e t nms ks) i) (pos (nms.eraseIdx i) s) s K) = _
  rw [erase_none (ns := nms) U h1]
  show insK (delK (.mk k e t nms ks) i) (pos (nms.eraseIdx i) s) s K = _
  rw [erase_pos (ns := nms) U h1]
  show Tr.mk k e t ((nms.eraseIdx i).take i ++ s :: (nms.eraseIdx i).drop i) ((ks.eraseIdx i).take i ++ K :: (ks.eraseIdx i).drop i) = _
  rw [erase_back h1, erase_back h2]

theorem wfL_at : ∀ (ns : List ByteArray) (ks : List Tr), wfL ns ks → ∀ (i : Nat) (T : Tr), ks[i]? = some T → wfT T
  | [], [], _, i, T, h => by simp at h
  | _ :: ns, K :: ks, hw, 0, T, h => by
    rw [wfL] at hw
    simp at h
    rw [← h]; exact hw.1
  | _ :: ns, K :: ks, hw, i + 1, T, h => by
    rw [wfL] at hw
    exact wfL_at ns ks hw.2 i T (by simpa using h)
  | [], _ :: _, hw, _, _, _ => by simp [wfL] at hw
  | _ :: _, [], hw, _, _, _ => by simp [wfL] at hw
/-- Paths of which none begins with the other lead past each other. -/
theorem rch_apart {s : ByteArray} {X : Tr} : ∀ (L M : List ByteArray) (T : Tr), wfT T → (rch L T).1 = 0 → ¬ (M <+: L ++ [s]) → ¬ (L ++ [s] <+: M) →
    (rch M (repT L T (putK (rch L T).2 s X))).1 = (rch M T).1 ∧ ((rch M T).1 = 0 → (rch M (repT L T (putK (rch L T).2 s X))).2 = (rch M T).2)
  | [], [], T, _, _, h1, _ => absurd (List.nil_prefix) h1
  | [], m :: M, .mk k e t nms ks, hw, _, _, h2 => by
    have hne : m ≠ s := fun he => h2 (by rw [he]; exact ⟨M, rfl⟩)
    have hl : nms.length = ks.length := by rw [wfT] at hw; exact wfL_len _ _ hw
    have hs := putK_other (T := .mk k e t nms ks) hl X hne
    have hk : (putK (.mk k e t nms ks) s X).k = k := by
      unfold putK
      split <;> rfl
    show (rch (m :: M) (putK (.mk k e t nms ks) s X)).1 = _ ∧ (_ → (rch (m :: M) (putK (.mk k e t nms ks) s X)).2 = _)
    generalize putK (.mk k e t nms ks) s X = P at hs hk
    change sub m P.nms P.ks = sub m nms ks at hs
    have e1 : rch (m :: M) P = if P.k ≠ 3 then (65, P) else match sub m P.nms P.ks with
      | none => (3, P)
      | some K => rch M K := rfl
    have e2 : rch (m :: M) (.mk k e t nms ks) = if k ≠ 3 then (65, .mk k e t nms ks) else match sub m nms ks with
      | none => (3, .mk k e t nms ks)
      | some K => rch M K := rfl
    rw [e1, e2, hs, hk]
    by_cases h3 : k ≠ 3
    · rw [if_pos h3, if_pos h3]
      exact ⟨rfl, fun h => absurd (show (65 : Int) = 0 from h) (by decide)⟩
    · rw [if_neg h3, if_neg h3]
      cases sub m nms ks with
      | none => exact ⟨rfl, fun h => absurd (show (3 : Int) = 0 from h) (by decide)⟩
      | some K => exact ⟨rfl, fun _ => rfl⟩
  | a :: L, [], T, _, _, h1, _ => absurd (List.nil_prefix) h1
  | a :: L, m :: M, .mk k e t nms ks, hw, hr, h1, h2 => by
    obtain ⟨hk, i, K0, hf, hK, g1, g2, g3⟩ := rch_cons hr
    rw [g2, g3]
    have e2 : rch (m :: M) (.mk k e t nms ks) = if k ≠ 3 then (65, .mk k e t nms ks) else match sub m nms ks with
      | none => (3, .mk k e t nms ks)
      | some K => rch M K := rfl
    by_cases hm : m = a
    · subst hm
      rw [rch_of hk hf (set_at hK), rch_of hk hf hK]
      refine rch_apart L M K0 ?_ g1 (fun hp => h1 ?_) (fun hp => h2 ?_)
      · rw [wfT] at hw
        exact wfL_at _ _ hw _ _ hK
      · exact List.cons_prefix_cons.2 ⟨rfl, hp⟩
      · exact List.cons_prefix_cons.2 ⟨rfl, hp⟩
    · have hs : sub m nms (ks.set i (repT L K0 (putK (rch L K0).2 s X))) = sub m nms ks := by
        rw [sub_find, sub_find]
        cases hg : nms.findIdx? (fun n => decide (n = m)) with
        | none => rfl
        | some j =>
          obtain ⟨q1, q2, _⟩ := List.findIdx?_eq_some_iff_getElem.1 hf
          obtain ⟨q3, q4, _⟩ := List.findIdx?_eq_some_iff_getElem.1 hg
          have hij : i ≠ j := fun e => by
            subst e
            simp at q2 q4
            exact hm (q4.symm.trans q2)
          simp only [Option.bind_some]
          rw [List.getElem?_set_ne hij]
      have e1 : rch (m :: M) (.mk k e t nms (ks.set i (repT L K0 (putK (rch L K0).2 s X)))) = if k ≠ 3 then (65, .mk k e t nms (ks.set i (repT L K0 (putK (rch L K0).2 s X)))) else match sub m nms (ks.set i (repT L K0 (putK (rch L K0).2 s X))) with
        | none => (3, .mk k e t nms (ks.set i (repT L K0 (putK (rch L K0).2 s X))))
        | some K => rch M K := rfl
      rw [e1, e2, hs, if_neg (by omega), if_neg (by omega)]
      cases sub m nms ks with
      | none => exact ⟨rfl, fun h => absurd (show (3 : Int) = 0 from h) (by decide)⟩
      | some K => exact ⟨rfl, fun _ => rfl⟩

mutual
theorem tbT_ge : ∀ T : Tr, 0 ≤ tbT T
  | .mk k e t nms ks => by
    rw [tbT]
    have h1 := (nbP_bd k e t).1
    have h2 := tbL_ge nms ks
    omega
theorem tbL_ge : ∀ (nms : List ByteArray) (ks : List Tr), 0 ≤ tbL nms ks
  | [], _ => by rw [tbL] <;> simp
  | _ :: _, [] => by rw [tbL] <;> simp
  | s :: nms, T :: ks => by
    rw [tbL]
    have h1 := (ebP_bd s).1
    have h2 := tbT_ge T
    have h3 := tbL_ge nms ks
    omega
end
theorem entO_of {prev : Option ByteArray} {s : ByteArray} {b : Int} (h1 : chk s = 0) (h2 : ∀ s', prev = some s' → cmpB s' s < 0) (h3 : b + ebP s ≤ 1048576) : entO prev s b = 0 := by
  cases prev with
  | none =>
    show entC _ _ s b = 0
    unfold entC
    rw [if_neg (by omega), if_neg (by omega), if_neg (by omega)]
  | some p =>
    have := h2 p rfl
    show entC _ _ s b = 0
    unfold entC
    rw [if_neg (by omega), if_neg (by omega), if_neg (by omega)]
theorem vT_parts {ns : List ByteArray} {b : Int} {k : Int} {e : Bool} {t : ByteArray} {nms : List ByteArray} {ks : List Tr} (h : (vT ns b (.mk k e t nms ks)).off = none) : 1 + ns.length ≤ 32 ∧ cfP k e t nms.length = 0 ∧ b + nbP k e t ≤ 1048576 ∧ (vL ns (b + nbP k e t) none nms ks).off = none := by
  rw [vT] at h
  by_cases h1 : 32 < 1 + ns.length
  · rw [if_pos h1] at h; cases h
  · rw [if_neg h1] at h
    by_cases h2 : cfP k e t nms.length ≠ 0
    · rw [if_pos h2] at h; cases h
    · rw [if_neg h2] at h
      by_cases h3 : 1048576 < b + nbP k e t
      · rw [if_pos h3] at h; cases h
      · rw [if_neg h3] at h
        exact ⟨by omega, by omega, by omega, h⟩
theorem vT_of {ns : List ByteArray} {b : Int} {k : Int} {e : Bool} {t : ByteArray} {nms : List ByteArray} {ks : List Tr} (h1 : 1 + ns.length ≤ 32) (h2 : cfP k e t nms.length = 0) (h3 : b + nbP k e t ≤ 1048576) (h4 : (vL ns (b + nbP k e t) none nms ks).off = none) : (vT ns b (.mk k e t nms ks)).off = none := by
  rw [vT, if_neg (by omega), if_neg (by omega), if_neg (by omega)]; exact h4
theorem vL_parts {ns : List ByteArray} {b : Int} {prev : Option ByteArray} {s : ByteArray} {T : Tr} {nms : List ByteArray} {ks : List Tr} (h : (vL ns b prev (s :: nms) (T :: ks)).off = none) : chk s = 0 ∧ (∀ s', prev = some s' → cmpB s' s < 0) ∧ b + ebP s ≤ 1048576 ∧ (vT (ns ++ [s]) (b + ebP s) T).off = none ∧ (vL ns (b + ebP s + tbT T) (some s) nms ks).off = none := by
  rw [vL] at h
  by_cases h1 : entO prev s b ≠ 0
  · rw [if_pos h1] at h; cases h
  · rw [if_neg h1] at h
    obtain ⟨p1, p2, p3⟩ := entO_parts (by omega : entO prev s b = 0)
    cases hv : (vT (ns ++ [s]) (b + ebP s) T).off with
    | some o => rw [hv] at h; cases h
    | none =>
      rw [hv] at h
      have := vT_bytes _ _ T hv
      rw [this] at h
      exact ⟨p1, p2, p3, rfl, h⟩
theorem vL_of {ns : List ByteArray} {b : Int} {prev : Option ByteArray} {s : ByteArray} {T : Tr} {nms : List ByteArray} {ks : List Tr} (h1 : chk s = 0) (h2 : ∀ s', prev = some s' → cmpB s' s < 0) (h3 : b + ebP s ≤ 1048576) (h4 : (vT (ns ++ [s]) (b + ebP s) T).off = none) (h5 : (vL ns (b + ebP s + tbT T) (some s) nms ks).off = none) : (vL ns b prev (s :: nms) (T :: ks)).off = none := by
  rw [vL, if_neg (by rw [entO_of h1 h2 h3]; decide), h4]
  show (vL ns (vT (ns ++ [s]) (b + ebP s) T).bytes (some s) nms ks).off = none
  rw [vT_bytes _ _ T h4]; exact h5

/-- A name may follow another. -/
def Nx (prev : Option ByteArray) : List ByteArray → List Tr → Prop
  | s :: _, _ :: _ => ∀ s', prev = some s' → cmpB s' s < 0
  | _, _ => True
theorem vL_nx {ns : List ByteArray} {b : Int} {prev : Option ByteArray} : ∀ {nms : List ByteArray} {ks : List Tr}, (vL ns b prev nms ks).off = none → Nx prev nms ks
  | [], _, _ => trivial
  | _ :: _, [], _ => trivial
  | _ :: _, _ :: _, h => (vL_parts h).2.1
mutual
theorem vT_weak : ∀ (T : Tr) (ns : List ByteArray) (b b' : Int), (vT ns b T).off = none → b' ≤ b → (vT ns b' T).off = none
  | .mk k e t nms ks, ns, b, b', h, hb => by
    obtain ⟨h1, h2, h3, h4⟩ := vT_parts h
    exact vT_of h1 h2 (by omega) (vL_weak nms ks ns _ _ none none h4 (by omega) (vL_nx h4))
theorem vL_weak : ∀ (nms : List ByteArray) (ks : List Tr) (ns : List ByteArray) (b b' : Int) (prev prev' : Option ByteArray), (vL ns b prev nms ks).off = none → b' ≤ b → Nx prev' nms ks → (vL ns b' prev' nms ks).off = none
  | [], ks, ns, b, b', prev, prev', _, _, _ => by rw [vL_end]
  | _ :: _, [], ns, b, b', prev, prev', _, _, _ => by rw [vL]; simp
  | s :: nms, T :: ks, ns, b, b', prev, prev', h, hb, hn => by
    obtain ⟨h1, h2, h3, h4, h5⟩ := vL_parts h
    exact vL_of h1 hn (by omega) (vT_weak T _ _ _ h4 (by omega)) (vL_weak nms ks ns _ _ _ _ h5 (by omega) (vL_nx h5))
end

/-- One tree passes where another does, and is no longer. -/
def Lgt (K' K : Tr) : Prop := tbT K' ≤ tbT K ∧ ∀ ns b, (vT ns b K).off = none → (vT ns b K').off = none
theorem tbL_set {K K' : Tr} (h : tbT K' ≤ tbT K) : ∀ (nms : List ByteArray) (ks : List Tr) (i : Nat), ks[i]? = some K → tbL nms (ks.set i K') ≤ tbL nms ks
  | [], ks, i, _ => by rw [tbL, tbL] <;> simp
  | _ :: _, [], i, _ => by simp
  | s :: nms, T :: ks, 0, hk => by
    simp at hk
    subst hk
    rw [List.set_cons_zero, tbL, tbL]; omega
  | s :: nms, T :: ks, i + 1, hk => by
    rw [List.set_cons_succ, tbL, tbL]
    have := tbL_set h nms ks i (by simpa using hk)
    omega
theorem vL_set {K K' : Tr} (hK : Lgt K' K) : ∀ (nms : List ByteArray) (ks : List Tr) (i : Nat) (ns : List ByteArray) (b b' : Int) (prev : Option ByteArray), ks[i]? = some K → (vL ns b prev nms ks).off = none → b' ≤ b → (vL ns b' prev nms (ks.set i K')).off = none
  | [], ks, i, ns, b, b', prev, _, _, _ => by rw [vL_end]
  | _ :: _, [], i, ns, b, b', prev, hk, _, _ => by simp at hk
  | s :: nms, T :: ks, 0, ns, b, b', prev, hk, h, hb => by
    simp at hk
    subst hk
    obtain ⟨h1, h2, h3, h4, h5⟩ := vL_parts h
    rw [List.set_cons_zero]
    have := hK.1
    exact vL_of h1 h2 (by omega) (vT_weak K' _ _ _ (hK.2 _ _ h4) (by omega)) (vL_weak nms ks ns _ _ _ _ h5 (by omega) (vL_nx h5))
  | s :: nms, T :: ks, i + 1, ns, b, b', prev, hk, h, hb => by
    obtain ⟨h1, h2, h3, h4, h5⟩ := vL_parts h
    rw [List.set_cons_succ]
    exact vL_of h1 h2 (by omega) (vT_weak T _ _ _ h4 (by omega)) (vL_set hK nms ks i ns _ _ _ (by simpa using hk) h5 (by omega))
theorem Lgt.rep {K K' : Tr} (hK : Lgt K' K) : ∀ (L : List ByteArray) (T : Tr), (rch L T).1 = 0 → Lgt (repT L T K') (repT L T K)
  | [], T, _ => hK
  | s :: l, .mk k e t nms ks, h => by
    obtain ⟨hk, i, K0, hf, hK0, h1, _, h3⟩ := rch_cons h
    have ih := Lgt.rep hK l K0 h1
    rw [h3, h3]
    have e1 : (ks.set i (repT l K0 K)).set i (repT l K0 K') = ks.set i (repT l K0 K') := List.set_set ..
    have e2 := set_at (X := repT l K0 K) hK0
    refine ⟨?_, fun ns b hv => ?_⟩
    · rw [tbT, tbT, ← e1]
      have := tbL_set ih.1 nms _ i e2
      omega
    · obtain ⟨g1, g2, g3, g4⟩ := vT_parts hv
      refine vT_of g1 g2 g3 ?_
      rw [← e1]
      exact vL_set ih nms _ i ns _ _ none e2 g4 (Int.le_refl _)
theorem tbL_del : ∀ (nms : List ByteArray) (ks : List Tr) (i : Nat), wfL nms ks → tbL (nms.eraseIdx i) (ks.eraseIdx i) ≤ tbL nms ks
  | [], [], i, _ => by simp
  | s :: nms, T :: ks, 0, _ => by
    rw [List.eraseIdx_cons_zero, List.eraseIdx_cons_zero, tbL]
    have := (ebP_bd s).1
    have := tbT_ge T
    omega
  | s :: nms, T :: ks, i + 1, h => by
    rw [wfL] at h
    rw [List.eraseIdx_cons_succ, List.eraseIdx_cons_succ, tbL, tbL]
    have := tbL_del nms ks i h.2
    omega
  | [], _ :: _, i, h => by simp [wfL] at h
  | _ :: _, [], i, h => by simp [wfL] at h
theorem vL_del : ∀ (nms : List ByteArray) (ks : List Tr) (i : Nat) (ns : List ByteArray) (b b' : Int) (prev : Option ByteArray), wfL nms ks → (vL ns b prev nms ks).off = none → b' ≤ b → (vL ns b' prev (nms.eraseIdx i) (ks.eraseIdx i)).off = none
  | [], [], i, ns, b, b', prev, _, _, _ => by simp [vL_end]
  | s :: nms, T :: ks, 0, ns, b, b', prev, hw, h, hb => by
    obtain ⟨h1, h2, h3, h4, h5⟩ := vL_parts h
    rw [List.eraseIdx_cons_zero, List.eraseIdx_cons_zero]
    have g1 := (ebP_bd s).1
    have g2 := tbT_ge T
    refine vL_weak nms ks ns _ _ _ _ h5 (by omega) ?_
    have hx := vL_nx h5
    cases nms with
    | nil => trivial
    | cons s2 nms =>
      cases ks with
      | nil => trivial
      | cons T2 ks => exact fun s' he => cmpB_trans (h2 s' he) (by have := hx s rfl; omega)
  | s :: nms, T :: ks, i + 1, ns, b, b', prev, hw, h, hb => by
    rw [wfL] at hw
    obtain ⟨h1, h2, h3, h4, h5⟩ := vL_parts h
    rw [List.eraseIdx_cons_succ, List.eraseIdx_cons_succ]
    exact vL_of h1 h2 (by omega) (vT_weak T _ _ _ h4 (by omega)) (vL_del nms ks i ns _ _ _ hw.2 h5 (by omega))
  | [], _ :: _, i, _, _, _, _, h, _, _ => by simp [wfL] at h
  | _ :: _, [], i, _, _, _, _, h, _, _ => by simp [wfL] at h
theorem Lgt.del {P : Tr} (hw : wfT P) {i : Nat} (hi : i < P.nms.length) : Lgt (delK P i) P := by
  obtain ⟨k, e, t, nms, ks⟩ := P
  rw [wfT] at hw
  change i < nms.length at hi
  show Lgt (.mk k e t (nms.eraseIdx i) (ks.eraseIdx i)) (.mk k e t nms ks)
  refine ⟨?_, fun ns b hv => ?_⟩
  · rw [tbT, tbT]
    have := tbL_del nms ks i hw
    omega
  · obtain ⟨g1, g2, g3, g4⟩ := vT_parts hv
    refine vT_of g1 ?_ g3 (vL_del nms ks i ns _ _ none hw g4 (Int.le_refl _))
    have := cfP_kids g2
    exact cfP_more this.1 (fun _ => by by_cases h3 : k = 3; exact h3; have := this.2 h3; omega)

mutual
/-- No list of kids is longer than c. -/
def lnB (c : Nat) : Tr → Prop
  | .mk _ _ _ nms ks => nms.length ≤ c ∧ lnBL c ks
def lnBL (c : Nat) : List Tr → Prop
  | [] => True
  | T :: ks => lnB c T ∧ lnBL c ks
end
theorem lnBL_iff {c : Nat} : ∀ {ks : List Tr}, lnBL c ks ↔ ∀ T ∈ ks, lnB c T
  | [] => by simp [lnBL]
  | T :: ks => by rw [lnBL, lnBL_iff (ks := ks)]; simp
mutual
theorem lnB_ln {c : Nat} (hc : c ≤ 1073741824) : ∀ T : Tr, lnB c T → lnT T
  | .mk _ _ _ nms ks, h => by
    rw [lnB] at h
    rw [lnT]
    exact ⟨by omega, lnBL_ln hc ks h.2⟩
theorem lnBL_ln {c : Nat} (hc : c ≤ 1073741824) : ∀ ks : List Tr, lnBL c ks → lnL ks
  | [], _ => by rw [lnL]; trivial
  | T :: ks, h => by
    rw [lnBL] at h
    rw [lnL]
    exact ⟨lnB_ln hc T h.1, lnBL_ln hc ks h.2⟩
end
mutual
theorem lnB_mono {c d : Nat} (hc : c ≤ d) : ∀ T : Tr, lnB c T → lnB d T
  | .mk _ _ _ nms ks, h => by
    rw [lnB] at h ⊢
    exact ⟨by omega, lnBL_mono hc ks h.2⟩
theorem lnBL_mono {c d : Nat} (hc : c ≤ d) : ∀ ks : List Tr, lnBL c ks → lnBL d ks
  | [], _ => by rw [lnBL]; trivial
  | T :: ks, h => by
    rw [lnBL] at h ⊢
    exact ⟨lnB_mono hc T h.1, lnBL_mono hc ks h.2⟩
end
theorem ebP_one (s : ByteArray) : 1 ≤ ebP s := by
  unfold ebP
  have := (fr_bd s.size).1
  omega
theorem tbL_len : ∀ (nms : List ByteArray) (ks : List Tr), wfL nms ks → (nms.length : Int) ≤ tbL nms ks
  | [], [], _ => by rw [tbL] <;> simp
  | s :: nms, T :: ks, h => by
    rw [wfL] at h
    rw [tbL]
    have := tbL_len nms ks h.2
    have := ebP_one s
    have := tbT_ge T
    simp only [List.length_cons]
    omega
  | [], _ :: _, h => by simp [wfL] at h
  | _ :: _, [], h => by simp [wfL] at h
mutual
theorem vT_ln : ∀ (T : Tr) (ns : List ByteArray) (b : Int), wfT T → (vT ns b T).off = none → 0 ≤ b → lnB 1048576 T
  | .mk k e t nms ks, ns, b, hw, h, hb => by
    rw [wfT] at hw
    obtain ⟨h1, h2, h3, h4⟩ := vT_parts h
    have g := (nbP_bd k e t).1
    have q1 := (vL_bd ns _ none nms ks h4 (by omega) (by omega)).2
    rw [vL_bytes _ _ _ _ _ h4] at q1
    have q2 := tbL_len nms ks hw
    rw [lnB]
    exact ⟨by omega, vL_ln nms ks ns _ none hw h4 (by omega)⟩
theorem vL_ln : ∀ (nms : List ByteArray) (ks : List Tr) (ns : List ByteArray) (b : Int) (prev : Option ByteArray), wfL nms ks → (vL ns b prev nms ks).off = none → 0 ≤ b → lnBL 1048576 ks
  | [], [], _, _, _, _, _, _ => by rw [lnBL]; trivial
  | s :: nms, T :: ks, ns, b, prev, hw, h, hb => by
    rw [wfL] at hw
    obtain ⟨h1, h2, h3, h4, h5⟩ := vL_parts h
    have := ebP_one s
    have := tbT_ge T
    rw [lnBL]
    exact ⟨vT_ln T _ _ hw.1 h4 (by omega), vL_ln nms ks ns _ _ hw.2 h5 (by omega)⟩
  | [], _ :: _, _, _, _, h, _, _ => by simp [wfL] at h
  | _ :: _, [], _, _, _, h, _, _ => by simp [wfL] at h
end
theorem sub_mem {s : ByteArray} : ∀ {ns : List ByteArray} {ks : List Tr} {K : Tr}, sub s ns ks = some K → ∃ i : Nat, ns[i]? = some s ∧ ks[i]? = some K
  | [], _, K, h => by rw [sub] at h <;> simp_all
  | _ :: _, [], K, h => by rw [sub] at h <;> simp_all
  | n :: ns, T :: ks, K, h => by
    rw [sub] at h
    by_cases hn : n = s
    · rw [if_pos hn] at h
      exact ⟨0, by simp [hn], by simpa using h⟩
    · rw [if_neg hn] at h
      obtain ⟨i, h1, h2⟩ := sub_mem h
      exact ⟨i + 1, by simpa using h1, by simpa using h2⟩
theorem rch_keeps (C : Tr → Prop) (hC : ∀ k e t nms ks, C (.mk k e t nms ks) → ∀ (i : Nat) (s : ByteArray) (K : Tr), nms[i]? = some s → ks[i]? = some K → C K) : ∀ (L : List ByteArray) (T : Tr), C T → C (rch L T).2
  | [], T, h => h
  | s :: l, .mk k e t nms ks, h => by
    show C (if k ≠ 3 then ((65 : Int), Tr.mk k e t nms ks) else match sub s nms ks with
      | none => (3, Tr.mk k e t nms ks)
      | some K => rch l K).2
    by_cases hk : k ≠ 3
    · rw [if_pos hk]; exact h
    · rw [if_neg hk]
      cases hs : sub s nms ks with
      | none => exact h
      | some K =>
        obtain ⟨i, h1, h2⟩ := sub_mem hs
        exact rch_keeps C hC l K (hC _ _ _ _ _ h i s K h1 h2)
theorem rep_keeps (C : Tr → Prop) (hC : ∀ k e t nms ks, C (.mk k e t nms ks) → ∀ (i : Nat) (s : ByteArray) (K : Tr), nms[i]? = some s → ks[i]? = some K → C K) (hS : ∀ k e t nms ks, C (.mk k e t nms ks) → ∀ (i : Nat) (K : Tr), C K → C (.mk k e t nms (ks.set i K))) (X : Tr) (hX : C X) : ∀ (L : List ByteArray) (T : Tr), C T → C (repT L T X)
  | [], T, h => hX
  | s :: l, .mk k e t nms ks, h => by
    rw [repT]
    split
    · exact h
    · rename_i i hf
      split
      · exact h
      · rename_i K0 hK0
        obtain ⟨h1, h2, _⟩ := List.findIdx?_eq_some_iff_getElem.1 hf
        exact hS _ _ _ _ _ h i _ (rep_keeps C hC hS X hX l K0 (hC _ _ _ _ _ h i _ K0 (List.getElem?_eq_getElem h1) hK0))
/-- Small texts. -/
theorem smT_kid : ∀ k e t nms ks, smT (.mk k e t nms ks) → ∀ (i : Nat) (s : ByteArray) (K : Tr), nms[i]? = some s → ks[i]? = some K → smT K := fun k e t nms ks h i s K h1 h2 => by
  rw [smT] at h
  exact (smL_at nms ks i s K h.2 h1 h2).2
theorem smL_set {K : Tr} (hK : smT K) : ∀ (nms : List ByteArray) (ks : List Tr) (i : Nat), smL nms ks → smL nms (ks.set i K)
  | [], ks, i, _ => by rw [smL] <;> simp
  | _ :: _, [], i, h => by simpa using h
  | s :: nms, T :: ks, 0, h => by
    rw [smL] at h
    rw [List.set_cons_zero, smL]; exact ⟨h.1, hK, h.2.2⟩
  | s :: nms, T :: ks, i + 1, h => by
    rw [smL] at h
    rw [List.set_cons_succ, smL]; exact ⟨h.1, h.2.1, smL_set hK nms ks i h.2.2⟩
theorem smL_ins {K : Tr} (hK : smT K) {s : ByteArray} (hs : s.size ≤ 1048576) : ∀ (nms : List ByteArray) (ks : List Tr) (i : Nat), nms.length = ks.length → smL nms ks → smL (nms.take i ++ s :: nms.drop i) (ks.take i ++ K :: ks.drop i)
  | nms, ks, 0, _, h => by
    show smL (s :: nms) (K :: ks)
    rw [smL]; exact ⟨hs, hK, h⟩
  | [], [], i + 1, _, h => by
    show smL [s] [K]
    rw [smL]; exact ⟨hs, hK, h⟩
  | a :: nms, T :: ks, i + 1, hl, h => by
    rw [smL] at h
    show smL (a :: (nms.take i ++ s :: nms.drop i)) (T :: (ks.take i ++ K :: ks.drop i))
    rw [smL]; exact ⟨h.1, h.2.1, smL_ins hK hs nms ks i (by simpa using hl) h.2.2⟩
  | [], _ :: _, _ + 1, hl, _ => by simp at hl
  | _ :: _, [], _ + 1, hl, _ => by simp at hl
theorem smT_put {T K : Tr} {s : ByteArray} (h : smT T) (hK : smT K) (hs : s.size ≤ 1048576) (hl : T.nms.length = T.ks.length) : smT (putK T s K) := by
  obtain ⟨k, e, t, nms, ks⟩ := T
  rw [smT] at h
  unfold putK
  split
  · show smT (.mk k e t nms (ks.set _ K))
    rw [smT]; exact ⟨h.1, smL_set hK _ _ _ h.2⟩
  · show smT (.mk k e t (nms.take (pos nms s) ++ s :: nms.drop (pos nms s)) (ks.take (pos nms s) ++ K :: ks.drop (pos nms s)))
    rw [smT]; exact ⟨h.1, smL_ins hK hs nms ks _ hl h.2⟩
theorem smT_rep {T X : Tr} (L : List ByteArray) (h : smT T) (hX : smT X) : smT (repT L T X) := rep_keeps smT smT_kid (fun k e t nms ks h i K hK => by
  rw [smT] at h ⊢
  exact ⟨h.1, smL_set hK _ _ _ h.2⟩) X hX L T h
theorem smT_rch {T : Tr} (L : List ByteArray) (h : smT T) : smT (rch L T).2 := rch_keeps smT smT_kid L T h
theorem lnB_kid {c : Nat} : ∀ k e t nms ks, lnB c (.mk k e t nms ks) → ∀ (i : Nat) (s : ByteArray) (K : Tr), nms[i]? = some s → ks[i]? = some K → lnB c K := fun k e t nms ks h i s K _ h2 => by
  rw [lnB] at h
  exact lnBL_iff.1 h.2 K (List.mem_of_getElem? h2)
theorem lnB_rep {c : Nat} {T X : Tr} (L : List ByteArray) (h : lnB c T) (hX : lnB c X) : lnB c (repT L T X) := rep_keeps (lnB c) lnB_kid (fun k e t nms ks h i K hK => by
  rw [lnB] at h ⊢
  exact ⟨h.1, lnBL_iff.2 (fun T hT => by rcases List.mem_or_eq_of_mem_set hT with hT | rfl; exact lnBL_iff.1 h.2 T hT; exact hK)⟩) X hX L T h
theorem lnB_rch {c : Nat} {T : Tr} (L : List ByteArray) (h : lnB c T) : lnB c (rch L T).2 := rch_keeps (lnB c) lnB_kid L T h
theorem lnB_put {c : Nat} {T K : Tr} {s : ByteArray} (h : lnB c T) (hK : lnB (c + 1) K) : lnB (c + 1) (putK T s K) := by
  obtain ⟨k, e, t, nms, ks⟩ := T
  rw [lnB] at h
  have h2 := lnBL_iff.1 (lnBL_mono (Nat.le_succ c) _ h.2)
  unfold putK
  split
  · show lnB (c + 1) (.mk k e t nms (ks.set _ K))
    rw [lnB]
    exact ⟨by omega, lnBL_iff.2 (fun T hT => by rcases List.mem_or_eq_of_mem_set hT with hT | rfl; exact h2 T hT; exact hK)⟩
  · show lnB (c + 1) (.mk k e t (nms.take (pos nms s) ++ s :: nms.drop (pos nms s)) (ks.take (pos nms s) ++ K :: ks.drop (pos nms s)))
    rw [lnB]
    refine ⟨by simp; omega, lnBL_iff.2 (fun T hT => ?_)⟩
    rcases List.mem_append.1 hT with hT | hT
    · exact h2 T (List.mem_of_mem_take hT)
    · rcases List.mem_cons.1 hT with rfl | hT
      · exact hK
      · exact h2 T (List.mem_of_mem_drop hT)
theorem lnB_del {c : Nat} {P : Tr} (i : Nat) (h : lnB c P) : lnB c (delK P i) := by
  obtain ⟨k, e, t, nms, ks⟩ := P
  rw [lnB] at h
  show lnB c (.mk k e t (nms.eraseIdx i) (ks.eraseIdx i))
  rw [lnB]
  exact ⟨Nat.le_trans (List.length_eraseIdx_le ..) h.1, lnBL_iff.2 (fun T hT => lnBL_iff.1 h.2 T (List.mem_of_mem_eraseIdx hT))⟩
theorem ckS_off {T : Tr} {l : List Tr} (h : ckS l = 0) (hm : T ∈ l) : (vT [] 24 T).off = none := by
  induction l with
  | nil => cases hm
  | cons K l ih =>
    rw [ckS] at h
    by_cases hk : (ckT K).2 ≠ 0
    · rw [if_pos hk] at h; exact absurd h hk
    · rw [if_neg hk] at h
      rcases List.mem_cons.1 hm with rfl | hm
      · exact ckT_zero (by omega)
      · exact ih h hm
theorem off_ck {T : Tr} (h : (vT [] 24 T).off = none) : (ckT T).2 = 0 := by unfold ckT; rw [h]
theorem nmO_ck {l : List Tr} {p : ByteArray} (h : nmO l p = 0) : ckS l = 0 ∧ (pathF p).1 = 0 := by
  unfold nmO at h
  by_cases hk : ckS l ≠ 0
  · rw [if_pos hk] at h; exact absurd h hk
  · rw [if_neg hk] at h; exact ⟨by omega, h⟩
theorem ck_ln {T : Tr} (hw : wfT T) (h : (vT [] 24 T).off = none) : lnB 1048576 T := vT_ln T [] 24 hw h (by decide)
end Go.Proofs.YtnggbemnblcnaaaDoor
namespace Go.Proofs.YtnggbemnblcnaaaDoor
open Go.RowKit

/-- What Cut answers. -/
def cutN (T : Tr) (L : List ByteArray) (s : ByteArray) : Int × Tr := if (rchH L T).1 ≠ 0 then ((rchH L T).1, zT) else match (rch L T).2.nms.findIdx? (fun n => decide (n = s)) with
  | none => (3, zT)
  | some i => (0, repT L T (delK (rch L T).2 i))
def cutT (T : Tr) (p : ByteArray) : Int × Tr := if nmO [T] p ≠ 0 then (nmO [T] p, zT) else match (pathN p).reverse with
  | [] => (66, zT)
  | s :: r => cutN T r.reverse s

set_option maxHeartbeats 8000000 in
set_option maxRecDepth 10000 in
theorem cut_any (m : Nat) (k : Int) (e : Bool) (t : ByteArray) (x : Option Addr) (n c : Nat) (T : Tr) (p : ByteArray) (w : World) (hp : p.size ≤ 1048576) (H : At w m (.agg #[.int .i64 k, .bool e, .string t, .slice x n c]) T) (S : smT T) :
    Calls Tryd.prog 12 #[.agg #[.int .i64 k, .bool e, .string t, .slice x n c], .string p] w (NdP (cutT T p) w) := by
  have HH : Hid (At w m (.agg #[.int .i64 k, .bool e, .string t, .slice x n c]) T ∧ smT T ∧ wfT T) := ⟨H, S, At.wf _ _ _ H⟩
  clear H S
  go_enter Tryd.func12, Tryd.ntmps12
  go_wp2_with fail
  obtain ⟨w3, hw3⟩ : ∃ w3, w3 = (((w.alloc (Obj.cells #[Value.int IntKind.i64 k, Value.bool e, Value.string t, Value.slice x n c] 32)).alloc (Obj.cells #[Value.int IntKind.i64 0, Value.bool false, Value.string ⟨#[]⟩, Value.slice none 0 0] 32)).alloc (Obj.cells #[Value.int IntKind.i64 k, Value.bool e, Value.string t, Value.slice x n c] 32)) := ⟨_, rfl⟩
  have b1 : Below w.heap.size w (w.alloc (Obj.cells #[Value.int IntKind.i64 k, Value.bool e, Value.string t, Value.slice x n c] 32)) := (Below.refl _ _).alloc (Nat.le_refl _) _
  have hs1 : (w.alloc (Obj.cells #[Value.int IntKind.i64 k, Value.bool e, Value.string t, Value.slice x n c] 32)).heap.size = w.heap.size + 1 := World.size_alloc _ _
  have hs2 : ((w.alloc (Obj.cells #[Value.int IntKind.i64 k, Value.bool e, Value.string t, Value.slice x n c] 32)).alloc (Obj.cells #[Value.int IntKind.i64 0, Value.bool false, Value.string ⟨#[]⟩, Value.slice none 0 0] 32)).heap.size = w.heap.size + 1 + 1 := by rw [World.size_alloc, hs1]
  have P0 : Hid (NP w3 m w.heap.size 0 T) := by
    rw [hw3]
    exact ((NP.new HH.out.1 32).below ((Below.refl _ _).alloc (Nat.le_refl _) _)).below ((Below.refl _ _).alloc (Nat.le_refl _) _)
  have P1 : Hid (Nds w3 (some ⟨w.heap.size + 1 + 1, 0, none⟩) [T]) := fun j K hj => by
    have h0 : j = 0 := by
      have := (List.getElem?_eq_some_iff.1 hj).1
      simp at this; omega
    subst h0
    simp at hj
    subst hj
    refine ⟨HH.out.2.1, m, _, 0, rfl, ?_⟩
    have := NP.new ((HH.out.1.below b1).below ((Below.refl _ _).alloc (Nat.le_refl _) (Obj.cells #[Value.int IntKind.i64 0, Value.bool false, Value.string ⟨#[]⟩, Value.slice none 0 0] 32))) 32
    rw [hs2] at this
    rw [hw3]
    exact this
  have P2 : Hid (w3.heap[w.heap.size + 1]? = some (Obj.cells #[Value.int IntKind.i64 0, Value.bool false, Value.string ⟨#[]⟩, Value.slice none 0 0] 32 (0, 0)) ∧ w.heap.size + 1 + 1 < w3.heap.size ∧ Below w.heap.size w w3) := by
    rw [hw3]
    refine ⟨?_, by rw [World.size_alloc, hs2]; omega, (b1.alloc (by rw [hs1]; omega) _).alloc (by rw [hs2]; omega) _⟩
    rw [Below.heap_alloc _ _ _ (by rw [hs2]; omega), ← hs1]; exact heap_alloc_new _ _
  rw [← hw3]
  clear hw3 b1 hs1 hs2
  refine (namesOf_any p _ [T] 1 1 w3 (by omega) rfl (by omega) P1.out).mono ?_
  rintro en w4 ⟨⟨v, rfl, hv⟩, b4⟩
  have P3 : Hid (NP w4 m w.heap.size 0 T) := P0.out.below b4
  have P4 : Hid (w4.heap[w.heap.size + 1]? = some (Obj.cells #[Value.int IntKind.i64 0, Value.bool false, Value.string ⟨#[]⟩, Value.slice none 0 0] 32 (0, 0)) ∧ w.heap.size + 1 + 1 < w4.heap.size ∧ Below w.heap.size w w4) := ⟨(b4.block _ (by have := P2.out.2.1; omega)).trans P2.out.1, Nat.lt_of_lt_of_le P2.out.2.1 b4.size, P2.out.2.2.trans (b4.mono P2.out.2.2.size)⟩
  clear P0 P1 P2 b4
  obtain ⟨G, hG⟩ : ∃ G, w.heap.size = G := ⟨_, rfl⟩
  have HG : Hid (w.heap.size = G) := hG
  rw [hG] at P3 P4 ⊢
  clear hG
  obtain ⟨c1, hc1⟩ : ∃ c1, nmO [T] p = c1 := ⟨_, rfl⟩
  have HC : Hid (nmO [T] p = c1) := hc1
  rw [hc1] at hv ⊢
  clear hc1
  by_cases hz : c1 = 0
  · subst hz
    obtain ⟨y, cy, rfl, hcy, hT⟩ := (hv rfl).tns
    have HT : Hid (Tns w4 y (pathN p)) := hT
    have HA : Hid (ascT T) := by
      refine ckS_asc (l := [T]) ?_ (by simp) HH.out.2.2
      have := HC.out
      unfold nmO at this
      by_cases hk : ckS [T] ≠ 0
      · rw [if_pos hk] at this; exact absurd this hk
      · omega
    have HLn : Hid (lnT T) := lnB_ln (by decide) T (ck_ln HH.out.2.2 (ckS_off (nmO_ck HC.out).1 (by simp)))
    clear hv hT
    have hsh := pathN_short p
    generalize hN : pathN p = N at HT hcy hsh ⊢
    have HNN : Hid (pathN p = N) := hN
    clear hN
    rcases List.eq_nil_or_concat N with rfl | ⟨L, s, rfl⟩
    · have HR : Hid (cutT T p = (66, zT)) := by
        show cutT T p = (66, zT)
        unfold cutT; rw [if_neg (by rw [HC.out]; decide), HNN.out]; rfl
      obtain ⟨u0, u1, u2, u3, uf⟩ := cell4 P4.out.1
      have v0 := uf 0
      have v1 := uf 1
      have v2 := uf 2
      have v3 := uf 3
      clear uf
      go_wp2
      have hq := put4 P4.out.1 (Value.int .i64 0) (.bool false) (.string ⟨#[]⟩) (.slice none 0 0)
      have hB : Below w.heap.size w (w4.setCells (G + 1) 0 [Value.int .i64 0, .bool false, .string ⟨#[]⟩, .slice none 0 0]) := belowE_setCells _ _ _ (by rw [HG.out]; omega) (by rw [HG.out]; exact P4.out.2.2)
      change bodyPost _ _ _ _ _ (w4.setCells (G + 1) 0 [Value.int .i64 0, .bool false, .string ⟨#[]⟩, .slice none 0 0])
      generalize w4.setCells (G + 1) 0 [Value.int .i64 0, .bool false, .string ⟨#[]⟩, .slice none 0 0] = W at *
      obtain ⟨q0, q1, q2, q3, _⟩ := cell4 hq
      exact bodyPost_ret (v := .tuple #[.agg #[.int .i64 0, .bool false, .string ⟨#[]⟩, .slice none 0 0], .int .i64 66]) (by simp [results, Tryd.results12, go_sem, q0, q1, q2, q3]) rfl (NdP.bad HR.out hB)
    · have HR0 : Hid (cutT T p = cutN T L s) := by
        show cutT T p = cutN T L s
        unfold cutT; rw [if_neg (by rw [HC.out]; decide), HNN.out]; simp
      obtain ⟨_, x1, n1, c1, d0, d1, d2, d3, hA⟩ := P3.out
      have HA2 : Hid (At w4 m (.agg #[.int .i64 T.k, .bool T.e, .string T.t, .slice x1 n1 c1]) T) := hA
      clear hA
      generalize q1 : T.k = rk at d0 HA2
      generalize q2 : T.e = re at d1 HA2
      generalize q3 : T.t = rt at d2 HA2
      have HQ : Hid (T.k = rk ∧ T.e = re ∧ T.t = rt) := ⟨q1, q2, q3⟩
      clear q1 q2 q3
      simp only [Nat.zero_add] at d1 d2 d3
      go_wp2_with fail
      refine (copyV_any m _ T w4 HA2.out).mono ?_
      rintro e5 w5 ⟨⟨x5, fp, rfl, hV, hn⟩, b5⟩
      obtain ⟨y5, c5, rfl⟩ := hV.shape
      have P5 : Hid (w5.heap[G + 1]? = some (Obj.cells #[Value.int IntKind.i64 0, Value.bool false, Value.string ⟨#[]⟩, Value.slice none 0 0] 32 (0, 0)) ∧ G + 1 + 1 < w5.heap.size ∧ Below G w w5) := ⟨(b5.block _ (by have := P4.out.2.1; omega)).trans P4.out.1, Nat.lt_of_lt_of_le P4.out.2.1 b5.size, P4.out.2.2.trans (b5.mono (by have := P4.out.2.1; omega))⟩
      have HV : Hid (TrV w5 w4.heap.size T (.slice y5 T.nms.length c5) fp ∧ fp.Nodup ∧ G + 1 + 1 < w4.heap.size) := ⟨hV, hn, P4.out.2.1⟩
      have HT5 : Hid (Tns w5 y (L ++ [s])) := by have h0 := HT.out.below b5; rw [List.concat_eq_append] at h0; exact h0
      have hsz5 := b5.size
      clear b5 hV hn d0 d1 d2 d3 HA2
      have hcy' : L.length + 1 ≤ cy := by simpa using hcy
      have hL : L.length ≤ 999999 := by simp at hsh; omega
      go_wp2_with fail
      have bA : Below w5.heap.size w5 (w5.alloc (Obj.cells #[Value.int IntKind.i64 T.k, Value.bool T.e, Value.string T.t, Value.slice y5 T.nms.length c5] 32)) := (Below.refl _ _).alloc (Nat.le_refl _) _
      have P6 : Hid ((w5.alloc (Obj.cells #[Value.int IntKind.i64 T.k, Value.bool T.e, Value.string T.t, Value.slice y5 T.nms.length c5] 32)).heap[G + 1]? = some (Obj.cells #[Value.int IntKind.i64 0, Value.bool false, Value.string ⟨#[]⟩, Value.slice none 0 0] 32 (0, 0)) ∧ G + 1 + 1 < (w5.alloc (Obj.cells #[Value.int IntKind.i64 T.k, Value.bool T.e, Value.string T.t, Value.slice y5 T.nms.length c5] 32)).heap.size ∧ Below G w (w5.alloc (Obj.cells #[Value.int IntKind.i64 T.k, Value.bool T.e, Value.string T.t, Value.slice y5 T.nms.length c5] 32))) := ⟨(bA.block _ (by have := P5.out.2.1; omega)).trans P5.out.1, Nat.lt_of_lt_of_le P5.out.2.1 bA.size, P5.out.2.2.trans (bA.mono (by have := P5.out.2.1; omega))⟩
      have HT6 := HT5.out.below bA
      have TN6 : TN (w5.alloc (Obj.cells #[Value.int IntKind.i64 T.k, Value.bool T.e, Value.string T.t, Value.slice y5 T.nms.length c5] 32)) w4.heap.size w5.heap.size 0 T (.slice y5 T.nms.length c5) fp := by
        refine ⟨by rw [World.cell?_alloc_new]; rfl, by rw [World.cell?_alloc_new]; rfl, by rw [World.cell?_alloc_new]; rfl, by rw [World.cell?_alloc_new]; rfl, TrV.same _ _ _ HV.out.1 (fun b hb => bA.block b (TrV.lt _ _ _ HV.out.1 b hb).2), HV.out.2.1, fun hm => ?_⟩
        have := (TrV.lt _ _ _ HV.out.1 _ hm).2
        omega
      have NP6 : ∃ f, NP (w5.alloc (Obj.cells #[Value.int IntKind.i64 T.k, Value.bool T.e, Value.string T.t, Value.slice y5 T.nms.length c5] 32)) f w5.heap.size 0 T := by
        obtain ⟨f, hf⟩ := TrV.at T _ _ TN6.2.2.2.2.1 HLn.out
        exact ⟨f, by rw [World.size_alloc]; omega, _, _, _, TN6.1, TN6.2.1, TN6.2.2.1, TN6.2.2.2.1, hf⟩
      have HTN : Hid (TN (w5.alloc (Obj.cells #[Value.int IntKind.i64 T.k, Value.bool T.e, Value.string T.t, Value.slice y5 T.nms.length c5] 32)) w4.heap.size w5.heap.size 0 T (.slice y5 T.nms.length c5) fp) := TN6
      have HS6 : Hid (w5.heap.size < (w5.alloc (Obj.cells #[Value.int IntKind.i64 T.k, Value.bool T.e, Value.string T.t, Value.slice y5 T.nms.length c5] 32)).heap.size ∧ G + 1 + 1 < w5.heap.size ∧ ∃ D, (w5.alloc (Obj.cells #[Value.int IntKind.i64 T.k, Value.bool T.e, Value.string T.t, Value.slice y5 T.nms.length c5] 32)).heap[w5.heap.size]? = some (Obj.cells D 32 (0, 0))) := ⟨by rw [World.size_alloc]; omega, P5.out.2.1, _, heap_alloc_new _ _⟩
      obtain ⟨f6, NP6⟩ := NP6
      have HC5 : Hid (w4.heap.size ≤ w5.heap.size) := hsz5
      clear TN6 bA P5 HT5
      generalize w5.alloc (Obj.cells #[Value.int IntKind.i64 T.k, Value.bool T.e, Value.string T.t, Value.slice y5 T.nms.length c5] 32) = w6 at *
      generalize w5.heap.size = C at *
      refine (reachH_any f6 C 0 cy T y L s w6 NP6 HA.out HT6 hL hcy').mono ?_
      rintro e7 w7 ⟨hr, b7⟩
      have P7 : Hid (w7.heap[G + 1]? = some (Obj.cells #[Value.int IntKind.i64 0, Value.bool false, Value.string ⟨#[]⟩, Value.slice none 0 0] 32 (0, 0)) ∧ G + 1 + 1 < w7.heap.size ∧ Below G w w7) := ⟨(b7.block _ (by have := P6.out.2.1; omega)).trans P6.out.1, Nat.lt_of_lt_of_le P6.out.2.1 b7.size, P6.out.2.2.trans (b7.mono (by have := P6.out.2.1; omega))⟩
      rcases hr with ⟨hr1, rfl⟩ | ⟨hr1, g', o', m', rfl, hr2, hr3, hr4, hr5, hr6⟩
      · have HR : Hid (cutT T p = ((rchH L T).1, zT)) := by
          show cutT T p = ((rchH L T).1, zT)
          rw [HR0.out]; unfold cutN; rw [if_pos hr1]
        clear b7
        generalize (rchH L T).1 = c2 at HR hr1
        obtain ⟨u0, u1, u2, u3, uf⟩ := cell4 P7.out.1
        have v0 := uf 0
        have v1 := uf 1
        have v2 := uf 2
        have v3 := uf 3
        clear uf
        go_wp2
        have hq := put4 P7.out.1 (Value.int .i64 0) (.bool false) (.string ⟨#[]⟩) (.slice none 0 0)
        have hB : Below w.heap.size w (w7.setCells (G + 1) 0 [Value.int .i64 0, .bool false, .string ⟨#[]⟩, .slice none 0 0]) := belowE_setCells _ _ _ (by rw [HG.out]; omega) (by rw [HG.out]; exact P7.out.2.2)
        change bodyPost _ _ _ _ _ (w7.setCells (G + 1) 0 [Value.int .i64 0, .bool false, .string ⟨#[]⟩, .slice none 0 0])
        generalize w7.setCells (G + 1) 0 [Value.int .i64 0, .bool false, .string ⟨#[]⟩, .slice none 0 0] = W at *
        obtain ⟨q0, q1, q2, q3, _⟩ := cell4 hq
        exact bodyPost_ret (v := .tuple #[.agg #[.int .i64 0, .bool false, .string ⟨#[]⟩, .slice none 0 0], .int .i64 c2]) (by simp [results, Tryd.results12, go_sem, q0, q1, q2, q3]) rfl (NdP.bad HR.out hB)
      · have HB7 : Hid (Below w6.heap.size w6 w7) := b7
        have HF := TN.focus L C 0 T _ fp g' o' HTN.out HA.out hr6
        obtain ⟨T', v', fp', f1, f2, f3, f4, f5⟩ := HF
        obtain rfl := f4 hr2
        obtain ⟨hg', x1, n1, c2, d0, d1, d2, d3, hAt⟩ := hr4
        obtain ⟨_, j2, j3, j4, j5, _⟩ := hAt.nms
        have hv' : v' = .slice x1 n1 c2 := by have := f1.2.2.2.1; rw [d3] at this; exact (Option.some.inj this).symm
        subst hv'
        have HF1 : Hid (TN w6 w4.heap.size g' o' (rch L T).2 (.slice x1 n1 c2) fp') := f1
        have HF5 : Hid _ := f5
        have HU : Hid (Up (rch L T).2.nms) := (Tr.up hr5).1
        have HJ : Hid ((rch L T).2.nms.length = n1 ∧ Nms w7 x1 (rch L T).2.nms) := ⟨j2, j5.below b7⟩
        have e3 : w7.cell? ⟨g', o' + 3, none⟩ = some (.slice x1 n1 c2) := by rw [b7.cell (p := ⟨g', o' + 3, none⟩) hg']; exact d3
        have hg7 : g' < w7.heap.size := Nat.lt_of_lt_of_le hg' b7.size
        have HGB : Hid (∃ D ty, w6.heap[g']? = some (Obj.cells D ty (0, 0))) := by
          rcases f3 with ⟨_, rfl, _⟩ | hm
          · obtain ⟨D, hD⟩ := HS6.out.2.2
            exact ⟨D, _, hD⟩
          · obtain ⟨D, hD⟩ := TrV.cells _ _ _ HTN.out.2.2.2.2.1 _ hm
            exact ⟨D, _, hD⟩
        clear f1 f5 d0 d1 d2 d3 hAt j2 j3 j5 b7 hr5
        go_wp2_with fail
        refine (find_any x1 n1 c2 (rch L T).2.nms s w7 HJ.out.1 j4 HJ.out.2 (HU.out.mono s)).mono ?_
        rintro e8 w8 ⟨⟨i, r, rfl, h1, h2⟩, b8⟩
        have P8 : Hid (w8.heap[G + 1]? = some (Obj.cells #[Value.int IntKind.i64 0, Value.bool false, Value.string ⟨#[]⟩, Value.slice none 0 0] 32 (0, 0)) ∧ G + 1 + 1 < w8.heap.size ∧ Below G w w8) := ⟨(b8.block _ (by have := P7.out.2.1; omega)).trans P7.out.1, Nat.lt_of_lt_of_le P7.out.2.1 b8.size, P7.out.2.2.trans (b8.mono (by have := P7.out.2.1; omega))⟩
        have HB8 : Hid (Below w6.heap.size w6 w8) := HB7.out.trans (b8.mono HB7.out.size)
        cases r
        · have HR : Hid (cutT T p = (3, zT)) := by
            show cutT T p = (3, zT)
            rw [HR0.out]; unfold cutN; rw [if_neg (by rw [hr1]; decide), h1.none HU.out (fun hc => by have := h2.2 ⟨by rw [← HJ.out.1]; exact hc.1, hc.2⟩; cases this)]
          clear h1 h2 b8
          obtain ⟨u0, u1, u2, u3, uf⟩ := cell4 P8.out.1
          have v0 := uf 0
          have v1 := uf 1
          have v2 := uf 2
          have v3 := uf 3
          clear uf
          go_wp2
          have hq := put4 P8.out.1 (Value.int .i64 0) (.bool false) (.string ⟨#[]⟩) (.slice none 0 0)
          have hB : Below w.heap.size w (w8.setCells (G + 1) 0 [Value.int .i64 0, .bool false, .string ⟨#[]⟩, .slice none 0 0]) := belowE_setCells _ _ _ (by rw [HG.out]; omega) (by rw [HG.out]; exact P8.out.2.2)
          change bodyPost _ _ _ _ _ (w8.setCells (G + 1) 0 [Value.int .i64 0, .bool false, .string ⟨#[]⟩, .slice none 0 0])
          generalize w8.setCells (G + 1) 0 [Value.int .i64 0, .bool false, .string ⟨#[]⟩, .slice none 0 0] = W at *
          obtain ⟨q0, q1, q2, q3, _⟩ := cell4 hq
          exact bodyPost_ret (v := .tuple #[.agg #[.int .i64 0, .bool false, .string ⟨#[]⟩, .slice none 0 0], .int .i64 3]) (by simp [results, Tryd.results12, go_sem, q0, q1, q2, q3]) rfl (NdP.bad HR.out hB)
        · obtain ⟨hi, hc⟩ := h2.1 rfl
          have hi' : i < (rch L T).2.nms.length := by rw [HJ.out.1]; exact hi
          have hs1 : (rch L T).2.nms[i]? = some s := by rw [List.getElem?_eq_getElem hi', ← cmpB_eq hc, nmA_of (List.getElem?_eq_getElem hi')]
          have HR : Hid (cutT T p = (0, repT L T (delK (rch L T).2 i))) := by
            show cutT T p = (0, repT L T (delK (rch L T).2 i))
            rw [HR0.out]; unfold cutN; rw [if_neg (by rw [hr1]; decide), HU.out.find hs1]
          obtain ⟨K0, hK0⟩ : ∃ K0, (rch L T).2.ks[i]? = some K0 := ⟨_, List.getElem?_eq_getElem (by rw [← TrV.lenE HF1.out.2.2.2.2.1]; exact hi')⟩
          obtain ⟨q, cap, u0, fk0, hvq, _, _, hqf, _, _⟩ := HF1.out.level i s K0 hs1 hK0
          have hx : x1 = some ⟨q, 0, none⟩ ∧ n1 = (rch L T).2.nms.length ∧ c2 = cap := by
            injection hvq with a b c
            exact ⟨a, b, c⟩
          obtain ⟨rfl, rfl, rfl⟩ := hx
          have V8 := TrV.same (w' := w8) _ _ _ HF1.out.2.2.2.2.1 (fun b hb => HB8.out.block b (TrV.lt _ _ _ HF1.out.2.2.2.2.1 b hb).2)
          obtain ⟨cs, hO, hone, fp2, hV9, hn9, hsub⟩ := V8.del HF1.out.2.2.2.2.2.1 hi'
          have HO : Hid (w8.ownsRow w4.heap.size 52 5 (.slice (some ⟨q, 0, none⟩) (rch L T).2.nms.length c2) (rch L T).2.nms.length cs ∧ ∀ u ∈ cs, u.oneCell' = true) := ⟨hO, hone⟩
          have HV9 : Hid (TrV ((w8.drew.setCells q (i * 5) (cs.drop ((i + 1) * 5))).setCells q (((rch L T).2.nms.length - 1) * 5) zEnt) w4.heap.size (delK (rch L T).2 i) (.slice (some ⟨q, 0, none⟩) ((rch L T).2.nms.length - 1) c2) fp2 ∧ fp2.Nodup ∧ (∀ b ∈ fp2, b ∈ fp')) := ⟨hV9, hn9, hsub⟩
          have HQ' : Hid (q ∈ fp' ∧ g' ∉ fp') := ⟨hqf, HF1.out.2.2.2.2.2.2⟩
          have e8 : w8.cell? ⟨g', o' + 3, none⟩ = some (.slice (some ⟨q, 0, none⟩) (rch L T).2.nms.length c2) := by rw [b8.cell (p := ⟨g', o' + 3, none⟩) hg7]; exact e3
          have hg8 : g' < w8.heap.size := Nat.lt_of_lt_of_le hg7 b8.size
          have HG8 : Hid (g' < w6.heap.size) := hg'
          clear V8 hO hone hV9 hn9 hsub hqf b8 h1 h2 hc hvq e3 hg7 hg'
          obtain ⟨N0, hN0⟩ : ∃ N0, (rch L T).2.nms.length = N0 := ⟨_, rfl⟩
          have HN0 : Hid ((rch L T).2.nms.length = N0) := hN0
          rw [hN0] at HO HV9 e8 hi j4 hi' ⊢
          clear hN0
          go_wp2_with fail
          refine (delete_any _ q N0 c2 i cs w8 HO.out.1 HO.out.2 hi (by omega)).mono ?_
          rintro e9 w9 ⟨rfl, hw9⟩
          rw [← hw9] at HV9
          have hgq : g' ≠ q := fun hh => HQ'.out.2 (by rw [hh]; exact HQ'.out.1)
          have H9 : ∀ b, b ≠ q → w9.heap[b]? = w8.heap[b]? := fun b hb => by
            rw [hw9]
            exact (heapE_setCells q _ _ b hb _).trans (heapE_setCells q _ _ b hb _)
          have s9 : w9.heap.size = w8.heap.size := by
            rw [hw9]
            exact (sizeE_setCells _ _ _ _).trans (sizeE_setCells _ _ _ _)
          have B9 : Below G w w9 := by
            have hqG : G ≤ q := by have := (TrV.lt _ _ _ HF1.out.2.2.2.2.1 q HQ'.out.1).1; have := HV.out.2.2; omega
            rw [hw9]
            exact belowE_setCells _ _ _ hqG (belowE_setCells _ _ _ hqG (P8.out.2.2.trans ⟨rfl, rfl, rfl, Nat.le_refl _, fun _ _ => rfl⟩))
          obtain ⟨D, ty, hD⟩ := HGB.out
          have hD9 : w9.heap[g']? = some (Obj.cells D ty (0, 0)) := ((H9 g' hgq).trans (HB8.out.block g' HG8.out)).trans hD
          have hfz : w9.frozen? ⟨g', o' + 3, none⟩ = false := by unfold World.frozen?; rw [hD9]; simp
          have e9 : w9.cell? ⟨g', o' + 3, none⟩ = some (.slice (some ⟨q, 0, none⟩) N0 c2) := (cell_same (H9 g' hgq)).trans e8
          have HG2 : G + 1 < w4.heap.size := by have := HV.out.2.2; omega
          have hqB := (TrV.lt _ _ _ HF1.out.2.2.2.2.1 q HQ'.out.1).1
          have hgB : w4.heap.size ≤ g' := by
            rcases f3 with ⟨_, hh, _⟩ | hm
            · have := HS6.out.2.1
              have := TrV.lt _ _ _ HTN.out.2.2.2.2.1
              have h5 := HC5.out
              omega
            · exact (TrV.lt _ _ _ HTN.out.2.2.2.2.1 _ hm).1
          have P9 : Hid ((w9.setCell ⟨g', o' + 3, none⟩ (.slice (some ⟨q, 0, none⟩) (N0 - 1) c2)).heap[G + 1]? = some (Obj.cells #[Value.int IntKind.i64 0, Value.bool false, Value.string ⟨#[]⟩, Value.slice none 0 0] 32 (0, 0)) ∧ Below G w (w9.setCell ⟨g', o' + 3, none⟩ (.slice (some ⟨q, 0, none⟩) (N0 - 1) c2))) := ⟨((Below.heap_setCell _ ⟨g', o' + 3, none⟩ _ (G + 1) (by show G + 1 ≠ g'; omega)).trans (H9 _ (by omega))).trans P8.out.1, B9.setCell (by show G ≤ g'; omega) _⟩
          have F9 := HF5.out (w9.setCell ⟨g', o' + 3, none⟩ (.slice (some ⟨q, 0, none⟩) (N0 - 1) c2)) (delK (rch L T).2 i) (.slice (some ⟨q, 0, none⟩) (N0 - 1) c2) fp2 rfl rfl rfl (TrV.same _ _ _ HV9.out.1 (fun b hb => Below.heap_setCell _ ⟨g', o' + 3, none⟩ _ b (fun hh => HQ'.out.2 (by have := HV9.out.2.2 b hb; rw [show b = g' from hh] at this; exact this)))) HV9.out.2.1 (fun b hb => .inl (HV9.out.2.2 b hb)) (fun b hb hbf hbg => (Below.heap_setCell _ ⟨g', o' + 3, none⟩ _ b hbg).trans ((H9 b (fun hh => hbf (by rw [hh]; exact HQ'.out.1))).trans (HB8.out.block b hb))) (by rw [Go.Joins.block_setCell (i := o' + 3) hD9 _, Go.Joins.block_setCell (i := o' + 3) hD _])
          obtain ⟨v2, fpE, tn, _⟩ := F9
          obtain ⟨yE, cE, rfl⟩ := tn.2.2.2.2.1.shape
          have HE : Hid (TN (w9.setCell ⟨g', o' + 3, none⟩ (.slice (some ⟨q, 0, none⟩) (N0 - 1) c2)) w4.heap.size C 0 (repT L T (delK (rch L T).2 i)) (.slice yE (repT L T (delK (rch L T).2 i)).nms.length cE) fpE) := tn
          clear tn hw9 H9 B9 hD hD9
          generalize repT L T (delK (rch L T).2 i) = R at HR HE
          go_upto_region 14 with fail
          clear HV9 e9 hfz HO e8
          generalize w9.setCell ⟨g', o' + 3, none⟩ (.slice (some ⟨q, 0, none⟩) (N0 - 1) c2) = w10 at *
          obtain ⟨m0, m1, m2, m3, _⟩ := HE.out
          simp only [Nat.zero_add] at m1 m2 m3
          obtain ⟨u0, u1, u2, u3, uf⟩ := cell4 P9.out.1
          have v0 := uf 0
          have v1 := uf 1
          have v2 := uf 2
          have v3 := uf 3
          clear uf
          generalize q1 : R.k = rk at m0
          generalize q2 : R.e = re at m1
          generalize q3 : R.t = rt at m2
          generalize q4 : R.nms.length = rn at m3 HE
          have HQR : Hid (R.k = rk ∧ R.e = re ∧ R.t = rt) := ⟨q1, q2, q3⟩
          clear q1 q2 q3 q4
          go_wp2
          have hq := put4 P9.out.1 (Value.int .i64 rk) (.bool re) (.string rt) (.slice yE rn cE)
          have hB : Below w.heap.size w (w10.setCells (G + 1) 0 [Value.int .i64 rk, .bool re, .string rt, .slice yE rn cE]) := belowE_setCells _ _ _ (by rw [HG.out]; omega) (by rw [HG.out]; exact P9.out.2)
          have hVE := TrV.low (show w.heap.size ≤ w4.heap.size by rw [HG.out]; omega) _ _ _ (TrV.same (w' := w10.setCells (G + 1) 0 [Value.int .i64 rk, .bool re, .string rt, .slice yE rn cE]) _ _ _ HE.out.2.2.2.2.1 (fun b hb => heapE_setCells (G + 1) _ _ b (fun hh => by have := (TrV.lt _ _ _ HE.out.2.2.2.2.1 b hb).1; omega) w10))
          change bodyPost _ _ _ _ _ (w10.setCells (G + 1) 0 [Value.int .i64 rk, .bool re, .string rt, .slice yE rn cE])
          generalize w10.setCells (G + 1) 0 [Value.int .i64 rk, .bool re, .string rt, .slice yE rn cE] = W at *
          obtain ⟨z0, z1, z2, z3, _⟩ := cell4 hq
          refine bodyPost_ret (v := .tuple #[.agg #[.int .i64 rk, .bool re, .string rt, .slice yE rn cE], .int .i64 0]) (by simp [results, Tryd.results12, go_sem, z0, z1, z2, z3]) rfl ?_
          rw [← HQR.out.1, ← HQR.out.2.1, ← HQR.out.2.2]
          exact NdP.ok HR.out hVE HE.out.2.2.2.2.2.1 hB
  · have HR : Hid (cutT T p = (c1, zT)) := by
      show cutT T p = (c1, zT)
      unfold cutT; rw [if_pos (by rw [HC.out]; exact hz), HC.out]
    clear hv
    obtain ⟨u0, u1, u2, u3, uf⟩ := cell4 P4.out.1
    have v0 := uf 0
    have v1 := uf 1
    have v2 := uf 2
    have v3 := uf 3
    clear uf
    go_wp2
    have hq := put4 P4.out.1 (Value.int .i64 0) (.bool false) (.string ⟨#[]⟩) (.slice none 0 0)
    have hB : Below w.heap.size w (w4.setCells (G + 1) 0 [Value.int .i64 0, .bool false, .string ⟨#[]⟩, .slice none 0 0]) := belowE_setCells _ _ _ (by rw [HG.out]; omega) (by rw [HG.out]; exact P4.out.2.2)
    change bodyPost _ _ _ _ _ (w4.setCells (G + 1) 0 [Value.int .i64 0, .bool false, .string ⟨#[]⟩, .slice none 0 0])
    generalize w4.setCells (G + 1) 0 [Value.int .i64 0, .bool false, .string ⟨#[]⟩, .slice none 0 0] = W at *
    obtain ⟨q0, q1, q2, q3, _⟩ := cell4 hq
    exact bodyPost_ret (v := .tuple #[.agg #[.int .i64 0, .bool false, .string ⟨#[]⟩, .slice none 0 0], .int .i64 c1]) (by simp [results, Tryd.results12, go_sem, q0, q1, q2, q3]) rfl (NdP.bad HR.out hB)
end Go.Proofs.YtnggbemnblcnaaaDoor
