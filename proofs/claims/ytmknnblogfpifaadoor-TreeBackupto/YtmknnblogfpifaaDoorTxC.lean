/- Reading built trees and what is open, entry by entry (own text of the verifier). -/
import Derived.Test.YtmknnblogfpifaaDoorTxB
import Derived.Test.YtmknnblogfpifaaDoorSpB
namespace Go.Proofs.YtmknnblogfpifaaDoor
open Go.RowKit

theorem KidV.get {w : World} {B : Nat} : ∀ (nms : List ByteArray) (ks : List Tr) (cs : List Value) (fq : List Nat), KidV w B nms ks cs fq → ∀ (j : Nat) (s : ByteArray) (K : Tr), nms[j]? = some s → ks[j]? = some K → ∃ u fk, (∀ i, i < 5 → cs[j * 5 + i]? = (entV s K u)[i]?) ∧ TrV w B K u fk ∧ ∀ b ∈ fk, b ∈ fq
  | [], [], cs, fq, _, j, s, K, h1, _ => by simp at h1
  | a :: nms, T :: ks, cs, fq, h, j, s, K, h1, h2 => by
    rw [KidV] at h
    obtain ⟨v, cs', fp, fq', rfl, h3, h4, rfl⟩ := h
    cases j with
    | zero =>
      simp at h1 h2
      subst h1 h2
      refine ⟨v, fp, fun i hi => ?_, h3, fun b hb => by simp [hb]⟩
      rw [Nat.zero_mul, Nat.zero_add, List.getElem?_append_left (by show i < 5; exact hi)]
    | succ j =>
      simp at h1 h2
      obtain ⟨u, fk, h5, h6, h7⟩ := KidV.get nms ks cs' fq' h4 j s K h1 h2
      refine ⟨u, fk, fun i hi => ?_, h6, fun b hb => by simp [h7 b hb]⟩
      rw [← h5 i hi, List.getElem?_append_right (by show 5 ≤ _; omega)]
      congr 1
      show (j + 1) * 5 + i - 5 = _
      omega
  | [], _ :: _, cs, fq, h, _, _, _, _, _ => by simp [KidV] at h
  | _ :: _, [], cs, fq, h, _, _, _, _, _ => by simp [KidV] at h
theorem TrV.get {w : World} {B : Nat} {T : Tr} {v : Value} {fp : List Nat} (h : TrV w B T v fp) (j : Nat) (s : ByteArray) (K : Tr) (h1 : T.nms[j]? = some s) (h2 : T.ks[j]? = some K) :
    ∃ g cap u fk, v = .slice (some ⟨g, 0, none⟩) T.nms.length cap ∧ T.nms.length ≤ cap ∧ g ∈ fp ∧ (∀ i, i < 5 → w.cell? ⟨g, j * 5 + i, none⟩ = (entV s K u)[i]?) ∧ TrV w B K u fk ∧ ∀ b ∈ fk, b ∈ fp := by
  obtain ⟨k, e, t, nms, ks⟩ := T
  rw [TrV] at h
  obtain ⟨cs, fq, ho, hk, rfl⟩ := h
  have h1 : nms[j]? = some s := h1
  have h2 : ks[j]? = some K := h2
  have hj : j < nms.length := (List.getElem?_eq_some_iff.1 h1).1
  obtain ⟨u, fk, h3, h4, h5⟩ := KidV.get nms ks cs fq hk j s K h1 h2
  obtain ⟨g, cap, hv, _, _⟩ := World.ownsRow.form ho (by omega)
  have hcap : nms.length ≤ cap := by
    rcases ho.2 with ⟨e, _⟩ | ⟨_, cap', _, e, _, _, hn, _⟩
    · rw [e] at hv; cases hv
    · rw [hv] at e; injection e with _ _ e; subst e; exact hn
  subst hv
  refine ⟨g, cap, u, fk, rfl, hcap, by simp [blkL, Value.ownBlock], fun i hi => ?_, h4, fun b hb => by simp [h5 b hb]⟩
  rw [← h3 i hi]
  exact World.ownsRow.cellAt ho _ (by omega)
/-- Entry j of what is open, counted from the root. -/
theorem Opn.get {w : World} {B : Nat} {S : List OE} {v : Value} {fp : List Nat} (H : Opn w B S v fp) (j : Nat) (o : OE) (h : S.reverse[j]? = some o) :
    ∃ q co u fk, v = .slice (some ⟨q, 0, none⟩) S.length co ∧ S.length ≤ co ∧ q ∈ fp ∧ (∀ i, i < 5 → w.cell? ⟨q, j * 5 + i, none⟩ = (entV o.nm o.tr u)[i]?) ∧ TrV w B o.tr u fk ∧ ∀ b ∈ fk, b ∈ fp := by
  obtain ⟨g, cap, u, fk, h1, h2, h3⟩ := TrV.get H.1 j o.nm o.tr (by show (S.reverse.map OE.nm)[j]? = _; rw [List.getElem?_map, h]; rfl) (by show (S.reverse.map OE.tr)[j]? = _; rw [List.getElem?_map, h]; rfl)
  have e : (Tr.mk 0 false ⟨#[]⟩ (S.reverse.map OE.nm) (S.reverse.map OE.tr)).nms.length = S.length := by show (S.reverse.map OE.nm).length = _; simp
  rw [e] at h1 h2
  exact ⟨g, cap, u, fk, h1, h2, h3⟩

/-- Names that lie where nothing is turned by a builder g with the blocks fp. -/
structure Nam (w : World) (g : Nat) (fp : List Nat) (x : Option Addr) (ns : List ByteArray) : Prop where
  get : ∀ i, i < ns.length → ∃ a, x = some a ∧ w.cell? (a.add i) = some (.string (nth ns i))
  far : ∀ a, x = some a → a.block < w.heap.size ∧ a.block ≠ g ∧ a.block ∉ fp
theorem add_block (a : Addr) (i : Nat) : (a.add i).block = a.block := by unfold Addr.add; split <;> rfl
theorem Nam.ff {w w' : World} {g : Nat} {fp fp' : List Nat} {x : Option Addr} {ns : List ByteArray} (h : Nam w g fp x ns) (f : Ff g fp w w') (hf : ∀ b ∈ fp', b ∈ fp ∨ w.heap.size ≤ b) : Nam w' g fp' x ns where
  get := fun i hi => by
    obtain ⟨a, e, hc⟩ := h.get i hi
    obtain ⟨h1, h2, h3⟩ := h.far a e
    refine ⟨a, e, ?_⟩
    rw [World.cell?_of_block (w := w) (w' := w') (a := a.add i) (by rw [add_block]; exact f.keep _ h1 h2 h3)]
    exact hc
  far := fun a e => by
    obtain ⟨h1, h2, h3⟩ := h.far a e
    refine ⟨Nat.lt_of_lt_of_le h1 f.size, h2, fun hm => ?_⟩
    rcases hf _ hm with h | h
    · exact h3 h
    · omega
/-- May the last of these names come next? -/
def opB (S : List OE) (ns : List ByteArray) : Bool := match ns.getLast? with
  | none => false
  | some s => if S.length < ns.length then false else if (way S).take (ns.length - 1) ≠ ns.dropLast then false else match clo ns.length S with
    | [] => false
    | h :: _ => decide (h.k = 3) && !late h.nms s

end Go.Proofs.YtmknnblogfpifaaDoor
