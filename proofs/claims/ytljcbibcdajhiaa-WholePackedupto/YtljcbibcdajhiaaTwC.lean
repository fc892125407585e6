/- Trees that a call builds: lists of kids in rows of their own, with the blocks that they lie in. -/
import Derived.Test.YtljcbibcdajhiaaTwB
namespace Go.Proofs.Ytljcbibcdajhiaa
open Go.RowKit

def Tr.k : Tr → Int | .mk k _ _ _ _ => k
def Tr.e : Tr → Bool | .mk _ e _ _ _ => e
def Tr.t : Tr → ByteArray | .mk _ _ t _ _ => t
def Tr.nms : Tr → List ByteArray | .mk _ _ _ nms _ => nms
def Tr.ks : Tr → List Tr | .mk _ _ _ _ ks => ks
/-- A slice's own block, if it has one. -/
def blkL (v : Value) : List Nat := match v.ownBlock with
  | none => []
  | some b => [b]
/-- The cells of an entry: its node's kids are v. -/
def entV (s : ByteArray) (T : Tr) (v : Value) : List Value := [.string s, .int .i64 T.k, .bool T.e, .string T.t, v]
mutual
/-- v is the slice of the kids of T, in rows from block B on; fp: the blocks. -/
def TrV (w : World) (B : Nat) : Tr → Value → List Nat → Prop
  | .mk _ _ _ nms ks, v, fp => ∃ cs fq, w.ownsRow B 83 5 v nms.length cs ∧ KidV w B nms ks cs fq ∧ fp = blkL v ++ fq
def KidV (w : World) (B : Nat) : List ByteArray → List Tr → List Value → List Nat → Prop
  | [], [], cs, fq => cs = [] ∧ fq = []
  | s :: nms, T :: ks, cs, fq => ∃ v cs' fp fq', cs = entV s T v ++ cs' ∧ TrV w B T v fp ∧ KidV w B nms ks cs' fq' ∧ fq = fp ++ fq'
  | _, _, _, _ => False
end
theorem own_same {w w' : World} {B : Nat} {ty : TypeId} {size n : Nat} {v : Value} {xs : List Value} (h : w.ownsRow B ty size v n xs) (e : ∀ b ∈ blkL v, w'.heap[b]? = w.heap[b]?) : w'.ownsRow B ty size v n xs := by
  refine ⟨h.1, ?_⟩
  rcases h.2 with hn | ⟨g, cap, cur, rfl, hb, hg, rest⟩
  · exact .inl hn
  · exact .inr ⟨g, cap, cur, rfl, hb, (e g (by simp [blkL, Value.ownBlock])).trans hg, rest⟩
mutual
theorem TrV.same {w w' : World} {B : Nat} : ∀ (T : Tr) (v : Value) (fp : List Nat), TrV w B T v fp → (∀ b ∈ fp, w'.heap[b]? = w.heap[b]?) → TrV w' B T v fp
  | .mk k e t nms ks, v, fp, h, hs => by
    rw [TrV] at h ⊢
    obtain ⟨cs, fq, h1, h2, rfl⟩ := h
    exact ⟨cs, fq, own_same h1 (fun b hb => hs b (by simp [hb])), KidV.same nms ks cs fq h2 (fun b hb => hs b (by simp [hb])), rfl⟩
theorem KidV.same {w w' : World} {B : Nat} : ∀ (nms : List ByteArray) (ks : List Tr) (cs : List Value) (fq : List Nat), KidV w B nms ks cs fq → (∀ b ∈ fq, w'.heap[b]? = w.heap[b]?) → KidV w' B nms ks cs fq
  | [], [], cs, fq, h, _ => by rw [KidV] at h ⊢; exact h
  | s :: nms, T :: ks, cs, fq, h, hs => by
    rw [KidV] at h ⊢
    obtain ⟨v, cs', fp, fq', h1, h2, h3, rfl⟩ := h
    exact ⟨v, cs', fp, fq', h1, TrV.same T v fp h2 (fun b hb => hs b (by simp [hb])), KidV.same nms ks cs' fq' h3 (fun b hb => hs b (by simp [hb])), rfl⟩
  | [], _ :: _, _, _, h, _ => by simp [KidV] at h
  | _ :: _, [], _, _, h, _ => by simp [KidV] at h
end
theorem KidV.snoc {w : World} {B : Nat} : ∀ (nms : List ByteArray) (ks : List Tr) (cs : List Value) (fq : List Nat) (s : ByteArray) (T : Tr) (v : Value) (fp : List Nat), KidV w B nms ks cs fq → TrV w B T v fp → KidV w B (nms ++ [s]) (ks ++ [T]) (cs ++ entV s T v) (fq ++ fp)
  | [], [], cs, fq, s, T, v, fp, h, h2 => by
    rw [KidV] at h
    obtain ⟨rfl, rfl⟩ := h
    show KidV w B (s :: []) (T :: []) _ _
    rw [KidV]
    exact ⟨v, [], fp, [], by simp, h2, by rw [KidV]; exact ⟨rfl, rfl⟩, by simp⟩
  | a :: nms, K :: ks, cs, fq, s, T, v, fp, h, h2 => by
    rw [KidV] at h
    obtain ⟨v1, cs', fp1, fq', rfl, h3, h4, rfl⟩ := h
    show KidV w B (a :: (nms ++ [s])) (K :: (ks ++ [T])) _ _
    rw [KidV]
    exact ⟨v1, cs' ++ entV s T v, fp1, fq' ++ fp, by simp, h3, KidV.snoc nms ks cs' fq' s T v fp h4 h2, by simp⟩
  | [], _ :: _, _, _, _, _, _, _, h, _ => by simp [KidV] at h
  | _ :: _, [], _, _, _, _, _, _, h, _ => by simp [KidV] at h
mutual
theorem TrV.lt {w : World} {B : Nat} : ∀ (T : Tr) (v : Value) (fp : List Nat), TrV w B T v fp → ∀ b ∈ fp, B ≤ b ∧ b < w.heap.size
  | .mk k e t nms ks, v, fp, h => by
    rw [TrV] at h
    obtain ⟨cs, fq, h1, h2, rfl⟩ := h
    intro b hb
    rcases List.mem_append.1 hb with hb | hb
    · unfold blkL at hb
      cases ho : v.ownBlock with
      | none => rw [ho] at hb; simp at hb
      | some g =>
        rw [ho] at hb
        simp at hb
        subst hb
        exact h1.lt b ho
    · exact KidV.lt nms ks cs fq h2 b hb
theorem KidV.lt {w : World} {B : Nat} : ∀ (nms : List ByteArray) (ks : List Tr) (cs : List Value) (fq : List Nat), KidV w B nms ks cs fq → ∀ b ∈ fq, B ≤ b ∧ b < w.heap.size
  | [], [], cs, fq, h => by rw [KidV] at h; rw [h.2]; intro b hb; cases hb
  | s :: nms, T :: ks, cs, fq, h => by
    rw [KidV] at h
    obtain ⟨v, cs', fp, fq', h1, h2, h3, rfl⟩ := h
    intro b hb
    rcases List.mem_append.1 hb with hb | hb
    · exact TrV.lt T v fp h2 b hb
    · exact KidV.lt nms ks cs' fq' h3 b hb
  | [], _ :: _, _, _, h => by simp [KidV] at h
  | _ :: _, [], _, _, h => by simp [KidV] at h
end

end Go.Proofs.Ytljcbibcdajhiaa
