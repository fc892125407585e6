/- The document's list of pairs against the tree's rising list, pure. -/
import Derived.Test.YtbdnniaajiiimaaTbM
namespace Go.Proofs.Ytbdnniaajiiimaa
namespace BT
variable {lt : ByteArray → ByteArray → Bool}

/-- The list without k. -/
def dl (k : ByteArray) (L : List (ByteArray × Int)) : List (ByteArray × Int) := L.filter (fun a => decide (a.1 ≠ k))
theorem dl_none {k : ByteArray} {L : List (ByteArray × Int)} (h : ∀ a ∈ L, a.1 ≠ k) : dl k L = L := by
  unfold dl
  rw [List.filter_eq_self]
  intro a ha
  exact decide_eq_true (h a ha)
theorem dl_cons_ne {k : ByteArray} {x : ByteArray × Int} {L : List (ByteArray × Int)} (h : x.1 ≠ k) : dl k (x :: L) = x :: dl k L := by
  unfold dl; rw [List.filter_cons, if_pos (decide_eq_true h)]
theorem dl_cons_eq {k : ByteArray} {x : ByteArray × Int} {L : List (ByteArray × Int)} (h : x.1 = k) : dl k (x :: L) = dl k L := by
  unfold dl; rw [List.filter_cons, if_neg (by simp [h])]

theorem srt_cons {x : ByteArray × Int} {r : List (ByteArray × Int)} (h : Srt lt (x :: r)) : Srt lt r ∧ ∀ a ∈ r, lt x.1 a.1 = true := by
  unfold Srt at h
  rw [List.pairwise_cons] at h
  exact ⟨h.2, h.1⟩

theorem delL_dl (O : Ord lt) (k : ByteArray) (L : List (ByteArray × Int)) (h : Srt lt L) : delL lt k L = dl k L := by
  induction L with
  | nil => rfl
  | cons x r ih =>
    obtain ⟨a, b⟩ := x
    obtain ⟨hr, ha⟩ := srt_cons h
    unfold delL
    by_cases h1 : lt k a = true
    · rw [if_pos h1, dl_none]
      intro y hy
      rcases List.mem_cons.1 hy with rfl | hy
      · exact fun e => (ne_of_lt O h1) e.symm
      · exact fun e => (ne_of_lt O (O.tra _ _ _ h1 (ha y hy))) e.symm
    · rw [if_neg h1]
      by_cases h2 : lt a k = true
      · rw [if_pos h2, dl_cons_ne (ne_of_lt O h2), ih hr]
      · have e : a = k := O.tri a k (by simpa using h2) (by simpa using h1)
        rw [if_neg h2, dl_cons_eq e, dl_none]
        intro y hy
        subst e
        exact fun q => (ne_of_lt O (ha y hy)) q.symm

theorem insL_dl (O : Ord lt) (k : ByteArray) (v : Int) (L : List (ByteArray × Int)) (h : Srt lt L) : (dl k L ++ [(k, v)]).Perm (insL lt k v L) := by
  induction L with
  | nil => exact List.Perm.refl _
  | cons x r ih =>
    obtain ⟨a, b⟩ := x
    obtain ⟨hr, ha⟩ := srt_cons h
    unfold insL
    by_cases h1 : lt k a = true
    · rw [if_pos h1, dl_none]
      · exact List.perm_append_singleton (k, v) ((a, b) :: r)
      · intro y hy
        rcases List.mem_cons.1 hy with rfl | hy
        · exact fun e => (ne_of_lt O h1) e.symm
        · exact fun e => (ne_of_lt O (O.tra _ _ _ h1 (ha y hy))) e.symm
    · rw [if_neg h1]
      by_cases h2 : lt a k = true
      · rw [if_pos h2, dl_cons_ne (ne_of_lt O h2)]
        exact List.Perm.cons _ (ih hr)
      · have e : a = k := O.tri a k (by simpa using h2) (by simpa using h1)
        rw [if_neg h2, dl_cons_eq e, dl_none]
        · exact List.perm_append_singleton (k, v) r
        · intro y hy
          subst e
          exact fun q => (ne_of_lt O (ha y hy)) q.symm

/-- L is the document's list for the rising list M. -/
structure Br (lt : ByteArray → ByteArray → Bool) (L M : List (ByteArray × Int)) : Prop where
  srt : Srt lt M
  perm : L.Perm M
theorem Br.nil : Br lt ([] : List (ByteArray × Int)) [] := ⟨List.Pairwise.nil, List.Perm.refl _⟩
theorem Br.len {L M : List (ByteArray × Int)} (h : Br lt L M) : L.length = M.length := h.perm.length_eq
theorem Br.put (O : Ord lt) {L M : List (ByteArray × Int)} (h : Br lt L M) (k : ByteArray) (v : Int) : Br lt (dl k L ++ [(k, v)]) (insL lt k v M) :=
  ⟨ins_srt O k v M h.srt, ((List.Perm.filter _ h.perm).append_right _).trans (insL_dl O k v M h.srt)⟩
theorem Br.cut (O : Ord lt) {L M : List (ByteArray × Int)} (h : Br lt L M) (k : ByteArray) : Br lt (dl k L) (delL lt k M) :=
  ⟨del_srt k M h.srt, by rw [delL_dl O k M h.srt]; exact List.Perm.filter _ h.perm⟩
/-- How many keys stand ahead of k. -/
def rkL (lt : ByteArray → ByteArray → Bool) (k : ByteArray) (L : List (ByteArray × Int)) : Nat := (L.filter (fun a => lt a.1 k)).length
theorem Br.rk {L M : List (ByteArray × Int)} (h : Br lt L M) (k : ByteArray) : rkL lt k L = rkL lt k M := (List.Perm.filter _ h.perm).length_eq
theorem look_mem {k : ByteArray} {v : Int} {L : List (ByteArray × Int)} (h : look k L = some v) : (k, v) ∈ L := by
  induction L with
  | nil => cases h
  | cons x r ih =>
    obtain ⟨a, b⟩ := x
    unfold look at h
    split at h
    · rename_i e
      cases h
      subst e
      exact List.mem_cons_self ..
    · exact List.mem_cons_of_mem _ (ih h)
theorem mem_look (O : Ord lt) {k : ByteArray} {v : Int} {L : List (ByteArray × Int)} (hs : Srt lt L) (h : (k, v) ∈ L) : look k L = some v := by
  obtain ⟨i, hi, e⟩ := List.getElem_of_mem h
  exact (look_at O hs (i := i) (k := k) (v := v) (by rw [List.getElem?_eq_getElem hi, e])).1
theorem Br.look_iff (O : Ord lt) {L M : List (ByteArray × Int)} (h : Br lt L M) {k : ByteArray} {v : Int} : look k M = some v ↔ (k, v) ∈ L :=
  ⟨fun e => h.perm.mem_iff.2 (look_mem e), fun e => mem_look O h.srt (h.perm.mem_iff.1 e)⟩
theorem Br.look_none {L M : List (ByteArray × Int)} (O : Ord lt) (h : Br lt L M) {k : ByteArray} : look k M = none ↔ ∀ a ∈ L, a.1 ≠ k := by
  constructor
  · intro e a ha q
    have : (k, a.2) ∈ L := by rw [← q]; exact ha
    rw [(h.look_iff O).2 this] at e
    cases e
  · intro g
    cases e : look k M with
    | none => rfl
    | some v => exact absurd rfl (g _ ((h.look_iff O).1 e))
/-- Each pair of the list stands in the rising list at its key's rank. -/
theorem Br.place (O : Ord lt) {L M : List (ByteArray × Int)} (h : Br lt L M) {x : ByteArray × Int} (hx : x ∈ L) : M[rkL lt x.1 L]? = some x := by
  obtain ⟨i, hi, e⟩ := List.getElem_of_mem (h.perm.mem_iff.1 hx)
  have q : M[i]? = some (x.1, x.2) := by rw [List.getElem?_eq_getElem hi, e]
  have := (look_at O h.srt q).2
  rw [h.rk]
  unfold rkL
  rw [this, q]
theorem Br.cover (O : Ord lt) {L M : List (ByteArray × Int)} (h : Br lt L M) {r : Nat} {x : ByteArray × Int} (hr : M[r]? = some x) : x ∈ L ∧ rkL lt x.1 L = r := by
  have hx : x ∈ L := h.perm.mem_iff.2 (List.mem_of_getElem? hr)
  refine ⟨hx, ?_⟩
  rw [h.rk]
  exact (look_at O h.srt (k := x.1) (v := x.2) hr).2

end BT
end Go.Proofs.Ytbdnniaajiiimaa
