/- A digest's State, said by what has been written: New, WriteText, Sum. -/
import Derived.Test.YtnfcnfhchfmcpabDoorOfH
import Derived.Test.YtnfcnfhchfmcpabDoorAbc
namespace Go.Proofs.YtnfcnfhchfmcpabDoor
open Go.RowKit
/-- The digest of a text, as cells. -/
def dgs (s : ByteArray) : Array Value := cs .u8 32 (dg (hw (bt (msg s)) (nb s)))
/-- Block g is a State in which s has been written. -/
def Wrote (w : World) (g : Nat) (s : ByteArray) : Prop := ∃ f, Stt w g s.size (hw (bt s) (s.size / 64)) f ∧ FB (bt s) s.size f
theorem hw_congr (m m' : Nat → Int) (t : Nat) : (∀ i, i < 64 * t → m i = m' i) → hw m t = hw m' t := by
  induction t with
  | zero => intro _; rfl
  | succ t ih =>
    intro h
    show blk kk (hw m t) (fun j => m (64 * t + j)) = blk kk (hw m' t) (fun j => m' (64 * t + j))
    rw [ih (fun i hi => h i (by omega))]
    exact blk_congr _ _ _ (fun j hj => h _ (by omega))
theorem FB.congr {m m' : Nat → Int} {N : Nat} {f : Nat → Int} (h : FB m N f) (e : ∀ i, i < N → m i = m' i) : FB m' N f :=
  ⟨h.1, fun j hj => by rw [h.2 j hj]; exact e _ (by omega)⟩
theorem Wrote.lt {w : World} {g : Nat} {s : ByteArray} (h : Wrote w g s) : g < w.heap.size := by obtain ⟨f, S, _⟩ := h; exact S.lt
theorem Wrote.same {w w' : World} {g : Nat} {s : ByteArray} (h : Wrote w g s) (e : w'.heap[g]? = w.heap[g]?) : Wrote w' g s := by
  obtain ⟨f, S, F⟩ := h; exact ⟨f, S.same e, F⟩
theorem Wrote.below {w w' : World} {g B : Nat} {s : ByteArray} (h : Wrote w g s) (b : Below B w w') (hg : g < B) : Wrote w' g s := h.same (b.block g hg)
theorem Wrote.kept {w w' : World} {g g' : Nat} {s : ByteArray} (h : Wrote w g s) (b : w.grownBy w' (some g')) (hg : g ≠ g') : Wrote w' g s := by
  obtain ⟨f, S, F⟩ := h; exact ⟨f, S.kept b hg, F⟩
theorem Wrote.size {w : World} {g : Nat} {s : ByteArray} (h : Wrote w g s) : w.cell? ⟨g, 0, none⟩ = some (.int .i64 s.size) := by obtain ⟨f, S, _⟩ := h; exact S.c0
theorem Wrote.none {w : World} {g : Nat} {f : Nat → Int} (S : Stt w g 0 stw f) (hf : ∀ j, 0 ≤ f j ∧ f j < 256) : Wrote w g ByteArray.empty :=
  ⟨f, S, hf, fun j hj => absurd hj (by show ¬ j < 0 % 64; omega)⟩
theorem size_empty : ByteArray.empty.size = 0 := rfl

theorem new_wrote (w : World) : Calls Tryd.prog 13 #[] w fun e w' => ∃ g, e = .returned (.pointer (some ⟨g, 0, none⟩)) ∧ w.heap.size ≤ g ∧ g < w'.heap.size ∧ Wrote w' g ByteArray.empty ∧ Below w.heap.size w w' :=
  (new_any w).mono fun _ _ ⟨g, h1, h2, h3, S, b⟩ => ⟨g, h1, h2, h3, Wrote.none S (fun _ => ⟨Int.le_refl 0, by show (0 : Int) < 256; decide⟩), b⟩

theorem writeText_wrote (g : Nat) (s t : ByteArray) (w : World) (H : Wrote w g s) (hN : s.size + t.size ≤ 2305843009213693952) (hK : KT w) (hg : 0 < g) :
    Calls Tryd.prog 14 #[.pointer (some ⟨g, 0, none⟩), .string t] w fun e w' => e = .returned (.tuple #[]) ∧ Wrote w' g (s ++ t) ∧ w.grownBy w' (some g) := by
  obtain ⟨f, S, F⟩ := H
  have e1 : hw (bt s) (s.size / 64) = hw (bt (s ++ t)) (s.size / 64) := hw_congr _ _ _ (fun i hi => (bt_left s t i (by omega)).symm)
  rw [e1] at S
  refine (writeText_any g s.size t (bt (s ++ t)) f w S (F.congr (fun i hi => (bt_left s t i hi).symm)) (fun i hi => bt_right s t i hi) hN hK hg).mono ?_
  rintro e w' ⟨rfl, ⟨f', S', F'⟩, G⟩
  refine ⟨rfl, ⟨f', ?_, ?_⟩, G⟩
  · rw [ByteArray.size_append]; exact S'
  · rw [ByteArray.size_append]; exact F'

theorem nb_pad (s : ByteArray) : (s.size + (padStr s.size).size) / 64 = nb s := by
  have := msg_size s
  unfold msg at this
  rw [ByteArray.size_append] at this
  omega
theorem sum_wrote (g : Nat) (s : ByteArray) (w : World) (H : Wrote w g s) (hN : s.size ≤ 1152921504606846976) (hK : KT w) (hg : 0 < g) :
    Calls Tryd.prog 16 #[.pointer (some ⟨g, 0, none⟩)] w fun e w' => e = .returned (.agg (dgs s)) ∧ Below w.heap.size w w' := by
  obtain ⟨f, S, F⟩ := H
  have e1 : hw (bt s) (s.size / 64) = hw (bt (msg s)) (s.size / 64) := hw_congr _ _ _ (fun i hi => (bt_left s _ i (by omega)).symm)
  rw [e1] at S
  refine (sum_any g s.size (bt (msg s)) f w S (F.congr (fun i hi => (bt_left s _ i hi).symm)) (fun i hi => bt_right s _ i hi) hN hK hg).mono ?_
  rintro e w' ⟨rfl, b⟩
  refine ⟨?_, b⟩
  rw [nb_pad]
  rfl

end Go.Proofs.YtnfcnfhchfmcpabDoor
