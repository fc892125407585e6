/- The bytes of framed words, on both sides. -/
import Derived.Test.YtljcbibcdajhiaaWwA
import Derived.Test.YtljcbibcdajhiaaCkA
namespace Go.Proofs.Ytljcbibcdajhiaa
open Go.RowKit

theorem fr_bd (n : Nat) : 0 ≤ fr n ∧ fr n ≤ 1099511627792 := by
  unfold fr
  split
  · omega
  · have : padN (n : Int).toNat < 8 := by unfold padN; omega
    omega
/-- The bytes of words that are framed one behind the other. -/
def frS : List ByteArray → Int
  | [] => 0
  | s :: l => fr s.size + frS l
theorem frS_bd (l : List ByteArray) : 0 ≤ frS l ∧ frS l ≤ 1099511627792 * l.length := by
  induction l with
  | nil => exact ⟨Int.le_refl _, Int.le_refl _⟩
  | cons s l ih =>
    have := fr_bd s.size
    rw [frS, List.length_cons]
    push_cast
    omega
theorem frS_snoc (l : List ByteArray) (s : ByteArray) : frS (l ++ [s]) = frS l + fr s.size := by
  induction l with
  | nil => show fr s.size + 0 = 0 + fr s.size; omega
  | cons a l ih => rw [List.cons_append, frS, frS, ih]; omega
/-- Texts in a row. -/
def StrL (w : World) (x : Option Addr) (l : List ByteArray) : Prop := ∀ k (h : k < l.length), ∃ g o, x = some ⟨g, o, none⟩ ∧ g < w.heap.size ∧ w.cell? ⟨g, o + k, none⟩ = some (.string l[k])
theorem StrL.lit (w : World) (C : Array Value) (T : TypeId) (l : List ByteArray) (h : C.toList = l.map Value.string) : StrL (w.alloc (.cells C T)) (some ⟨w.heap.size, 0, none⟩) l := fun k hk => by
  refine ⟨w.heap.size, 0, rfl, by rw [World.size_alloc]; omega, ?_⟩
  rw [Nat.zero_add, World.cell?_alloc_new, ← Array.getElem?_toList, h, List.getElem?_map, List.getElem?_eq_getElem hk]
  rfl

set_option maxHeartbeats 800000 in
theorem tframed_any (x : Option Addr) (c : Nat) (l : List ByteArray) (w : World) (hX : StrL w x l) (hl : l.length ≤ 8) (hs : ∀ s ∈ l, s.size ≤ 140737488351232) :
    Calls Try.prog 33 #[.slice x l.length c] w fun e w' => e = .returned (.int .i64 (frS l)) ∧ w' = w := by
  have HX : Hid (StrL w x l) := hX
  have HS : Hid (∀ s ∈ l, s.size ≤ 140737488351232) := hs
  clear hX hs
  go_enter Try.func33, Try.ntmps33
  go_wp2
  go_loopw [3, 5, 8] (fun v3 _ ix wr => ∃ k : Nat, k ≤ l.length ∧ ix = .int .i64 k ∧ v3 = .int .i64 (frS (l.take k)) ∧ wr = w) (fun _ _ i _ => l.length - (intOf i).toNat)
  case atStart => exact ⟨0, Nat.zero_le _, rfl, rfl, rfl⟩
  case round =>
    obtain ⟨k, hk, rfl, rfl, rfl⟩ := hrel
    by_cases hlt : k < l.length
    · obtain ⟨g, o, rfl, hg, c0⟩ := HX.out k hlt
      have hsz := HS.out _ (List.getElem_mem hlt)
      have HT : Hid (frS (l.take (k + 1)) = frS (l.take k) + fr (l[k]).size) := by unfold Hid; rw [List.take_succ_eq_append_getElem hlt, frS_snoc]
      have hb := frS_bd (l.take k)
      rw [List.length_take] at hb
      have hb2 := fr_bd (l[k]).size
      generalize frS (l.take k) = S at *
      generalize l[k] = s at *
      have FC := fun w => framed_any (s.size : Int) w (by omega) (by omega)
      generalize fr (s.size : Int) = F at *
      go_wp2_with fail
      refine (FC _).mono ?_
      rintro e w1 ⟨rfl, rfl⟩
      clear FC
      have hSF : S + F ≤ 9223372036854775807 := by omega
      go_wp2
      go_roundw
      case rel => exact ⟨k + 1, by omega, by go_num, by rw [HT.out], by first | rfl | trivial⟩
      case measure => simp [intOf]; omega
    · obtain rfl : k = l.length := by omega
      rw [List.take_length]
      go_wp2
      go_ret
      exact ⟨rfl, rfl⟩

end Go.Proofs.Ytljcbibcdajhiaa
