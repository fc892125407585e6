/- scan.Scanner's Found, walked (own text of the verifier). -/
import Derived.Test.YtojefckhefanhabScY
import Derived.Test.YtojefckhefanhabShS
import Derived.Sort.Grow
namespace Go.Proofs.Ytojefckhefanhab
open Go.RowKit Go.Sort
namespace Sc

theorem gb_sorted {w : World} {g n : Nat} {os : Array Obj} (d : Array (List UInt8)) : w.grownBy (grow (putRow encStr (Sort.ahead w n) g 0 d) os) (some g) :=
  ⟨rfl, rfl, rfl, by simp, fun k hk hn => by
    rw [heap_grow_old _ _ (by simpa using hk)]
    have : g ≠ k := fun e => hn (by rw [e])
    simp [putRow, mapBlock, Array.getElem?_modify, this]⟩
def srt (F : List (List UInt8)) : List (List UInt8) := F.mergeSort fun x y => decide (x ≤ y)
/-- A slice of these texts, in memory of its own. -/
def Tx (w : World) (B : Nat) (v : Value) (L : List (List UInt8)) : Prop := ∃ x c, v = .slice x L.length c ∧ ∀ (j : Nat) (h : List UInt8), L[j]? = some h → ∃ b, x = some ⟨b, 0, none⟩ ∧ B ≤ b ∧ w.cell? ⟨b, j, none⟩ = some (.string (ba h))

set_option maxRecDepth 100000 in
set_option maxHeartbeats 4000000 in
theorem sfound_any (g n : Nat) (kept : List UInt8) (m N : Nat) (S F : List (List UInt8)) (fv : Value) (w : World) (hS : SM w g n kept m N S F fv) (hF : F.length ≤ 268435456) :
    Calls Try.prog 11 #[.pointer (some ⟨g, 0, none⟩)] w fun e w' => ∃ v, e = .returned v ∧ Tx w' w.heap.size v (srt F) ∧ Below w.heap.size w w' := by
  have c34 := hS.cf
  have hlen : (srt F).length = F.length := by unfold srt; exact List.length_mergeSort _
  have CC : Calls Try.prog 26 #[fv] w fun e w' => ∃ v', e = .returned v' ∧ w'.ownsRow w.heap.size 9 1 v' F.length (tv_ F) ∧ Below w.heap.size w w' := by
    rcases hS.fr with ⟨hl, ⟨hv, h0⟩ | ⟨b, cap, cur, hv, _, hb, h1, _, h3, h4⟩⟩
    · rw [hv]
      refine (cloneS_nil 0 0 w).mono ?_
      rintro e w' ⟨rfl, rfl⟩
      exact ⟨_, rfl, ⟨hl, .inl ⟨rfl, h0⟩⟩, Below.refl _ _⟩
    · rw [hv]
      refine cloneS_any ⟨b, 0, none⟩ F.length cap F w rfl (by omega) (fun j x hj => ?_)
      have hk : cur.toList[j]? = some (.string (ba x)) := by
        have hlt : j < F.length := (List.getElem?_eq_some_iff.1 hj).1
        have : (cur.toList.take (F.length * 1))[j]? = (tv_ F)[j]? := by rw [h4]
        rw [List.getElem?_take, if_pos (by omega)] at this
        rw [this]; unfold tv_; rw [List.getElem?_map, hj]; rfl
      rw [Addr.add_lit, Nat.zero_add, Lib.cell_of_heap hb]
      simpa using hk
  clear hS
  have HL : Hid ((srt F).length = F.length) := hlen
  clear hlen
  go_enter Try.func11, Try.ntmps11
  go_wp2_with fail
  with_reducible refine CC.mono ?_
  rintro e w1 ⟨v', rfl, ⟨hl, hrow⟩, B1⟩
  clear CC
  have HB : Hid _ := B1
  rcases hrow with ⟨rfl, h0⟩ | ⟨b, cap, cur, rfl, hBb, hb, h1, _, h3, h4⟩
  · go_wp2_with fail
    with_reducible refine (sort_nil _).mono ?_
    rintro e w2 ⟨rfl, rfl⟩
    go_wp2
    go_ret
    have e0 : (srt F).length = 0 := by rw [HL.out]; exact h0
    refine ⟨.slice none 0 0, rfl, ⟨none, 0, by rw [e0], fun j h hj => ?_⟩, HB.out⟩
    have := (List.getElem?_eq_some_iff.1 hj).1
    omega
  · have hH : Holds encStr w1 b 0 F.toArray := fun j hj => by
      have hlt : j < F.length := by simpa using hj
      refine ⟨?_, Lib.frozen_of_heap hb _⟩
      have hk : cur.toList[j]? = some (encStr F[j]) := by
        have : (cur.toList.take (F.length * 1))[j]? = (tv_ F)[j]? := by rw [h4]
        rw [List.getElem?_take, if_pos (by omega)] at this
        rw [this]; unfold tv_; rw [List.getElem?_map, List.getElem?_eq_getElem hlt]; rfl
      rw [Nat.zero_add, Lib.cell_of_heap hb]
      have e2 : F.toArray[j]! = F[j] := by rw [getElem!_pos F.toArray j hj]; simp
      rw [e2]
      simpa using hk
    have hbl : b < w1.heap.size := (Array.getElem?_eq_some_iff.1 hb).1
    have CS := Try.slices_Sort_string b 0 cap F w1 hH hbl (by omega)
    have HH : Hid (Holds encStr w1 b 0 F.toArray) := hH
    clear hH h4 hb h3 hl
    go_wp2_with fail
    with_reducible refine CS.mono ?_
    rintro e w2 ⟨rfl, q, os, rfl⟩
    have HB2 : Hid (Below w.heap.size w (grow (putRow encStr (Sort.ahead w1 q) b 0 (F.mergeSort fun x y => decide (x ≤ y)).toArray) os)) := HB.out.grown (gb_sorted _) HB.out.size (fun k hk => by have := Option.some.inj hk; omega)
    have HT : Hid (Tx (grow (putRow encStr (Sort.ahead w1 q) b 0 (F.mergeSort fun x y => decide (x ≤ y)).toArray) os) w.heap.size (.slice (some ⟨b, 0, none⟩) F.length cap) (srt F)) := by
      refine ⟨some ⟨b, 0, none⟩, cap, by rw [HL.out], fun j h hj => ⟨b, rfl, hBb, ?_⟩⟩
      have h2 := holds_grow encStr (putRow encStr (Sort.ahead w1 q) b 0 (F.mergeSort fun x y => decide (x ≤ y)).toArray) os b 0 _ (by simpa using hbl) (holds_putRow encStr (Sort.ahead w1 q) b 0 F.toArray (F.mergeSort fun x y => decide (x ≤ y)).toArray HH.out (by simp))
      have hlt : j < (srt F).length := (List.getElem?_eq_some_iff.1 hj).1
      have h3 := (h2 j (by simpa [srt] using hlt)).1
      rw [Nat.zero_add] at h3
      rw [h3, getElem!_pos _ j (by simpa [srt] using hlt)]
      have h4 : (srt F)[j] = h := by have := List.getElem?_eq_getElem hlt; rw [hj] at this; exact (Option.some.inj this).symm
      have h5 : (F.mergeSort fun x y => decide (x ≤ y)).toArray[j]'(by simpa [srt] using hlt) = h := by rw [← h4]; simp [srt]
      rw [h5]
      rfl
    clear CS HB HH
    generalize grow _ os = w3 at *
    go_wp2
    go_ret
    exact ⟨_, rfl, HT.out, HB2.out⟩

end Sc
end Go.Proofs.Ytojefckhefanhab
