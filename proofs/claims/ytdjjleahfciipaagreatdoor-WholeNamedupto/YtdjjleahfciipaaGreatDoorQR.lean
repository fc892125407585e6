/- Gathered: ShS ScZ SaB. -/
import Derived.Test.YtdjjleahfciipaaGreatDoorRows
import Derived.Shelf.Sort.Plain
import Derived.Sort.Grow
import Derived.Test.YtdjjleahfciipaaGreatDoorQN
import Derived.Test.YtdjjleahfciipaaGreatDoorQQ
/- Contracts of the library, laid at this program. -/
namespace Go.Proofs.YtdjjleahfciipaaGreatDoor
open Go.Shelf Go.RowKit
def Tryz.lays190_ren : Go.Shelf.Ren := ⟨fun | 190 => 37 | 125 => 62 | 258 => 61 | 128 => 91 | 129 => 92 | 302 => 82 | 303 => 83 | 304 => 84 | 305 => 85 | 306 => 86 | 307 => 87 | 308 => 88 | 309 => 89 | 310 => 90 | 333 => 111 | 329 => 112 | 330 => 113 | 334 => 114 | 335 => 115 | 336 => 116 | 344 => 132 | n => n, fun | 31 => 43 | 9 => 9 | 3 => 3 | 46 => 127 | 0 => 0 | 51 => 105 | 53 => 131 | 4 => 4 | 183 => 151 | 182 => 150 | 131 => 155 | 5 => 5 | 218 => 174 | 222 => 178 | 228 => 190 | 229 => 191 | n => n, fun | n => n⟩
theorem Tryz.lays190 : Go.Proofs.Lays.n190 Tryz.prog Tryz.lays190_ren := {
  mixed := by kernel_rfl
  f125 := Tryz.func62.trans (congrArg some (by kernel_rfl))
  f128 := Tryz.func91.trans (congrArg some (by kernel_rfl))
  f129 := Tryz.func92.trans (congrArg some (by kernel_rfl))
  f190 := Tryz.func37.trans (congrArg some (by kernel_rfl))
  f258 := Tryz.func61.trans (congrArg some (by kernel_rfl))
  f302 := Tryz.func82.trans (congrArg some (by kernel_rfl))
  f303 := Tryz.func83.trans (congrArg some (by kernel_rfl))
  f304 := Tryz.func84.trans (congrArg some (by kernel_rfl))
  f305 := Tryz.func85.trans (congrArg some (by kernel_rfl))
  f306 := Tryz.func86.trans (congrArg some (by kernel_rfl))
  f307 := Tryz.func87.trans (congrArg some (by kernel_rfl))
  f308 := Tryz.func88.trans (congrArg some (by kernel_rfl))
  f309 := Tryz.func89.trans (congrArg some (by kernel_rfl))
  f310 := Tryz.func90.trans (congrArg some (by kernel_rfl))
  f329 := Tryz.func112.trans (congrArg some (by kernel_rfl))
  f330 := Tryz.func113.trans (congrArg some (by kernel_rfl))
  f333 := Tryz.func111.trans (congrArg some (by kernel_rfl))
  f334 := Tryz.func114.trans (congrArg some (by kernel_rfl))
  f335 := Tryz.func115.trans (congrArg some (by kernel_rfl))
  f336 := Tryz.func116.trans (congrArg some (by kernel_rfl))
  f344 := Tryz.func132.trans (congrArg some (by kernel_rfl))
  t0 := Tryz.underlying0
  a0 := Tryz.isAgg0
  z0 := Tryz.sizeOf0
  v0 := Tryz.zeroValue0
  t3 := Tryz.underlying3
  a3 := Tryz.isAgg3
  z3 := Tryz.sizeOf3
  v3 := Tryz.zeroValue3
  t4 := Tryz.underlying4
  a4 := Tryz.isAgg4
  z4 := Tryz.sizeOf4
  v4 := Tryz.zeroValue4
  t5 := Tryz.underlying5
  a5 := Tryz.isAgg5
  z5 := Tryz.sizeOf5
  v5 := Tryz.zeroValue5
  t9 := Tryz.underlying9
  a9 := Tryz.isAgg9
  z9 := Tryz.sizeOf9
  v9 := Tryz.zeroValue9
  t31 := Tryz.underlying43
  a31 := Tryz.isAgg43
  z31 := Tryz.sizeOf43
  v31 := Tryz.zeroValue43
  t46 := Tryz.underlying127
  a46 := Tryz.isAgg127
  z46 := Tryz.sizeOf127
  v46 := Tryz.zeroValue127
  t51 := Tryz.underlying105
  a51 := Tryz.isAgg105
  z51 := Tryz.sizeOf105
  v51 := Tryz.zeroValue105
  t53 := Tryz.underlying131
  a53 := Tryz.isAgg131
  z53 := Tryz.sizeOf131
  v53 := Tryz.zeroValue131
  t131 := Tryz.underlying155
  a131 := Tryz.isAgg155
  z131 := Tryz.sizeOf155
  v131 := Tryz.zeroValue155
  t182 := Tryz.underlying150
  a182 := Tryz.isAgg150
  z182 := Tryz.sizeOf150
  v182 := Tryz.zeroValue150
  t183 := Tryz.underlying151
  a183 := Tryz.isAgg151
  z183 := Tryz.sizeOf151
  v183 := Tryz.zeroValue151
  t218 := Tryz.underlying174
  a218 := Tryz.isAgg174
  z218 := Tryz.sizeOf174
  v218 := Tryz.zeroValue174
  t222 := Tryz.underlying178
  a222 := Tryz.isAgg178
  z222 := Tryz.sizeOf178
  v222 := Tryz.zeroValue178
  t228 := Tryz.underlying190
  a228 := Tryz.isAgg190
  z228 := Tryz.sizeOf190
  v228 := Tryz.zeroValue190
  t229 := Tryz.underlying191
  a229 := Tryz.isAgg191
  z229 := Tryz.sizeOf191
  v229 := Tryz.zeroValue191 }
open Go.Sort Go.RowKit in
theorem Tryz.slices_Sort_string (blk off cap : Nat) (ss : List (List UInt8)) (w : World) (hH : Holds encStr w blk off ss.toArray) (hblk : blk < w.heap.size) (hsz : ss.length < 4611686018427387904) :
    Calls Tryz.prog 37 #[.slice (some ⟨blk, off, none⟩) ss.length cap] w fun e w' =>
      e = .returned (.tuple #[]) ∧ ∃ n os, w' = grow (putRow encStr (Sort.ahead w n) blk off (ss.mergeSort fun x y => decide (x ≤ y)).toArray) os := Any.slices_Sort_string Tryz.lays190 blk off cap ss w hH hblk hsz
end Go.Proofs.YtdjjleahfciipaaGreatDoor
/- scan.Scanner's Found, walked (own text of the verifier). -/
namespace Go.Proofs.YtdjjleahfciipaaGreatDoor
open Go.RowKit Go.Sort
namespace Sc

theorem gb_sorted {w : World} {g n : Nat} {os : Array Obj} (d : Array (List UInt8)) : w.grownBy (grow (putRow encStr (Sort.ahead w n) g 0 d) os) (some g) :=
  ⟨rfl, rfl, rfl, by simp, fun k hk hn => by
    rw [heap_grow_old _ _ (by simpa using hk)]
    have : g ≠ k := fun e => hn (by rw [e])
    simp [putRow, mapBlock, Array.getElem?_modify, this]⟩
def srt (F : List (List UInt8)) : List (List UInt8) := F.mergeSort fun x y => decide (x ≤ y)
/-- A slice of these texts, in memory of its own. -/
def Tx (w : World) (B : Nat) (v : Value) (L : List (List UInt8)) : Prop := ∃ x c, v = .slice x L.length c ∧ ∀ (j : Nat) (h : List UInt8), L[j]? = some h → ∃ b, x = some ⟨b, 0, none⟩ ∧ B ≤ b ∧ w.cell? ⟨b, j, none⟩ = some (.string (ba h))

set_option maxRecDepth 100000 in
set_option maxHeartbeats 4000000 in
theorem sfound_any (g n : Nat) (kept : List UInt8) (m N : Nat) (S F : List (List UInt8)) (fv : Value) (w : World) (hS : SM w g n kept m N S F fv) (hF : F.length ≤ 268435456) :
    Calls Tryz.prog 12 #[.pointer (some ⟨g, 0, none⟩)] w fun e w' => ∃ v, e = .returned v ∧ Tx w' w.heap.size v (srt F) ∧ Below w.heap.size w w' := by
  have c34 := hS.cf
  have hlen : (srt F).length = F.length := by unfold srt; exact List.length_mergeSort _
  have CC : Calls Tryz.prog 36 #[fv] w fun e w' => ∃ v', e = .returned v' ∧ w'.ownsRow w.heap.size 9 1 v' F.length (tv_ F) ∧ Below w.heap.size w w' := by
    rcases hS.fr with ⟨hl, ⟨hv, h0⟩ | ⟨b, cap, cur, hv, _, hb, h1, _, h3, h4⟩⟩
    · rw [hv]
      refine (cloneS_nil 0 0 w).mono ?_
      rintro e w' ⟨rfl, rfl⟩
      exact ⟨_, rfl, ⟨hl, .inl ⟨rfl, h0⟩⟩, Below.refl _ _⟩
    · rw [hv]
      refine cloneS_any ⟨b, 0, none⟩ F.length cap F w rfl (by omega) (fun j x hj => ?_)
      have hk : cur.toList[j]? = some (.string (ba x)) := by
        have hlt : j < F.length := (List.getElem?_eq_some_iff.1 hj).1
        have : (cur.toList.take (F.length * 1))[j]? = (tv_ F)[j]? := by rw [h4]
        rw [List.getElem?_take, if_pos (by omega)] at this
        rw [this]; unfold tv_; rw [List.getElem?_map, hj]; rfl
      rw [Addr.add_lit, Nat.zero_add, Lib.cell_of_heap hb]
      simpa using hk
  clear hS
  have HL : Hid ((srt F).length = F.length) := hlen
  clear hlen
  go_enter Tryz.func12, Tryz.ntmps12
  go_wp2_with fail
  with_reducible refine CC.mono ?_
  rintro e w1 ⟨v', rfl, ⟨hl, hrow⟩, B1⟩
  clear CC
  have HB : Hid _ := B1
  rcases hrow with ⟨rfl, h0⟩ | ⟨b, cap, cur, rfl, hBb, hb, h1, _, h3, h4⟩
  · go_wp2_with fail
    with_reducible refine (sort_nil _).mono ?_
    rintro e w2 ⟨rfl, rfl⟩
    go_wp2
    go_ret
    have e0 : (srt F).length = 0 := by rw [HL.out]; exact h0
    refine ⟨.slice none 0 0, rfl, ⟨none, 0, by rw [e0], fun j h hj => ?_⟩, HB.out⟩
    have := (List.getElem?_eq_some_iff.1 hj).1
    omega
  · have hH : Holds encStr w1 b 0 F.toArray := fun j hj => by
      have hlt : j < F.length := by simpa using hj
      refine ⟨?_, Lib.frozen_of_heap hb _⟩
      have hk : cur.toList[j]? = some (encStr F[j]) := by
        have : (cur.toList.take (F.length * 1))[j]? = (tv_ F)[j]? := by rw [h4]
        rw [List.getElem?_take, if_pos (by omega)] at this
        rw [this]; unfold tv_; rw [List.getElem?_map, List.getElem?_eq_getElem hlt]; rfl
      rw [Nat.zero_add, Lib.cell_of_heap hb]
      have e2 : F.toArray[j]! = F[j] := by rw [getElem!_pos F.toArray j hj]; simp
      rw [e2]
      simpa using hk
    have hbl : b < w1.heap.size := (Array.getElem?_eq_some_iff.1 hb).1
    have CS := Tryz.slices_Sort_string b 0 cap F w1 hH hbl (by omega)
    have HH : Hid (Holds encStr w1 b 0 F.toArray) := hH
    clear hH h4 hb h3 hl
    go_wp2_with fail
    with_reducible refine CS.mono ?_
    rintro e w2 ⟨rfl, q, os, rfl⟩
    have HB2 : Hid (Below w.heap.size w (grow (putRow encStr (Sort.ahead w1 q) b 0 (F.mergeSort fun x y => decide (x ≤ y)).toArray) os)) := HB.out.grown (gb_sorted _) HB.out.size (fun k hk => by have := Option.some.inj hk; omega)
    have HT : Hid (Tx (grow (putRow encStr (Sort.ahead w1 q) b 0 (F.mergeSort fun x y => decide (x ≤ y)).toArray) os) w.heap.size (.slice (some ⟨b, 0, none⟩) F.length cap) (srt F)) := by
      refine ⟨some ⟨b, 0, none⟩, cap, by rw [HL.out], fun j h hj => ⟨b, rfl, hBb, ?_⟩⟩
      have h2 := holds_grow encStr (putRow encStr (Sort.ahead w1 q) b 0 (F.mergeSort fun x y => decide (x ≤ y)).toArray) os b 0 _ (by simpa using hbl) (holds_putRow encStr (Sort.ahead w1 q) b 0 F.toArray (F.mergeSort fun x y => decide (x ≤ y)).toArray HH.out (by simp))
      have hlt : j < (srt F).length := (List.getElem?_eq_some_iff.1 hj).1
      have h3 := (h2 j (by simpa [srt] using hlt)).1
      rw [Nat.zero_add] at h3
      rw [h3, getElem!_pos _ j (by simpa [srt] using hlt)]
      have h4 : (srt F)[j] = h := by have := List.getElem?_eq_getElem hlt; rw [hj] at this; exact (Option.some.inj this).symm
      have h5 : (F.mergeSort fun x y => decide (x ≤ y)).toArray[j]'(by simpa [srt] using hlt) = h := by rw [← h4]; simp [srt]
      rw [h5]
      rfl
    clear CS HB HH
    generalize grow _ os = w3 at *
    go_wp2
    go_ret
    exact ⟨_, rfl, HT.out, HB2.out⟩

end Sc
end Go.Proofs.YtdjjleahfciipaaGreatDoor
/- depotlaw14's texts and ints, walked (own text of the verifier). -/
namespace Go.Proofs.YtdjjleahfciipaaGreatDoor
open Go.RowKit
namespace Sc

/-- v is a slice of these texts. -/
def RT (w : World) (B : Nat) (v : Value) (L : List (List UInt8)) : Prop := ∃ x c, v = .slice x L.length c ∧ ∀ i t, L[i]? = some t → ∃ b o, x = some ⟨b, o, none⟩ ∧ b < B ∧ w.cell? ⟨b, o + i, none⟩ = some (.string (ba t))
/-- v is a slice of these numbers. -/
def RI (w : World) (B : Nat) (v : Value) (L : List Nat) : Prop := ∃ x c, v = .slice x L.length c ∧ ∀ i t, L[i]? = some t → ∃ b o, x = some ⟨b, o, none⟩ ∧ b < B ∧ w.cell? ⟨b, o + i, none⟩ = some (.int .i64 ((t : Nat) : Int))
theorem RT.below {w w' : World} {B C : Nat} {v : Value} {L : List (List UInt8)} (h : RT w B v L) (b : Below C w w') (hB : B ≤ C) : RT w' B v L := by
  obtain ⟨x, c, e, h⟩ := h
  refine ⟨x, c, e, fun i t ht => ?_⟩
  obtain ⟨g, o, e1, e2, e3⟩ := h i t ht
  exact ⟨g, o, e1, e2, (b.cell (p := ⟨g, o + i, none⟩) (by show g < C; omega)).trans e3⟩
theorem RI.below {w w' : World} {B C : Nat} {v : Value} {L : List Nat} (h : RI w B v L) (b : Below C w w') (hB : B ≤ C) : RI w' B v L := by
  obtain ⟨x, c, e, h⟩ := h
  refine ⟨x, c, e, fun i t ht => ?_⟩
  obtain ⟨g, o, e1, e2, e3⟩ := h i t ht
  exact ⟨g, o, e1, e2, (b.cell (p := ⟨g, o + i, none⟩) (by show g < C; omega)).trans e3⟩
/-- A row of numbers of one's own. -/
theorem ri_own {w : World} {B : Nat} {v : Value} {L : List Nat} (h : w.ownsRow B 3 1 v L.length (pv_ L)) : RI w w.heap.size v L := by
  have h0 := h
  rcases h.2 with ⟨rfl, e0⟩ | ⟨b, cap, cur, rfl, hBb, hb, h1, _, h3, h4⟩
  · refine ⟨none, 0, by rw [e0], fun i t ht => ?_⟩
    have := (List.getElem?_eq_some_iff.1 ht).1
    omega
  · refine ⟨some ⟨b, 0, none⟩, cap, rfl, fun i t ht => ⟨b, 0, rfl, (Array.getElem?_eq_some_iff.1 hb).1, ?_⟩⟩
    rw [Nat.zero_add]
    have := World.ownsRow.cells (g := b) h0 rfl i (.int .i64 (t : Int)) (by unfold pv_; rw [List.getElem?_map, ht]; rfl)
    rw [Addr.add_lit, Nat.zero_add] at this
    exact this

end Sc
end Go.Proofs.YtdjjleahfciipaaGreatDoor
