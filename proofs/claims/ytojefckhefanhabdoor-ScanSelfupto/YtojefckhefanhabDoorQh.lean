/- Gathered: ShS ScZ. -/
import Derived.Test.YtojefckhefanhabDoorRows
import Derived.Shelf.Sort.Plain
import Derived.Sort.Grow
import Derived.Test.YtojefckhefanhabDoorQg
/- Contracts of the library, laid at this program. -/
namespace Go.Proofs.YtojefckhefanhabDoor
open Go.Shelf Go.RowKit
def Tryd.lays190_ren : Go.Shelf.Ren := ⟨fun | 190 => 26 | 125 => 40 | 258 => 39 | 128 => 54 | 129 => 55 | 302 => 45 | 303 => 46 | 304 => 47 | 305 => 48 | 306 => 49 | 307 => 50 | 308 => 51 | 309 => 52 | 310 => 53 | 333 => 67 | 329 => 68 | 330 => 69 | 334 => 70 | 335 => 71 | 336 => 72 | 344 => 79 | n => n, fun | 31 => 36 | 9 => 9 | 3 => 3 | 46 => 91 | 0 => 0 | 51 => 64 | 53 => 94 | 4 => 4 | 183 => 99 | 182 => 98 | 131 => 104 | 5 => 5 | 218 => 118 | 222 => 122 | 228 => 130 | 229 => 131 | n => n, fun | n => n⟩
theorem Tryd.lays190 : Go.Proofs.Lays.n190 Tryd.prog Tryd.lays190_ren := {
  mixed := by kernel_rfl
  f125 := Tryd.func40.trans (congrArg some (by kernel_rfl))
  f128 := Tryd.func54.trans (congrArg some (by kernel_rfl))
  f129 := Tryd.func55.trans (congrArg some (by kernel_rfl))
  f190 := Tryd.func26.trans (congrArg some (by kernel_rfl))
  f258 := Tryd.func39.trans (congrArg some (by kernel_rfl))
  f302 := Tryd.func45.trans (congrArg some (by kernel_rfl))
  f303 := Tryd.func46.trans (congrArg some (by kernel_rfl))
  f304 := Tryd.func47.trans (congrArg some (by kernel_rfl))
  f305 := Tryd.func48.trans (congrArg some (by kernel_rfl))
  f306 := Tryd.func49.trans (congrArg some (by kernel_rfl))
  f307 := Tryd.func50.trans (congrArg some (by kernel_rfl))
  f308 := Tryd.func51.trans (congrArg some (by kernel_rfl))
  f309 := Tryd.func52.trans (congrArg some (by kernel_rfl))
  f310 := Tryd.func53.trans (congrArg some (by kernel_rfl))
  f329 := Tryd.func68.trans (congrArg some (by kernel_rfl))
  f330 := Tryd.func69.trans (congrArg some (by kernel_rfl))
  f333 := Tryd.func67.trans (congrArg some (by kernel_rfl))
  f334 := Tryd.func70.trans (congrArg some (by kernel_rfl))
  f335 := Tryd.func71.trans (congrArg some (by kernel_rfl))
  f336 := Tryd.func72.trans (congrArg some (by kernel_rfl))
  f344 := Tryd.func79.trans (congrArg some (by kernel_rfl))
  t0 := Tryd.underlying0
  a0 := Tryd.isAgg0
  z0 := Tryd.sizeOf0
  v0 := Tryd.zeroValue0
  t3 := Tryd.underlying3
  a3 := Tryd.isAgg3
  z3 := Tryd.sizeOf3
  v3 := Tryd.zeroValue3
  t4 := Tryd.underlying4
  a4 := Tryd.isAgg4
  z4 := Tryd.sizeOf4
  v4 := Tryd.zeroValue4
  t5 := Tryd.underlying5
  a5 := Tryd.isAgg5
  z5 := Tryd.sizeOf5
  v5 := Tryd.zeroValue5
  t9 := Tryd.underlying9
  a9 := Tryd.isAgg9
  z9 := Tryd.sizeOf9
  v9 := Tryd.zeroValue9
  t31 := Tryd.underlying36
  a31 := Tryd.isAgg36
  z31 := Tryd.sizeOf36
  v31 := Tryd.zeroValue36
  t46 := Tryd.underlying91
  a46 := Tryd.isAgg91
  z46 := Tryd.sizeOf91
  v46 := Tryd.zeroValue91
  t51 := Tryd.underlying64
  a51 := Tryd.isAgg64
  z51 := Tryd.sizeOf64
  v51 := Tryd.zeroValue64
  t53 := Tryd.underlying94
  a53 := Tryd.isAgg94
  z53 := Tryd.sizeOf94
  v53 := Tryd.zeroValue94
  t131 := Tryd.underlying104
  a131 := Tryd.isAgg104
  z131 := Tryd.sizeOf104
  v131 := Tryd.zeroValue104
  t182 := Tryd.underlying98
  a182 := Tryd.isAgg98
  z182 := Tryd.sizeOf98
  v182 := Tryd.zeroValue98
  t183 := Tryd.underlying99
  a183 := Tryd.isAgg99
  z183 := Tryd.sizeOf99
  v183 := Tryd.zeroValue99
  t218 := Tryd.underlying118
  a218 := Tryd.isAgg118
  z218 := Tryd.sizeOf118
  v218 := Tryd.zeroValue118
  t222 := Tryd.underlying122
  a222 := Tryd.isAgg122
  z222 := Tryd.sizeOf122
  v222 := Tryd.zeroValue122
  t228 := Tryd.underlying130
  a228 := Tryd.isAgg130
  z228 := Tryd.sizeOf130
  v228 := Tryd.zeroValue130
  t229 := Tryd.underlying131
  a229 := Tryd.isAgg131
  z229 := Tryd.sizeOf131
  v229 := Tryd.zeroValue131 }
open Go.Sort Go.RowKit in
theorem Tryd.slices_Sort_string (blk off cap : Nat) (ss : List (List UInt8)) (w : World) (hH : Holds encStr w blk off ss.toArray) (hblk : blk < w.heap.size) (hsz : ss.length < 4611686018427387904) :
    Calls Tryd.prog 26 #[.slice (some ⟨blk, off, none⟩) ss.length cap] w fun e w' =>
      e = .returned (.tuple #[]) ∧ ∃ n os, w' = grow (putRow encStr (Sort.ahead w n) blk off (ss.mergeSort fun x y => decide (x ≤ y)).toArray) os := Any.slices_Sort_string Tryd.lays190 blk off cap ss w hH hblk hsz
end Go.Proofs.YtojefckhefanhabDoor
/- scan.Scanner's Found, walked (own text of the verifier). -/
namespace Go.Proofs.YtojefckhefanhabDoor
open Go.RowKit Go.Sort
namespace Sc

theorem gb_sorted {w : World} {g n : Nat} {os : Array Obj} (d : Array (List UInt8)) : w.grownBy (grow (putRow encStr (Sort.ahead w n) g 0 d) os) (some g) :=
  ⟨rfl, rfl, rfl, by simp, fun k hk hn => by
    rw [heap_grow_old _ _ (by simpa using hk)]
    have : g ≠ k := fun e => hn (by rw [e])
    simp [putRow, mapBlock, Array.getElem?_modify, this]⟩
def srt (F : List (List UInt8)) : List (List UInt8) := F.mergeSort fun x y => decide (x ≤ y)
/-- A slice of these texts, in memory of its own. -/
def Tx (w : World) (B : Nat) (v : Value) (L : List (List UInt8)) : Prop := ∃ x c, v = .slice x L.length c ∧ ∀ (j : Nat) (h : List UInt8), L[j]? = some h → ∃ b, x = some ⟨b, 0, none⟩ ∧ B ≤ b ∧ w.cell? ⟨b, j, none⟩ = some (.string (ba h))

set_option maxRecDepth 100000 in
set_option maxHeartbeats 4000000 in
theorem sfound_any (g n : Nat) (kept : List UInt8) (m N : Nat) (S F : List (List UInt8)) (fv : Value) (w : World) (hS : SM w g n kept m N S F fv) (hF : F.length ≤ 268435456) :
    Calls Tryd.prog 10 #[.pointer (some ⟨g, 0, none⟩)] w fun e w' => ∃ v, e = .returned v ∧ Tx w' w.heap.size v (srt F) ∧ Below w.heap.size w w' := by
  have c34 := hS.cf
  have hlen : (srt F).length = F.length := by unfold srt; exact List.length_mergeSort _
  have CC : Calls Tryd.prog 25 #[fv] w fun e w' => ∃ v', e = .returned v' ∧ w'.ownsRow w.heap.size 9 1 v' F.length (tv_ F) ∧ Below w.heap.size w w' := by
    rcases hS.fr with ⟨hl, ⟨hv, h0⟩ | ⟨b, cap, cur, hv, _, hb, h1, _, h3, h4⟩⟩
    · rw [hv]
      refine (cloneS_nil 0 0 w).mono ?_
      rintro e w' ⟨rfl, rfl⟩
      exact ⟨_, rfl, ⟨hl, .inl ⟨rfl, h0⟩⟩, Below.refl _ _⟩
    · rw [hv]
      refine cloneS_any ⟨b, 0, none⟩ F.length cap F w rfl (by omega) (fun j x hj => ?_)
      have hk : cur.toList[j]? = some (.string (ba x)) := by
        have hlt : j < F.length := (List.getElem?_eq_some_iff.1 hj).1
        have : (cur.toList.take (F.length * 1))[j]? = (tv_ F)[j]? := by rw [h4]
        rw [List.getElem?_take, if_pos (by omega)] at this
        rw [this]; unfold tv_; rw [List.getElem?_map, hj]; rfl
      rw [Addr.add_lit, Nat.zero_add, Lib.cell_of_heap hb]
      simpa using hk
  clear hS
  have HL : Hid ((srt F).length = F.length) := hlen
  clear hlen
  go_enter Tryd.func10, Tryd.ntmps10
  go_wp2_with fail
  with_reducible refine CC.mono ?_
  rintro e w1 ⟨v', rfl, ⟨hl, hrow⟩, B1⟩
  clear CC
  have HB : Hid _ := B1
  rcases hrow with ⟨rfl, h0⟩ | ⟨b, cap, cur, rfl, hBb, hb, h1, _, h3, h4⟩
  · go_wp2_with fail
    with_reducible refine (sort_nil _).mono ?_
    rintro e w2 ⟨rfl, rfl⟩
    go_wp2
    go_ret
    have e0 : (srt F).length = 0 := by rw [HL.out]; exact h0
    refine ⟨.slice none 0 0, rfl, ⟨none, 0, by rw [e0], fun j h hj => ?_⟩, HB.out⟩
    have := (List.getElem?_eq_some_iff.1 hj).1
    omega
  · have hH : Holds encStr w1 b 0 F.toArray := fun j hj => by
      have hlt : j < F.length := by simpa using hj
      refine ⟨?_, Lib.frozen_of_heap hb _⟩
      have hk : cur.toList[j]? = some (encStr F[j]) := by
        have : (cur.toList.take (F.length * 1))[j]? = (tv_ F)[j]? := by rw [h4]
        rw [List.getElem?_take, if_pos (by omega)] at this
        rw [this]; unfold tv_; rw [List.getElem?_map, List.getElem?_eq_getElem hlt]; rfl
      rw [Nat.zero_add, Lib.cell_of_heap hb]
      have e2 : F.toArray[j]! = F[j] := by rw [getElem!_pos F.toArray j hj]; simp
      rw [e2]
      simpa using hk
    have hbl : b < w1.heap.size := (Array.getElem?_eq_some_iff.1 hb).1
    have CS := Tryd.slices_Sort_string b 0 cap F w1 hH hbl (by omega)
    have HH : Hid (Holds encStr w1 b 0 F.toArray) := hH
    clear hH h4 hb h3 hl
    go_wp2_with fail
    with_reducible refine CS.mono ?_
    rintro e w2 ⟨rfl, q, os, rfl⟩
    have HB2 : Hid (Below w.heap.size w (grow (putRow encStr (Sort.ahead w1 q) b 0 (F.mergeSort fun x y => decide (x ≤ y)).toArray) os)) := HB.out.grown (gb_sorted _) HB.out.size (fun k hk => by have := Option.some.inj hk; omega)
    have HT : Hid (Tx (grow (putRow encStr (Sort.ahead w1 q) b 0 (F.mergeSort fun x y => decide (x ≤ y)).toArray) os) w.heap.size (.slice (some ⟨b, 0, none⟩) F.length cap) (srt F)) := by
      refine ⟨some ⟨b, 0, none⟩, cap, by rw [HL.out], fun j h hj => ⟨b, rfl, hBb, ?_⟩⟩
      have h2 := holds_grow encStr (putRow encStr (Sort.ahead w1 q) b 0 (F.mergeSort fun x y => decide (x ≤ y)).toArray) os b 0 _ (by simpa using hbl) (holds_putRow encStr (Sort.ahead w1 q) b 0 F.toArray (F.mergeSort fun x y => decide (x ≤ y)).toArray HH.out (by simp))
      have hlt : j < (srt F).length := (List.getElem?_eq_some_iff.1 hj).1
      have h3 := (h2 j (by simpa [srt] using hlt)).1
      rw [Nat.zero_add] at h3
      rw [h3, getElem!_pos _ j (by simpa [srt] using hlt)]
      have h4 : (srt F)[j] = h := by have := List.getElem?_eq_getElem hlt; rw [hj] at this; exact (Option.some.inj this).symm
      have h5 : (F.mergeSort fun x y => decide (x ≤ y)).toArray[j]'(by simpa [srt] using hlt) = h := by rw [← h4]; simp [srt]
      rw [h5]
      rfl
    clear CS HB HH
    generalize grow _ os = w3 at *
    go_wp2
    go_ret
    exact ⟨_, rfl, HT.out, HB2.out⟩

end Sc
end Go.Proofs.YtojefckhefanhabDoor
