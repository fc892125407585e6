/- Gathered: ShS ScZ SaB. -/
import Derived.Test.YtojefckhefanhaaDoorRows
import Derived.Shelf.Sort.Plain
import Derived.Sort.Grow
import Derived.Test.YtojefckhefanhaaDoorQf
import Derived.Test.YtojefckhefanhaaDoorQg
/- Contracts of the library, laid at this program. -/
namespace Go.Proofs.YtojefckhefanhaaDoor
open Go.Shelf Go.RowKit
def Tryd.lays190_ren : Go.Shelf.Ren := ⟨fun | 190 => 25 | 125 => 43 | 258 => 42 | 128 => 65 | 129 => 66 | 302 => 56 | 303 => 57 | 304 => 58 | 305 => 59 | 306 => 60 | 307 => 61 | 308 => 62 | 309 => 63 | 310 => 64 | 333 => 80 | 329 => 81 | 330 => 82 | 334 => 83 | 335 => 84 | 336 => 85 | 344 => 93 | n => n, fun | 31 => 36 | 9 => 9 | 3 => 3 | 46 => 82 | 0 => 0 | 51 => 69 | 53 => 101 | 4 => 4 | 183 => 110 | 182 => 109 | 131 => 114 | 5 => 5 | 218 => 126 | 222 => 130 | 228 => 140 | 229 => 141 | n => n, fun | n => n⟩
theorem Tryd.lays190 : Go.Proofs.Lays.n190 Tryd.prog Tryd.lays190_ren := {
  mixed := by kernel_rfl
  f125 := Tryd.func43.trans (congrArg some (by kernel_rfl))
  f128 := Tryd.func65.trans (congrArg some (by kernel_rfl))
  f129 := Tryd.func66.trans (congrArg some (by kernel_rfl))
  f190 := Tryd.func25.trans (congrArg some (by kernel_rfl))
  f258 := Tryd.func42.trans (congrArg some (by kernel_rfl))
  f302 := Tryd.func56.trans (congrArg some (by kernel_rfl))
  f303 := Tryd.func57.trans (congrArg some (by kernel_rfl))
  f304 := Tryd.func58.trans (congrArg some (by kernel_rfl))
  f305 := Tryd.func59.trans (congrArg some (by kernel_rfl))
  f306 := Tryd.func60.trans (congrArg some (by kernel_rfl))
  f307 := Tryd.func61.trans (congrArg some (by kernel_rfl))
  f308 := Tryd.func62.trans (congrArg some (by kernel_rfl))
  f309 := Tryd.func63.trans (congrArg some (by kernel_rfl))
  f310 := Tryd.func64.trans (congrArg some (by kernel_rfl))
  f329 := Tryd.func81.trans (congrArg some (by kernel_rfl))
  f330 := Tryd.func82.trans (congrArg some (by kernel_rfl))
  f333 := Tryd.func80.trans (congrArg some (by kernel_rfl))
  f334 := Tryd.func83.trans (congrArg some (by kernel_rfl))
  f335 := Tryd.func84.trans (congrArg some (by kernel_rfl))
  f336 := Tryd.func85.trans (congrArg some (by kernel_rfl))
  f344 := Tryd.func93.trans (congrArg some (by kernel_rfl))
  t0 := Tryd.underlying0
  a0 := Tryd.isAgg0
  z0 := Tryd.sizeOf0
  v0 := Tryd.zeroValue0
  t3 := Tryd.underlying3
  a3 := Tryd.isAgg3
  z3 := Tryd.sizeOf3
  v3 := Tryd.zeroValue3
  t4 := Tryd.underlying4
  a4 := Tryd.isAgg4
  z4 := Tryd.sizeOf4
  v4 := Tryd.zeroValue4
  t5 := Tryd.underlying5
  a5 := Tryd.isAgg5
  z5 := Tryd.sizeOf5
  v5 := Tryd.zeroValue5
  t9 := Tryd.underlying9
  a9 := Tryd.isAgg9
  z9 := Tryd.sizeOf9
  v9 := Tryd.zeroValue9
  t31 := Tryd.underlying36
  a31 := Tryd.isAgg36
  z31 := Tryd.sizeOf36
  v31 := Tryd.zeroValue36
  t46 := Tryd.underlying82
  a46 := Tryd.isAgg82
  z46 := Tryd.sizeOf82
  v46 := Tryd.zeroValue82
  t51 := Tryd.underlying69
  a51 := Tryd.isAgg69
  z51 := Tryd.sizeOf69
  v51 := Tryd.zeroValue69
  t53 := Tryd.underlying101
  a53 := Tryd.isAgg101
  z53 := Tryd.sizeOf101
  v53 := Tryd.zeroValue101
  t131 := Tryd.underlying114
  a131 := Tryd.isAgg114
  z131 := Tryd.sizeOf114
  v131 := Tryd.zeroValue114
  t182 := Tryd.underlying109
  a182 := Tryd.isAgg109
  z182 := Tryd.sizeOf109
  v182 := Tryd.zeroValue109
  t183 := Tryd.underlying110
  a183 := Tryd.isAgg110
  z183 := Tryd.sizeOf110
  v183 := Tryd.zeroValue110
  t218 := Tryd.underlying126
  a218 := Tryd.isAgg126
  z218 := Tryd.sizeOf126
  v218 := Tryd.zeroValue126
  t222 := Tryd.underlying130
  a222 := Tryd.isAgg130
  z222 := Tryd.sizeOf130
  v222 := Tryd.zeroValue130
  t228 := Tryd.underlying140
  a228 := Tryd.isAgg140
  z228 := Tryd.sizeOf140
  v228 := Tryd.zeroValue140
  t229 := Tryd.underlying141
  a229 := Tryd.isAgg141
  z229 := Tryd.sizeOf141
  v229 := Tryd.zeroValue141 }
open Go.Sort Go.RowKit in
theorem Tryd.slices_Sort_string (blk off cap : Nat) (ss : List (List UInt8)) (w : World) (hH : Holds encStr w blk off ss.toArray) (hblk : blk < w.heap.size) (hsz : ss.length < 4611686018427387904) :
    Calls Tryd.prog 25 #[.slice (some ⟨blk, off, none⟩) ss.length cap] w fun e w' =>
      e = .returned (.tuple #[]) ∧ ∃ n os, w' = grow (putRow encStr (Sort.ahead w n) blk off (ss.mergeSort fun x y => decide (x ≤ y)).toArray) os := Any.slices_Sort_string Tryd.lays190 blk off cap ss w hH hblk hsz
end Go.Proofs.YtojefckhefanhaaDoor
/- scan.Scanner's Found, walked (own text of the verifier). -/
namespace Go.Proofs.YtojefckhefanhaaDoor
open Go.RowKit Go.Sort
namespace Sc

theorem gb_sorted {w : World} {g n : Nat} {os : Array Obj} (d : Array (List UInt8)) : w.grownBy (grow (putRow encStr (Sort.ahead w n) g 0 d) os) (some g) :=
  ⟨rfl, rfl, rfl, by simp, fun k hk hn => by
    rw [heap_grow_old _ _ (by simpa using hk)]
    have : g ≠ k := fun e => hn (by rw [e])
    simp [putRow, mapBlock, Array.getElem?_modify, this]⟩
def srt (F : List (List UInt8)) : List (List UInt8) := F.mergeSort fun x y => decide (x ≤ y)
/-- A slice of these texts, in memory of its own. -/
def Tx (w : World) (B : Nat) (v : Value) (L : List (List UInt8)) : Prop := ∃ x c, v = .slice x L.length c ∧ ∀ (j : Nat) (h : List UInt8), L[j]? = some h → ∃ b, x = some ⟨b, 0, none⟩ ∧ B ≤ b ∧ w.cell? ⟨b, j, none⟩ = some (.string (ba h))

set_option maxRecDepth 100000 in
set_option maxHeartbeats 4000000 in
theorem sfound_any (g n : Nat) (kept : List UInt8) (m N : Nat) (S F : List (List UInt8)) (fv : Value) (w : World) (hS : SM w g n kept m N S F fv) (hF : F.length ≤ 268435456) :
    Calls Tryd.prog 10 #[.pointer (some ⟨g, 0, none⟩)] w fun e w' => ∃ v, e = .returned v ∧ Tx w' w.heap.size v (srt F) ∧ Below w.heap.size w w' := by
  have c34 := hS.cf
  have hlen : (srt F).length = F.length := by unfold srt; exact List.length_mergeSort _
  have CC : Calls Tryd.prog 24 #[fv] w fun e w' => ∃ v', e = .returned v' ∧ w'.ownsRow w.heap.size 9 1 v' F.length (tv_ F) ∧ Below w.heap.size w w' := by
    rcases hS.fr with ⟨hl, ⟨hv, h0⟩ | ⟨b, cap, cur, hv, _, hb, h1, _, h3, h4⟩⟩
    · rw [hv]
      refine (cloneS_nil 0 0 w).mono ?_
      rintro e w' ⟨rfl, rfl⟩
      exact ⟨_, rfl, ⟨hl, .inl ⟨rfl, h0⟩⟩, Below.refl _ _⟩
    · rw [hv]
      refine cloneS_any ⟨b, 0, none⟩ F.length cap F w rfl (by omega) (fun j x hj => ?_)
      have hk : cur.toList[j]? = some (.string (ba x)) := by
        have hlt : j < F.length := (List.getElem?_eq_some_iff.1 hj).1
        have : (cur.toList.take (F.length * 1))[j]? = (tv_ F)[j]? := by rw [h4]
        rw [List.getElem?_take, if_pos (by omega)] at this
        rw [this]; unfold tv_; rw [List.getElem?_map, hj]; rfl
      rw [Addr.add_lit, Nat.zero_add, Lib.cell_of_heap hb]
      simpa using hk
  clear hS
  have HL : Hid ((srt F).length = F.length) := hlen
  clear hlen
  go_enter Tryd.func10, Tryd.ntmps10
  go_wp2_with fail
  with_reducible refine CC.mono ?_
  rintro e w1 ⟨v', rfl, ⟨hl, hrow⟩, B1⟩
  clear CC
  have HB : Hid _ := B1
  rcases hrow with ⟨rfl, h0⟩ | ⟨b, cap, cur, rfl, hBb, hb, h1, _, h3, h4⟩
  · go_wp2_with fail
    with_reducible refine (sort_nil _).mono ?_
    rintro e w2 ⟨rfl, rfl⟩
    go_wp2
    go_ret
    have e0 : (srt F).length = 0 := by rw [HL.out]; exact h0
    refine ⟨.slice none 0 0, rfl, ⟨none, 0, by rw [e0], fun j h hj => ?_⟩, HB.out⟩
    have := (List.getElem?_eq_some_iff.1 hj).1
    omega
  · have hH : Holds encStr w1 b 0 F.toArray := fun j hj => by
      have hlt : j < F.length := by simpa using hj
      refine ⟨?_, Lib.frozen_of_heap hb _⟩
      have hk : cur.toList[j]? = some (encStr F[j]) := by
        have : (cur.toList.take (F.length * 1))[j]? = (tv_ F)[j]? := by rw [h4]
        rw [List.getElem?_take, if_pos (by omega)] at this
        rw [this]; unfold tv_; rw [List.getElem?_map, List.getElem?_eq_getElem hlt]; rfl
      rw [Nat.zero_add, Lib.cell_of_heap hb]
      have e2 : F.toArray[j]! = F[j] := by rw [getElem!_pos F.toArray j hj]; simp
      rw [e2]
      simpa using hk
    have hbl : b < w1.heap.size := (Array.getElem?_eq_some_iff.1 hb).1
    have CS := Tryd.slices_Sort_string b 0 cap F w1 hH hbl (by omega)
    have HH : Hid (Holds encStr w1 b 0 F.toArray) := hH
    clear hH h4 hb h3 hl
    go_wp2_with fail
    with_reducible refine CS.mono ?_
    rintro e w2 ⟨rfl, q, os, rfl⟩
    have HB2 : Hid (Below w.heap.size w (grow (putRow encStr (Sort.ahead w1 q) b 0 (F.mergeSort fun x y => decide (x ≤ y)).toArray) os)) := HB.out.grown (gb_sorted _) HB.out.size (fun k hk => by have := Option.some.inj hk; omega)
    have HT : Hid (Tx (grow (putRow encStr (Sort.ahead w1 q) b 0 (F.mergeSort fun x y => decide (x ≤ y)).toArray) os) w.heap.size (.slice (some ⟨b, 0, none⟩) F.length cap) (srt F)) := by
      refine ⟨some ⟨b, 0, none⟩, cap, by rw [HL.out], fun j h hj => ⟨b, rfl, hBb, ?_⟩⟩
      have h2 := holds_grow encStr (putRow encStr (Sort.ahead w1 q) b 0 (F.mergeSort fun x y => decide (x ≤ y)).toArray) os b 0 _ (by simpa using hbl) (holds_putRow encStr (Sort.ahead w1 q) b 0 F.toArray (F.mergeSort fun x y => decide (x ≤ y)).toArray HH.out (by simp))
      have hlt : j < (srt F).length := (List.getElem?_eq_some_iff.1 hj).1
      have h3 := (h2 j (by simpa [srt] using hlt)).1
      rw [Nat.zero_add] at h3
      rw [h3, getElem!_pos _ j (by simpa [srt] using hlt)]
      have h4 : (srt F)[j] = h := by have := List.getElem?_eq_getElem hlt; rw [hj] at this; exact (Option.some.inj this).symm
      have h5 : (F.mergeSort fun x y => decide (x ≤ y)).toArray[j]'(by simpa [srt] using hlt) = h := by rw [← h4]; simp [srt]
      rw [h5]
      rfl
    clear CS HB HH
    generalize grow _ os = w3 at *
    go_wp2
    go_ret
    exact ⟨_, rfl, HT.out, HB2.out⟩

end Sc
end Go.Proofs.YtojefckhefanhaaDoor
/- depotlaw14's texts and ints, walked (own text of the verifier). -/
namespace Go.Proofs.YtojefckhefanhaaDoor
open Go.RowKit
namespace Sc

/-- v is a slice of these texts. -/
def RT (w : World) (B : Nat) (v : Value) (L : List (List UInt8)) : Prop := ∃ x c, v = .slice x L.length c ∧ ∀ i t, L[i]? = some t → ∃ b o, x = some ⟨b, o, none⟩ ∧ b < B ∧ w.cell? ⟨b, o + i, none⟩ = some (.string (ba t))
/-- v is a slice of these numbers. -/
def RI (w : World) (B : Nat) (v : Value) (L : List Nat) : Prop := ∃ x c, v = .slice x L.length c ∧ ∀ i t, L[i]? = some t → ∃ b o, x = some ⟨b, o, none⟩ ∧ b < B ∧ w.cell? ⟨b, o + i, none⟩ = some (.int .i64 ((t : Nat) : Int))
theorem RT.below {w w' : World} {B C : Nat} {v : Value} {L : List (List UInt8)} (h : RT w B v L) (b : Below C w w') (hB : B ≤ C) : RT w' B v L := by
  obtain ⟨x, c, e, h⟩ := h
  refine ⟨x, c, e, fun i t ht => ?_⟩
  obtain ⟨g, o, e1, e2, e3⟩ := h i t ht
  exact ⟨g, o, e1, e2, (b.cell (p := ⟨g, o + i, none⟩) (by show g < C; omega)).trans e3⟩
theorem RI.below {w w' : World} {B C : Nat} {v : Value} {L : List Nat} (h : RI w B v L) (b : Below C w w') (hB : B ≤ C) : RI w' B v L := by
  obtain ⟨x, c, e, h⟩ := h
  refine ⟨x, c, e, fun i t ht => ?_⟩
  obtain ⟨g, o, e1, e2, e3⟩ := h i t ht
  exact ⟨g, o, e1, e2, (b.cell (p := ⟨g, o + i, none⟩) (by show g < C; omega)).trans e3⟩
/-- A row of numbers of one's own. -/
theorem ri_own {w : World} {B : Nat} {v : Value} {L : List Nat} (h : w.ownsRow B 3 1 v L.length (pv_ L)) : RI w w.heap.size v L := by
  have h0 := h
  rcases h.2 with ⟨rfl, e0⟩ | ⟨b, cap, cur, rfl, hBb, hb, h1, _, h3, h4⟩
  · refine ⟨none, 0, by rw [e0], fun i t ht => ?_⟩
    have := (List.getElem?_eq_some_iff.1 ht).1
    omega
  · refine ⟨some ⟨b, 0, none⟩, cap, rfl, fun i t ht => ⟨b, 0, rfl, (Array.getElem?_eq_some_iff.1 hb).1, ?_⟩⟩
    rw [Nat.zero_add]
    have := World.ownsRow.cells (g := b) h0 rfl i (.int .i64 (t : Int)) (by unfold pv_; rw [List.getElem?_map, ht]; rfl)
    rw [Addr.add_lit, Nat.zero_add] at this
    exact this

set_option maxHeartbeats 2000000 in
theorem ints_any (B C : Nat) (v u : Value) (L M : List Nat) (w : World) (hv : RI w B v L) (hu : RI w C u M) (_hl : L.length ≤ 1073741824) (hm : M.length ≤ 1073741824) :
    Calls Tryd.prog 7 #[v, u] w fun e w' => e = .returned (.bool (decide (L = M))) ∧ ∃ q, w' = w.drewN q := by
  obtain ⟨x, c, rfl, hx⟩ := hv
  obtain ⟨y, d, rfl, hy⟩ := hu
  generalize hE : decide (L = M) = E
  have HX : Hid (∀ i t, L[i]? = some t → ∃ b o, x = some ⟨b, o, none⟩ ∧ b < B ∧ w.cell? ⟨b, o + i, none⟩ = some (.int .i64 ((t : Nat) : Int))) := hx
  have HY : Hid (∀ i t, M[i]? = some t → ∃ b o, y = some ⟨b, o, none⟩ ∧ b < C ∧ w.cell? ⟨b, o + i, none⟩ = some (.int .i64 ((t : Nat) : Int))) := hy
  have HE : Hid (decide (L = M) = E) := hE
  clear hx hy hE
  by_cases hnm : L.length = M.length
  · have hee : ((L.length : Int) != (M.length : Int)) = false := by rw [hnm]; simp
    have Hnm : Hid (L.length = M.length) := hnm
    clear hnm
    go_enter Tryd.func7, Tryd.ntmps7
    go_wp2_with fail
    go_loopg [5, 13] L.length (fun gk u5 iv wr => ∃ k : Nat, gk + k = L.length ∧ iv = .int .i64 (k : Int) ∧ Hid (∀ i, i < k → L[i]? = M[i]?) ∧ Hid (∃ q, wr = w.drewN q))
    case atStart => exact ⟨0, rfl, rfl, fun i hi => absurd hi (by omega), 0, rfl⟩
    case round =>
      obtain ⟨k, hgk, rfl, hA, hq⟩ := hrel
      obtain ⟨q, hqq⟩ := hq.out
      subst hqq
      clear hq
      by_cases hk : k < L.length
      · obtain ⟨t, ht⟩ : ∃ t, L[k]? = some t := ⟨_, List.getElem?_eq_getElem hk⟩
        obtain ⟨s, hs⟩ : ∃ s, M[k]? = some s := ⟨_, List.getElem?_eq_getElem (by have := Hnm.out; omega)⟩
        obtain ⟨b1, o1, rfl, -, c1⟩ := HX.out k t ht
        obtain ⟨b2, o2, rfl, -, c2⟩ := HY.out k s hs
        have d1 : (w.drewN q).cell? ⟨b1, o1 + k, none⟩ = some (.int .i64 ((t : Nat) : Int)) := c1
        have d2 : (w.drewN q).cell? ⟨b2, o2 + k, none⟩ = some (.int .i64 ((s : Nat) : Int)) := c2
        have hkm : k < M.length := by have := Hnm.out; omega
        have hk' : (k : Int) < (L.length : Int) := by omega
        have hkm' : (k : Int) < (M.length : Int) := by omega
        by_cases hts : t = s
        · subst hts
          have hA2 : Hid (∀ i, i < k + 1 → L[i]? = M[i]?) := fun i hi => by
            by_cases e : i = k
            · rw [e, ht, hs]
            · exact hA.out i (by omega)
          have he : (((t : Nat) : Int) != ((t : Nat) : Int)) = false := by simp
          clear ht hs
          go_wp2_with fail
          go_quiet (fail)
          generalize hw9 : (w.drewN q).drewN nq = w9
          have HW : Hid (∃ q, w9 = w.drewN q) := ⟨q + nq, by rw [← hw9, World.drewN_drewN]⟩
          clear hw9
          go_wp2
          go_roundg (gk - 1)
          case measure => omega
          case rel => exact ⟨k + 1, by omega, by go_num, hA2, HW⟩
        · have he : (((t : Nat) : Int) == ((s : Nat) : Int)) = false := by rw [beq_eq_false_iff_ne]; omega
          have HF : Hid (E = false) := by
            unfold Hid
            rw [← HE.out]
            refine decide_eq_false (fun e => hts ?_)
            rw [e, hs] at ht
            injection ht with ht
            exact ht.symm
          clear ht hs
          go_wp2_with fail
          go_quiet (fail)
          generalize hw9 : (w.drewN q).drewN nq = w9
          have HW : Hid (∃ q, w9 = w.drewN q) := ⟨q + nq, by rw [← hw9, World.drewN_drewN]⟩
          clear hw9
          go_wp2
          try rw [Exit.noGoto_ret]
          go_ret
          exact ⟨by rw [HF.out]; rfl, HW.out⟩
      · have hk' : ¬ (k : Int) < (L.length : Int) := by omega
        have HF : Hid (E = true) := by
          unfold Hid
          rw [← HE.out]
          refine decide_eq_true (List.ext_getElem? (fun i => ?_))
          by_cases hi : i < k
          · exact hA.out i hi
          · rw [List.getElem?_eq_none (by omega), List.getElem?_eq_none (by have := Hnm.out; omega)]
        go_wp2
        go_ret
        exact ⟨by rw [HF.out]; rfl, _, rfl⟩
  · have hee : ((L.length : Int) != (M.length : Int)) = true := by rw [bne_iff_ne]; omega
    have HF : Hid (E = false) := by
      unfold Hid
      rw [← HE.out]
      exact decide_eq_false (fun e => hnm (by rw [e]))
    go_enter Tryd.func7, Tryd.ntmps7
    go_wp2
    try rw [Exit.noGoto_ret]
    go_ret
    exact ⟨by rw [HF.out]; rfl, 0, rfl⟩

end Sc
end Go.Proofs.YtojefckhefanhaaDoor
