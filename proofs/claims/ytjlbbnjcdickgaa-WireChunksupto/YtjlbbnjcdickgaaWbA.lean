/- Items wherever they lie: longest, plain, alike, framed. -/
import Derived.Test.YtjlbbnjcdickgaaWbP
import Derived.Test.YtjlbbnjcdickgaaWrG
namespace Go.Proofs.Ytjlbbnjcdickgaa
open Go.RowKit

/-- A slice of items, wherever it lies. -/
structure ItRow (w : World) (r : Value) (L : List It) : Prop where
  ex : ∃ x cap, r = .slice x L.length cap ∧ ∀ k (hk : k < L.length), ∃ g o : Nat, x = some ⟨g, o, none⟩ ∧ g < w.heap.size ∧ w.cell? ⟨g, o + k * 3, none⟩ = some (.bool (L[k]).isInt) ∧ w.cell? ⟨g, o + k * 3 + 1, none⟩ = some (.int .u64 ((L[k]).num : Int)) ∧ w.cell? ⟨g, o + k * 3 + 2, none⟩ = some (.string (ba (L[k]).text))
theorem OwnI.row {w : World} {B : Nat} {v : Value} {L : List It} (h : OwnI w B v L) : ItRow w v L := by
  rcases h.open with ⟨rfl, rfl⟩ | ⟨g, cap, rfl, -, hg, -, hcell⟩
  · exact ⟨⟨none, 0, rfl, fun k hk => absurd hk (by simp)⟩⟩
  · refine ⟨⟨_, _, rfl, fun k hk => ⟨g, 0, rfl, hg, ?_, ?_, ?_⟩⟩⟩
    · rw [Nat.zero_add, Nat.mul_comm]; exact (hcell k hk).1
    · rw [Nat.zero_add, Nat.mul_comm]; exact (hcell k hk).2.1
    · rw [Nat.zero_add, Nat.mul_comm]; exact (hcell k hk).2.2
theorem ItRow.below {w w' : World} {B : Nat} {r : Value} {L : List It} (h : ItRow w r L) (b : Below B w w') (hB : w.heap.size ≤ B) : ItRow w' r L := by
  obtain ⟨x, cap, e, hx⟩ := h.ex
  refine ⟨⟨x, cap, e, fun k hk => ?_⟩⟩
  obtain ⟨g, o, h0, h1, h2, h3, h4⟩ := hx k hk
  have hg : g < B := Nat.lt_of_lt_of_le h1 hB
  exact ⟨g, o, h0, Nat.lt_of_lt_of_le h1 b.size, (b.cell (p := ⟨g, _, none⟩) hg).trans h2, (b.cell (p := ⟨g, _, none⟩) hg).trans h3, (b.cell (p := ⟨g, _, none⟩) hg).trans h4⟩
theorem ItRow.alloc {w : World} {r : Value} {L : List It} (h : ItRow w r L) (o : Obj) : ItRow (w.alloc o) r L := h.below ((Below.refl w.heap.size w).alloc (Nat.le_refl _) o) (Nat.le_refl _)
theorem ItRow.sl {w : World} {r : Value} {L : List It} (h : ItRow w r L) : ∃ x cap, r = .slice x L.length cap := by
  obtain ⟨x, cap, e, -⟩ := h.ex
  exact ⟨x, cap, e⟩

/-- The longest text's bytes. -/
def lngS (n : Nat) (i : It) : Nat := if i.isInt = false ∧ n < i.text.length then i.text.length else n
def lngN (L : List It) : Nat := L.foldl lngS 0
theorem lngN_take (L : List It) (k : Nat) (h : k < L.length) : lngN (L.take (k + 1)) = lngS (lngN (L.take k)) L[k] := by
  unfold lngN
  rw [List.take_succ_eq_append_getElem h, List.foldl_append]
  rfl
theorem lng_ge (L : List It) : ∀ n, n ≤ L.foldl lngS n ∧ (∀ i ∈ L, i.isInt = false → i.text.length ≤ L.foldl lngS n) ∧ (L.foldl lngS n = n ∨ ∃ i ∈ L, i.isInt = false ∧ i.text.length = L.foldl lngS n) := by
  induction L with
  | nil => intro n; exact ⟨Nat.le_refl _, fun i hi => absurd hi (by simp), .inl rfl⟩
  | cons a L ih =>
    intro n
    rw [List.foldl_cons]
    obtain ⟨h1, h2, h3⟩ := ih (lngS n a)
    have ha : n ≤ lngS n a ∧ (a.isInt = false → a.text.length ≤ lngS n a) ∧ (lngS n a = n ∨ a.isInt = false ∧ a.text.length = lngS n a) := by
      unfold lngS
      split
      · rename_i h; exact ⟨by omega, fun _ => Nat.le_refl _, .inr ⟨h.1, rfl⟩⟩
      · rename_i h; exact ⟨Nat.le_refl _, fun c => Nat.le_of_not_lt fun c2 => h ⟨c, c2⟩, .inl rfl⟩
    refine ⟨by omega, fun i hi hf => ?_, ?_⟩
    · rcases List.mem_cons.1 hi with rfl | hi
      · have := ha.2.1 hf; omega
      · exact h2 i hi hf
    · rcases h3 with h3 | ⟨i, hi, hf⟩
      · rcases ha.2.2 with e | ⟨e1, e2⟩
        · exact .inl (h3.trans e)
        · exact .inr ⟨a, List.mem_cons_self .., e1, e2.trans h3.symm⟩
      · exact .inr ⟨i, List.mem_cons_of_mem _ hi, hf⟩

set_option maxHeartbeats 2000000 in
theorem longest_any (r : Value) (L : List It) (w : World) (O : ItRow w r L) (hb : ∀ i ∈ L, i.text.length ≤ 1073741824) (hlen : L.length ≤ 1073741824) :
    Calls Try.prog 29 #[r] w fun e w' => e = .returned (.int .i64 (lngN L : Int)) ∧ Below w.heap.size w w' := by
  obtain ⟨x, cap, rfl, hx⟩ := O.ex
  have HX : Hid _ := hx
  have HB : Hid (∀ i ∈ L, i.text.length ≤ 1073741824) := hb
  clear hx hb O
  go_enter Try.func29, Try.ntmps29
  go_wp2
  go_loopw [3, 8] (fun v3 ix wr => ∃ k : Nat, k ≤ L.length ∧ ix = .int .i64 k ∧ v3 = .int .i64 (lngN (L.take k) : Int) ∧ Hid (Below w.heap.size w wr)) (fun _ i _ => L.length - (intOf i).toNat)
  case atStart => exact ⟨0, Nat.zero_le _, rfl, rfl, Below.refl _ _⟩
  case round =>
    obtain ⟨k, hk, rfl, rfl, hB⟩ := hrel
    by_cases hlt : k < L.length
    · obtain ⟨g, o, rfl, hg, c0, c1, c2⟩ := HX.out k hlt
      have d0 : wr.cell? ⟨g, o + k * 3, none⟩ = _ := (hB.out.cell (p := ⟨g, o + k * 3, none⟩) hg).trans c0
      have d1 : wr.cell? ⟨g, o + k * 3 + 1, none⟩ = _ := (hB.out.cell (p := ⟨g, o + k * 3 + 1, none⟩) hg).trans c1
      have d2 : wr.cell? ⟨g, o + k * 3 + 2, none⟩ = _ := (hB.out.cell (p := ⟨g, o + k * 3 + 2, none⟩) hg).trans c2
      have hT : Hid (lngN (L.take (k + 1)) = lngS (lngN (L.take k)) L[k]) := lngN_take L k hlt
      generalize lngN (L.take k) = n at *
      generalize L[k] = it at *
      have hts := ba_size it.text
      have hwz := hB.out.size
      clear c0 c1 c2
      by_cases hi : it.isInt = true
      · have hT2 : Hid (lngN (L.take (k + 1)) = n) := by
          unfold Hid
          rw [hT.out]
          unfold lngS
          rw [if_neg (fun c => by rw [hi] at c; cases c.1)]
        rw [hi] at d0
        clear hT hi
        go_wp2
        go_roundw
        case rel => exact ⟨k + 1, by omega, by go_num, by rw [hT2.out], hB.out.alloc hB.out.size _⟩
        case measure => simp [intOf]; omega
      · have hi' : it.isInt = false := by simpa using hi
        rw [hi'] at d0
        by_cases hn : n < it.text.length
        · have hT2 : Hid (lngN (L.take (k + 1)) = it.text.length) := by
            unfold Hid
            rw [hT.out]
            unfold lngS
            rw [if_pos ⟨hi', hn⟩]
          clear hT hi hi'
          go_wp2
          go_roundw
          case rel => exact ⟨k + 1, by omega, by go_num, by rw [hT2.out], hB.out.alloc hB.out.size _⟩
          case measure => simp [intOf]; omega
        · have hT2 : Hid (lngN (L.take (k + 1)) = n) := by
            unfold Hid
            rw [hT.out]
            unfold lngS
            rw [if_neg (fun c => hn c.2)]
          clear hT hi hi'
          go_wp2
          go_roundw
          case rel => exact ⟨k + 1, by omega, by go_num, by rw [hT2.out], hB.out.alloc hB.out.size _⟩
          case measure => simp [intOf]; omega
    · obtain rfl : k = L.length := by omega
      rw [List.take_length]
      go_wp2
      go_ret
      exact ⟨rfl, hB.out⟩

set_option maxHeartbeats 2000000 in
theorem alike_any (r v : Value) (L : List It) (w : World) (O : ItRow w r L) (O2 : ItRow w v L) (hlen : L.length ≤ 1073741824) :
    Calls Try.prog 26 #[r, v] w fun e w' => e = .returned (.bool true) ∧ Below w.heap.size w w' := by
  obtain ⟨x, cap, rfl, hx⟩ := O.ex
  obtain ⟨y, cap2, rfl, hy⟩ := O2.ex
  have HX : Hid _ := hx
  have HY : Hid _ := hy
  clear hx hy O O2
  go_enter Try.func26, Try.ntmps26
  go_wp2
  go_loopw [5, 13] (fun _ ix wr => ∃ k : Nat, k ≤ L.length ∧ ix = .int .i64 k ∧ Hid (Below w.heap.size w wr)) (fun _ i _ => L.length - (intOf i).toNat)
  case atStart => exact ⟨0, Nat.zero_le _, rfl, Below.refl _ _⟩
  case round =>
    obtain ⟨k, hk, rfl, hB⟩ := hrel
    by_cases hlt : k < L.length
    · obtain ⟨g, o, rfl, hg, c0, c1, c2⟩ := HX.out k hlt
      obtain ⟨f, q, rfl, hf, p0, p1, p2⟩ := HY.out k hlt
      have d0 : wr.cell? ⟨g, o + k * 3, none⟩ = _ := (hB.out.cell (p := ⟨g, o + k * 3, none⟩) hg).trans c0
      have d1 : wr.cell? ⟨g, o + k * 3 + 1, none⟩ = _ := (hB.out.cell (p := ⟨g, o + k * 3 + 1, none⟩) hg).trans c1
      have d2 : wr.cell? ⟨g, o + k * 3 + 2, none⟩ = _ := (hB.out.cell (p := ⟨g, o + k * 3 + 2, none⟩) hg).trans c2
      have q0 : wr.cell? ⟨f, q + k * 3, none⟩ = _ := (hB.out.cell (p := ⟨f, q + k * 3, none⟩) hf).trans p0
      have q1 : wr.cell? ⟨f, q + k * 3 + 1, none⟩ = _ := (hB.out.cell (p := ⟨f, q + k * 3 + 1, none⟩) hf).trans p1
      have q2 : wr.cell? ⟨f, q + k * 3 + 2, none⟩ = _ := (hB.out.cell (p := ⟨f, q + k * 3 + 2, none⟩) hf).trans p2
      generalize L[k] = it at *
      have hwz := hB.out.size
      clear c0 c1 c2 p0 p1 p2
      go_wp2
      go_region
      go_wp2
      go_roundw
      case rel => exact ⟨k + 1, by omega, by go_num, hB.out.drew⟩
      case measure => simp [intOf]; omega
    · obtain rfl : k = L.length := by omega
      go_wp2
      go_ret
      exact ⟨rfl, hB.out⟩

set_option maxHeartbeats 2000000 in
theorem plain_any (r : Value) (L : List It) (w : World) (O : ItRow w r L) (hlen : L.length ≤ 1073741824) :
    Calls Try.prog 27 #[r] w fun e w' => ∃ v, e = .returned v ∧ OwnI w' w.heap.size v (L.map plainI) ∧ Below w.heap.size w w' := by
  obtain ⟨x, cap, rfl, hx⟩ := O.ex
  have HX : Hid _ := hx
  clear hx O
  go_enter Try.func27, Try.ntmps27
  go_wp2
  go_loopw [3, 8] (fun v3 ix wr => ∃ k : Nat, k ≤ L.length ∧ ix = .int .i64 k ∧ Hid (OwnI wr w.heap.size v3 ((L.take k).map plainI)) ∧ Hid (Below w.heap.size w wr)) (fun _ i _ => L.length - (intOf i).toNat)
  case atStart => exact ⟨0, Nat.zero_le _, rfl, OwnI.nil _ _, Below.refl _ _⟩
  case round =>
    obtain ⟨k, hk, rfl, hO, hB⟩ := hrel
    by_cases hlt : k < L.length
    · obtain ⟨g, o, rfl, hg, c0, c1, c2⟩ := HX.out k hlt
      have d0 : wr.cell? ⟨g, o + k * 3, none⟩ = _ := (hB.out.cell (p := ⟨g, o + k * 3, none⟩) hg).trans c0
      have d1 : wr.cell? ⟨g, o + k * 3 + 1, none⟩ = _ := (hB.out.cell (p := ⟨g, o + k * 3 + 1, none⟩) hg).trans c1
      have d2 : wr.cell? ⟨g, o + k * 3 + 2, none⟩ = _ := (hB.out.cell (p := ⟨g, o + k * 3 + 2, none⟩) hg).trans c2
      have HT : Hid ((L.take (k + 1)).map plainI = (L.take k).map plainI ++ [plainI L[k]]) := by
        unfold Hid
        rw [List.take_succ_eq_append_getElem hlt, List.map_append]
        rfl
      have HL : Hid (((L.take k).map plainI).length = k) := by unfold Hid; rw [List.length_map, List.length_take]; omega
      generalize hP : (L.take k).map plainI = P at *
      generalize hI : L[k] = it at *
      have hwz := hB.out.size
      have hPl : P.length ≤ 1073741824 := by have := HL.out; omega
      clear c0 c1 c2 hP hI
      obtain ⟨i0, hi, hz0, hz1, hz2⟩ := info_parts info_it
      by_cases hint : it.isInt = true
      · have HI : Hid (plainI it = ⟨true, it.num, []⟩) := plain_int it hint
        rw [hint] at d0
        clear hint
        go_wp2_with (at_builtin; refine wpList_append_own _ rfl _ _ 28 rfl w.heap.size 71 i0 (.agg #[.bool false, .int .u64 0, .string ByteArray.empty]) 3 32 Try.underlying28 hi hz0 hz1 hz2 rfl (by decide) u3 P.length (P.flatMap itC) rfl ((hO.out.alloc _).alloc _) _ 1 1 (itC (⟨true, it.num, []⟩)) rfl rfl ?c1 ?c2 (by unfold maxLen; omega) (by omega) (by rw [World.size_alloc, World.size_alloc]; omega) ?_)
        case c1 =>
          intro j q hj
          match j, hj with
          | 0, hj => simp [itC] at hj; subst hj; exact (cell_alloc2 _ _ _ _ 0).trans rfl
          | 1, hj => simp [itC] at hj; subst hj; rw [Addr.add_lit]; exact (cell_alloc2 _ _ _ _ 1).trans rfl
          | 2, hj => simp [itC] at hj; subst hj; rw [Addr.add_lit]; exact (cell_alloc2 _ _ _ _ 2).trans rfl
        case c2 => intro q hq; simp [itC] at hq; rcases hq with rfl | rfl | rfl <;> rfl
        intro v6 w6 O6 G6 _
        have O5 : Hid (OwnI w6 w.heap.size v6 (P ++ [plainI it])) := by
          unfold Hid OwnI
          rw [HI.out, List.length_append, List.flatMap_append]
          simpa using O6
        have B6 : Hid (Below w.heap.size w w6) := (((hB.out.alloc hwz _).alloc (by rw [World.size_alloc]; omega) _).trans ((Below.refl _ _).grown G6 (by rw [World.size_alloc, World.size_alloc]; omega) (fun k hk => (hO.out.lt k hk).1)))
        clear O6 G6
        go_wp2
        go_roundw
        case rel => exact ⟨k + 1, by omega, by go_num, by rw [HT.out]; exact O5, B6⟩
        case measure => simp [intOf]; omega
      · have hint' : it.isInt = false := by simpa using hint
        have HI : Hid (plainI it = ⟨false, 0, it.text⟩) := plain_txt it hint'
        rw [hint'] at d0
        clear hint hint'
        go_wp2_with (at_builtin; refine wpList_append_own _ rfl _ _ 28 rfl w.heap.size 71 i0 (.agg #[.bool false, .int .u64 0, .string ByteArray.empty]) 3 32 Try.underlying28 hi hz0 hz1 hz2 rfl (by decide) u3 P.length (P.flatMap itC) rfl ((hO.out.alloc _).alloc _) _ 1 1 (itC (⟨false, 0, it.text⟩)) rfl rfl ?c1 ?c2 (by unfold maxLen; omega) (by omega) (by rw [World.size_alloc, World.size_alloc]; omega) ?_)
        case c1 =>
          intro j q hj
          match j, hj with
          | 0, hj => simp [itC] at hj; subst hj; exact (cell_alloc2 _ _ _ _ 0).trans rfl
          | 1, hj => simp [itC] at hj; subst hj; rw [Addr.add_lit]; exact (cell_alloc2 _ _ _ _ 1).trans rfl
          | 2, hj => simp [itC] at hj; subst hj; rw [Addr.add_lit]; exact (cell_alloc2 _ _ _ _ 2).trans rfl
        case c2 => intro q hq; simp [itC] at hq; rcases hq with rfl | rfl | rfl <;> rfl
        intro v6 w6 O6 G6 _
        have O5 : Hid (OwnI w6 w.heap.size v6 (P ++ [plainI it])) := by
          unfold Hid OwnI
          rw [HI.out, List.length_append, List.flatMap_append]
          simpa using O6
        have B6 : Hid (Below w.heap.size w w6) := (((hB.out.alloc hwz _).alloc (by rw [World.size_alloc]; omega) _).trans ((Below.refl _ _).grown G6 (by rw [World.size_alloc, World.size_alloc]; omega) (fun k hk => (hO.out.lt k hk).1)))
        clear O6 G6
        go_wp2
        go_roundw
        case rel => exact ⟨k + 1, by omega, by go_num, by rw [HT.out]; exact O5, B6⟩
        case measure => simp [intOf]; omega
    · obtain rfl : k = L.length := by omega
      rw [List.take_length] at hO
      go_wp2
      go_ret
      exact ⟨_, rfl, hO.out, hB.out⟩

set_option maxHeartbeats 4000000 in
theorem frm_row (r : Value) (L : List It) (w : World) (O : ItRow w r L) (hb : ∀ i ∈ L, i.num < 18446744073709551616 ∧ i.text.length ≤ 1073741824) (hlen : L.length ≤ 1073741824) (htot : (L.flatMap frI).length ≤ 2147483648) :
    Calls Try.prog 28 #[r] w fun e w' => e = .returned (.tuple #[.string (ba (L.flatMap frI)), .string (ba (L.map plI))]) ∧ Below w.heap.size w w' := by
  obtain ⟨x, cap, rfl, hx⟩ := O.ex
  have HX : Hid _ := hx
  have HB : Hid (∀ i ∈ L, i.num < 18446744073709551616 ∧ i.text.length ≤ 1073741824) := hb
  clear hx hb O
  go_enter Try.func28, Try.ntmps28
  go_wp2
  go_loopw [4, 5, 10] (fun v4 v5 ix wr => ∃ k : Nat, k ≤ L.length ∧ ix = .int .i64 k ∧ Hid (Buf wr w.heap.size v4 ((L.take k).flatMap frI).length (fun j => .int .u8 (bt (ba (L.flatMap frI)) j))) ∧ Hid (Buf wr w.heap.size v5 k (fun j => .int .u8 (bt (ba (L.map plI)) j))) ∧ Hid (Below w.heap.size w wr) ∧ Hid (∀ q, v4.ownBlock = some q → v5.ownBlock ≠ some q)) (fun _ _ i _ => L.length - (intOf i).toNat)
  case atStart => exact ⟨0, Nat.zero_le _, rfl, Buf.nil _ _ _, Buf.nil _ _ _, Below.refl _ _, fun q h => by cases h⟩
  case round =>
    obtain ⟨k, hk, rfl, h4, h5, hB, hS⟩ := hrel
    by_cases hlt : k < L.length
    · obtain ⟨g, o, rfl, hg, c0, c1, c2⟩ := HX.out k hlt
      have d0 : wr.cell? ⟨g, o + k * 3, none⟩ = _ := (hB.out.cell (p := ⟨g, o + k * 3, none⟩) hg).trans c0
      have d1 : wr.cell? ⟨g, o + k * 3 + 1, none⟩ = _ := (hB.out.cell (p := ⟨g, o + k * 3 + 1, none⟩) hg).trans c1
      have d2 : wr.cell? ⟨g, o + k * 3 + 2, none⟩ = _ := (hB.out.cell (p := ⟨g, o + k * 3 + 2, none⟩) hg).trans c2
      have hib := HB.out _ (List.getElem_mem hlt)
      have HF4 : Hid (∀ j, j < (ba (frI L[k])).size → Value.int .u8 (bt (ba (L.flatMap frI)) (((L.take k).flatMap frI).length + j)) = .int .u8 (bt (ba (frI L[k])) j)) := fun j hj => by
        rw [ba_size] at hj
        rw [fl_split L frI k hlt, bt_mid _ _ _ _ hj]
      have HT : Hid (((L.take (k + 1)).flatMap frI).length = ((L.take k).flatMap frI).length + (frI L[k]).length) := by unfold Hid; rw [fl_take L frI k hlt, List.length_append]
      have HN : Hid (((L.take k).flatMap frI).length + (frI L[k]).length ≤ 2147483648) := by
        have := htot
        rw [fl_split L frI k hlt, List.length_append, List.length_append] at this
        unfold Hid; omega
      have HF5 : Hid (bt (ba (L.map plI)) k = ((plI L[k]).toNat : Int)) := by unfold Hid; rw [bt_ba _ _ (by simpa using hlt), List.getElem_map]
      have hp := frI_pos L[k]
      generalize hI : L[k] = it at *
      clear c0 c1 c2 hI
      generalize ((L.take k).flatMap frI).length = n4 at h4 HF4 HT HN
      obtain ⟨i0, hi, hz0, hz1, hz2⟩ := info_parts Try.info5
      have hwsz := hB.out.size
      by_cases hint : it.isInt = true
      · have HI : Hid (frI it = lek 8 it.num ∧ plI it = 105) := by unfold Hid frI plI; rw [hint]; exact ⟨rfl, rfl⟩
        rw [hint] at d0
        go_wp2_with fail
        refine (int_any it.num _ (by omega) (by omega)).mono ?_
        rintro e w1 ⟨rfl, b1⟩
        rw [le8_eq, ← HI.out.1]
        have h4' : Hid (Buf w1 w.heap.size u4 n4 (fun j => .int .u8 (bt (ba (L.flatMap frI)) j))) := (h4.out.alloc _).below b1 (Nat.le_refl _)
        have h5' : Hid (Buf w1 w.heap.size u5 k (fun j => .int .u8 (bt (ba (L.map plI)) j))) := (h5.out.alloc _).below b1 (Nat.le_refl _)
        have B1 : Hid (Below w.heap.size w w1) := (hB.out.alloc hwsz _).trans (b1.mono (by rw [World.size_alloc]; omega))
        have hw1 : w.heap.size ≤ w1.heap.size := B1.out.size
        clear b1 d0 d1 d2
        go_wp2_with (at_builtin; refine wpList_append_bufS _ rfl _ _ 49 9 rfl w.heap.size 5 i0 Try.underlying49 Try.underlying9 hi hz0 hz1 hz2 u4 n4 (fun j => .int .u8 (bt (ba (L.flatMap frI)) j)) rfl h4'.out (ba (frI it)) rfl (by rw [ba_size]; exact hp) HF4.out (by rw [ba_size]; have := HN.out; omega) hw1 ?_)
        intro v4 w2 B4 bb G4 N4
        have h4q : Hid (Buf w2 w.heap.size v4 ((L.take (k + 1)).flatMap frI).length (fun j => .int .u8 (bt (ba (L.flatMap frI)) j))) := by unfold Hid; rw [HT.out]; rw [ba_size] at B4; exact B4
        have h5q : Hid (Buf w2 w.heap.size u5 k (fun j => .int .u8 (bt (ba (L.map plI)) j))) := buf_keep h5'.out G4 hS.out
        have S2 : Hid (∀ q, v4.ownBlock = some q → u5.ownBlock ≠ some q) := fun q hq h => (N4 q hq).elim (fun e => hS.out q e h) (fun e => by have := (h5'.out.lt q h).2; omega)
        have B2 : Hid (Below w.heap.size w w2) := B1.out.trans bb
        have hw2 : w.heap.size ≤ w2.heap.size := B2.out.size
        have hk2 : k ≤ 1073741824 := by omega
        clear B4 bb G4 N4 h4' h5' B1 hw1 h4 h5 hB hwsz
        go_wp2_with (at_builtin; refine wpList_append_bufN _ rfl _ _ 49 rfl w.heap.size 5 i0 (.int .u8 0) 1 Try.underlying49 hi hz0 hz1 hz2 (by decide) rfl u5 k (fun j => .int .u8 (bt (ba (L.map plI)) j)) rfl (h5q.out.alloc _) _ 1 rfl ?c1 rfl (by omega) (by rw [World.size_alloc]; omega) ?_)
        case c1 =>
          show _ = some (Value.int .u8 (bt (ba (L.map plI)) k))
          rw [HF5.out, HI.out.2]
          simp
          try rfl
        intro v5 w3 B5 bb G5 N5
        have h4r : Hid (Buf w3 w.heap.size v4 ((L.take (k + 1)).flatMap frI).length (fun j => .int .u8 (bt (ba (L.flatMap frI)) j))) := buf_keep (h4q.out.alloc _) G5 (fun q h e => S2.out q e h)
        have h5r : Hid (Buf w3 w.heap.size v5 (k + 1) (fun j => .int .u8 (bt (ba (L.map plI)) j))) := B5
        have S3 : Hid (∀ q, v4.ownBlock = some q → v5.ownBlock ≠ some q) := fun q hq h => (N5 q h).elim (fun e => S2.out q hq e) (fun e => by have := (h4q.out.lt q hq).2; first | omega | (rw [World.size_alloc] at e; omega))
        have B3 : Hid (Below w.heap.size w w3) := (B2.out.alloc hw2 _).trans bb
        clear B5 bb G5 N5 h4q h5q S2 B2 hw2
        go_wp2
        go_roundw
        case rel => exact ⟨k + 1, by omega, by go_num, h4r, h5r, B3, S3⟩
        case measure => simp [intOf]; omega
      · have hint' : it.isInt = false := by simpa using hint
        have HI : Hid (frI it = fr8 it.text ∧ plI it = 116) := by unfold Hid frI plI; rw [hint']; exact ⟨rfl, rfl⟩
        rw [hint'] at d0
        have hts := ba_size it.text
        clear hint
        go_wp2_with fail
        refine (text_any (ba it.text) _ (by omega)).mono ?_
        rintro e w1 ⟨rfl, b1⟩
        rw [txt_ba, ← HI.out.1]
        have h4' : Hid (Buf w1 w.heap.size u4 n4 (fun j => .int .u8 (bt (ba (L.flatMap frI)) j))) := (h4.out.alloc _).below b1 (Nat.le_refl _)
        have h5' : Hid (Buf w1 w.heap.size u5 k (fun j => .int .u8 (bt (ba (L.map plI)) j))) := (h5.out.alloc _).below b1 (Nat.le_refl _)
        have B1 : Hid (Below w.heap.size w w1) := (hB.out.alloc hwsz _).trans (b1.mono (by rw [World.size_alloc]; omega))
        have hw1 : w.heap.size ≤ w1.heap.size := B1.out.size
        clear b1 d0 d1 d2
        go_wp2_with (at_builtin; refine wpList_append_bufS _ rfl _ _ 49 9 rfl w.heap.size 5 i0 Try.underlying49 Try.underlying9 hi hz0 hz1 hz2 u4 n4 (fun j => .int .u8 (bt (ba (L.flatMap frI)) j)) rfl h4'.out (ba (frI it)) rfl (by rw [ba_size]; exact hp) HF4.out (by rw [ba_size]; have := HN.out; omega) hw1 ?_)
        intro v4 w2 B4 bb G4 N4
        have h4q : Hid (Buf w2 w.heap.size v4 ((L.take (k + 1)).flatMap frI).length (fun j => .int .u8 (bt (ba (L.flatMap frI)) j))) := by unfold Hid; rw [HT.out]; rw [ba_size] at B4; exact B4
        have h5q : Hid (Buf w2 w.heap.size u5 k (fun j => .int .u8 (bt (ba (L.map plI)) j))) := buf_keep h5'.out G4 hS.out
        have S2 : Hid (∀ q, v4.ownBlock = some q → u5.ownBlock ≠ some q) := fun q hq h => (N4 q hq).elim (fun e => hS.out q e h) (fun e => by have := (h5'.out.lt q h).2; omega)
        have B2 : Hid (Below w.heap.size w w2) := B1.out.trans bb
        have hw2 : w.heap.size ≤ w2.heap.size := B2.out.size
        have hk2 : k ≤ 1073741824 := by omega
        clear B4 bb G4 N4 h4' h5' B1 hw1 h4 h5 hB hwsz
        go_wp2_with (at_builtin; refine wpList_append_bufN _ rfl _ _ 49 rfl w.heap.size 5 i0 (.int .u8 0) 1 Try.underlying49 hi hz0 hz1 hz2 (by decide) rfl u5 k (fun j => .int .u8 (bt (ba (L.map plI)) j)) rfl (h5q.out.alloc _) _ 1 rfl ?c1 rfl (by omega) (by rw [World.size_alloc]; omega) ?_)
        case c1 =>
          show _ = some (Value.int .u8 (bt (ba (L.map plI)) k))
          rw [HF5.out, HI.out.2]
          simp
          try rfl
        intro v5 w3 B5 bb G5 N5
        have h4r : Hid (Buf w3 w.heap.size v4 ((L.take (k + 1)).flatMap frI).length (fun j => .int .u8 (bt (ba (L.flatMap frI)) j))) := buf_keep (h4q.out.alloc _) G5 (fun q h e => S2.out q e h)
        have h5r : Hid (Buf w3 w.heap.size v5 (k + 1) (fun j => .int .u8 (bt (ba (L.map plI)) j))) := B5
        have S3 : Hid (∀ q, v4.ownBlock = some q → v5.ownBlock ≠ some q) := fun q hq h => (N5 q h).elim (fun e => S2.out q hq e) (fun e => by have := (h4q.out.lt q hq).2; first | omega | (rw [World.size_alloc] at e; omega))
        have B3 : Hid (Below w.heap.size w w3) := (B2.out.alloc hw2 _).trans bb
        clear B5 bb G5 N5 h4q h5q S2 B2 hw2
        go_wp2
        go_roundw
        case rel => exact ⟨k + 1, by omega, by go_num, h4r, h5r, B3, S3⟩
        case measure => simp [intOf]; omega
    · obtain rfl : k = L.length := by omega
      have e4 := Buf.str (L.flatMap frI) (h4.out.drew) (by rw [List.take_length])
      have e5 := Buf.str (L.map plI) (h5.out.drew) (by rw [List.length_map])
      go_wp2
      go_region
      go_wp2
      go_ret2
      exact ⟨rfl, hB.out.drew⟩

end Go.Proofs.Ytjlbbnjcdickgaa
