/- append of a text's bytes to a slice that the call owns; framed. -/
import Derived.Test.YtjlbbnjcdickgabWrV
import Derived.Test.YtjlbbnjcdickgabWrW
import Derived.Lib.AppendStr
namespace Go.Proofs.Ytjlbbnjcdickgab
open Go.RowKit Go.Lib

theorem strCells_get (s : ByteArray) (j : Nat) (h : j < s.size) : (strCells s)[j]? = some (.int .u8 (bt s j)) := by
  unfold strCells bt
  rw [dif_pos h, List.getElem?_map, List.getElem?_eq_getElem (by rw [Array.length_toList]; exact h)]
  rfl

theorem szS (w : World) (b o : Nat) (vs : List Value) : (w.setCells b o vs).heap.size = w.heap.size := by
  induction vs generalizing o w with
  | nil => rfl
  | cons v vs ih => exact (ih _ (o + 1)).trans (World.size_setCell _ _ _)
theorem gbS (w : World) (b o : Nat) (vs : List Value) : w.grownBy (w.setCells b o vs) (some b) := by
  induction vs generalizing o w with
  | nil => exact ⟨rfl, rfl, rfl, Nat.le_refl _, fun _ _ _ => rfl⟩
  | cons v vs ih =>
    have h := ih (w.setCell ⟨b, o, none⟩ v) (o + 1)
    refine ⟨h.os, h.tape, h.output, by have := h.size; rw [World.size_setCell] at this; exact this, fun k hk hne => ?_⟩
    exact (h.block k (by simpa using hk) hne).trans (Below.heap_setCell w _ _ k (fun e => hne (congrArg some e)))

theorem run_append_bufS {P : Program} (w : World) (B : Nat) (t u ty e : TypeId) (i : TypeInfo) (ht : P.underlying t = some (.slice e)) (hu : P.underlying u = some .string) (hi : P.info? e = some i) (hz : i.zero = some (.int .u8 0))
    (hsize : i.size = 1) (hby : i.bytes = 1) (v : Value) (n : Nat) (F : Nat → Value) (hown : Buf w B v n F) (s : ByteArray) (hs0 : 0 < s.size) (hF : ∀ j, j < s.size → F (n + j) = .int .u8 (bt s j)) (hn : n + s.size ≤ 2199023255551) (hbase : B ≤ w.heap.size) :
    ∃ v' w', (Builtin.append_ #[t, u] ty #[v, .string s]).run P w = .ok v' w' ∧ Buf w' B v' (n + s.size) F ∧ w.grownBy w' v.ownBlock ∧ ∀ k, v'.ownBlock = some k → v.ownBlock = some k ∨ k = w.heap.size := by
  have hsl := strCells_length s
  have grown : ∀ (old : Nat) (olds : List Value) (C : Array Value), C = olds.toArray ++ (strCells s).toArray ++ Builtin.zeroCells (Value.int .u8 0).cells (grownCap w (n + s.size) old e - (n + s.size)) → olds.length = n → (∀ j, j < n → olds[j]? = some (F j)) →
      Buf (w.drew.alloc (.cells C e)) B (.slice (some ⟨w.heap.size, 0, none⟩) (n + s.size) (grownCap w (n + s.size) old e)) (n + s.size) F := by
    intro old olds C hC ho hOF
    have hge := grownCap_ge w (n + s.size) old e
    have hcm : grownCap w (n + s.size) old e ≤ maxLen := grownCap_le_maxLen w (n + s.size) old e (by unfold maxLen; omega)
    have hcell : ∀ j, (w.drew.alloc (.cells C e)).cell? ⟨w.heap.size, j, none⟩ = C[j]? := fun j => World.cell?_alloc_new w.drew _ _ _
    refine .inr ⟨w.heap.size, _, rfl, hbase, by simp, hge, hcm, fun j hj => ?_, fun j hj => ⟨?_, World.frozen?_alloc_new w.drew _ _ _⟩⟩
    · rw [hcell, hC, Array.getElem?_append_left (by simp [ho, hsl]; omega)]
      by_cases hjn : j < n
      · rw [Array.getElem?_append_left (by simp [ho]; omega)]
        simpa using hOF j hjn
      · rw [Array.getElem?_append_right (by simp [ho]; omega)]
        simp only [List.size_toArray, ho, List.getElem?_toArray]
        rw [strCells_get s (j - n) (by omega), ← hF (j - n) (by omega), show n + (j - n) = j by omega]
    · rw [hcell, hC]
      have : j < (olds.toArray ++ (strCells s).toArray ++ Builtin.zeroCells (Value.int .u8 0).cells (grownCap w (n + s.size) old e - (n + s.size))).size := by
        simp only [Array.size_append, List.size_toArray, size_zeroCells, ho, hsl]
        show j < n + s.size + (grownCap w (n + s.size) old e - (n + s.size)) * 1
        omega
      rw [Array.getElem?_eq_getElem this]; rfl
  have gb : ∀ (cs : Array Value) (row : Option Nat), w.grownBy (w.drew.alloc (.cells cs e)) row := fun cs row => ⟨rfl, rfl, rfl, by simp, fun k hk _ => Below.heap_alloc w.drew _ k hk⟩
  rcases hown with ⟨rfl, rfl⟩ | ⟨g, cap, rfl, hb, hg, hnc, hcm, hc, hf⟩
  · have hr := run_append_nil_string (P := P) w t u ty e i (.int .u8 0) ht hu hi hz s hs0 (by omega) (by rw [hby]; omega)
    refine ⟨_, _, by rw [hr], ?_, gb _ _, fun k hk => .inr (by cases hk; rfl)⟩
    have := grown 0 [] (s.data.map (fun b => Value.int .u8 b.toNat) ++ Builtin.zeroCells (Value.int .u8 0).cells (grownCap w s.size 0 e - s.size)) (by
      simp only [Nat.zero_add]
      congr 1
      apply Array.ext'
      simp [strCells]) rfl (fun j hj => by omega)
    simpa using this
  · by_cases hroom : n + s.size ≤ cap
    · have hff := run_firstCells_string (P := P) w i.size s
      have hst := run_storeCells_cells (P := P) g (n * i.size) (strCells s) 0 w (fun j hj => by
          rw [hsl] at hj
          rw [hsize, Nat.mul_one]
          exact (hf (n + j) (by omega)).1) (fun j hj => by
          rw [hsl] at hj
          rw [hsize, Nat.mul_one]
          exact (hf (n + j) (by omega)).2) (strCells_oneCell s)
      have hr : (Builtin.append_ #[t, u] ty #[.slice (some ⟨g, 0, none⟩) n cap, .string s]).run P w = .ok (.slice (some ⟨g, 0, none⟩) (n + s.size) cap) (w.setCells g n (strCells s)) := by
        simp only [Nat.add_zero, hsize, Nat.mul_one] at hst hff ⊢
        simp [Builtin.append_, run_underlying ht, run_underlying hu, sizeOf, typeInfo, hi, hsize, Builtin.lenOf, hroom, hff, Addr.add_lit, hst]
      have hin := World.cell?_setCells_in g (strCells s) n w (fun j hj => by rw [hsl] at hj; exact (hf (n + j) (by omega)).1)
      have hout : ∀ j, (j < n ∨ n + s.size ≤ j) → (w.setCells g n (strCells s)).cell? ⟨g, j, none⟩ = w.cell? ⟨g, j, none⟩ := fun j hj => World.cell?_setCells_out g _ _ w _ (fun _ _ => by rw [hsl]; exact hj)
      refine ⟨_, _, hr, ?_, ?_, fun k hk => .inl hk⟩
      · refine .inr ⟨g, cap, rfl, hb, by rw [szS]; exact hg, hroom, hcm, fun j hj => ?_, fun j hj => ?_⟩
        · by_cases hjn : j < n
          · rw [hout j (.inl hjn)]; exact hc j hjn
          · have h1 := hin (j - n) (by rw [hsl]; omega)
            rw [show n + (j - n) = j by omega] at h1
            rw [h1]
            have h2 := strCells_get s (j - n) (by omega)
            rw [List.getElem?_eq_getElem (by rw [hsl]; omega)] at h2
            rw [Option.some.inj h2, ← hF (j - n) (by omega), show n + (j - n) = j by omega]
        · rw [World.frozen?_setCells]
          refine ⟨?_, (hf j hj).2⟩
          by_cases hjn : j < n ∨ n + s.size ≤ j
          · rw [hout j hjn]; exact (hf j hj).1
          · have h1 := hin (j - n) (by rw [hsl]; omega)
            rw [show n + (j - n) = j by omega] at h1
            rw [h1]; rfl
      · exact gbS w g n (strCells s)
    · have hr := run_append_grow_string (P := P) w t u ty e i (.int .u8 0) ht hu hi hz ⟨g, 0, none⟩ n cap ((List.range n).map F) (by simp [hsize]) (fun j q hj => by
          simp only [List.getElem?_map] at hj
          by_cases hjn : j < n
          · rw [List.getElem?_range hjn] at hj
            simp at hj; subst hj
            have := hc j hjn
            unfold Addr.add
            split
            · rename_i h0; subst h0; exact this
            · simpa using this
          · rw [List.getElem?_eq_none (by simpa using hjn)] at hj
            simp at hj) s (by omega) (by omega) (by rw [hby]; exact growslice_fits (by omega) (by omega))
      exact ⟨_, _, hr, grown cap _ _ rfl (by simp) (fun j hj => by simp [hj]), gb _ _, fun k hk => .inr (by cases hk; rfl)⟩

theorem wpList_append_bufS {P : Program} (w : World) {ops : Array Oper} {rest : List Oper} {o : Oper} {a : Act} {Q : Exit → Act → World → Prop} (hgd : o.guard = none) (s x : Operand) (t u : TypeId)
    (ho : o.op = .call { callee := .builtin .append, args := #[s, x], argTypes := #[t, u] })
    (B : Nat) (e : TypeId) (i : TypeInfo) (ht : P.underlying t = some (.slice e)) (hu : P.underlying u = some .string) (hi : P.info? e = some i) (hz : i.zero = some (.int .u8 0))
    (hsize : i.size = 1) (hby : i.bytes = 1) (v : Value) (n : Nat) (F : Nat → Value) (hs : a.eval s = v) (hown : Buf w B v n F) (st : ByteArray) (hx : a.eval x = .string st) (hs0 : 0 < st.size) (hF : ∀ j, j < st.size → F (n + j) = .int .u8 (bt st j)) (hn : n + st.size ≤ 2199023255551) (hbase : B ≤ w.heap.size)
    (h : ∀ v' w', Buf w' B v' (n + st.size) F → Below B w w' → w.grownBy w' v.ownBlock → (∀ k, v'.ownBlock = some k → v.ownBlock = some k ∨ k = w.heap.size) → wpList P ops Q rest (a.put o.dst v') w') : wpList P ops Q (o :: rest) a w := by
  obtain ⟨v', w', hr, h2, h3, h4⟩ := run_append_bufS (P := P) w B t u o.type e i ht hu hi hz hsize hby v n F hown st hs0 hF hn hbase
  refine wpList_plain hgd fun _ hK => ?_
  unfold Oper.wp execOp
  simp only [ho, resolve, invoke, builtin, Sem.run_bind, Sem.run_pure, Result.andThen_ok, List.map_toArray, List.map_cons, List.map_nil, hs, hx, hr]
  exact hK _ _ (h v' w' h2 ((Below.refl B w).grown h3 hbase (fun k hk => (hown.lt k hk).1)) h3 h4)

theorem Buf.str {w : World} {B : Nat} {v : Value} {n : Nat} (l : List UInt8) (h : Buf w B v n (fun j => .int .u8 (bt (ba l) j))) (hn : n = l.length) : (convert 32 9 v).run Try.prog w = .ok (.string (ba l)) w := by
  subst hn
  rcases h with ⟨rfl, h0⟩ | ⟨k, cap, rfl, _, _, _, _, hc, hf⟩
  · have e : l = [] := List.eq_nil_of_length_eq_zero h0
    rw [e]
    exact run_convert_bytes_nil w 32 5 Try.underlying32 Try.underlying5 0 0 9 Try.underlying9
  · have r := run_string_row (P := Try.prog) (src := 32) (dst := 9) (c := cap) Try.underlying32 Try.underlying5 Try.underlying9 (f := bt (ba l)) (g := k) (n := l.length) ⟨hc, fun j hj => (hf j (by omega)).2⟩
    rw [r, ← ba_size, strFn_bt]

theorem bt_mid (a b c : List UInt8) (j : Nat) (h : j < b.length) : bt (ba (a ++ (b ++ c))) (a.length + j) = bt (ba b) j := by
  rw [bt_ba _ _ (by simp; omega), bt_ba _ _ h, List.getElem_append_right (by omega)]
  simp [List.getElem_append_left h]
theorem fl_split {β : Type} (L : List It) (f : It → List β) (k : Nat) (hk : k < L.length) : L.flatMap f = (L.take k).flatMap f ++ (f L[k] ++ (L.drop (k + 1)).flatMap f) := by
  conv => lhs; rw [← List.take_append_drop k L, List.drop_eq_getElem_cons hk]
  rw [List.flatMap_append, List.flatMap_cons]
theorem fl_take {β : Type} (L : List It) (f : It → List β) (k : Nat) (hk : k < L.length) : (L.take (k + 1)).flatMap f = (L.take k).flatMap f ++ f L[k] := by
  rw [List.take_succ_eq_append_getElem hk, List.flatMap_append]
  simp
theorem frI_pos (i : It) : 0 < (frI i).length := by
  unfold frI
  split
  · rw [lek_len]; decide
  · rw [fr8_len]; omega
theorem buf_keep {w w' : World} {B : Nat} {v v4 : Value} {n : Nat} {F : Nat → Value} (h : Buf w B v n F) (G : w.grownBy w' v4.ownBlock) (hs : ∀ k, v4.ownBlock = some k → v.ownBlock ≠ some k) : Buf w' B v n F :=
  h.same G.size (fun k hk => G.block k (h.lt k hk).2 (fun e => hs k e.symm hk))

set_option maxHeartbeats 4000000 in
theorem frm_any (r : Value) (L : List It) (w : World) (O : OwnI w 0 r L) (hb : ∀ i ∈ L, i.num < 18446744073709551616 ∧ i.text.length ≤ 1073741824) (hlen : L.length ≤ 1073741824) (htot : (L.flatMap frI).length ≤ 2147483648) :
    Calls Try.prog 7 #[r] w fun e w' => e = .returned (.tuple #[.string (ba (L.flatMap frI)), .string (ba (L.map plI))]) ∧ Below w.heap.size w w' := by
  obtain ⟨x, cap, rfl, hx⟩ : ∃ x cap, r = .slice x L.length cap ∧ (∀ k (hk : k < L.length), ∃ g, x = some ⟨g, 0, none⟩ ∧ g < w.heap.size ∧ w.cell? ⟨g, k * 3, none⟩ = some (.bool (L[k]).isInt) ∧ w.cell? ⟨g, k * 3 + 1, none⟩ = some (.int .u64 ((L[k]).num : Int)) ∧ w.cell? ⟨g, k * 3 + 2, none⟩ = some (.string (ba (L[k]).text))) := by
    rcases O.open with ⟨rfl, rfl⟩ | ⟨g, cap, rfl, -, hg, -, hcell⟩
    · exact ⟨none, 0, rfl, fun k hk => absurd hk (by simp)⟩
    · exact ⟨_, _, rfl, fun k hk => ⟨g, rfl, hg, by rw [Nat.mul_comm]; exact (hcell k hk).1, by rw [Nat.mul_comm]; exact (hcell k hk).2.1, by rw [Nat.mul_comm]; exact (hcell k hk).2.2⟩⟩
  have HX : Hid _ := hx
  have HB : Hid (∀ i ∈ L, i.num < 18446744073709551616 ∧ i.text.length ≤ 1073741824) := hb
  clear hx hb O
  go_enter Try.func7, Try.ntmps7
  go_wp2
  go_loopw [4, 5, 10] (fun v4 v5 ix wr => ∃ k : Nat, k ≤ L.length ∧ ix = .int .i64 k ∧ Hid (Buf wr w.heap.size v4 ((L.take k).flatMap frI).length (fun j => .int .u8 (bt (ba (L.flatMap frI)) j))) ∧ Hid (Buf wr w.heap.size v5 k (fun j => .int .u8 (bt (ba (L.map plI)) j))) ∧ Hid (Below w.heap.size w wr) ∧ Hid (∀ q, v4.ownBlock = some q → v5.ownBlock ≠ some q)) (fun _ _ i _ => L.length - (intOf i).toNat)
  case atStart => exact ⟨0, Nat.zero_le _, rfl, Buf.nil _ _ _, Buf.nil _ _ _, Below.refl _ _, fun q h => by cases h⟩
  case round =>
    obtain ⟨k, hk, rfl, h4, h5, hB, hS⟩ := hrel
    by_cases hlt : k < L.length
    · obtain ⟨g, rfl, hg, c0, c1, c2⟩ := HX.out k hlt
      have d0 : wr.cell? ⟨g, k * 3, none⟩ = _ := (hB.out.cell (p := ⟨g, k * 3, none⟩) hg).trans c0
      have d1 : wr.cell? ⟨g, k * 3 + 1, none⟩ = _ := (hB.out.cell (p := ⟨g, k * 3 + 1, none⟩) hg).trans c1
      have d2 : wr.cell? ⟨g, k * 3 + 2, none⟩ = _ := (hB.out.cell (p := ⟨g, k * 3 + 2, none⟩) hg).trans c2
      have hib := HB.out _ (List.getElem_mem hlt)
      have HF4 : Hid (∀ j, j < (ba (frI L[k])).size → Value.int .u8 (bt (ba (L.flatMap frI)) (((L.take k).flatMap frI).length + j)) = .int .u8 (bt (ba (frI L[k])) j)) := fun j hj => by
        rw [ba_size] at hj
        rw [fl_split L frI k hlt, bt_mid _ _ _ _ hj]
      have HT : Hid (((L.take (k + 1)).flatMap frI).length = ((L.take k).flatMap frI).length + (frI L[k]).length) := by unfold Hid; rw [fl_take L frI k hlt, List.length_append]
      have HN : Hid (((L.take k).flatMap frI).length + (frI L[k]).length ≤ 2147483648) := by
        have := htot
        rw [fl_split L frI k hlt, List.length_append, List.length_append] at this
        unfold Hid; omega
      have HF5 : Hid (bt (ba (L.map plI)) k = ((plI L[k]).toNat : Int)) := by unfold Hid; rw [bt_ba _ _ (by simpa using hlt), List.getElem_map]
      have hp := frI_pos L[k]
      generalize hI : L[k] = it at *
      clear c0 c1 c2 hI
      generalize ((L.take k).flatMap frI).length = n4 at h4 HF4 HT HN
      obtain ⟨i0, hi, hz0, hz1, hz2⟩ := info_parts Try.info5
      have hwsz := hB.out.size
      by_cases hint : it.isInt = true
      · have HI : Hid (frI it = lek 8 it.num ∧ plI it = 105) := by unfold Hid frI plI; rw [hint]; exact ⟨rfl, rfl⟩
        rw [hint] at d0
        go_wp2_with fail
        refine (int_any it.num _ (by omega) (by omega)).mono ?_
        rintro e w1 ⟨rfl, b1⟩
        rw [le8_eq, ← HI.out.1]
        have h4' : Hid (Buf w1 w.heap.size u4 n4 (fun j => .int .u8 (bt (ba (L.flatMap frI)) j))) := (h4.out.alloc _).below b1 (Nat.le_refl _)
        have h5' : Hid (Buf w1 w.heap.size u5 k (fun j => .int .u8 (bt (ba (L.map plI)) j))) := (h5.out.alloc _).below b1 (Nat.le_refl _)
        have B1 : Hid (Below w.heap.size w w1) := (hB.out.alloc hwsz _).trans (b1.mono (by rw [World.size_alloc]; omega))
        have hw1 : w.heap.size ≤ w1.heap.size := B1.out.size
        clear b1 d0 d1 d2
        go_wp2_with (at_builtin; refine wpList_append_bufS _ rfl _ _ 32 9 rfl w.heap.size 5 i0 Try.underlying32 Try.underlying9 hi hz0 hz1 hz2 u4 n4 (fun j => .int .u8 (bt (ba (L.flatMap frI)) j)) rfl h4'.out (ba (frI it)) rfl (by rw [ba_size]; exact hp) HF4.out (by rw [ba_size]; have := HN.out; omega) hw1 ?_)
        intro v4 w2 B4 bb G4 N4
        have h4q : Hid (Buf w2 w.heap.size v4 ((L.take (k + 1)).flatMap frI).length (fun j => .int .u8 (bt (ba (L.flatMap frI)) j))) := by unfold Hid; rw [HT.out]; rw [ba_size] at B4; exact B4
        have h5q : Hid (Buf w2 w.heap.size u5 k (fun j => .int .u8 (bt (ba (L.map plI)) j))) := buf_keep h5'.out G4 hS.out
        have S2 : Hid (∀ q, v4.ownBlock = some q → u5.ownBlock ≠ some q) := fun q hq h => (N4 q hq).elim (fun e => hS.out q e h) (fun e => by have := (h5'.out.lt q h).2; omega)
        have B2 : Hid (Below w.heap.size w w2) := B1.out.trans bb
        have hw2 : w.heap.size ≤ w2.heap.size := B2.out.size
        have hk2 : k ≤ 1073741824 := by omega
        clear B4 bb G4 N4 h4' h5' B1 hw1 h4 h5 hB hwsz
        go_wp2_with (at_builtin; refine wpList_append_bufN _ rfl _ _ 32 rfl w.heap.size 5 i0 (.int .u8 0) 1 Try.underlying32 hi hz0 hz1 hz2 (by decide) rfl u5 k (fun j => .int .u8 (bt (ba (L.map plI)) j)) rfl (h5q.out.alloc _) _ 1 rfl ?c1 rfl (by omega) (by rw [World.size_alloc]; omega) ?_)
        case c1 =>
          show _ = some (Value.int .u8 (bt (ba (L.map plI)) k))
          rw [HF5.out, HI.out.2]
          simp
          try rfl
        intro v5 w3 B5 bb G5 N5
        have h4r : Hid (Buf w3 w.heap.size v4 ((L.take (k + 1)).flatMap frI).length (fun j => .int .u8 (bt (ba (L.flatMap frI)) j))) := buf_keep (h4q.out.alloc _) G5 (fun q h e => S2.out q e h)
        have h5r : Hid (Buf w3 w.heap.size v5 (k + 1) (fun j => .int .u8 (bt (ba (L.map plI)) j))) := B5
        have S3 : Hid (∀ q, v4.ownBlock = some q → v5.ownBlock ≠ some q) := fun q hq h => (N5 q h).elim (fun e => S2.out q hq e) (fun e => by have := (h4q.out.lt q hq).2; first | omega | (rw [World.size_alloc] at e; omega))
        have B3 : Hid (Below w.heap.size w w3) := (B2.out.alloc hw2 _).trans bb
        clear B5 bb G5 N5 h4q h5q S2 B2 hw2
        go_wp2
        go_roundw
        case rel => exact ⟨k + 1, by omega, by go_num, h4r, h5r, B3, S3⟩
        case measure => simp [intOf]; omega
      · have hint' : it.isInt = false := by simpa using hint
        have HI : Hid (frI it = fr8 it.text ∧ plI it = 116) := by unfold Hid frI plI; rw [hint']; exact ⟨rfl, rfl⟩
        rw [hint'] at d0
        have hts := ba_size it.text
        clear hint
        go_wp2_with fail
        refine (text_any (ba it.text) _ (by omega)).mono ?_
        rintro e w1 ⟨rfl, b1⟩
        rw [txt_ba, ← HI.out.1]
        have h4' : Hid (Buf w1 w.heap.size u4 n4 (fun j => .int .u8 (bt (ba (L.flatMap frI)) j))) := (h4.out.alloc _).below b1 (Nat.le_refl _)
        have h5' : Hid (Buf w1 w.heap.size u5 k (fun j => .int .u8 (bt (ba (L.map plI)) j))) := (h5.out.alloc _).below b1 (Nat.le_refl _)
        have B1 : Hid (Below w.heap.size w w1) := (hB.out.alloc hwsz _).trans (b1.mono (by rw [World.size_alloc]; omega))
        have hw1 : w.heap.size ≤ w1.heap.size := B1.out.size
        clear b1 d0 d1 d2
        go_wp2_with (at_builtin; refine wpList_append_bufS _ rfl _ _ 32 9 rfl w.heap.size 5 i0 Try.underlying32 Try.underlying9 hi hz0 hz1 hz2 u4 n4 (fun j => .int .u8 (bt (ba (L.flatMap frI)) j)) rfl h4'.out (ba (frI it)) rfl (by rw [ba_size]; exact hp) HF4.out (by rw [ba_size]; have := HN.out; omega) hw1 ?_)
        intro v4 w2 B4 bb G4 N4
        have h4q : Hid (Buf w2 w.heap.size v4 ((L.take (k + 1)).flatMap frI).length (fun j => .int .u8 (bt (ba (L.flatMap frI)) j))) := by unfold Hid; rw [HT.out]; rw [ba_size] at B4; exact B4
        have h5q : Hid (Buf w2 w.heap.size u5 k (fun j => .int .u8 (bt (ba (L.map plI)) j))) := buf_keep h5'.out G4 hS.out
        have S2 : Hid (∀ q, v4.ownBlock = some q → u5.ownBlock ≠ some q) := fun q hq h => (N4 q hq).elim (fun e => hS.out q e h) (fun e => by have := (h5'.out.lt q h).2; omega)
        have B2 : Hid (Below w.heap.size w w2) := B1.out.trans bb
        have hw2 : w.heap.size ≤ w2.heap.size := B2.out.size
        have hk2 : k ≤ 1073741824 := by omega
        clear B4 bb G4 N4 h4' h5' B1 hw1 h4 h5 hB hwsz
        go_wp2_with (at_builtin; refine wpList_append_bufN _ rfl _ _ 32 rfl w.heap.size 5 i0 (.int .u8 0) 1 Try.underlying32 hi hz0 hz1 hz2 (by decide) rfl u5 k (fun j => .int .u8 (bt (ba (L.map plI)) j)) rfl (h5q.out.alloc _) _ 1 rfl ?c1 rfl (by omega) (by rw [World.size_alloc]; omega) ?_)
        case c1 =>
          show _ = some (Value.int .u8 (bt (ba (L.map plI)) k))
          rw [HF5.out, HI.out.2]
          simp
          try rfl
        intro v5 w3 B5 bb G5 N5
        have h4r : Hid (Buf w3 w.heap.size v4 ((L.take (k + 1)).flatMap frI).length (fun j => .int .u8 (bt (ba (L.flatMap frI)) j))) := buf_keep (h4q.out.alloc _) G5 (fun q h e => S2.out q e h)
        have h5r : Hid (Buf w3 w.heap.size v5 (k + 1) (fun j => .int .u8 (bt (ba (L.map plI)) j))) := B5
        have S3 : Hid (∀ q, v4.ownBlock = some q → v5.ownBlock ≠ some q) := fun q hq h => (N5 q h).elim (fun e => S2.out q hq e) (fun e => by have := (h4q.out.lt q hq).2; first | omega | (rw [World.size_alloc] at e; omega))
        have B3 : Hid (Below w.heap.size w w3) := (B2.out.alloc hw2 _).trans bb
        clear B5 bb G5 N5 h4q h5q S2 B2 hw2
        go_wp2
        go_roundw
        case rel => exact ⟨k + 1, by omega, by go_num, h4r, h5r, B3, S3⟩
        case measure => simp [intOf]; omega
    · obtain rfl : k = L.length := by omega
      have e4 := Buf.str (L.flatMap frI) (h4.out.drew) (by rw [List.take_length])
      have e5 := Buf.str (L.map plI) (h5.out.drew) (by rw [List.length_map])
      go_wp2
      go_region
      go_wp2
      go_ret2
      exact ⟨rfl, hB.out.drew⟩

end Go.Proofs.Ytjlbbnjcdickgab
