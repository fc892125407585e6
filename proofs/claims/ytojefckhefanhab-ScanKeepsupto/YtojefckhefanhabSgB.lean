/- ScanKeeps, walked (own text of the verifier). -/
import Derived.Test.YtojefckhefanhabSgA
import Derived.Test.YtojefckhefanhabSvB
import Derived.Test.YtojefckhefanhabSvD
import Derived.Test.YtojefckhefanhabSaH
import Derived.Lib.LazyBuf
namespace Go.Proofs.Ytojefckhefanhab
open Go.RowKit
namespace Sc

theorem rt_ownk {w : World} {B : Nat} {v : Value} {L : List (List UInt8)} (h : w.ownsRow B 9 1 v L.length (tv_ L)) : RT w w.heap.size v L := by
  match L, h with
  | [], h =>
    obtain ⟨p, c, rfl⟩ := slice_of_row h
    exact ⟨p, c, rfl, fun i t ht => by cases ht⟩
  | a :: l, h =>
    obtain ⟨b, c, rfl, _⟩ := tv_cell (m := 0) h rfl
    refine ⟨_, c, rfl, fun i t ht => ?_⟩
    obtain ⟨b', c', e, hc⟩ := tv_cell h ht
    injection e with e1 _ _
    injection e1 with e1
    injection e1 with e1
    subst e1
    exact ⟨b, 0, rfl, World.block_lt_of_cell? _ _ hc, by rw [Nat.zero_add]; exact hc⟩
theorem app_more (W : World) (B : Nat) (v : Value) (n : Nat) (xs : List Value) (s : ByteArray) (hr : W.ownsRow B 9 1 v n xs) (hB : B ≤ W.heap.size) (hl : n ≤ 268435456) :
    ∃ v' W2, (Builtin.append_ #[23, 23] 23 #[v, .slice (some ⟨W.heap.size, 0, none⟩) 1 1]).run Try.prog (W.alloc (.cells #[.string s] 9)) = .ok v' W2 ∧ (∃ ys, W2.ownsRow B 9 1 v' (n + 1) ys) ∧ W.grownBy W2 v.ownBlock ∧ (v'.ownBlock = v.ownBlock ∨ v'.ownBlock = some (W.heap.size + 1)) := by
  obtain ⟨i0, hi, hz0, hz1, hz2⟩ := info_parts info9
  obtain ⟨v', w2, h1, h2, h3, _, h5⟩ := run_append_own_at (P := Try.prog) (W.alloc (.cells #[.string s] 9)) B 23 23 9 i0 (.string ⟨#[]⟩) 1 16 und22 hi hz0 hz1 hz2 rfl (by decide) v n xs (hr.alloc _) ⟨W.heap.size, 0, none⟩ 1 1 [.string s] rfl (fun j u hj =>
      match j, hj with
      | 0, hj => by simp at hj; subst hj; exact (World.cell?_alloc_new W _ _ 0).trans rfl) (by intro u hu; simp at hu; subst hu; rfl) (by unfold maxLen; omega) (by omega) (by rw [World.size_alloc]; omega)
  rw [World.size_alloc] at h5
  exact ⟨v', w2, h1, ⟨_, h2⟩, (World.grownBy_alloc W _ _).trans h3, h5⟩
theorem app_num (W : World) (B : Nat) (v : Value) (n : Nat) (xs : List Value) (z : Int) (hr : W.ownsRow B 3 1 v n xs) (hB : B ≤ W.heap.size) (hl : n ≤ 268435456) :
    ∃ v' W2, (Builtin.append_ #[35, 35] 35 #[v, .slice (some ⟨W.heap.size, 0, none⟩) 1 1]).run Try.prog (W.alloc (.cells #[.int .i64 z] 3)) = .ok v' W2 ∧ (∃ ys, W2.ownsRow B 3 1 v' (n + 1) ys) ∧ W.grownBy W2 v.ownBlock ∧ (v'.ownBlock = v.ownBlock ∨ v'.ownBlock = some (W.heap.size + 1)) := by
  obtain ⟨i0, hi, hz0, hz1, hz2⟩ := info_parts info3
  obtain ⟨v', w2, h1, h2, h3, _, h5⟩ := run_append_own_at (P := Try.prog) (W.alloc (.cells #[.int .i64 z] 3)) B 35 35 3 i0 (.int .i64 0) 1 8 und41 hi hz0 hz1 hz2 rfl (by decide) v n xs (hr.alloc _) ⟨W.heap.size, 0, none⟩ 1 1 [.int .i64 z] rfl (fun j u hj =>
      match j, hj with
      | 0, hj => by simp at hj; subst hj; exact (World.cell?_alloc_new W _ _ 0).trans rfl) (by intro u hu; simp at hu; subst hu; rfl) (by unfold maxLen; omega) (by omega) (by rw [World.size_alloc]; omega)
  rw [World.size_alloc] at h5
  exact ⟨v', w2, h1, ⟨_, h2⟩, (World.grownBy_alloc W _ _).trans h3, h5⟩
theorem rows_apart {W : World} {B C : Nat} {v u : Value} {n m : Nat} {xs ys : List Value} (h : W.ownsRow B 9 1 v n xs) (k : W.ownsRow C 3 1 u m ys) : ∀ b, v.ownBlock = some b → u.ownBlock ≠ some b := fun b hb hu => by
  obtain ⟨_, h1⟩ := row_cells h b hb
  obtain ⟨_, h2⟩ := row_cells k b hu
  rw [h1] at h2
  injection h2 with h2
  injection h2 with _ h2 _
  exact absurd h2 (by decide)
theorem row_item {W : World} {B : Nat} {e : TypeId} {g n c : Nat} {xs : List Value} (h : W.ownsRow B e 1 (.slice (some ⟨g, 0, none⟩) n c) n xs) {i : Nat} (hi : i < n) : ∃ v, W.cell? ⟨g, i, none⟩ = some v := by
  have hl : xs.length = n * 1 := h.1
  obtain ⟨v, hv⟩ : ∃ v, xs[i]? = some v := ⟨_, List.getElem?_eq_getElem (by omega)⟩
  have := World.ownsRow.cells (g := g) h rfl i v hv
  rw [Addr.add_lit, Nat.zero_add] at this
  exact ⟨v, this⟩
theorem two_stores {w : World} {h0 : Nat} {a b : Value} {T : TypeId} (hb : w.heap[h0]? = some (.cells #[a, b] T (0, 0))) (c : Value) :
    w.cell? ⟨h0, 0, none⟩ = some a ∧ w.frozen? ⟨h0, 0, none⟩ = false ∧ (w.setCell ⟨h0, 0, none⟩ c).cell? ⟨h0, 1, none⟩ = some b ∧ (w.setCell ⟨h0, 0, none⟩ c).frozen? ⟨h0, 1, none⟩ = false ∧ w.cell? ⟨h0, 1, none⟩ = some b ∧ w.frozen? ⟨h0, 1, none⟩ = false := by
  have c1 : w.cell? ⟨h0, 1, none⟩ = some b := by rw [Lib.cell_of_heap hb]; rfl
  refine ⟨by rw [Lib.cell_of_heap hb]; rfl, Lib.frozen_of_heap hb 0, ?_, (World.frozen?_setCell _ _ _ _).trans (Lib.frozen_of_heap hb 1), c1, Lib.frozen_of_heap hb 1⟩
  rw [World.cell?_setCell_other _ _ _ _ (by intro e; injection e with _ e; cases e)]
  exact c1
theorem size5k : ∀ w, (Go.sizeOf 5).run Try.prog w = .ok 1 w := fun w => by
  obtain ⟨i0, hi, hz0, hz1, hz2⟩ := info_parts info5
  simp [Go.sizeOf, typeInfo, hi, hz1]
theorem setCells_onlyk (g : Nat) : ∀ (l : List Value) (o : Nat) (w : World), (w.setCells g o l).heap.size = w.heap.size ∧ (∀ k, k ≠ g → (w.setCells g o l).heap[k]? = w.heap[k]?) ∧ (w.setCells g o l).os = w.os ∧ (w.setCells g o l).tape = w.tape ∧ (w.setCells g o l).output = w.output := by
  intro l
  induction l with
  | nil => intro o w; exact ⟨rfl, fun _ _ => rfl, rfl, rfl, rfl⟩
  | cons a l ih =>
    intro o w
    obtain ⟨h1, h2, h3, h4, h5⟩ := ih (o + 1) (w.setCell ⟨g, o, none⟩ a)
    exact ⟨h1.trans (by simp), fun k hk => (h2 k hk).trans (Below.heap_setCell w _ _ k hk), h3, h4, h5⟩
/-- copy(q, t), q longer than t. -/
theorem copy_k (w : World) (t : ByteArray) (n : Nat) (ht : t.size ≤ n) (g : Nat) (ty : TypeId) (R : Row .u8 w g n (fun _ => 0)) :
    ∃ w', (Builtin.copy_ #[31, 9] ty #[.slice (some ⟨g, 0, none⟩) n n, .string t]).run Try.prog w = .ok (goInt t.size) w' ∧ Row .u8 w' g n (fun j => if j < t.size then bt t j else 0) ∧ w.grownBy w' (some g) := by
  have hr := Go.run_copy_string (P := Try.prog) w 31 9 ty 5 g 0 n n t und30 size5k ht (fun j hj => by rw [Nat.zero_add, R.cell j (by omega)]; rfl) (fun j hj => by rw [Nat.zero_add]; exact R.free j (by omega))
  obtain ⟨s1, s2, s3, s4, s5⟩ := setCells_onlyk g (t.data.toList.map fun x => Value.int .u8 (x.toNat : Int)) 0 w
  have hl : (t.data.toList.map fun x => Value.int .u8 (x.toNat : Int)).length = t.size := by rw [List.length_map, Array.length_toList]; rfl
  refine ⟨_, hr, ⟨fun j hj => ?_, fun j hj => by rw [World.frozen?_setCells]; exact R.free j hj⟩, ⟨s3, s4, s5, Nat.le_of_eq s1.symm, fun i _ hne => s2 i (fun e => hne (by rw [e]))⟩⟩
  by_cases hjt : j < t.size
  · rw [if_pos hjt]
    have := World.cell?_setCells_in g (t.data.toList.map fun x => Value.int .u8 (x.toNat : Int)) 0 w (fun i hi => by rw [Nat.zero_add, R.cell i (by omega)]; rfl) j (by omega)
    rw [Nat.zero_add] at this
    rw [this]
    unfold bt
    rw [dif_pos hjt]
    simp
    rfl
  · rw [if_neg hjt]
    have := World.cell?_setCells_out g (t.data.toList.map fun x => Value.int .u8 (x.toNat : Int)) 0 w ⟨g, j, none⟩ (fun _ _ => .inr (by show 0 + _ ≤ j; omega))
    rw [this]
    exact R.cell j hj

set_option maxRecDepth 100000 in
set_option maxHeartbeats 16000000 in
theorem keeps_walk (X : ByteArray) (mark : Int) (w : World) (hX : X.size ≤ 1048576) (_hm0 : 0 ≤ mark) (_hm1 : mark ≤ 255) :
    Calls Try.prog 3 #[.string X, .int .u8 mark] w fun e w' => e = .returned (.bool true) ∧ Below w.heap.size w w' := by
  go_enter Try.func3, Try.ntmps3
  go_wp2_with fail
  with_reducible refine (awake_any _).mono ?_
  rintro e w1 ⟨rfl, b1⟩
  have HB1 : Hid (Below w.heap.size w w1) := b1
  clear b1
  go_wp2_with fail
  have hbk := heap_alloc_new w1 (.cells #[.string one_, .string two_] 9)
  have hz : (w1.alloc (.cells #[.string one_, .string two_] 9)).heap.size = w1.heap.size + 1 := World.size_alloc _ _
  have B1 : Hid (Below w1.heap.size w1 (w1.alloc (.cells #[.string one_, .string two_] 9))) := (Below.refl _ _).alloc (Nat.le_refl _) _
  obtain ⟨h0, hh0⟩ : ∃ h0, w1.heap.size = h0 := ⟨_, rfl⟩
  have HH0 : Hid (w1.heap.size = h0) := hh0
  have CN : Calls Try.prog 5 #[.slice (some ⟨w1.heap.size, 0, none⟩) 2 2] (w1.alloc (.cells #[.string one_, .string two_] 9)) _ := snew_any [one_, two_] (some ⟨w1.heap.size, 0, none⟩) 2 _ (by simp) (fun j s hj => ⟨_, rfl, by rw [hz]; exact Nat.lt_succ_self _, by
    rw [Addr.add_lit, Nat.zero_add, Lib.cell_of_heap hbk]
    match j, hj with
    | 0, hj => simp at hj; subst hj; rfl
    | 1, hj => simp at hj; subst hj; rfl⟩)
  refine (show Calls Try.prog 5 #[.slice (some ⟨w1.heap.size, 0, none⟩) 2 2] (w1.alloc (.cells #[.string one_, .string two_] 9)) _ from CN.mono ?_)
  rintro e w2 ⟨b2, ⟨⟨s, hs, hbad⟩, rfl⟩ | ⟨_, g, m, S, hg, hm, rfl, SM2, hS⟩⟩
  · exfalso
    rcases List.mem_cons.1 hs with rfl | hs
    · exact hbad h_one
    · rw [List.mem_singleton] at hs
      subst hs
      exact hbad h_two
  clear CN
  rw [hz] at b2 hg hm
  rw [hh0] at b2 hg hm hbk
  have HB2 : Hid (Below w.heap.size w w2) := HB1.out.trans ((B1.out.trans (b2.mono (by omega))).mono HB1.out.size)
  have HK2 : Hid (w2.heap[h0]? = some (.cells #[.string one_, .string two_] 9 (0, 0))) := (b2.block h0 (by omega)).trans hbk
  have HGM : Hid (h0 < g ∧ h0 < m ∧ g < w2.heap.size ∧ m < w2.heap.size) := ⟨hg, hm, SM2.lt, SM2.st.lt⟩
  have HS2 : Hid (SM w2 g 0 [] m 2 S [] (.slice none 0 0)) := SM2
  have HSS : Hid (∀ h, h ∈ S ↔ h ∈ [one_.data.toList, two_.data.toList]) := fun h => by rw [hS h]; simp [eq_comm]
  have HW1 : Hid (w.heap.size ≤ h0) := by unfold Hid; rw [← hh0]; exact HB1.out.size
  rw [hh0]
  clear b2 hg hm SM2 hS hbk B1 HB1 hz hh0
  have CN := newrw_any one_ two_ w2
  go_wp2_with fail
  refine (show Calls Try.prog 6 #[.string one_, .string two_] w2 _ from CN.mono ?_)
  rintro e w3 ⟨b3, ⟨h3, -⟩ | ⟨-, h3, -⟩ | ⟨-, -, gr, hgr, rfl, RM3⟩⟩
  · exact absurd h_one h3
  · exact absurd h_two h3
  clear CN
  have HB3 : Hid (Below w.heap.size w w3) := HB2.out.trans (b3.mono HB2.out.size)
  have hbk : w3.heap[h0]? = some (.cells #[.string one_, .string two_] 9 (0, 0)) := (b3.block h0 (by have := HGM.out; omega)).trans HK2.out
  have HS3 : Hid (SM w3 g 0 [] m 2 S [] (.slice none 0 0)) := HS2.out.below b3
  have HR3 : Hid (RM w3 gr 0 [] one_.data.toList two_.data.toList [] false (.slice none 0 0)) := RM3
  have HGR : Hid (g < gr ∧ m < gr ∧ gr < w3.heap.size) := by have := HGM.out; exact ⟨by omega, by omega, RM3.lt⟩
  obtain ⟨k1, k2, k3, k4, k5, k6⟩ := two_stores hbk (.string (ByteArray.mk #[103, 111, 110, 101]))
  have hLG : h0 < w3.heap.size := by have := HGM.out; have := b3.size; omega
  clear b3 hgr RM3 HB2 HS2 HK2 hbk
  obtain ⟨i0, hi, hz0, hz1, hz2⟩ := info_parts info5
  obtain ⟨nW, hnW⟩ : ∃ nW : Nat, nW = X.size + 20 := ⟨_, rfl⟩
  obtain ⟨N, hN⟩ : ∃ N : Nat, N = nW + 80 := ⟨_, rfl⟩
  have hw1 : (X ++ (ByteArray.mk #[48, 49, 50, 51, 52, 53, 54, 55, 56, 57, 97, 98, 99, 100, 102, 103, 104, 105, 106, 107, 108, 109, 110, 112, 113, 114, 115, 118, 119, 120, 121, 122]).extract 0 20).size = nW := by rw [ByteArray.size_append, hnW]; rfl
  have hw80 : ((nW : Nat) : Int) + 80 = ((N : Nat) : Int) := by omega
  have HN : Hid (nW = X.size + 20 ∧ N = nW + 80) := ⟨hnW, hN⟩
  have hNb : N ≤ 1048676 := by omega
  have hnWN : nW ≤ N := by omega
  clear hnW hN
  have hw2 : Hid ((X ++ (ByteArray.mk #[48, 49, 50, 51, 52, 53, 54, 55, 56, 57, 97, 98, 99, 100, 102, 103, 104, 105, 106, 107, 108, 109, 110, 112, 113, 114, 115, 118, 119, 120, 121, 122]).extract 0 20).data.toList = X.data.toList ++ (one_.extract 0 20).data.toList) := by unfold Hid; rw [ByteArray.data_append, Array.toList_append]; rfl
  have hz20 : ((ByteArray.mk #[48, 49, 50, 51, 52, 53, 54, 55, 56, 57, 97, 98, 99, 100, 102, 103, 104, 105, 106, 107, 108, 109, 110, 112, 113, 114, 115, 118, 119, 120, 121, 122]).extract 0 20).size = 20 := rfl
  go_wp2_with fail
  rw [run_make (P := Try.prog) _ 31 5 i0 (.int .u8 0) und30 hi hz0 .i64 .i64 _ _ (by omega) (by omega) (by rw [hz2]; omega) (by omega)]
  generalize (X ++ (ByteArray.mk #[48, 49, 50, 51, 52, 53, 54, 55, 56, 57, 97, 98, 99, 100, 102, 103, 104, 105, 106, 107, 108, 109, 110, 112, 113, 114, 115, 118, 119, 120, 121, 122]).extract 0 20) = Wh at *
  obtain ⟨w5, hw5⟩ : ∃ w5, (w3.setCell ⟨h0, 0, none⟩ (.string (ByteArray.mk #[103, 111, 110, 101]))).setCell ⟨h0, 1, none⟩ (.string (ByteArray.mk #[103, 111, 110, 101])) = w5 := ⟨_, rfl⟩
  rw [hw5]
  have e5 : ∀ k, k ≠ h0 → w5.heap[k]? = w3.heap[k]? := fun k hk => by rw [← hw5]; exact (Below.heap_setCell _ _ _ k hk).trans (Below.heap_setCell _ _ _ k hk)
  have z5 : w5.heap.size = w3.heap.size := by rw [← hw5]; simp
  have HB5 : Hid (Below w.heap.size w w5) := by rw [← hw5]; exact (HB3.out.setCell (p := ⟨h0, 0, none⟩) HW1.out _).setCell (p := ⟨h0, 1, none⟩) HW1.out _
  have hgm := HGM.out
  have hgr := HGR.out
  have SM5 : SM w5 g 0 [] m 2 S [] (.slice none 0 0) := HS3.out.same (e5 g (by omega)) (e5 m (by omega)) (fun k hk => by cases hk)
  have RM5 : RM w5 gr 0 [] one_.data.toList two_.data.toList [] false (.slice none 0 0) := HR3.out.same (e5 gr (by omega)) (fun k hk => by cases hk)
  have Q0 : Row .u8 (w5.alloc (.cells (madeCells (Value.int .u8 0).cells ((N : Int).toNat * i0.size)) 5)) w5.heap.size N (fun _ => 0) := Row.made (by rw [hz1]; omega)
  have B6 : Below w5.heap.size w5 (w5.alloc (.cells (madeCells (Value.int .u8 0).cells ((N : Int).toNat * i0.size)) 5)) := (Below.refl _ _).alloc (Nat.le_refl _) _
  have Z6 : (w5.alloc (.cells (madeCells (Value.int .u8 0).cells ((N : Int).toNat * i0.size)) 5)).heap.size = w5.heap.size + 1 := World.size_alloc _ _
  generalize w5.alloc (.cells (madeCells (Value.int .u8 0).cells ((N : Int).toNat * i0.size)) 5) = w6 at Q0 B6 Z6 ⊢
  rw [Int.toNat_natCast]
  obtain ⟨q, hq⟩ : ∃ q, w5.heap.size = q := ⟨_, rfl⟩
  obtain ⟨n0, hn0⟩ : ∃ n0, w6.heap.size = n0 := ⟨_, rfl⟩
  have HB6 : Hid (Below w.heap.size w w6) := HB5.out.trans (B6.mono HB5.out.size)
  have HO : Hid (w.heap.size ≤ g ∧ w.heap.size ≤ m ∧ g < gr ∧ m < gr ∧ gr < q ∧ q < n0 ∧ n0 = w6.heap.size ∧ w.heap.size ≤ q) := by
    have := HW1.out
    exact ⟨by omega, by omega, hgr.1, hgr.2.1, by omega, by omega, hn0.symm, by omega⟩
  have HGmne : Hid (m ≠ g) := SM5.apart.1
  have HS6 : Hid (SnQ n0 w6 g m [one_.data.toList, two_.data.toList] []) := ⟨2, [], S, [], _, SM5.below B6, GF.start HSS.out, (fun h hh => by
    rcases List.mem_cons.1 hh with rfl | hh
    · exact isH_of h_one
    · rw [List.mem_singleton] at hh; subst hh; exact isH_of h_two), fun k hk => by cases hk⟩
  have HR6 : Hid (RnQ n0 w6 gr one_.data.toList two_.data.toList [] []) := ⟨[], [], _, RM5.below B6, GS.start _ _, isH_of h_one, (isH_of h_two).len, fun k hk => by cases hk⟩
  have HQ6 : Hid (Row .u8 w6 q N (fun _ => 0)) := by rw [← hq]; exact Q0
  rw [hq]
  clear hq hn0 Z6 B6 Q0 RM5 SM5 hgr hgm HB5 z5 e5 hw5 HB3 HS3 HR3 HGR HGM HW1 HSS k1 k2 k3 k4 k5 k6 hi hz0 hz1 hz2 hLG HH0 hw80 hz20
  obtain ⟨w7, hcp, Q7, G7⟩ := copy_k w6 Wh N (by rw [hw1]; exact hnWN) q 3 HQ6.out
  have HO2 := HO.out
  have HB7 : Hid (Below w.heap.size w w7) := HB6.out.grown G7 HB6.out.size (fun k hk => by have := Option.some.inj hk; omega)
  have HS7 : Hid (SnQ n0 w7 g m [one_.data.toList, two_.data.toList] []) := HS6.out.keep (G7.block g (by omega) (by intro e; have := Option.some.inj e; omega)) (G7.block m (by omega) (by intro e; have := Option.some.inj e; omega)) (fun k _ _ hk hc => G7.block k (Array.getElem?_eq_some_iff.1 hc).1 (by intro e; have := Option.some.inj e; omega))
  have HR7 : Hid (RnQ n0 w7 gr one_.data.toList two_.data.toList [] []) := HR6.out.keep (G7.block gr (by omega) (by intro e; have := Option.some.inj e; omega)) (fun k _ _ hk hc => G7.block k (Array.getElem?_eq_some_iff.1 hc).1 (by intro e; have := Option.some.inj e; omega))
  have HQ7 : Hid (Row .u8 w7 q N (fun j => if j < Wh.size then bt Wh j else 0)) := Q7
  have HZ7 : Hid (n0 ≤ w7.heap.size) := by have := G7.size; unfold Hid; omega
  clear Q7 G7 HB6 HS6 HR6 HQ6 HO2
  go_wp2_with fail
  go_loopg [12] (N - nW) (fun gk iv wr => ∃ k : Nat, gk + k = N ∧ nW ≤ k ∧ iv = .int .i64 (k : Int) ∧ Hid (Row .u8 wr q N (fun j => if j < nW then bt Wh j else if j < k then mark else 0)) ∧ Hid (w7.grownBy wr (some q)))
  case atStart => exact ⟨nW, by omega, Nat.le_refl _, rfl, HQ7.out.congr (fun j hj => by
    rw [hw1]
    by_cases h : j < nW
    · rw [if_pos h, if_pos h]
    · rw [if_neg h, if_neg h, if_neg h]), ⟨rfl, rfl, rfl, Nat.le_refl _, fun _ _ _ => rfl⟩⟩
  case round =>
    obtain ⟨k, hgk, hwk, rfl, hQ, hG⟩ := hrel
    by_cases hk : k < N
    · have c1 := hQ.out.cell k hk
      have c2 := hQ.out.free k hk
      have hQ2 : Hid (Row .u8 (wr.setCell ⟨q, k, none⟩ (.int .u8 mark)) q N (fun j => if j < nW then bt Wh j else if j < k + 1 then mark else 0)) := (hQ.out.set k mark hk).congr (fun j hj => by
        by_cases h : j = k
        · subst h; rw [if_pos rfl, if_neg (by omega), if_pos (by omega)]
        · rw [if_neg h]
          by_cases h2 : j < nW
          · rw [if_pos h2, if_pos h2]
          · rw [if_neg h2, if_neg h2]
            by_cases h3 : j < k
            · rw [if_pos h3, if_pos (by omega)]
            · rw [if_neg h3, if_neg (by omega)])
      have hG2 : Hid (w7.grownBy (wr.setCell ⟨q, k, none⟩ (.int .u8 mark)) (some q)) := gb_tr hG.out (gb_setC wr q k _)
      clear hQ hG
      go_wp2_with fail
      go_roundg (gk - 1)
      case measure => omega
      case rel => exact ⟨k + 1, by omega, by omega, by go_num, hQ2, hG2⟩
    · obtain rfl : k = N := by omega
      have HO2 := HO.out
      have HB8 : Hid (Below w.heap.size w wr) := HB7.out.grown hG.out HB7.out.size (fun k hk => by have := Option.some.inj hk; omega)
      have HS8 : Hid (SnQ n0 wr g m [one_.data.toList, two_.data.toList] []) := HS7.out.keep (hG.out.block g (by have := HZ7.out; omega) (by intro e; have := Option.some.inj e; omega)) (hG.out.block m (by have := HZ7.out; omega) (by intro e; have := Option.some.inj e; omega)) (fun k _ _ hk hc => hG.out.block k (Array.getElem?_eq_some_iff.1 hc).1 (by intro e; have := Option.some.inj e; omega))
      have HR8 : Hid (RnQ n0 wr gr one_.data.toList two_.data.toList [] []) := HR7.out.keep (hG.out.block gr (by have := HZ7.out; omega) (by intro e; have := Option.some.inj e; omega)) (fun k _ _ hk hc => hG.out.block k (Array.getElem?_eq_some_iff.1 hc).1 (by intro e; have := Option.some.inj e; omega))
      have HQ8 : Hid (Row .u8 wr q k (fun j => if j < nW then bt Wh j else mark)) := hQ.out.congr (fun j hj => by
        by_cases h : j < nW
        · rw [if_pos h, if_pos h]
        · rw [if_neg h, if_neg h, if_pos hj])
      have HZ8 : Hid (n0 ≤ wr.heap.size) := Nat.le_trans HZ7.out hG.out.size
      have hwl : Wh.data.toList.length = nW := by rw [size_list]; exact hw1
      have TX : Hid (Txt wr (.slice (some ⟨q, 0, none⟩) nW k) Wh.data.toList) := by
        have := Txt.mk (W := wr) (a := q) (o := 0) (c := k) (l := Wh.data.toList) (by omega) (fun i b hb => by
          have hi : i < nW := by rw [← hwl]; exact (List.getElem?_eq_some_iff.1 hb).1
          rw [Nat.zero_add, HQ8.out.cell i (by omega), if_pos hi]
          have hi2 : i < Wh.size := by rw [hw1]; exact hi
          unfold bt
          rw [dif_pos hi2]
          rw [List.getElem?_eq_getElem (by rw [hwl]; exact hi)] at hb
          injection hb with hb
          rw [← hb]
          rfl)
        rw [hwl] at this
        exact this
      have CF := HS8.out.feed (by omega) (by omega) HZ8.out (.slice (some ⟨q, 0, none⟩) nW k) Wh.data.toList TX.out (fun x l c e => by injection e with e _ _; injection e with e; subst e; show q ≠ g; omega) (by rw [hwl]; show 0 + nW ≤ _; have := HN.out; omega)
      clear hQ hG HB7 HS7 HR7 HQ7 HZ7 HO2
      go_wp2_with fail
      with_reducible refine CF.mono ?_
      rintro e w9 ⟨rfl, S9, U9⟩
      have HO2 := HO.out
      have HB9 : Hid (Below w.heap.size w w9) := ⟨U9.os.trans HB8.out.os, U9.tape.trans HB8.out.tape, U9.output.trans HB8.out.output, Nat.le_trans HB8.out.size U9.size, fun i hi => (U9.low i (by omega) (by omega)).trans (HB8.out.block i hi)⟩
      have HS9 : Hid (SnQ n0 w9 g m [one_.data.toList, two_.data.toList] Wh.data.toList) := S9
      have HR9 : Hid (RnQ n0 w9 gr one_.data.toList two_.data.toList [] []) := HR8.out.un U9 (by omega) (by omega)
      have hq9 : w9.heap[q]? = wr.heap[q]? := U9.low q (by omega) (by omega)
      have HQ9 : Hid (Row .u8 w9 q k (fun j => if j < nW then bt Wh j else mark)) := HQ8.out.same hq9
      have HZ9 : Hid (n0 ≤ w9.heap.size) := Nat.le_trans HZ8.out U9.size
      have TX9 : Txt w9 (.slice (some ⟨q, 0, none⟩) nW k) Wh.data.toList := TX.out.same (fun a n c e _ => by injection e with e _ _; injection e with e; subst e; exact hq9)
      have CF := HR9.out.feed (by omega) HZ9.out (.slice (some ⟨q, 0, none⟩) nW k) Wh.data.toList TX9 (fun x l c e => by injection e with e _ _; injection e with e; subst e; show q ≠ gr; omega) (by rw [hwl]; show 0 + nW ≤ _; have := HN.out; omega)
      clear S9 U9 TX9 TX HB8 HS8 HR8 HQ8 HZ8 HO2 hq9
      go_wp2_with fail
      with_reducible refine CF.mono ?_
      rintro e w10 ⟨ans, rfl, hans, R10, U10⟩
      have HO2 := HO.out
      have HB10 : Hid (Below w.heap.size w w10) := ⟨U10.os.trans HB9.out.os, U10.tape.trans HB9.out.tape, U10.output.trans HB9.out.output, Nat.le_trans HB9.out.size U10.size, fun i hi => (U10.low i (by omega) (by omega)).trans (HB9.out.block i hi)⟩
      have HS10 : Hid (SnQ n0 w10 g m [one_.data.toList, two_.data.toList] Wh.data.toList) := HS9.out.un U10 (by omega) (by omega) (by omega) (by omega)
      have HR10 : Hid (RnQ n0 w10 gr one_.data.toList two_.data.toList Wh.data.toList ans) := R10
      have HQ10 : Hid (Row .u8 w10 q k (fun j => if j < nW then bt Wh j else mark)) := HQ9.out.same (U10.low q (by omega) (by omega))
      have HZ10 : Hid (n0 ≤ w10.heap.size) := Nat.le_trans HZ9.out U10.size
      have HAns : Hid (ans.length ≤ 0 + nW) := by rw [← hwl]; exact hans
      clear CF R10 U10 HB9 HS9 HR9 HQ9 HZ9 HO2 hans
      go_wp2_with fail
      go_loopg [83] k (fun gk iv wx => ∃ i : Nat, gk + i = k ∧ iv = .int .i64 (i : Int) ∧ Hid (Row .u8 wx q k (fun j => if j < i then 101 else if j < nW then bt Wh j else mark)) ∧ Hid (w10.grownBy wx (some q)))
      case atStart => exact ⟨0, rfl, rfl, HQ10.out.congr (fun j hj => by rw [if_neg (Nat.not_lt_zero j)]), ⟨rfl, rfl, rfl, Nat.le_refl _, fun _ _ _ => rfl⟩⟩
      case round =>
        obtain ⟨i, hgi, rfl, hQ, hG⟩ := hrel
        by_cases hi : i < k
        · have hQ2 : Hid (∀ n : Nat, Row .u8 ((wr.drewN n).setCell ⟨q, i, none⟩ (.int .u8 101)) q k (fun j => if j < i + 1 then 101 else if j < nW then bt Wh j else mark)) := fun n => by
            refine ((hQ.out.drewN n).set i 101 hi).congr (fun j hj => ?_)
            by_cases h : j = i
            · subst h; rw [if_pos rfl, if_pos (by omega)]
            · rw [if_neg h]
              by_cases h3 : j < i
              · rw [if_pos h3, if_pos (show j < i + 1 by omega)]
              · rw [if_neg h3, if_neg (show ¬ j < i + 1 by omega)]
          have c2 := hQ.out.free i hi
          by_cases hiw : i < nW
          · have hlt : i < Wh.size := by rw [hw1]; exact hiw
            have c1 : wr.cell? ⟨q, i, none⟩ = some (.int .u8 ((Wh[i]'hlt).toNat : Int)) := by
              have := hQ.out.cell i hi
              rw [if_neg (Nat.lt_irrefl i), if_pos hiw] at this
              unfold bt at this
              rw [dif_pos hlt] at this
              exact this
            have p1 : decide ((i : Int) < (nW : Int)) = true := decide_eq_true (by omega)
            have p2 : decide ((nW : Int) ≤ (i : Int)) = false := decide_eq_false (by omega)
            have p3 : decide (i < nW) = true := decide_eq_true hiw
            have p5 : decide (nW ≤ i) = false := decide_eq_false (by omega)
            have p6 : (((Wh[i]'hlt).toNat : Int) != ((Wh[i]'hlt).toNat : Int)) = false := by simp
            go_wp2_with fail
            go_quiet (fail)
            have hG2 : Hid (w10.grownBy ((wr.drewN nq).setCell ⟨q, i, none⟩ (.int .u8 101)) (some q)) := gb_tr hG.out (gb_tr (b := wr.drewN nq) ⟨rfl, rfl, rfl, Nat.le_refl _, fun _ _ _ => rfl⟩ (gb_setC _ q i _))
            have hQ3 : Hid (Row .u8 ((wr.drewN nq).setCell ⟨q, i, none⟩ (.int .u8 101)) q k (fun j => if j < i + 1 then 101 else if j < nW then bt Wh j else mark)) := hQ2.out _
            have c3 : (wr.drewN nq).cell? ⟨q, i, none⟩ = some (.int .u8 ((Wh[i]'hlt).toNat : Int)) := c1
            have c4 : (wr.drewN nq).frozen? ⟨q, i, none⟩ = false := c2
            clear c1 c2 p1 p2 p3 hQ hG hQ2
            go_wp2_with fail
            go_roundg (gk - 1)
            case measure => omega
            case rel => exact ⟨i + 1, by omega, by go_num, hQ3, hG2⟩
          · have c1 : wr.cell? ⟨q, i, none⟩ = some (.int .u8 mark) := by
              have := hQ.out.cell i hi
              rw [if_neg (Nat.lt_irrefl i), if_neg hiw] at this
              exact this
            have p1 : decide ((i : Int) < (nW : Int)) = false := decide_eq_false (by omega)
            have p2 : decide ((nW : Int) ≤ (i : Int)) = true := decide_eq_true (by omega)
            have p3 : decide (i < nW) = false := decide_eq_false hiw
            have p4 : (mark != mark) = false := by simp
            have p5 : decide (nW ≤ i) = true := decide_eq_true (by omega)
            go_wp2_with fail
            go_quiet (fail)
            have hG2 : Hid (w10.grownBy ((wr.drewN nq).setCell ⟨q, i, none⟩ (.int .u8 101)) (some q)) := gb_tr hG.out (gb_tr (b := wr.drewN nq) ⟨rfl, rfl, rfl, Nat.le_refl _, fun _ _ _ => rfl⟩ (gb_setC _ q i _))
            have hQ3 : Hid (Row .u8 ((wr.drewN nq).setCell ⟨q, i, none⟩ (.int .u8 101)) q k (fun j => if j < i + 1 then 101 else if j < nW then bt Wh j else mark)) := hQ2.out _
            have c3 : (wr.drewN nq).cell? ⟨q, i, none⟩ = some (.int .u8 mark) := c1
            have c4 : (wr.drewN nq).frozen? ⟨q, i, none⟩ = false := c2
            clear c1 c2 p1 p2 p3 hQ hG hQ2
            go_wp2_with fail
            go_roundg (gk - 1)
            case measure => omega
            case rel => exact ⟨i + 1, by omega, by go_num, hQ3, hG2⟩
        · obtain rfl : i = k := by omega
          have HO2 := HO.out
          have HB11 : Hid (Below w.heap.size w wr) := HB10.out.grown hG.out HB10.out.size (fun k hk => by have := Option.some.inj hk; omega)
          have HS11 : Hid (SnQ n0 wr g m [one_.data.toList, two_.data.toList] Wh.data.toList) := HS10.out.keep (hG.out.block g (by have := HZ10.out; omega) (by intro e; have := Option.some.inj e; omega)) (hG.out.block m (by have := HZ10.out; omega) (by intro e; have := Option.some.inj e; omega)) (fun k _ _ hk hc => hG.out.block k (Array.getElem?_eq_some_iff.1 hc).1 (by intro e; have := Option.some.inj e; omega))
          have HR11 : Hid (RnQ n0 wr gr one_.data.toList two_.data.toList Wh.data.toList ans) := HR10.out.keep (hG.out.block gr (by have := HZ10.out; omega) (by intro e; have := Option.some.inj e; omega)) (fun k _ _ hk hc => hG.out.block k (Array.getElem?_eq_some_iff.1 hc).1 (by intro e; have := Option.some.inj e; omega))
          have HZ11 : Hid (n0 ≤ wr.heap.size) := Nat.le_trans HZ10.out hG.out.size
          clear hQ hG HB10 HS10 HR10 HQ10 HZ10
          obtain ⟨y, w12, CV, TX, b12, hy⟩ := conv_str wr (one_.extract 20 32)
          unfold one_ at CV
          have hyg : ∀ z, z < n0 → ∀ x l c, y = .slice (some x) l c → x.block ≠ z := fun z hz x l c e => by have := hy x l c e; have := HZ11.out; omega
          have hl2 : (one_.extract 20 32).data.toList.length = 12 := rfl
          have HB12 : Hid (Below w.heap.size w w12) := HB11.out.trans (b12.mono HB11.out.size)
          have HS12 : Hid (SnQ n0 w12 g m [one_.data.toList, two_.data.toList] Wh.data.toList) := HS11.out.below b12
          have HR12 : Hid (RnQ n0 w12 gr one_.data.toList two_.data.toList Wh.data.toList ans) := HR11.out.below b12
          have HZ12 : Hid (n0 ≤ w12.heap.size) := Nat.le_trans HZ11.out b12.size
          have CF := HS12.out.feed (by omega) (by omega) HZ12.out y _ TX (hyg g (by omega)) (by rw [hwl, hl2]; have := HN.out; omega)
          have hwT : Wh.data.toList ++ (one_.extract 20 32).data.toList = X.data.toList ++ one_.data.toList := by
            rw [hw2.out, List.append_assoc]
            congr 1
          rw [hwT] at CF
          have HwT : Hid (Wh.data.toList ++ (one_.extract 20 32).data.toList = X.data.toList ++ one_.data.toList) := hwT
          clear TX hy hyg b12 HB11 HS11 HR11 HZ11 HO2 hwT
          go_wp2_with fail
          with_reducible refine CF.mono ?_
          rintro e w13 ⟨rfl, S13, U13⟩
          have HO2 := HO.out
          have HB13 : Hid (Below w.heap.size w w13) := ⟨U13.os.trans HB12.out.os, U13.tape.trans HB12.out.tape, U13.output.trans HB12.out.output, Nat.le_trans HB12.out.size U13.size, fun i hi => (U13.low i (by omega) (by omega)).trans (HB12.out.block i hi)⟩
          have HS13 : Hid (SnQ n0 w13 g m [one_.data.toList, two_.data.toList] (X.data.toList ++ one_.data.toList)) := S13
          have HR13 : Hid (RnQ n0 w13 gr one_.data.toList two_.data.toList Wh.data.toList ans) := HR12.out.un U13 (by omega) (by omega)
          have HZ13 : Hid (n0 ≤ w13.heap.size) := Nat.le_trans HZ12.out U13.size
          clear CF CV S13 U13 HB12 HS12 HR12 HZ12
          obtain ⟨y2, w14, CV, TX, b14, hy⟩ := conv_str w13 (one_.extract 20 32)
          unfold one_ at CV
          have hyg : ∀ z, z < n0 → ∀ x l c, y2 = .slice (some x) l c → x.block ≠ z := fun z hz x l c e => by have := hy x l c e; have := HZ13.out; omega
          have HB14 : Hid (Below w.heap.size w w14) := HB13.out.trans (b14.mono HB13.out.size)
          have HS14 : Hid (SnQ n0 w14 g m [one_.data.toList, two_.data.toList] (X.data.toList ++ one_.data.toList)) := HS13.out.below b14
          have HR14 : Hid (RnQ n0 w14 gr one_.data.toList two_.data.toList Wh.data.toList ans) := HR13.out.below b14
          have HZ14 : Hid (n0 ≤ w14.heap.size) := Nat.le_trans HZ13.out b14.size
          have CF := HR14.out.feed (by omega) HZ14.out y2 _ TX (hyg gr (by omega)) (by rw [hwl, hl2]; have := HN.out; omega)
          rw [HwT.out, hwl, hl2] at CF
          clear TX hy hyg b14 HB13 HS13 HR13 HZ13 HO2
          go_wp2_with fail
          with_reducible refine CF.mono ?_
          rintro e w15 ⟨ans2, rfl, hans2, R15, U15⟩
          have HO2 := HO.out
          have HB15 : Hid (Below w.heap.size w w15) := ⟨U15.os.trans HB14.out.os, U15.tape.trans HB14.out.tape, U15.output.trans HB14.out.output, Nat.le_trans HB14.out.size U15.size, fun i hi => (U15.low i (by omega) (by omega)).trans (HB14.out.block i hi)⟩
          have HS15 : Hid (SnQ n0 w15 g m [one_.data.toList, two_.data.toList] (X.data.toList ++ one_.data.toList)) := HS14.out.un U15 (by omega) (by omega) (by omega) (by omega)
          have HR15 : Hid (RnQ n0 w15 gr one_.data.toList two_.data.toList (X.data.toList ++ one_.data.toList) (ans ++ ans2)) := R15
          have HZ15 : Hid (n0 ≤ w15.heap.size) := Nat.le_trans HZ14.out U15.size
          have hcat : ba ans ++ ba ans2 = ba (ans ++ ans2) := by
            apply ByteArray.ext
            simp [ba]
          have hz1 := ba_size ans
          have hz2 := ba_size ans2
          have hno : ¬ 9223372036854775807 < (ba ans).size + (ba ans2).size := by have := HAns.out; have := HN.out; omega
          have CC := HR15.out.close (by omega) HZ15.out
          clear CF CV R15 U15 HB14 HS14 HR14 HZ14 HO2
          go_wp2_with fail
          with_reducible refine CC.mono ?_
          rintro e w16 ⟨ans3, rfl, hall, R16, U16⟩
          have HO2 := HO.out
          have HB16 : Hid (Below w.heap.size w w16) := ⟨U16.os.trans HB15.out.os, U16.tape.trans HB15.out.tape, U16.output.trans HB15.out.output, Nat.le_trans HB15.out.size U16.size, fun i hi => (U16.low i (by omega) (by omega)).trans (HB15.out.block i hi)⟩
          have HS16 : Hid (SnQ n0 w16 g m [one_.data.toList, two_.data.toList] (X.data.toList ++ one_.data.toList)) := HS15.out.un U16 (by omega) (by omega) (by omega) (by omega)
          have HR16 : Hid (RcQ n0 w16 gr one_.data.toList two_.data.toList (X.data.toList ++ one_.data.toList)) := R16
          have HZ16 : Hid (n0 ≤ w16.heap.size) := Nat.le_trans HZ15.out U16.size
          have hTl : (X.data.toList ++ one_.data.toList).length = X.size + 32 := by rw [List.length_append, size_list]; rfl
          have hrl : (rw' one_.data.toList two_.data.toList (X.data.toList ++ one_.data.toList)).length = X.size + 32 := by rw [rw_len (isH_of h_two).len, hTl]
          have hl3 : (ans ++ ans2).length + ans3.length = X.size + 32 := by rw [← hrl, ← hall]; exact List.length_append.symm
          have hcat2 : ba (ans ++ ans2) ++ ba ans3 = ba (rw' one_.data.toList two_.data.toList (X.data.toList ++ one_.data.toList)) := by
            rw [← hall]
            apply ByteArray.ext
            simp [ba]
          have hz3 := ba_size (ans ++ ans2)
          have hz4 := ba_size ans3
          have hno2 : ¬ 9223372036854775807 < (ba (ans ++ ans2)).size + (ba ans3).size := by omega
          have hX1 : (X ++ (ByteArray.mk #[48, 49, 50, 51, 52, 53, 54, 55, 56, 57, 97, 98, 99, 100, 102, 103, 104, 105, 106, 107, 108, 109, 110, 112, 113, 114, 115, 118, 119, 120, 121, 122])).data.toList = X.data.toList ++ one_.data.toList := by rw [ByteArray.data_append, Array.toList_append]; rfl
          have hX1z : (X ++ (ByteArray.mk #[48, 49, 50, 51, 52, 53, 54, 55, 56, 57, 97, 98, 99, 100, 102, 103, 104, 105, 106, 107, 108, 109, 110, 112, 113, 114, 115, 118, 119, 120, 121, 122])).size = X.size + 32 := by rw [ByteArray.size_append]; rfl
          have CR := rewrite_any (X ++ (ByteArray.mk #[48, 49, 50, 51, 52, 53, 54, 55, 56, 57, 97, 98, 99, 100, 102, 103, 104, 105, 106, 107, 108, 109, 110, 112, 113, 114, 115, 118, 119, 120, 121, 122])) one_ two_ w16 (by omega)
          rw [hX1] at CR
          clear CC R16 U16 HB15 HS15 HR15 HZ15 HO2 hall hcat hno hz1 hz2
          have ho32 : (ByteArray.mk #[48, 49, 50, 51, 52, 53, 54, 55, 56, 57, 97, 98, 99, 100, 102, 103, 104, 105, 106, 107, 108, 109, 110, 112, 113, 114, 115, 118, 119, 120, 121, 122]).size = 32 := rfl
          go_wp2_with fail
          refine (show Calls Try.prog 10 #[.string (X ++ (ByteArray.mk #[48, 49, 50, 51, 52, 53, 54, 55, 56, 57, 97, 98, 99, 100, 102, 103, 104, 105, 106, 107, 108, 109, 110, 112, 113, 114, 115, 118, 119, 120, 121, 122])), .string one_, .string two_] w16 _ from CR.mono ?_)
          rintro e w17 ⟨b17, ⟨h1, -⟩ | ⟨_, h2, -⟩ | ⟨-, -, v, own, rfl⟩⟩
          · exact absurd h_one h1
          · exact absurd h_two h2
          have HB17 : Hid (Below w.heap.size w w17) := HB16.out.trans (b17.mono HB16.out.size)
          have HS17 : Hid (SnQ n0 w17 g m [one_.data.toList, two_.data.toList] (X.data.toList ++ one_.data.toList)) := HS16.out.below b17
          have HR17 : Hid (RcQ n0 w17 gr one_.data.toList two_.data.toList (X.data.toList ++ one_.data.toList)) := HR16.out.below b17
          have hocc : occ one_.data.toList (X.data.toList ++ one_.data.toList) := by
            have := occ_mid X.data.toList one_.data.toList [] rfl
            rw [List.append_nil] at this
            exact this
          have RV17 : Hid (RI w17 w17.heap.size v (pl one_.data.toList 0 (X.data.toList ++ one_.data.toList))) := ri_own own
          have hTb : (X.data.toList ++ one_.data.toList).length ≤ 268435456 := by omega
          have CA := HS17.out.found hTb
          have hPb : (pl one_.data.toList 0 (X.data.toList ++ one_.data.toList)).length ≤ 1048608 := by have := pl_len one_.data.toList 0 (X.data.toList ++ one_.data.toList); omega
          have hPp : 0 < (pl one_.data.toList 0 (X.data.toList ++ one_.data.toList)).length := List.length_pos_iff.2 ((pl_occ rfl _ 0).2 hocc)
          clear CR b17 own HB16 HS16 HR16 HZ16 hcat2 hno2 hz3 hz4 hl3 hX1 hX1z ho32
          generalize hPe : pl one_.data.toList 0 (X.data.toList ++ one_.data.toList) = P at *
          generalize rw' one_.data.toList two_.data.toList (X.data.toList ++ one_.data.toList) = R at *
          go_wp2_with fail
          with_reducible refine CA.mono ?_
          rintro e w18 ⟨va, F, rfl, oa, nd, mem, -, b18⟩
          have hA := two_found nd mem hocc
          have hFA : F.length = (srt F).length := (List.length_mergeSort _).symm
          rw [hFA] at oa
          have CB := (HS17.out.below b18).found hTb
          clear CA
          go_wp2_with fail
          with_reducible refine CB.mono ?_
          rintro e w19 ⟨vb, F2, rfl, ob, nd2, mem2, -, b19⟩
          have hF2 : srt F2 = srt F := srt_is nd2 (srt_rising F nd) (fun h => (mem2 h).trans ((mem h).symm.trans (srt_mem F h).symm))
          have hFB : F2.length = (srt F).length := by rw [← hF2]; exact (List.length_mergeSort _).symm
          rw [hFB, hF2] at ob
          have HLN : Hid (∀ F' : List (List UInt8), F'.Nodup → (∀ h, h ∈ F' ↔ h ∈ [one_.data.toList, two_.data.toList] ∧ occ h (X.data.toList ++ one_.data.toList)) → F'.length = (srt F).length) := fun F' n1 m1 => by
            have h9 : srt F' = srt F := srt_is n1 (srt_rising F nd) (fun h => (m1 h).trans ((mem h).symm.trans (srt_mem F h).symm))
            rw [← h9]
            exact (List.length_mergeSort _).symm
          generalize srt F = A at *
          have Ha : Hid (w18.ownsRow w17.heap.size 9 1 va A.length (tv_ A)) := oa
          have Hb : Hid (w19.ownsRow w18.heap.size 9 1 vb A.length (tv_ A)) := ob
          have HA : Hid (A[0]? = some one_.data.toList ∧ 0 < A.length ∧ A.length ≤ 2) := by
            rcases hA with e | e <;> rw [e] <;> exact ⟨rfl, by simp, by simp⟩
          have B18 : Hid (Below w17.heap.size w17 w18) := b18
          have B19 : Hid (Below w18.heap.size w18 w19) := b19
          have CX := (HR17.out.below (b18.trans (b19.mono b18.size))).ps hTb
          rw [hPe] at CX
          clear CB oa ob nd mem nd2 mem2 hFA hFB hF2 hA b18 b19
          go_wp2_with fail
          with_reducible refine CX.mono ?_
          rintro e w20 ⟨vx, rfl, ox, b20⟩
          have Hx : Hid (w20.ownsRow w19.heap.size 3 1 vx P.length (pv_ P)) := ox
          have B20 : Hid (Below w19.heap.size w19 w20) := b20
          have B1720 : Hid (Below w17.heap.size w17 w20) := B18.out.trans ((B19.out.trans (b20.mono B19.out.size)).mono B18.out.size)
          have CY := (HR17.out.below B1720.out).ps hTb
          rw [hPe] at CY
          clear CX ox b20
          go_wp2_with fail
          with_reducible refine CY.mono ?_
          rintro e w21 ⟨vy, rfl, oy, b21⟩
          have Hy : Hid (w21.ownsRow w20.heap.size 3 1 vy P.length (pv_ P)) := oy
          have B21 : Hid (Below w20.heap.size w20 w21) := b21
          have B1721 : Hid (Below w17.heap.size w17 w21) := B1720.out.trans (b21.mono B1720.out.size)
          have Ha21 : Hid (w21.ownsRow w17.heap.size 9 1 va A.length (tv_ A)) := row_same Ha.out (fun k hk => by
            have := (World.ownsRow.lt Ha.out k hk).2
            rw [b21.block k (by have := B19.out.size; have := B20.out.size; omega), B20.out.block k (by have := B19.out.size; omega), B19.out.block k this])
          have Hb21 : Hid (w21.ownsRow w18.heap.size 9 1 vb A.length (tv_ A)) := row_same Hb.out (fun k hk => by
            have := (World.ownsRow.lt Hb.out k hk).2
            rw [b21.block k (by have := B20.out.size; omega), B20.out.block k this])
          have Hx21 : Hid (w21.ownsRow w19.heap.size 3 1 vx P.length (pv_ P)) := row_same Hx.out (fun k hk => b21.block k (World.ownsRow.lt Hx.out k hk).2)
          have HSZ : Hid (w17.heap.size ≤ w18.heap.size ∧ w18.heap.size ≤ w19.heap.size ∧ w19.heap.size ≤ w20.heap.size ∧ w20.heap.size ≤ w21.heap.size ∧ (∀ k, va.ownBlock = some k → k < w18.heap.size) ∧ (∀ k, vb.ownBlock = some k → k < w19.heap.size) ∧ (∀ k, vx.ownBlock = some k → k < w20.heap.size)) := ⟨B18.out.size, B19.out.size, B20.out.size, b21.size, fun k hk => (World.ownsRow.lt Ha.out k hk).2, fun k hk => (World.ownsRow.lt Hb.out k hk).2, fun k hk => (World.ownsRow.lt Hx.out k hk).2⟩
          obtain ⟨ka, ca, rfl, cella⟩ := tv_cell Ha21.out HA.out.1
          rw [ba_list] at cella
          clear CY oy b21 B1720 B20 B19 B18 B21 Ha Hb Hx
          have hA1 := HA.out
          have l1 : ¬ ((A.length : Int) < 1) := by omega
          have e1 : one_.toList = [48, 49, 50, 51, 52, 53, 54, 55, 56, 57, 97, 98, 99, 100, 102, 103, 104, 105, 106, 107, 108, 109, 110, 112, 113, 114, 115, 118, 119, 120, 121, 122] := by rw [ByteArray.toList_eq]; rfl
          have CT := texts_any _ _ _ vb A A w21 (rt_ownk Ha21.out) (rt_ownk Hb21.out) (by omega) (by omega)
          rw [decide_eq_true rfl] at CT
          have hRR : ((ba R).toList != (ba R).toList) = false := by simp
          go_wp2_with fail
          with_reducible refine CT.mono ?_
          rintro e w22 ⟨rfl, q22, hq22⟩
          have e22 : ∀ k : Nat, w22.heap[k]? = w21.heap[k]? := fun k => by rw [hq22]; rfl
          have B2122 : Below w21.heap.size w21 w22 := by rw [hq22]; exact bel_drewN (Below.refl _ _) q22
          have B1722 : Below w17.heap.size w17 w22 := B1721.out.trans (B2122.mono B1721.out.size)
          have CI := ints_any _ _ vx v P P w22 (ri_own (row_same Hx21.out (fun k _ => e22 k))) (RI.below RV17.out B1722 (Nat.le_refl _)) (by omega) (by omega)
          rw [decide_eq_true rfl] at CI
          have z22 : Hid (w22.heap.size = w21.heap.size) := by rw [hq22]; rfl
          clear CT B2122 hq22
          go_wp2_with fail
          with_reducible refine CI.mono ?_
          rintro e w23 ⟨rfl, q23, hq23⟩
          have e23 : ∀ k : Nat, w23.heap[k]? = w21.heap[k]? := fun k => by rw [hq23]; exact e22 k
          have B1723 : Below w17.heap.size w17 w23 := by rw [hq23]; exact bel_drewN B1722 q23
          have z23 : w23.heap.size = w21.heap.size := by rw [hq23]; exact z22.out
          have CI2 := ints_any _ _ vy v P P w23 (ri_own (row_same Hy.out (fun k _ => e23 k))) (RI.below RV17.out B1723 (Nat.le_refl _)) (by omega) (by omega)
          rw [decide_eq_true rfl] at CI2
          clear CI B1722 e22 z22 hq23
          go_wp2_with fail
          with_reducible refine CI2.mono ?_
          rintro e w24 ⟨rfl, q24, hq24⟩
          have e24 : ∀ k : Nat, w24.heap[k]? = w21.heap[k]? := fun k => by rw [hq24]; exact e23 k
          have B1724 : Hid (Below w17.heap.size w17 w24) := by rw [hq24]; exact bel_drewN B1723 q24
          have Z24 : Hid (w24.heap.size = w21.heap.size) := by rw [hq24]; exact z23
          have Ha24 : Hid (∃ xs, w24.ownsRow w17.heap.size 9 1 (.slice (some ⟨ka, 0, none⟩) A.length ca) A.length xs) := ⟨_, row_same Ha21.out (fun k _ => e24 k)⟩
          have Hb24 : Hid (w24.ownsRow w18.heap.size 9 1 vb A.length (tv_ A)) := row_same Hb21.out (fun k _ => e24 k)
          have Hx24 : Hid (w24.ownsRow w19.heap.size 3 1 vx P.length (pv_ P)) := row_same Hx21.out (fun k _ => e24 k)
          have Hy24 : Hid (w24.ownsRow w20.heap.size 3 1 vy P.length (pv_ P)) := row_same Hy.out (fun k _ => e24 k)
          have HKA : Hid (w17.heap.size ≤ ka ∧ ka < w18.heap.size) := ⟨(World.ownsRow.lt Ha21.out ka rfl).1, HSZ.out.2.2.2.2.1 ka rfl⟩
          clear CI2 B1723 e23 z23 e24 hq24 Ha21 Hb21 Hx21 Hy cella hRR e1 B1721
          go_wp2_with fail
          go_loopg [181] A.length (fun gk iv wr => ∃ i : Nat, gk + i = A.length ∧ iv = .int .i64 (i : Int) ∧ Hid (∃ xs, wr.ownsRow w17.heap.size 9 1 (.slice (some ⟨ka, 0, none⟩) A.length ca) A.length xs) ∧ Hid (w24.grownBy wr (some ka)))
          case atStart => exact ⟨0, rfl, rfl, Ha24, ⟨rfl, rfl, rfl, Nat.le_refl _, fun _ _ _ => rfl⟩⟩
          case round =>
            obtain ⟨j, hgj, rfl, hR, hG⟩ := hrel
            by_cases hj : j < A.length
            · obtain ⟨xs, hxs⟩ := hR.out
              obtain ⟨cv, c1⟩ := row_item hxs hj
              have c2 := hxs.frozenAt j
              obtain ⟨s1, s2⟩ := hxs.stored j (.string (ByteArray.mk #[115, 112, 111, 105, 108, 116]))
              have hR2 : Hid (∃ xs, (wr.setCell ⟨ka, j, none⟩ (.string (ByteArray.mk #[115, 112, 111, 105, 108, 116]))).ownsRow w17.heap.size 9 1 (.slice (some ⟨ka, 0, none⟩) A.length ca) A.length xs) := ⟨_, s1⟩
              have hG2 : Hid (w24.grownBy (wr.setCell ⟨ka, j, none⟩ (.string (ByteArray.mk #[115, 112, 111, 105, 108, 116]))) (some ka)) := hG.out.trans s2
              clear hR hG hxs s1 s2
              go_wp2_with fail
              go_roundg (gk - 1)
              case measure => omega
              case rel => exact ⟨j + 1, by omega, by go_num, hR2, hG2⟩
            · have HSZ2 := HSZ.out
              have HKA2 := HKA.out
              have HG25 : Hid (w24.grownBy wr (some ka)) := hG
              have B1725 : Hid (Below w17.heap.size w17 wr) := B1724.out.grown hG.out B1724.out.size (fun k hk => by have := Option.some.inj hk; omega)
              have hnk : ∀ (B : Nat) (u : Value), (∀ k, u.ownBlock = some k → B ≤ k ∧ k < w24.heap.size) → w18.heap.size ≤ B → ∀ k, u.ownBlock = some k → wr.heap[k]? = w24.heap[k]? := fun B u hu hB k hk => hG.out.block k (hu k hk).2 (fun e => by have := Option.some.inj e; have := (hu k hk).1; omega)
              have Ha25 : Hid (∃ xs, wr.ownsRow w17.heap.size 9 1 (.slice (some ⟨ka, 0, none⟩) A.length ca) A.length xs) := hR
              have Hb25 : Hid (wr.ownsRow w18.heap.size 9 1 vb A.length (tv_ A)) := row_same Hb24.out (hnk _ vb (World.ownsRow.lt Hb24.out) (Nat.le_refl _))
              have Hx25 : Hid (wr.ownsRow w19.heap.size 3 1 vx P.length (pv_ P)) := row_same Hx24.out (hnk _ vx (World.ownsRow.lt Hx24.out) (by omega))
              have Hy25 : Hid (wr.ownsRow w20.heap.size 3 1 vy P.length (pv_ P)) := row_same Hy24.out (hnk _ vy (World.ownsRow.lt Hy24.out) (by omega))
              have Z25 : Hid (w21.heap.size ≤ wr.heap.size) := by have := hG.out.size; have := Z24.out; unfold Hid; omega
              have hxs : ∃ kx cx, vx = .slice (some ⟨kx, 0, none⟩) P.length cx := by
                rcases Hx25.out.2 with ⟨rfl, e0⟩ | ⟨kx, cx, cur, rfl, -⟩
                · omega
                · exact ⟨kx, cx, rfl⟩
              obtain ⟨kx, cx, rfl⟩ := hxs
              have HKX : Hid (w19.heap.size ≤ kx ∧ kx < w20.heap.size) := ⟨(World.ownsRow.lt Hx25.out kx rfl).1, HSZ2.2.2.2.2.2.2 kx rfl⟩
              clear hR hG hnk Ha24 Hb24 Hx24 Hy24 B1724 Z24 HG25 HSZ2 HKA2
              go_wp2_with fail
              obtain ⟨w25, rfl⟩ : ∃ w25, w25 = wr := ⟨wr, rfl⟩
              go_loopg [190] P.length (fun gk iv wr => ∃ i : Nat, gk + i = P.length ∧ iv = .int .i64 (i : Int) ∧ Hid (∃ xs, wr.ownsRow w19.heap.size 3 1 (.slice (some ⟨kx, 0, none⟩) P.length cx) P.length xs) ∧ Hid (w25.grownBy wr (some kx)))
              case atStart => exact ⟨0, rfl, rfl, ⟨_, Hx25.out⟩, ⟨rfl, rfl, rfl, Nat.le_refl _, fun _ _ _ => rfl⟩⟩
              case round =>
                obtain ⟨j, hgj, rfl, hR, hG⟩ := hrel
                by_cases hj : j < P.length
                · obtain ⟨xs, hxs⟩ := hR.out
                  obtain ⟨cv, c1⟩ := row_item hxs hj
                  have c2 := hxs.frozenAt j
                  obtain ⟨s1, s2⟩ := hxs.stored j (.int .i64 (-1))
                  have hR2 : Hid (∃ xs, (wr.setCell ⟨kx, j, none⟩ (.int .i64 (-1))).ownsRow w19.heap.size 3 1 (.slice (some ⟨kx, 0, none⟩) P.length cx) P.length xs) := ⟨_, s1⟩
                  have hG2 : Hid (w25.grownBy (wr.setCell ⟨kx, j, none⟩ (.int .i64 (-1))) (some kx)) := hG.out.trans s2
                  clear hR hG hxs s1 s2
                  go_wp2_with fail
                  go_roundg (gk - 1)
                  case measure => omega
                  case rel => exact ⟨j + 1, by omega, by go_num, hR2, hG2⟩
                · have HSZ2 := HSZ.out
                  have HKA2 := HKA.out
                  have HKX2 := HKX.out
                  have hz25 := Z25.out
                  have B1726 : Hid (Below w17.heap.size w17 wr) := B1725.out.grown hG.out B1725.out.size (fun k hk => by have := Option.some.inj hk; omega)
                  have Ha26 : Hid (∃ xs, wr.ownsRow w17.heap.size 9 1 (.slice (some ⟨ka, 0, none⟩) A.length ca) A.length xs) := by
                    obtain ⟨xs, h⟩ := Ha25.out
                    exact ⟨xs, row_same h (fun k hk => hG.out.block k (World.ownsRow.lt h k hk).2 (fun e => by have := Option.some.inj e; have := Option.some.inj hk; subst this; simp at *; omega))⟩
                  have Hb26 : Hid (wr.ownsRow w18.heap.size 9 1 vb A.length (tv_ A)) := row_same Hb25.out (fun k hk => hG.out.block k (World.ownsRow.lt Hb25.out k hk).2 (fun e => by have := Option.some.inj e; have := HSZ2.2.2.2.2.2.1 k hk; omega))
                  have Hy26 : Hid (wr.ownsRow w20.heap.size 3 1 vy P.length (pv_ P)) := row_same Hy25.out (fun k hk => hG.out.block k (World.ownsRow.lt Hy25.out k hk).2 (fun e => by have := Option.some.inj e; have := (World.ownsRow.lt Hy25.out k hk).1; omega))
                  have Hx26 : Hid (∃ xs, wr.ownsRow w19.heap.size 3 1 (.slice (some ⟨kx, 0, none⟩) P.length cx) P.length xs) := hR
                  have Z26 : Hid (w21.heap.size ≤ wr.heap.size) := Nat.le_trans hz25 hG.out.size
                  clear hR hG Ha25 Hb25 Hx25 Hy25 B1725 Z25 HSZ2 HKA2 HKX2 hz25
                  obtain ⟨w26, rfl⟩ : ∃ w26, w26 = wr := ⟨wr, rfl⟩
                  go_wp2_with fail
                  go_loopg [18, 20, 24] 10 (fun gk av xv iv wr => ∃ i : Nat, gk + i = 10 ∧ iv = .int .i64 (i : Int) ∧ Hid (∃ xs, wr.ownsRow w17.heap.size 9 1 av (A.length + i) xs) ∧ Hid (∃ ys, wr.ownsRow w19.heap.size 3 1 xv (P.length + i) ys) ∧ Hid ((∀ k, av.ownBlock = some k → k = ka ∨ w26.heap.size ≤ k) ∧ (∀ k, xv.ownBlock = some k → k = kx ∨ w26.heap.size ≤ k)) ∧ Hid (Below w17.heap.size w17 wr ∧ w26.heap.size ≤ wr.heap.size ∧ ∀ k, k < w26.heap.size → k ≠ ka → k ≠ kx → wr.heap[k]? = w26.heap[k]?))
                  case atStart => exact ⟨0, rfl, rfl, Ha26, Hx26, ⟨fun k hk => .inl (Option.some.inj hk).symm, fun k hk => .inl (Option.some.inj hk).symm⟩, B1726.out, Nat.le_refl _, fun _ _ _ _ => rfl⟩
                  case round =>
                    obtain ⟨j, hgj, rfl, hRa, hRx, hO, hK⟩ := hrel
                    by_cases hj : j < 10
                    · have HSZ2 := HSZ.out
                      have HKA2 := HKA.out
                      have HKX2 := HKX.out
                      have hz26 := Z26.out
                      obtain ⟨xs, hxs⟩ := hRa.out
                      obtain ⟨ys, hys⟩ := hRx.out
                      obtain ⟨va', wa, r1, ⟨xs', hxs'⟩, g1, o1⟩ := app_more wr w17.heap.size u18 (A.length + j) xs (ByteArray.mk #[109, 111, 114, 101]) hxs hK.out.1.size (by omega)
                      have hys1 : wa.ownsRow w19.heap.size 3 1 u20 (P.length + j) ys := row_gb hys g1 (fun b hb => rows_apart hxs hys b hb)
                      obtain ⟨vx', wb, r2, ⟨ys', hys'⟩, g2, o2⟩ := app_num wa w19.heap.size u20 (P.length + j) ys (-2) hys1 (by have := g1.size; have := hK.out.2.1; omega) (by omega)
                      have hxs2 : wb.ownsRow w17.heap.size 9 1 va' (A.length + j + 1) xs' := row_gb hxs' g2 (fun b hb e => rows_apart hxs' hys1 b e hb)
                      have hRa2 : Hid (∃ xs, wb.ownsRow w17.heap.size 9 1 va' (A.length + (j + 1)) xs) := ⟨xs', hxs2⟩
                      have hRx2 : Hid (∃ ys, wb.ownsRow w19.heap.size 3 1 vx' (P.length + (j + 1)) ys) := ⟨ys', hys'⟩
                      have hO2 : Hid ((∀ k, va'.ownBlock = some k → k = ka ∨ w26.heap.size ≤ k) ∧ (∀ k, vx'.ownBlock = some k → k = kx ∨ w26.heap.size ≤ k)) := by
                        refine ⟨fun k hk => ?_, fun k hk => ?_⟩
                        · rcases o1 with o1 | o1
                          · exact hO.out.1 k (o1 ▸ hk)
                          · rw [o1] at hk; have := Option.some.inj hk; have := hK.out.2.1; omega
                        · rcases o2 with o2 | o2
                          · exact hO.out.2 k (o2 ▸ hk)
                          · rw [o2] at hk; have := Option.some.inj hk; have := hK.out.2.1; have := g1.size; omega
                      have hK2 : Hid (Below w17.heap.size w17 wb ∧ w26.heap.size ≤ wb.heap.size ∧ ∀ k, k < w26.heap.size → k ≠ ka → k ≠ kx → wb.heap[k]? = w26.heap[k]?) := by
                        refine ⟨(hK.out.1.grown g1 hK.out.1.size (fun k hk => (World.ownsRow.lt hxs k hk).1)).grown g2 (by have := g1.size; have := hK.out.1.size; omega) (fun k hk => by have := (World.ownsRow.lt hys k hk).1; omega), by have := g1.size; have := g2.size; have := hK.out.2.1; omega, fun k h1 h2 h3 => ?_⟩
                        have hkr : k < wr.heap.size := Nat.lt_of_lt_of_le h1 hK.out.2.1
                        rw [g2.block k (Nat.lt_of_lt_of_le hkr g1.size) (fun e => by rcases hO.out.2 k e.symm with q | q <;> omega), g1.block k hkr (fun e => by rcases hO.out.1 k e.symm with q | q <;> omega)]
                        exact hK.out.2.2 k h1 h2 h3
                      clear hxs hys hys1 hxs' hxs2 hys' g1 g2 o1 o2 hRa hRx hO hK HSZ2 HKA2 HKX2 hz26
                      go_wp2_with (first | (refine wpList_app_is (by rfl) 23 23 (.tmp 201) (.tmp 202) (by rfl) _ _ _ _ (by rfl) (by rfl) r1 ?_) | (refine wpList_app_is (by rfl) 35 35 (.tmp 204) (.tmp 205) (by rfl) _ _ _ _ (by rfl) (by rfl) r2 ?_))
                      go_roundg (gk - 1)
                      case measure => omega
                      case rel => exact ⟨j + 1, by omega, by go_num, hRa2, hRx2, hO2, hK2⟩
                    · have HSZ2 := HSZ.out
                      have HKA2 := HKA.out
                      have HKX2 := HKX.out
                      have hz26 := Z26.out
                      have Hb27 : Hid (wr.ownsRow w18.heap.size 9 1 vb A.length (tv_ A)) := row_same Hb26.out (fun k hk => by
                        have h1 := World.ownsRow.lt Hb26.out k hk
                        have h2 := HSZ2.2.2.2.2.2.1 k hk
                        exact hK.out.2.2 k h1.2 (by omega) (by omega))
                      have Hy27 : Hid (wr.ownsRow w20.heap.size 3 1 vy P.length (pv_ P)) := row_same Hy26.out (fun k hk => by
                        have h1 := World.ownsRow.lt Hy26.out k hk
                        exact hK.out.2.2 k h1.2 (by omega) (by omega))
                      have B27 : Hid (Below w17.heap.size w17 wr) := hK.out.1
                      obtain ⟨kb, cb, rfl, cellb⟩ := tv_cell Hb27.out HA.out.1
                      rw [ba_list] at cellb
                      have hA1 := HA.out
                      have hAp : 0 < A.length := hA1.2.1
                      have e1 : one_.toList = [48, 49, 50, 51, 52, 53, 54, 55, 56, 57, 97, 98, 99, 100, 102, 103, 104, 105, 106, 107, 108, 109, 110, 112, 113, 114, 115, 118, 119, 120, 121, 122] := by rw [ByteArray.toList_eq]; rfl
                      have CI := ints_any _ _ vy v P P wr (ri_own Hy27.out) (RI.below RV17.out B27.out (Nat.le_refl _)) (by omega) (by omega)
                      rw [decide_eq_true rfl] at CI
                      clear hRa hRx hO hK HSZ2 HKA2 HKX2 hz26 Hb26 Hy26 Ha26 Hx26 B1726 hA1
                      go_wp2_with fail
                      with_reducible refine CI.mono ?_
                      rintro e w27 ⟨rfl, q27, hq27⟩
                      have B2 : Hid (Below w17.heap.size w17 w27) := by rw [hq27]; exact bel_drewN B27.out q27
                      have CP := (HR17.out.below B2.out).ps hTb
                      rw [hPe] at CP
                      clear CI hq27 B27 cellb e1
                      go_wp2_with fail
                      with_reducible refine CP.mono ?_
                      rintro e w28 ⟨vz, rfl, oz, b28⟩
                      have B3 : Hid (Below w17.heap.size w17 w28) := B2.out.trans (b28.mono B2.out.size)
                      have CI := ints_any _ _ vz v P P w28 (ri_own oz) (RI.below RV17.out B3.out (Nat.le_refl _)) (by omega) (by omega)
                      rw [decide_eq_true rfl] at CI
                      clear CP oz b28 B2
                      go_wp2_with fail
                      with_reducible refine CI.mono ?_
                      rintro e w29 ⟨rfl, q29, hq29⟩
                      have B4 : Hid (Below w17.heap.size w17 w29) := by rw [hq29]; exact bel_drewN B3.out q29
                      have CF := (HS17.out.below B4.out).found hTb
                      clear CI hq29 B3
                      go_wp2_with fail
                      with_reducible refine CF.mono ?_
                      rintro e w30 ⟨vf, F3, rfl, of3, nd3, mem3, -, b30⟩
                      have hlen := HLN.out F3 nd3 mem3
                      have B5 : Hid (Below w17.heap.size w17 w30) := B4.out.trans (b30.mono B4.out.size)
                      obtain ⟨pf, cf, rfl⟩ := slice_of_row of3
                      rw [hlen]
                      clear CF of3 nd3 mem3 b30 B4 hlen
                      go_wp2_with fail
                      go_ret
                      exact ⟨rfl, HB17.out.trans (B5.out.mono HB17.out.size)⟩

end Sc
end Go.Proofs.Ytojefckhefanhab
