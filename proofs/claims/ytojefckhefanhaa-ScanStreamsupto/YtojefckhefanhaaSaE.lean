/- depotref14's Rewrite, walked (own text of the verifier). -/
import Derived.Test.YtojefckhefanhaaSaD
namespace Go.Proofs.Ytojefckhefanhaa
open Go.RowKit
namespace Sc

theorem app_int (W : World) (B : Nat) (v : Value) (Ps : List Nat) (m : Nat) (hr : W.ownsRow B 3 1 v Ps.length (pv_ Ps)) (hB : B ≤ W.heap.size) (hl : Ps.length ≤ 1099511627776) :
    ∃ v' W2, (Builtin.append_ #[41, 41] 41 #[v, .slice (some ⟨W.heap.size, 0, none⟩) 1 1]).run Try.prog (W.alloc (.cells #[.int .i64 (m : Int)] 3)) = .ok v' W2 ∧ W2.ownsRow B 3 1 v' (Ps ++ [m]).length (pv_ (Ps ++ [m])) ∧ W.grownBy W2 v.ownBlock := by
  obtain ⟨i0, hi, hz0, hz1, hz2⟩ := info_parts info3
  obtain ⟨v', w2, h1, h2, h3, _, _⟩ := run_append_own_at (P := Try.prog) (W.alloc (.cells #[.int .i64 (m : Int)] 3)) B 41 41 3 i0 (.int .i64 0) 1 8 und41 hi hz0 hz1 hz2 rfl (by decide) v Ps.length (pv_ Ps) (hr.alloc _) ⟨W.heap.size, 0, none⟩ 1 1 [.int .i64 (m : Int)] rfl (fun j u hj =>
      match j, hj with
      | 0, hj => by simp at hj; subst hj; exact (World.cell?_alloc_new W _ _ 0).trans rfl) (by intro u hu; simp at hu; subst hu; rfl) (by unfold maxLen; omega) (by omega) (by rw [World.size_alloc]; omega)
  refine ⟨v', w2, h1, ?_, (World.grownBy_alloc W _ _).trans h3⟩
  rw [List.length_append, show pv_ (Ps ++ [m]) = pv_ Ps ++ [.int .i64 (m : Int)] by unfold pv_; simp]
  exact h2
theorem app_byte (W : World) (B : Nat) (v : Value) (l : List UInt8) (b : UInt8) (hr : W.ownsRow B 5 1 v l.length (bv l)) (hB : B ≤ W.heap.size) (hl : l.length ≤ 1099511627776) :
    ∃ v' W2, (Builtin.append_ #[30, 30] 30 #[v, .slice (some ⟨W.heap.size, 0, none⟩) 1 1]).run Try.prog (W.alloc (.cells #[.int .u8 (b.toNat : Int)] 5)) = .ok v' W2 ∧ W2.ownsRow B 5 1 v' (l ++ [b]).length (bv (l ++ [b])) ∧ W.grownBy W2 v.ownBlock := by
  obtain ⟨i0, hi, hz0, hz1, hz2⟩ := info_parts info5
  obtain ⟨v', w2, h1, h2, h3, _, _⟩ := run_append_own_at (P := Try.prog) (W.alloc (.cells #[.int .u8 (b.toNat : Int)] 5)) B 30 30 5 i0 (.int .u8 0) 1 1 und30 hi hz0 hz1 hz2 rfl (by decide) v l.length (bv l) (hr.alloc _) ⟨W.heap.size, 0, none⟩ 1 1 [.int .u8 (b.toNat : Int)] rfl (fun j u hj =>
      match j, hj with
      | 0, hj => by simp at hj; subst hj; exact (World.cell?_alloc_new W _ _ 0).trans rfl) (by intro u hu; simp at hu; subst hu; rfl) (by unfold maxLen; omega) (by omega) (by rw [World.size_alloc]; omega)
  refine ⟨v', w2, h1, ?_, (World.grownBy_alloc W _ _).trans h3⟩
  rw [List.length_append, show bv (l ++ [b]) = bv l ++ [.int .u8 (b.toNat : Int)] by unfold bv; simp]
  exact h2
theorem bv_cells (l : List UInt8) : Lib.byteCells l = bv l := by simp [Lib.byteCells, bv]
theorem app_str (W : World) (B : Nat) (v : Value) (l : List UInt8) (t : ByteArray) (hr : W.ownsRow B 5 1 v l.length (bv l)) (hB : B ≤ W.heap.size) (hl : l.length + t.size ≤ 1099511627776) :
    ∃ v' W2, (Builtin.append_ #[30, 9] 30 #[v, .string t]).run Try.prog W = .ok v' W2 ∧ W2.ownsRow B 5 1 v' (l ++ t.data.toList).length (bv (l ++ t.data.toList)) ∧ W.grownBy W2 v.ownBlock := by
  obtain ⟨i0, hi, hz0, hz1, hz2⟩ := info_parts info5
  obtain ⟨v', w2, h1, h2, h3, -⟩ := Lib.run_append_own_string (P := Try.prog) W B 30 9 30 5 i0 und30 Try.underlying9 hi hz0 hz1 hz2 v l.length (bv l) hr t (by unfold maxLen; omega) (by omega) hB
  refine ⟨v', w2, h1, ?_, h3⟩
  have e : bv l ++ Lib.strCells t = bv (l ++ t.data.toList) := by
    rw [Lib.strCells_eq, ← bv_cells, ← bv_cells, ← bytes_app]
  rw [← e, List.length_append, size_list]
  exact h2
theorem conv_row (W : World) (B : Nat) (v : Value) (l : List UInt8) (hr : W.ownsRow B 5 1 v l.length (bv l)) : (convert 30 9 v).run Try.prog W = .ok (.string (ba l)) W := by
  have h0 := hr
  rcases hr.2 with ⟨rfl, e0⟩ | ⟨b, cap, cur, rfl, hBb, hb, h1, _, h3, h4⟩
  · have e : l = [] := List.eq_nil_of_length_eq_zero e0
    rw [e]
    exact run_convert_bytes_nil W 30 5 Try.underlying30 Try.underlying5 0 0 9 Try.underlying9
  · exact run_convert_bytes_back (P := Try.prog) W 30 9 5 ⟨b, 0, none⟩ cap l und30 Try.underlying5 Try.underlying9 (fun j hj => World.ownsRow.cells (g := b) h0 rfl j _ (by unfold bv; rw [List.getElem?_map, List.getElem?_eq_getElem hj]; rfl))
theorem row_apart {W : World} {B C : Nat} {v u : Value} {n m : Nat} {xs ys : List Value} (h : W.ownsRow B 5 1 v n xs) (k : W.ownsRow C 3 1 u m ys) : ∀ b, v.ownBlock = some b → u.ownBlock ≠ some b := fun b hb hu => by
  obtain ⟨_, h1⟩ := row_cells h b hb
  obtain ⟨_, _, h2⟩ := row_i64 k b hu
  rw [h1] at h2
  injection h2 with h2
  injection h2 with _ h2
  exact absurd h2 (by decide)
theorem row_gb {W W' : World} {B : Nat} {e : TypeId} {q : Nat} {v : Value} {n : Nat} {xs : List Value} {r : Option Nat} (h : W.ownsRow B e q v n xs) (G : W.grownBy W' r) (hr : ∀ b, r = some b → v.ownBlock ≠ some b) : W'.ownsRow B e q v n xs :=
  row_same h fun k hk => G.block k (World.ownsRow.lt h k hk).2 (fun e => hr k e.symm hk)

set_option maxRecDepth 100000 in
set_option maxHeartbeats 4000000 in
theorem rscrw_any (x f t : ByteArray) (w : World) (hx : x.size ≤ 268435456) :
    Calls Try.prog 17 #[.string x, .string f, .string t] w fun e w' => Below w.heap.size w w' ∧ ((¬ (hsh f = 0 ∧ hsh t = 0) ∧ e = .returned (.tuple #[.string ⟨#[]⟩, .slice none 0 0, .int .i64 131])) ∨ (hsh f = 0 ∧ hsh t = 0 ∧ ∃ v, w'.ownsRow w.heap.size 3 1 v (pl f.data.toList 0 x.data.toList).length (pv_ (pl f.data.toList 0 x.data.toList)) ∧ e = .returned (.tuple #[.string (ba (rw' f.data.toList t.data.toList x.data.toList)), v, .int .i64 0]))) := by
  have hb := get_bt x
  go_enter Try.func17, Try.ntmps17
  go_wp2_with fail
  have hbk := heap_alloc_new w (.cells #[.string f, .string t] 9)
  have B1 : Hid (RowKit.Below w.heap.size w (w.alloc (.cells #[.string f, .string t] 9))) := (RowKit.Below.refl _ _).alloc (Nat.le_refl _) _
  have hz : (w.alloc (.cells #[.string f, .string t] 9)).heap.size = w.heap.size + 1 := World.size_alloc _ _
  have CW : Calls Try.prog 10 #[.slice (some ⟨w.heap.size, 0, none⟩) 2 2] (w.alloc (.cells #[.string f, .string t] 9)) _ := wanted_any [f, t] (some ⟨w.heap.size, 0, none⟩) 2 _ (by simp) (fun j s hj => ⟨_, rfl, by rw [hz]; exact Nat.lt_succ_self _, by
    rw [Addr.add_lit, Nat.zero_add, Lib.cell_of_heap hbk]
    match j, hj with
    | 0, hj => simp at hj; subst hj; rfl
    | 1, hj => simp at hj; subst hj; rfl⟩)
  clear hbk
  refine (show Calls Try.prog 10 #[.slice (some ⟨w.heap.size, 0, none⟩) 2 2] (w.alloc (.cells #[.string f, .string t] 9)) _ from CW.mono ?_)
  have hz1 : w.heap.size ≤ (w.alloc (.cells #[.string f, .string t] 9)).heap.size := by omega
  clear hz
  generalize w.alloc (.cells #[.string f, .string t] 9) = w1 at *
  rintro e w2 ⟨rfl, ⟨hall, rfl⟩ | ⟨hbad, rfl⟩⟩
  · have H1 : Hid (hsh f = 0) := hall f (by simp)
    have H2 : Hid (hsh t = 0) := hall t (by simp)
    have HF : Hid (f.size = 32) := by
      rcases hsh_cases f with ⟨h, -⟩ | ⟨-, h⟩
      · exact h.1
      · rw [H1.out] at h; exact absurd h (by decide)
    have HT : Hid (t.size = 32) := by
      rcases hsh_cases t with ⟨h, -⟩ | ⟨-, h⟩
      · exact h.1
      · rw [H2.out] at h; exact absurd h (by decide)
    clear hall CW
    go_wp2_with fail
    go_loopg [10, 11, 12] x.size (fun gk ov pv iv wr => ∃ (k : Nat) (O : List UInt8) (Ps : List Nat), gk + k = x.size ∧ iv = .int .i64 (k : Int) ∧ Hid (wr.ownsRow w.heap.size 5 1 ov O.length (bv O)) ∧ Hid (wr.ownsRow w.heap.size 3 1 pv Ps.length (pv_ Ps)) ∧ Hid (O.length = k ∧ Ps.length ≤ k) ∧ Hid (O ++ rw' f.data.toList t.data.toList (x.data.toList.drop k) = rw' f.data.toList t.data.toList x.data.toList) ∧ Hid (Ps ++ pl f.data.toList k (x.data.toList.drop k) = pl f.data.toList 0 x.data.toList) ∧ Hid (Below w.heap.size w wr))
    case atStart => exact ⟨0, [], [], rfl, rfl, World.ownsRow_nil _ _ _ _, World.ownsRow_nil _ _ _ _, ⟨rfl, Nat.le_refl _⟩, by unfold Hid; simp, by unfold Hid; simp, B1.out⟩
    case round =>
      obtain ⟨k, O, Ps, hgk, rfl, hO, hP, hL, hE, hG, hB⟩ := hrel
      by_cases hlt : k < x.size
      · have CA := at_any x f k wr HF.out (by omega) (by omega)
        by_cases hw : win x.data.toList k = f.data.toList
        · rw [decide_eq_true hw] at CA
          have HW : Hid _ := hw
          have h32 : k + 32 ≤ x.size := by
            have := win_full (l := x.data.toList) (p := k) (by rw [hw, size_list]; exact HF.out)
            rw [size_list] at this
            exact this
          clear hw
          go_wp2_with fail
          with_reducible refine CA.mono ?_
          rintro e w3 ⟨rfl, q, hq⟩
          clear CA
          have hB3 : Hid (Below w.heap.size w w3) := by rw [hq]; exact bel_drewN hB.out q
          have hO3 : Hid (w3.ownsRow w.heap.size 5 1 u10 O.length (bv O)) := by rw [hq]; exact row_same hO.out (fun _ _ => rfl)
          have hP3 : Hid (w3.ownsRow w.heap.size 3 1 u11 Ps.length (pv_ Ps)) := by rw [hq]; exact row_same hP.out (fun _ _ => rfl)
          clear hq hO hP hB
          obtain ⟨u10', w4, r1, o4, g4⟩ := app_str w3 w.heap.size u10 O t hO3.out hB3.out.size (by have := hL.out; have := HT.out; omega)
          have hB4 : Hid (Below w.heap.size w w4) := hB3.out.grown g4 hB3.out.size (fun b hb => (World.ownsRow.lt hO3.out b hb).1)
          have hO4 : Hid _ := o4
          have hP4 : Hid (w4.ownsRow w.heap.size 3 1 u11 Ps.length (pv_ Ps)) := row_gb hP3.out g4 (fun b hb => row_apart hO3.out hP3.out b hb)
          clear o4 g4
          obtain ⟨u11', w5, r2, p5, g5⟩ := app_int w4 w.heap.size u11 Ps k hP4.out hB4.out.size (by have := hL.out; omega)
          have hB5 : Hid (Below w.heap.size w w5) := hB4.out.grown g5 hB4.out.size (fun b hb => (World.ownsRow.lt hP4.out b hb).1)
          have hP5 : Hid _ := p5
          have hO5 : Hid (w5.ownsRow w.heap.size 5 1 u10' _ _) := row_gb hO4.out g5 (fun b hb e => row_apart hO4.out hP4.out b e hb)
          clear p5 g5
          go_wp2_with (first | (refine wpList_app_is (by rfl) 30 9 (.tmp 28) (.tmp 29) (by rfl) _ _ _ _ (by rfl) (by rfl) r1 ?_) | (refine wpList_app_is (by rfl) 41 41 (.tmp 31) (.tmp 33) (by rfl) _ _ _ _ (by rfl) (by rfl) r2 ?_))
          go_roundg (gk - 32)
          case measure => omega
          case rel => exact ⟨k + 32, O ++ t.data.toList, Ps ++ [k], by omega, by go_num, hO5, hP5, ⟨by rw [List.length_append, size_list, hL.out.1, HT.out], by rw [List.length_append]; have := hL.out.2; simp; omega⟩, by
              unfold Hid
              rw [← hE.out, rw_hit (l := x.data.toList.drop k) HW.out (by rw [List.length_drop, size_list]; omega), List.drop_drop, List.append_assoc], by
              unfold Hid
              rw [← hG.out, pl_hit (l := x.data.toList.drop k) HW.out (by rw [List.length_drop, size_list]; omega), List.drop_drop, List.append_assoc]
              rfl, hB5⟩
        · rw [decide_eq_false hw] at CA
          have HW : Hid _ := hw
          clear hw
          go_wp2_with fail
          with_reducible refine CA.mono ?_
          rintro e w3 ⟨rfl, q, hq⟩
          clear CA
          have hB3 : Hid (Below w.heap.size w w3) := by rw [hq]; exact bel_drewN hB.out q
          have hO3 : Hid (w3.ownsRow w.heap.size 5 1 u10 O.length (bv O)) := by rw [hq]; exact row_same hO.out (fun _ _ => rfl)
          have hP3 : Hid (w3.ownsRow w.heap.size 3 1 u11 Ps.length (pv_ Ps)) := by rw [hq]; exact row_same hP.out (fun _ _ => rfl)
          clear hq hO hP hB
          obtain ⟨ov', w4, r1, o4, g4⟩ := app_byte w3 w.heap.size u10 O (x[k]'hlt) hO3.out hB3.out.size (by have := hL.out; omega)
          rw [hb k hlt] at r1
          have hB4 : Hid (Below w.heap.size w w4) := hB3.out.grown g4 hB3.out.size (fun b hb => (World.ownsRow.lt hO3.out b hb).1)
          have hO4 : Hid _ := o4
          have hP4 : Hid (w4.ownsRow w.heap.size 3 1 u11 Ps.length (pv_ Ps)) := row_gb hP3.out g4 (fun b hb => row_apart hO3.out hP3.out b hb)
          have hD : Hid ((x.data.toList.drop k).take 1 = [x[k]'hlt]) := by
            unfold Hid
            rw [List.drop_eq_getElem_cons (by rw [size_list]; exact hlt)]
            rfl
          clear o4 g4
          go_wp2_with (first | (refine wpList_app_is (by rfl) 30 30 (.tmp 37) (.tmp 41) (by rfl) _ _ _ _ (by rfl) (by rfl) r1 ?_))
          go_roundg (gk - 1)
          case measure => omega
          case rel => exact ⟨k + 1, O ++ [x[k]'hlt], Ps, by omega, by go_num, hO4, hP4, ⟨by rw [List.length_append, hL.out.1]; rfl, by have := hL.out.2; omega⟩, by
              unfold Hid
              rw [← hE.out, rw_miss (l := x.data.toList.drop k) HW.out (by rw [size_list]; exact HF.out) (by rw [List.length_drop, size_list]; omega), hD.out, List.drop_drop, List.append_assoc], by
              unfold Hid
              rw [← hG.out, pl_miss (l := x.data.toList.drop k) HW.out (by rw [size_list]; exact HF.out) (by rw [List.length_drop, size_list]; omega), List.drop_drop], hB4⟩
      · have hend : x.data.toList.drop k = [] := List.drop_eq_nil_of_le (by rw [size_list]; omega)
        have hEE : Hid (O = rw' f.data.toList t.data.toList x.data.toList) := by
          have := hE.out
          rw [hend, rw_short (by simp), List.append_nil] at this
          exact this
        have hGG : Hid (Ps = pl f.data.toList 0 x.data.toList) := by
          have := hG.out
          rw [hend, pl_short (by simp), List.append_nil] at this
          exact this
        have CR := conv_row wr w.heap.size u10 O hO.out
        clear hend
        go_wp2
        go_ret3
        exact ⟨hB.out, .inr ⟨H1.out, H2.out, u11, by rw [← hGG.out]; exact hP.out, by rw [← hEE.out]; rfl⟩⟩
  · have HN : Hid (¬ (hsh f = 0 ∧ hsh t = 0)) := fun ⟨h1, h2⟩ => by
      obtain ⟨s, hs, hne⟩ := hbad
      rcases List.mem_cons.1 hs with rfl | hs
      · exact hne h1
      · rw [List.mem_singleton] at hs
        subst hs
        exact hne h2
    clear hbad CW
    go_wp2
    go_ret3
    exact ⟨B1.out, .inl ⟨HN.out, rfl⟩⟩
end Sc
end Go.Proofs.Ytojefckhefanhaa
