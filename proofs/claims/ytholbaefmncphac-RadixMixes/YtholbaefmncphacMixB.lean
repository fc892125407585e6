/- The law RadixMixes walked: it returns true for every two texts and every n. -/
import Derived.Test.YtholbaefmncphacMixA
namespace Go.Proofs.Ytholbaefmncphac
open Go.RowKit
theorem bt_extract (s : ByteArray) (n k : Nat) (h : k < n) (hn : n ≤ s.size) : bt (s.extract 0 n) k = bt s k := by
  unfold bt
  have hs : (s.extract 0 n).size = n := by rw [ByteArray.size_extract]; omega
  rw [dif_pos (by omega), dif_pos (by omega)]
  congr 2
  rw [ByteArray.getElem_extract]
  congr 1
  omega

theorem fold_fit (a : ByteArray) (n : Nat) (h : a.size ≤ n) : (strFn n (foldFn a n a.size)).extract 0 a.size = a := by
  have hs : ((strFn n (foldFn a n a.size)).extract 0 a.size).size = a.size := by rw [ByteArray.size_extract, strFn_size]; omega
  apply bytes_ext hs
  intro k hk
  rw [hs] at hk
  rw [bt_extract _ _ _ hk (by rw [strFn_size]; exact h), bt_strFn _ _ _ (by omega) (foldFn_bd _ _ _ _).1 (foldFn_bd _ _ _ _).2, foldFn_fit a n a.size k h, if_pos hk]

set_option maxHeartbeats 1000000 in
theorem mixes_no (a b : ByteArray) (n : Int) (w : World) (ha : a.size ≤ 140737488351232) (hb : b.size ≤ 140737488351232) (hn : n < 1 ∨ 64 < n) :
    Calls Try.prog 7 #[.string a, .string b, .int .i64 n] w fun e w' => e = .returned (.bool true) ∧ Below w.heap.size w w' := by
  have HN : Hid (n < 1 ∨ 64 < n) := hn
  have hd : (decide (n < 1) || decide (64 < n)) = true := by simpa using hn
  clear hn
  by_cases hc : (b.size : Int) < (a.size : Int)
  all_goals
    go_enter Try.func7, Try.ntmps7
    go_wp2_with fail
    refine (fold_all ⟨#[1, 2, 4]⟩ 2 _ (by decide)).mono ?_
    rintro e w1 ⟨rfl, b1⟩
    rw [fold_ex.1, fold_ex.2]
    go_wp2_with fail
    refine (fold_no _ n _ HN.out).mono ?_
    rintro e w2 ⟨rfl, b2⟩
    go_wp2_with fail
    refine (fold_no _ n _ HN.out).mono ?_
    rintro e w3 ⟨rfl, b3⟩
    go_wp2_with fail
    refine (mixed_any _ _ _ (by first | omega | (simp only [ByteArray.size_extract]; omega)) (by simp only [ByteArray.size_extract]; omega)).mono ?_
    rintro e w4 ⟨rfl, b4⟩
    go_wp2_with fail
    refine (fold_no _ n _ HN.out).mono ?_
    rintro e w5 ⟨rfl, b5⟩
    have B : Below w.heap.size w w5 := ((((b1.trans (b2.mono b1.size)).trans (b3.mono (Nat.le_trans b1.size b2.size))).trans (b4.mono (Nat.le_trans b1.size (Nat.le_trans b2.size b3.size)))).trans (b5.mono (Nat.le_trans b1.size (Nat.le_trans b2.size (Nat.le_trans b3.size b4.size)))))
    clear b1 b2 b3 b4 b5
    go_wp2
    all_goals (go_ret; exact ⟨rfl, B⟩)

set_option maxHeartbeats 1000000 in
theorem mixes_yes (a b : ByteArray) (n : Nat) (w : World) (ha : a.size ≤ 140737488351232) (hb : b.size ≤ 140737488351232) (h0 : 1 ≤ n) (h1 : n ≤ 64) :
    Calls Try.prog 7 #[.string a, .string b, .int .i64 n] w fun e w' => e = .returned (.bool true) ∧ Below w.heap.size w w' := by
  by_cases hc : (b.size : Int) < (a.size : Int)
  all_goals
    go_enter Try.func7, Try.ntmps7
    go_wp2_with fail
    refine (fold_all ⟨#[1, 2, 4]⟩ 2 _ (by decide)).mono ?_
    rintro e w1 ⟨rfl, b1⟩
    rw [fold_ex.1, fold_ex.2]
    go_wp2_with fail
    first
      | (have hA : (a.extract 0 b.size).size = b.size := by rw [ByteArray.size_extract]; omega
         have hB : (b.extract 0 (min b.size a.size)).size = b.size := by rw [ByteArray.size_extract]; omega
         have hl : b.size ≤ 140737488351232 := hb
         generalize a.extract 0 b.size = x at hA ⊢
         generalize b.extract 0 (min b.size a.size) = y at hB ⊢
         generalize b.size = m at hA hB hl ⊢)
      | (have hA : a.size = a.size := rfl
         have hB : (b.extract 0 a.size).size = a.size := by rw [ByteArray.size_extract]; omega
         have hl : a.size ≤ 140737488351232 := ha
         generalize b.extract 0 a.size = y at hB ⊢
         clear hb hc
         generalize a = x at hA hB hl ⊢
         generalize hm : x.size = m at hB hl ⊢
         clear hA
         have hA := hm
         clear hm)
    refine (fold_any x n _ (by omega) h0 h1).mono ?_
    rintro e w2 ⟨rfl, b2⟩
    have hX := strFn_size n (foldFn x n x.size)
    have hfit : Hid (x.size ≤ n → (strFn n (foldFn x n x.size)).extract 0 x.size = x) := fold_fit x n
    generalize hXd : strFn n (foldFn x n x.size) = X at hX hfit ⊢
    have HXd : Hid (strFn n (foldFn x n x.size) = X) := hXd
    clear hXd
    go_wp2_with fail
    refine (fold_any y n _ (by omega) h0 h1).mono ?_
    rintro e w3 ⟨rfl, b3⟩
    have hY := strFn_size n (foldFn y n y.size)
    generalize hYd : strFn n (foldFn y n y.size) = Y at hY ⊢
    have HYd : Hid (strFn n (foldFn y n y.size) = Y) := hYd
    clear hYd
    go_wp2_with fail
    refine (mixed_any x y _ (by omega) (by omega)).mono ?_
    rintro e w4 ⟨rfl, b4⟩
    go_wp2_with fail
    refine (fold_any (mixStr x y) n _ (by rw [mixStr_size]; omega) h0 h1).mono ?_
    rintro e w5 ⟨rfl, b5⟩
    rw [mixStr_size, fold_mix x y n (by omega), HXd.out, HYd.out]
    have B : Below w.heap.size w w5 := ((((b1.trans (b2.mono b1.size)).trans (b3.mono (Nat.le_trans b1.size b2.size))).trans (b4.mono (Nat.le_trans b1.size (Nat.le_trans b2.size b3.size)))).trans (b5.mono (Nat.le_trans b1.size (Nat.le_trans b2.size (Nat.le_trans b3.size b4.size)))))
    clear b1 b2 b3 b4 b5
    have e1 : ((n : Int) != (n : Int)) = false := by simp
    go_wp2_with fail
    refine (mixed_any X Y _ (by omega) (by omega)).mono ?_
    rintro e w6 ⟨rfl, b6⟩
    have B' : Below w.heap.size w w6 := B.trans (b6.mono B.size)
    clear b6 B
    by_cases hf : (n : Int) < (m : Int)
    · go_wp2
      go_ret
      exact ⟨rfl, B'⟩
    · have hx := hfit.out (by omega)
      rw [hA] at hx
      go_wp2
      go_ret
      exact ⟨by simp, B'⟩

theorem mixes_walk (a b : ByteArray) (n : Int) (w : World) (ha : a.size ≤ 140737488351232) (hb : b.size ≤ 140737488351232) (_h0 : -9223372036854775808 ≤ n) (_h1 : n ≤ 9223372036854775807) :
    Calls Try.prog 7 #[.string a, .string b, .int .i64 n] w fun e w' => e = .returned (.bool true) ∧ Below w.heap.size w w' := by
  by_cases hn : n < 1 ∨ 64 < n
  · exact mixes_no a b n w ha hb hn
  · obtain ⟨m, rfl⟩ : ∃ m : Nat, n = m := ⟨n.toNat, by omega⟩
    exact mixes_yes a b m w ha hb (by omega) (by omega)
#print axioms mixes_walk
end Go.Proofs.Ytholbaefmncphac
