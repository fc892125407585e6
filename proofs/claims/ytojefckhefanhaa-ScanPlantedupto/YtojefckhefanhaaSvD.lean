/- ScanPlanted, walked (own text of the verifier). -/
import Derived.Test.YtojefckhefanhaaSaF
namespace Go.Proofs.Ytojefckhefanhaa
open Go.RowKit
namespace Sc

theorem take_cut (l : List UInt8) (a b : Nat) (h : a ≤ b) : l.take a ++ (l.take b).drop a = l.take b := by
  have := List.take_append_drop a (l.take b)
  rw [List.take_take, Nat.min_eq_left h] at this
  exact this
theorem occ_mid (a h b : List UInt8) (hh : h.length = 32) : occ h (a ++ h ++ b) := ⟨a.length, by
  unfold win
  rw [List.append_assoc, List.drop_left, List.take_append_of_le_length (by omega), List.take_of_length_le (by omega)]⟩
theorem ot_rising : [one_.data.toList, two_.data.toList].Pairwise (fun a b => a < b) := by decide +kernel
theorem two_found {T : List UInt8} {F : List (List UInt8)} (nd : F.Nodup) (mem : ∀ h, h ∈ F ↔ h ∈ [one_.data.toList, two_.data.toList] ∧ occ h T) (h1 : occ one_.data.toList T) :
    srt F = [one_.data.toList] ∨ srt F = [one_.data.toList, two_.data.toList] := by
  by_cases h2 : occ two_.data.toList T
  · refine .inr (srt_is nd ot_rising (fun h => (mem h).trans ⟨fun q => q.1, fun q => ⟨q, ?_⟩⟩))
    rcases List.mem_cons.1 q with rfl | q
    · exact h1
    · rw [List.mem_singleton] at q; subst q; exact h2
  · refine .inl (srt_is nd (List.pairwise_singleton _ _) (fun h => (mem h).trans ⟨fun q => ?_, fun q => ?_⟩))
    · rcases List.mem_cons.1 q.1 with rfl | q1
      · simp
      · rw [List.mem_singleton] at q1; subst q1; exact absurd q.2 h2
    · rw [List.mem_singleton] at q
      subst q
      exact ⟨by simp, h1⟩
def o31 : ByteArray := one_.extract 0 31
def eo31 : ByteArray := ⟨#[101]⟩ ++ one_.extract 0 31
theorem not_there : ∀ p, p < 32 → win (o31.data.toList ++ eo31.data.toList) p ≠ one_.data.toList := by decide +kernel
theorem none_found {F : List (List UInt8)} (mem : ∀ h, h ∈ F ↔ h ∈ [one_.data.toList] ∧ occ h (o31.data.toList ++ eo31.data.toList)) : F = [] := by
  match F, mem with
  | [], _ => rfl
  | a :: l, mem =>
    obtain ⟨h1, p, hp⟩ := (mem a).1 (by simp)
    rw [List.mem_singleton] at h1
    subst h1
    have h2 := win_full (l := o31.data.toList ++ eo31.data.toList) (p := p) (by rw [hp]; rfl)
    have h3 : (o31.data.toList ++ eo31.data.toList).length = 63 := by decide +kernel
    exact absurd hp (not_there p (by omega))

set_option maxRecDepth 100000 in
set_option maxHeartbeats 8000000 in
theorem planted_walk (hd tl : ByteArray) (x : Option Addr) (n c : Nat) (f : Nat → Int) (w : World) (hh : hd.size ≤ 1048576) (ht : tl.size ≤ 1048576) (hn : n ≤ 1048576) (hx : ISl w x n f) :
    Calls Try.prog 5 #[.string hd, .string tl, .slice x n c] w fun e w' => e = .returned (.bool true) ∧ Below w.heap.size w w' := by
  have HX : Hid (ISl w x n f) := hx
  clear hx
  go_enter Try.func5, Try.ntmps5
  go_wp2_with fail
  with_reducible refine (awake_any _).mono ?_
  rintro e w1 ⟨rfl, b1⟩
  have HB1 : Hid _ := b1
  clear b1
  go_wp2_with fail
  have hb := heap_alloc_new w1 (.cells #[.string one_, .string two_] 9)
  have B1 : Hid (RowKit.Below w1.heap.size w1 (w1.alloc (.cells #[.string one_, .string two_] 9))) := (RowKit.Below.refl _ _).alloc (Nat.le_refl _) _
  have hz : (w1.alloc (.cells #[.string one_, .string two_] 9)).heap.size = w1.heap.size + 1 := World.size_alloc _ _
  have CN : Calls Try.prog 9 #[.slice (some ⟨w1.heap.size, 0, none⟩) 2 2] (w1.alloc (.cells #[.string one_, .string two_] 9)) _ := Sn.new [one_, two_] (some ⟨w1.heap.size, 0, none⟩) 2 _ (by simp) (fun j s hj => ⟨_, rfl, by rw [hz]; exact Nat.lt_succ_self _, by
    rw [Addr.add_lit, Nat.zero_add, Lib.cell_of_heap hb]
    match j, hj with
    | 0, hj => simp at hj; subst hj; rfl
    | 1, hj => simp at hj; subst hj; rfl⟩)
  clear hb hz
  refine (show Calls Try.prog 9 #[.slice (some ⟨w1.heap.size, 0, none⟩) 2 2] (w1.alloc (.cells #[.string one_, .string two_] 9)) _ from CN.mono ?_)
  rintro e w2 ⟨b2, ⟨⟨s, hs, hbad⟩, rfl⟩ | ⟨-, g, rfl, SN⟩⟩
  · exfalso
    rcases List.mem_cons.1 hs with rfl | hs
    · exact hbad h_one
    · rw [List.mem_singleton] at hs
      subst hs
      exact hbad h_two
  clear CN
  have HB2 : Hid (Below w.heap.size w w2) := HB1.out.trans ((B1.out.trans (b2.mono B1.out.size)).mono HB1.out.size)
  have HS : Hid (Sn w.heap.size w2 g [one_.data.toList, two_.data.toList] []) := by
    obtain ⟨m, N, kept, S, F, fv, q1, q2, q3, q4, q5, q6⟩ := SN
    have hle : w.heap.size ≤ (w1.alloc (.cells #[.string one_, .string two_] 9)).heap.size := Nat.le_trans HB1.out.size B1.out.size
    exact ⟨m, N, kept, S, F, fv, q1, q2, q3, Nat.le_trans hle q4, Nat.le_trans hle q5, fun k hk => Nat.le_trans hle (q6 k hk)⟩
  clear SN b2 B1 HB1
  have ho : (ByteArray.mk #[48, 49, 50, 51, 52, 53, 54, 55, 56, 57, 97, 98, 99, 100, 102, 103, 104, 105, 106, 107, 108, 109, 110, 112, 113, 114, 115, 118, 119, 120, 121, 122]).size = 32 := rfl
  go_wp2_with fail
  have X1z : (hd ++ (ByteArray.mk #[48, 49, 50, 51, 52, 53, 54, 55, 56, 57, 97, 98, 99, 100, 102, 103, 104, 105, 106, 107, 108, 109, 110, 112, 113, 114, 115, 118, 119, 120, 121, 122])).size = hd.size + 32 := by rw [ByteArray.size_append]; rfl
  have X1l : (hd ++ (ByteArray.mk #[48, 49, 50, 51, 52, 53, 54, 55, 56, 57, 97, 98, 99, 100, 102, 103, 104, 105, 106, 107, 108, 109, 110, 112, 113, 114, 115, 118, 119, 120, 121, 122])).data.toList = hd.data.toList ++ one_.data.toList := by rw [ByteArray.data_append, Array.toList_append]; rfl
  generalize (hd ++ (ByteArray.mk #[48, 49, 50, 51, 52, 53, 54, 55, 56, 57, 97, 98, 99, 100, 102, 103, 104, 105, 106, 107, 108, 109, 110, 112, 113, 114, 115, 118, 119, 120, 121, 122])) = X1 at *
  have Xz : (X1 ++ tl).size = hd.size + 32 + tl.size := by rw [ByteArray.size_append, X1z]
  have Xl : (X1 ++ tl).data.toList = hd.data.toList ++ one_.data.toList ++ tl.data.toList := by rw [ByteArray.data_append, Array.toList_append, X1l]
  have HO : Hid (occ one_.data.toList (X1 ++ tl).data.toList) := by unfold Hid; rw [Xl]; exact occ_mid _ _ _ rfl
  generalize X1 ++ tl = X at *
  have hXz : X.size ≤ 2097184 := by omega
  clear X1z X1l Xz Xl ho
  go_loopg [10, 35] n (fun gk av iv wr => ∃ (k A : Nat), gk + k = n ∧ iv = .int .i64 (k : Int) ∧ av = .int .i64 (A : Int) ∧ A ≤ X.size ∧ Hid (Sn w.heap.size wr g [one_.data.toList, two_.data.toList] (X.data.toList.take A)) ∧ Hid (Below w.heap.size w wr))
  case atStart => exact ⟨0, 0, rfl, rfl, rfl, Nat.zero_le _, HS, HB2⟩
  case round =>
    obtain ⟨k, A, hgk, rfl, rfl, hA, hS, hB⟩ := hrel
    by_cases hk : k < n
    · obtain ⟨a, rfl, c1⟩ := HX.out.below hB.out (Nat.le_refl _) k hk
      obtain ⟨z, hz⟩ : ∃ z, f k = z := ⟨_, rfl⟩
      rw [hz] at c1
      clear hz
      by_cases hz0 : z < 0
      · obtain ⟨d, hd'⟩ : ∃ d : Nat, (X.size : Int) - (A : Int) = (d : Int) := ⟨X.size - A, by omega⟩
        obtain ⟨y, w3, CV, TX, b3, hy⟩ := conv_str wr (X.extract A (A + d))
        have hSl : Hid ((X.extract A (A + d)).data.toList = (X.data.toList.take (A + d)).drop A) := by unfold Hid; rw [← ByteArray.toList_eq, ext_tk]
        have HB3 : Hid (Below w.heap.size w w3) := hB.out.trans (b3.mono hB.out.size)
        have CF := (hS.out.below b3).feed HB3.out.size y _ TX (fun a l c e he => by have := hy a l c e; have := hS.out.lt; omega) (by
          rw [hSl.out, List.length_drop, List.length_take, List.length_take, size_list]; omega)
        rw [hSl.out, take_cut _ _ _ (Nat.le_add_right A d)] at CF
        have hAd : A + d ≤ X.size := by omega
        clear TX hy b3 hS
        go_wp2_with fail
        with_reducible refine CF.mono ?_
        rintro e w4 ⟨rfl, SN4, b4⟩
        have HS4 : Hid _ := SN4
        have HB4 : Hid (Below w.heap.size w w4) := HB3.out.trans b4
        clear CF CV SN4 b4 HB3
        go_wp2
        go_roundg (gk - 1)
        case measure => omega
        case rel => exact ⟨k + 1, A + d, by omega, by go_num, by go_num, hAd, HS4, HB4⟩
      · by_cases hz1 : (X.size : Int) - (A : Int) < z
        · obtain ⟨d, hd'⟩ : ∃ d : Nat, (X.size : Int) - (A : Int) = (d : Int) := ⟨X.size - A, by omega⟩
          obtain ⟨y, w3, CV, TX, b3, hy⟩ := conv_str wr (X.extract A (A + d))
          have hSl : Hid ((X.extract A (A + d)).data.toList = (X.data.toList.take (A + d)).drop A) := by unfold Hid; rw [← ByteArray.toList_eq, ext_tk]
          have HB3 : Hid (Below w.heap.size w w3) := hB.out.trans (b3.mono hB.out.size)
          have CF := (hS.out.below b3).feed HB3.out.size y _ TX (fun a l c e he => by have := hy a l c e; have := hS.out.lt; omega) (by
            rw [hSl.out, List.length_drop, List.length_take, List.length_take, size_list]; omega)
          rw [hSl.out, take_cut _ _ _ (Nat.le_add_right A d)] at CF
          have hAd : A + d ≤ X.size := by omega
          clear TX hy b3 hS
          go_wp2_with fail
          with_reducible refine CF.mono ?_
          rintro e w4 ⟨rfl, SN4, b4⟩
          have HS4 : Hid _ := SN4
          have HB4 : Hid (Below w.heap.size w w4) := HB3.out.trans b4
          clear CF CV SN4 b4 HB3
          go_wp2
          go_roundg (gk - 1)
          case measure => omega
          case rel => exact ⟨k + 1, A + d, by omega, by go_num, by go_num, hAd, HS4, HB4⟩
        · obtain ⟨d, rfl⟩ : ∃ d : Nat, z = (d : Int) := ⟨z.toNat, by omega⟩
          obtain ⟨y, w3, CV, TX, b3, hy⟩ := conv_str wr (X.extract A (A + d))
          have hSl : Hid ((X.extract A (A + d)).data.toList = (X.data.toList.take (A + d)).drop A) := by unfold Hid; rw [← ByteArray.toList_eq, ext_tk]
          have HB3 : Hid (Below w.heap.size w w3) := hB.out.trans (b3.mono hB.out.size)
          have CF := (hS.out.below b3).feed HB3.out.size y _ TX (fun a l c e he => by have := hy a l c e; have := hS.out.lt; omega) (by
            rw [hSl.out, List.length_drop, List.length_take, List.length_take, size_list]; omega)
          rw [hSl.out, take_cut _ _ _ (Nat.le_add_right A d)] at CF
          have hAd : A + d ≤ X.size := by omega
          clear TX hy b3 hS
          go_wp2_with fail
          with_reducible refine CF.mono ?_
          rintro e w4 ⟨rfl, SN4, b4⟩
          have HS4 : Hid _ := SN4
          have HB4 : Hid (Below w.heap.size w w4) := HB3.out.trans b4
          clear CF CV SN4 b4 HB3
          go_wp2
          go_roundg (gk - 1)
          case measure => omega
          case rel => exact ⟨k + 1, A + d, by omega, by go_num, by go_num, hAd, HS4, HB4⟩
    · obtain ⟨y, w3, CV, TX, b3, hy⟩ := conv_str wr (X.extract A X.size)
      have hSl : Hid ((X.extract A X.size).data.toList = (X.data.toList.take X.size).drop A) := by unfold Hid; rw [← ByteArray.toList_eq, ext_tk]
      have HB3 : Hid (Below w.heap.size w w3) := hB.out.trans (b3.mono hB.out.size)
      have CF := (hS.out.below b3).feed HB3.out.size y _ TX (fun a l c e he => by have := hy a l c e; have := hS.out.lt; omega) (by
        rw [hSl.out, List.length_drop, List.length_take, List.length_take, size_list]; omega)
      rw [hSl.out, take_cut _ _ _ hA, List.take_of_length_le (by rw [size_list]; exact Nat.le_refl _)] at CF
      clear TX hy b3 hS
      go_wp2_with fail
      with_reducible refine CF.mono ?_
      rintro e w4 ⟨rfl, SN4, b4⟩
      have HS4 : Hid _ := SN4
      have HB4 : Hid (Below w.heap.size w w4) := HB3.out.trans b4
      clear CF CV SN4 b4 HB3
      have CN := Sn.found HS4.out (by rw [size_list]; omega)
      clear HS4
      go_wp2_with fail
      with_reducible refine CN.mono ?_
      rintro e w5 ⟨v, F, rfl, tx, nd, mem, -, -, b5⟩
      have HB5 : Hid (Below w.heap.size w w5) := HB4.out.trans (b5.mono HB4.out.size)
      have HT := two_found nd mem HO.out
      clear CN b5 HB4 nd mem
      have hcase : ∃ xf cf m, v = .slice xf m cf ∧ 1 ≤ m ∧ m ≤ 2 ∧ ∃ b, xf = some ⟨b, 0, none⟩ ∧ w5.cell? ⟨b, 0, none⟩ = some (.string one_) := by
        obtain ⟨xf, cf, rfl, hxf⟩ := tx
        rcases HT with e | e
        · rw [e] at hxf ⊢
          obtain ⟨b, q1, -, q3⟩ := hxf 0 _ rfl
          rw [ba_list] at q3
          exact ⟨_, _, _, rfl, by simp, by simp, b, q1, q3⟩
        · rw [e] at hxf ⊢
          obtain ⟨b, q1, -, q3⟩ := hxf 0 _ rfl
          rw [ba_list] at q3
          exact ⟨_, _, _, rfl, by simp, by simp, b, q1, q3⟩
      clear tx HT
      obtain ⟨xf, cf, m, rfl, hm1, hm2, bf, rfl, cellF⟩ := hcase
      have l1 : ¬ ((m : Int) < 1) := by omega
      have l2 : ¬ ((2 : Int) < (m : Int)) := by omega
      have e1 : one_.toList = [48, 49, 50, 51, 52, 53, 54, 55, 56, 57, 97, 98, 99, 100, 102, 103, 104, 105, 106, 107, 108, 109, 110, 112, 113, 114, 115, 118, 119, 120, 121, 122] := by rw [ByteArray.toList_eq]; rfl
      go_wp2_with fail
      clear cellF e1
      have hb := heap_alloc_new w5 (.cells #[.string one_] 9)
      have B1 : Hid (RowKit.Below w5.heap.size w5 (w5.alloc (.cells #[.string one_] 9))) := (RowKit.Below.refl _ _).alloc (Nat.le_refl _) _
      have hz : (w5.alloc (.cells #[.string one_] 9)).heap.size = w5.heap.size + 1 := World.size_alloc _ _
      have CN : Calls Try.prog 9 #[.slice (some ⟨w5.heap.size, 0, none⟩) 1 1] (w5.alloc (.cells #[.string one_] 9)) _ := Sn.new [one_] (some ⟨w5.heap.size, 0, none⟩) 1 _ (by simp) (fun j s hj => ⟨_, rfl, by rw [hz]; exact Nat.lt_succ_self _, by
        rw [Addr.add_lit, Nat.zero_add, Lib.cell_of_heap hb]
        match j, hj with
        | 0, hj => simp at hj; subst hj; rfl⟩)
      clear hb hz
      refine (show Calls Try.prog 9 #[.slice (some ⟨w5.heap.size, 0, none⟩) 1 1] (w5.alloc (.cells #[.string one_] 9)) _ from CN.mono ?_)
      rintro e w6 ⟨b6, ⟨⟨s, hs, hbad⟩, rfl⟩ | ⟨-, gt, rfl, SN⟩⟩
      · exfalso
        rw [List.mem_singleton] at hs
        subst hs
        exact hbad h_one
      have HB6 : Hid (Below w.heap.size w w6) := HB5.out.trans ((B1.out.trans (b6.mono B1.out.size)).mono HB5.out.size)
      have HS6 : Hid (Sn w.heap.size w6 gt [one_.data.toList] []) := by
        obtain ⟨m, N, kept, S, F, fv, q1, q2, q3, q4, q5, q6⟩ := SN
        have hle : w.heap.size ≤ (w5.alloc (.cells #[.string one_] 9)).heap.size := Nat.le_trans HB5.out.size B1.out.size
        exact ⟨m, N, kept, S, F, fv, q1, q2, q3, Nat.le_trans hle q4, Nat.le_trans hle q5, fun k hk => Nat.le_trans hle (q6 k hk)⟩
      clear SN b6 B1 HB5 CN
      have ho : (ByteArray.mk #[48, 49, 50, 51, 52, 53, 54, 55, 56, 57, 97, 98, 99, 100, 102, 103, 104, 105, 106, 107, 108, 109, 110, 112, 113, 114, 115, 118, 119, 120, 121, 122]).size = 32 := rfl
      obtain ⟨y, w7, CV, TX, b7, hy⟩ := conv_str w6 o31
      unfold o31 one_ at CV
      have HB7 : Hid (Below w.heap.size w w7) := HB6.out.trans (b7.mono HB6.out.size)
      have CF := (HS6.out.below b7).feed HB7.out.size y _ TX (fun a l c e he => by have := hy a l c e; have := HS6.out.lt; omega) (by decide +kernel)
      clear TX hy b7 HS6
      go_wp2_with fail
      with_reducible refine CF.mono ?_
      rintro e w8 ⟨rfl, SN8, b8⟩
      have HS8 : Hid (Sn w.heap.size w8 gt [one_.data.toList] o31.data.toList) := SN8
      have HB8 : Hid (Below w.heap.size w w8) := HB7.out.trans b8
      clear CF CV SN8 b8 HB7
      obtain ⟨y2, w9, CV, TX, b9, hy⟩ := conv_str w8 eo31
      unfold eo31 one_ at CV
      have HB9 : Hid (Below w.heap.size w w9) := HB8.out.trans (b9.mono HB8.out.size)
      have CF := (HS8.out.below b9).feed HB9.out.size y2 _ TX (fun a l c e he => by have := hy a l c e; have := HS8.out.lt; omega) (by decide +kernel)
      clear TX hy b9 HS8
      go_wp2_with fail
      with_reducible refine CF.mono ?_
      rintro e w10 ⟨rfl, SN10, b10⟩
      have HB10 : Hid (Below w.heap.size w w10) := HB9.out.trans b10
      have CN := Sn.found SN10 (by decide +kernel)
      clear CF CV SN10 b10 HB9
      go_wp2_with fail
      with_reducible refine CN.mono ?_
      rintro e w11 ⟨v, F, rfl, tx, nd, mem, -, -, b11⟩
      have HB11 : Hid (Below w.heap.size w w11) := HB10.out.trans (b11.mono HB10.out.size)
      have h0 := none_found mem
      subst h0
      obtain ⟨xe, ce, rfl, -⟩ := tx
      have hsl : (srt []).length = 0 := by unfold srt; simp
      rw [hsl]
      clear CN b11 HB10 nd mem hsl
      go_wp2
      go_ret
      exact ⟨rfl, HB11.out⟩
end Sc
end Go.Proofs.Ytojefckhefanhaa
