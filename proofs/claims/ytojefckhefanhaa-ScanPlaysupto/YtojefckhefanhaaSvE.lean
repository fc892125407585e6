/- ScanPlays, walked (own text of the verifier). -/
import Derived.Test.YtojefckhefanhaaSaH
import Derived.Test.YtojefckhefanhaaSaG
namespace Go.Proofs.Ytojefckhefanhaa
open Go.RowKit
namespace Sc

theorem rt_own {w : World} {B : Nat} {v : Value} {L : List (List UInt8)} (h : w.ownsRow B 9 1 v L.length (tv_ L)) : RT w w.heap.size v L := by
  match L, h with
  | [], h =>
    obtain ⟨p, c, rfl⟩ := slice_of_row h
    exact ⟨p, c, rfl, fun i t ht => by cases ht⟩
  | a :: l, h =>
    obtain ⟨b, c, rfl, _⟩ := tv_cell (m := 0) h rfl
    refine ⟨_, c, rfl, fun i t ht => ?_⟩
    obtain ⟨b', c', e, hc⟩ := tv_cell h ht
    injection e with e1 _ _
    injection e1 with e1
    injection e1 with e1
    subst e1
    exact ⟨b, 0, rfl, World.block_lt_of_cell? _ _ hc, by rw [Nat.zero_add]; exact hc⟩
theorem KL.below {w w' : World} {x : Option Addr} {n B : Nat} {L : List ByteArray} (h : KL w x n L) (b : Below B w w') (hB : w.heap.size ≤ B) : KL w' x n L := ⟨h.1, fun j s hj => by
  obtain ⟨a, e1, e2, e3⟩ := h.2 j s hj
  exact ⟨a, e1, Nat.lt_of_lt_of_le e2 b.size, (b.cell (p := a.add j) (by rw [show (a.add j).block = a.block by unfold Addr.add; split <;> rfl]; omega)).trans e3⟩⟩
theorem sum_take (L : List ByteArray) (k : Nat) (h : k < L.length) : ((L.take (k + 1)).map ByteArray.size).sum = ((L.take k).map ByteArray.size).sum + (L[k]'h).size := by
  rw [List.take_succ_eq_append_getElem h, List.map_append, List.sum_append]
  simp
theorem sum_le (L : List ByteArray) (k : Nat) : ((L.take k).map ByteArray.size).sum ≤ (L.map ByteArray.size).sum := by
  have h := congrArg (fun l => (l.map ByteArray.size).sum) (List.take_append_drop k L)
  simp only [List.map_append, List.sum_append] at h
  omega
theorem same_found {F O H : List (List UInt8)} {A : List UInt8} (nd : F.Nodup) (mem : ∀ h, h ∈ F ↔ h ∈ H ∧ occ h A) (up : O.Pairwise (fun a b => a < b)) (om : ∀ h, h ∈ O ↔ h ∈ H ∧ occ h A) : srt F = O :=
  srt_is nd up (fun h => (mem h).trans (om h).symm)
theorem ba_cat (a b : List UInt8) : ba a ++ ba b = ba (a ++ b) := by
  apply ByteArray.ext
  simp [ba]

set_option maxRecDepth 100000 in
set_option maxHeartbeats 8000000 in
theorem plays_walk (x : Option Addr) (n c : Nat) (L : List ByteArray) (y : Option Addr) (m d : Nat) (M : List ByteArray) (w : World) (hL : L.length + (L.map ByteArray.size).sum ≤ 1048576) (hx : KL w x n L) (hM : M.length + (M.map ByteArray.size).sum ≤ 1048576) (hy : KL w y m M) :
    Calls Try.prog 3 #[.slice x n c, .slice y m d] w fun e w' => e = .returned (.bool true) ∧ Below w.heap.size w w' := by
  obtain ⟨rfl, hx⟩ := hx
  obtain ⟨rfl, hy⟩ := hy
  have HX : Hid (KL w x L.length L) := ⟨rfl, hx⟩
  have HY : Hid (KL w y M.length M) := ⟨rfl, hy⟩
  clear hx hy
  go_enter Try.func3, Try.ntmps3
  go_wp2_with fail
  with_reducible refine (awake_any _).mono ?_
  rintro e w1 ⟨rfl, b1⟩
  have HB1 : Hid (Below w.heap.size w w1) := b1
  clear b1
  have CN := Sn.new L x c w1 (by omega) (KL.below HX.out HB1.out (Nat.le_refl _)).2
  go_wp2_with fail
  with_reducible refine CN.mono ?_
  rintro e w2 ⟨b2, ⟨⟨s, hs, hbad⟩, rfl⟩ | ⟨hall, g, rfl, SN⟩⟩
  · clear CN
    have HB2 : Hid (Below w.heap.size w w2) := HB1.out.trans (b2.mono HB1.out.size)
    have CW := wanted_any L x c w2 (by omega) (KL.below HX.out HB2.out (Nat.le_refl _)).2
    clear b2 HB1
    go_wp2_with fail
    with_reducible refine CW.mono ?_
    rintro e w3 ⟨rfl, ⟨hall, rfl⟩ | ⟨-, rfl⟩⟩
    · exact absurd (hall s hs) hbad
    · clear CW hs hbad
      go_wp2
      go_ret
      exact ⟨rfl, HB2.out⟩
  · clear CN
    have HB2 : Hid (Below w.heap.size w w2) := HB1.out.trans (b2.mono HB1.out.size)
    have HS : Hid (Sn w.heap.size w2 g (L.map fun s => s.data.toList) []) := by
      obtain ⟨m, N, kept, S, F, fv, q1, q2, q3, q4, q5, q6⟩ := SN
      exact ⟨m, N, kept, S, F, fv, q1, q2, q3, Nat.le_trans HB1.out.size q4, Nat.le_trans HB1.out.size q5, fun k hk => Nat.le_trans HB1.out.size (q6 k hk)⟩
    have HSZ : Hid (∀ s ∈ L, s.size = 32) := fun s hs => by
      have h := (isH_of (hall s hs)).len
      rw [size_list] at h
      exact h
    have CW := wanted_any L x c w2 (by omega) (KL.below HX.out HB2.out (Nat.le_refl _)).2
    clear b2 HB1 SN
    go_wp2_with fail
    with_reducible refine CW.mono ?_
    rintro e w3 ⟨rfl, hcase⟩
    obtain rfl : e = .returned (.int .i64 0) := by
      rcases hcase with ⟨-, h⟩ | ⟨⟨s, hs, hbad⟩, -⟩
      · exact h
      · exact absurd (hall s hs) hbad
    clear hcase
    clear CW hall
    go_wp2_with fail
    go_loopg [7, 32] M.length (fun gk av iv wr => ∃ (k : Nat) (A : List UInt8), gk + k = M.length ∧ iv = .int .i64 (k : Int) ∧ av = .string (ba A) ∧ A.length = ((M.take k).map ByteArray.size).sum ∧ Hid (Sn w.heap.size wr g (L.map fun s => s.data.toList) A) ∧ Hid (Below w.heap.size w wr))
    case atStart => exact ⟨0, [], rfl, rfl, rfl, rfl, HS, HB2⟩
    case round =>
      obtain ⟨k, A, hgk, rfl, rfl, hA, hS, hB⟩ := hrel
      have hsl := sum_le M k
      by_cases hk : k < M.length
      · obtain ⟨a, rfl, hab, c1⟩ := (KL.below HY.out hB.out (Nat.le_refl _)).2 k (M[k]'hk) (List.getElem?_eq_getElem hk)
        have hsz := sum_take M k hk
        have hsl2 := sum_le M (k + 1)
        generalize M[k]'hk = s at *
        obtain ⟨yv, w3, CV, TX, b3, hyv⟩ := conv_str wr s
        have HB3 : Hid (Below w.heap.size w w3) := hB.out.trans (b3.mono hB.out.size)
        have hsl3 : s.data.toList.length = s.size := size_list s
        have CF := (hS.out.below b3).feed HB3.out.size yv _ TX (fun a l c e he => by have := hyv a l c e; have := hS.out.lt; omega) (by omega)
        have hcat : ba A ++ s = ba (A ++ s.data.toList) := by
          have := ba_cat A s.data.toList
          rw [ba_list] at this
          exact this
        have hz1 := ba_size A
        have hno : ¬ 9223372036854775807 < (ba A).size + s.size := by omega
        have hz2 := ba_size (A ++ s.data.toList)
        have hAl : (A ++ s.data.toList).length = A.length + s.size := by rw [List.length_append, hsl3]
        have d1 : wr.cell? (a.add k) = some (.string s) := c1
        clear TX hyv b3 hS c1 hab
        generalize A ++ s.data.toList = A2 at *
        go_wp2_with fail
        with_reducible refine CF.mono ?_
        rintro e w4 ⟨rfl, SN4, b4⟩
        have HS4 : Hid (Sn w.heap.size w4 g (L.map fun s => s.data.toList) A2) := SN4
        have HB4 : Hid (Below w.heap.size w w4) := HB3.out.trans b4
        clear CF CV SN4 b4 HB3
        have CT := staken_any g _ w4 HS4.out.cell
        go_wp2_with fail
        with_reducible refine CT.mono ?_
        rintro e w4' ⟨rfl, rfl⟩
        clear CT hno hz1
        have CN := Sn.found HS4.out (by omega)
        go_wp2_with fail
        with_reducible refine CN.mono ?_
        rintro e w5 ⟨v, F, rfl, tx, nd, mem, -, hS5, b5⟩
        have HB5 : Hid (Below w.heap.size w w5) := HB4.out.trans (b5.mono HB4.out.size)
        have HS5 : Hid (Sn w.heap.size w5 g (L.map fun s => s.data.toList) A2) := hS5
        have RT5 := tx.rt
        clear CN b5 HB4 HS4 tx hS5
        have CR := rfound_any L x c (ba A2) w5 (by omega) (by rw [ba_size]; omega) HSZ.out (KL.below HX.out HB5.out (Nat.le_refl _)).2
        go_wp2_with fail
        with_reducible refine CR.mono ?_
        rintro e w6 ⟨u, O, rfl, ow, up, om, b6⟩
        rw [ba_dat] at om
        have HB6 : Hid (Below w.heap.size w w6) := HB5.out.trans (b6.mono HB5.out.size)
        have HS6 : Hid (Sn w.heap.size w6 g (L.map fun s => s.data.toList) A2) := HS5.out.below b6
        have RT6 := RT5.below b6 (Nat.le_refl _)
        have RU6 := rt_own ow
        rw [same_found nd mem up om] at RT6
        have hOL : O.length ≤ L.length := by
          have := nodup_sub O (L.map fun s => s.data.toList) (up.imp (fun {a b} h e => by subst e; exact List.lt_irrefl _ h)) (fun o ho => ((om o).1 ho).1)
          rw [List.length_map] at this
          exact this
        have CT := texts_any _ _ v u O O w6 RT6 RU6 (by omega) (by omega)
        rw [decide_eq_true rfl] at CT
        clear CR b6 HB5 HS5 RT5 RT6 RU6 ow up om nd mem
        go_wp2_with fail
        with_reducible refine CT.mono ?_
        rintro e w7 ⟨rfl, q, hq⟩
        clear CT
        have HB7 : Hid (Below w.heap.size w w7) := by rw [hq]; exact bel_drewN HB6.out q
        have HS7 : Hid (Sn w.heap.size w7 g (L.map fun s => s.data.toList) A2) := by rw [hq]; exact HS6.out.below (bel_drewN (Below.refl _ _) q)
        clear hq HB6 HS6
        go_wp2
        go_roundg (gk - 1)
        case measure => omega
        case rel => exact ⟨k + 1, A2, by omega, by go_num, rfl, by omega, HS7, HB7⟩
      · have HS4 : Hid (Sn w.heap.size wr g (L.map fun s => s.data.toList) A) := hS
        have HB4 : Hid (Below w.heap.size w wr) := hB
        clear hS hB
        have CN := Sn.found HS4.out (by omega)
        go_wp2_with fail
        with_reducible refine CN.mono ?_
        rintro e w5 ⟨v, F, rfl, tx, nd, mem, -, hS5, b5⟩
        have HB5 : Hid (Below w.heap.size w w5) := HB4.out.trans (b5.mono HB4.out.size)
        have HS5 : Hid (Sn w.heap.size w5 g (L.map fun s => s.data.toList) A) := hS5
        have RT5 := tx.rt
        clear CN b5 HB4 HS4 tx hS5
        have CR := rfound_any L x c (ba A) w5 (by omega) (by rw [ba_size]; omega) HSZ.out (KL.below HX.out HB5.out (Nat.le_refl _)).2
        go_wp2_with fail
        with_reducible refine CR.mono ?_
        rintro e w6 ⟨u, O, rfl, ow, up, om, b6⟩
        rw [ba_dat] at om
        have HB6 : Hid (Below w.heap.size w w6) := HB5.out.trans (b6.mono HB5.out.size)
        have HS6 : Hid (Sn w.heap.size w6 g (L.map fun s => s.data.toList) A) := HS5.out.below b6
        have RT6 := RT5.below b6 (Nat.le_refl _)
        have RU6 := rt_own ow
        rw [same_found nd mem up om] at RT6
        have hOL : O.length ≤ L.length := by
          have := nodup_sub O (L.map fun s => s.data.toList) (up.imp (fun {a b} h e => by subst e; exact List.lt_irrefl _ h)) (fun o ho => ((om o).1 ho).1)
          rw [List.length_map] at this
          exact this
        have CT := texts_any _ _ v u O O w6 RT6 RU6 (by omega) (by omega)
        rw [decide_eq_true rfl] at CT
        clear CR b6 HB5 HS5 RT5 RT6 RU6 ow up om nd mem
        go_wp2_with fail
        with_reducible refine CT.mono ?_
        rintro e w7 ⟨rfl, q, hq⟩
        clear CT
        have HB7 : Hid (Below w.heap.size w w7) := by rw [hq]; exact bel_drewN HB6.out q
        have HS7 : Hid (Sn w.heap.size w7 g (L.map fun s => s.data.toList) A) := by rw [hq]; exact HS6.out.below (bel_drewN (Below.refl _ _) q)
        clear hq HB6 HS6
        go_wp2
        go_ret
        exact ⟨rfl, HB7.out⟩
end Sc
end Go.Proofs.Ytojefckhefanhaa
