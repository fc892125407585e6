/- ScanStreams, walked (own text of the verifier). -/
import Derived.Test.YtojefckhefanhaaSaI
import Derived.Test.YtojefckhefanhaaSaG
namespace Go.Proofs.Ytojefckhefanhaa
open Go.RowKit
namespace Sc

theorem tk_cut (l : List UInt8) (a b : Nat) (h : a ≤ b) : l.take a ++ (l.take b).drop a = l.take b := by
  have := List.take_append_drop a (l.take b)
  rw [List.take_take, Nat.min_eq_left h] at this
  exact this
theorem ba_cat' (a b : List UInt8) : ba a ++ ba b = ba (a ++ b) := by
  apply ByteArray.ext
  simp [ba]

set_option maxRecDepth 100000 in
set_option maxHeartbeats 8000000 in
theorem streams_walk (X from_ : ByteArray) (x : Option Addr) (n c : Nat) (f : Nat → Int) (w : World) (hX : X.size ≤ 1048576) (_hf : from_.size ≤ 1048576) (hn : n ≤ 1048576) (hx : ISl w x n f) :
    Calls Try.prog 6 #[.string X, .string from_, .slice x n c] w fun e w' => e = .returned (.bool true) ∧ Below w.heap.size w w' := by
  have HX : Hid (ISl w x n f) := hx
  clear hx
  go_enter Try.func6, Try.ntmps6
  go_wp2_with fail
  with_reducible refine (awake_any _).mono ?_
  rintro e w1 ⟨rfl, b1⟩
  have HB1 : Hid (Below w.heap.size w w1) := b1
  clear b1
  go_wp2_with fail
  refine (show Calls Try.prog 16 #[.string X, .string from_, .string two_] w1 _ from (rewrite_any X from_ two_ w1 (by omega)).mono ?_)
  rintro e w2 ⟨b2, ⟨h1, rfl⟩ | ⟨_, h2, -⟩ | ⟨h1, h2, v, own, rfl⟩⟩
  · have HB2 : Hid (Below w.heap.size w w2) := HB1.out.trans (b2.mono HB1.out.size)
    have h131 : hsh from_ = 131 := by
      rcases hsh_cases from_ with ⟨-, e⟩ | ⟨-, e⟩
      · exact absurd e h1
      · exact e
    have CN := newrw_any from_ two_ w2
    clear b2 HB1
    go_wp2_with fail
    refine (show Calls Try.prog 19 #[.string from_, .string two_] w2 _ from CN.mono ?_)
    rintro e w3 ⟨b3, ⟨-, rfl⟩ | ⟨h3, -, -⟩ | ⟨h3, -⟩⟩
    · have HB3 : Hid (Below w.heap.size w w3) := HB2.out.trans (b3.mono HB2.out.size)
      clear CN b3 HB2 h1
      go_wp2
      go_ret
      exact ⟨rfl, HB3.out⟩
    · exact absurd h3 h1
    · exact absurd h3 h1
  · exact absurd h_two h2
  have HB2 : Hid (Below w.heap.size w w2) := HB1.out.trans (b2.mono HB1.out.size)
  have RI2 : Hid (RI w2 w2.heap.size v (pl from_.data.toList 0 X.data.toList)) := ri_own own
  have CN := newrw_any from_ two_ w2
  clear b2 HB1 own
  go_wp2_with fail
  refine (show Calls Try.prog 19 #[.string from_, .string two_] w2 _ from CN.mono ?_)
  rintro e w3 ⟨b3, ⟨h3, -⟩ | ⟨-, h3, -⟩ | ⟨-, -, g, hg, rfl, RM3⟩⟩
  · exact absurd h1 h3
  · exact absurd h_two h3
  have HB3 : Hid (Below w2.heap.size w2 w3) := b3
  have HR3 : Hid (Rn w2.heap.size w3 g from_.data.toList two_.data.toList [] []) := Rn.start h1 h_two RM3 hg
  have hfl := (isH_of h1).len
  clear CN b3 RM3 hg h1 h2
  obtain ⟨F, hF⟩ : ∃ F, from_.data.toList = F := ⟨_, rfl⟩
  rw [hF] at HR3 RI2 hfl
  rw [hF]
  go_wp2_with fail
  go_loopg [12, 13, 52] n (fun gk ov av iv wr => ∃ (k A : Nat) (E : List UInt8), gk + k = n ∧ iv = .int .i64 (k : Int) ∧ av = .int .i64 (A : Int) ∧ ov = .string (ba E) ∧ A ≤ X.size ∧ Hid (Rn w2.heap.size wr g F two_.data.toList (X.data.toList.take A) E) ∧ Hid (Below w2.heap.size w2 wr))
  case atStart => exact ⟨0, 0, [], rfl, rfl, rfl, rfl, Nat.zero_le _, HR3, HB3⟩
  case round =>
    obtain ⟨k, A, E, hgk, rfl, rfl, rfl, hA, hR, hB⟩ := hrel
    by_cases hk : k < n
    · obtain ⟨a, rfl, c1⟩ := HX.out.below (HB2.out.trans (hB.out.mono HB2.out.size)) (Nat.le_refl _) k hk
      obtain ⟨z, hz⟩ : ∃ z, f k = z := ⟨_, rfl⟩
      rw [hz] at c1
      clear hz
      by_cases hz0 : z < 0
      · obtain ⟨d, hd'⟩ : ∃ d : Nat, (X.size : Int) - (A : Int) = (d : Int) := ⟨X.size - A, by omega⟩
        obtain ⟨y, w3, CV, TX, b3, hy⟩ := conv_str wr (X.extract A (A + d))
        have hSl : Hid ((X.extract A (A + d)).data.toList = (X.data.toList.take (A + d)).drop A) := by unfold Hid; rw [← ByteArray.toList_eq, ext_tk]
        have HB3 : Hid (Below w2.heap.size w2 w3) := hB.out.trans (b3.mono hB.out.size)
        have CF := (hR.out.below b3).feed HB3.out.size y _ TX (fun a l c e he => by have := hy a l c e; have := hR.out.lt; omega) (by
          rw [hSl.out, List.length_drop, List.length_take, List.length_take, size_list]; omega)
        rw [hSl.out, tk_cut _ _ _ (Nat.le_add_right A d)] at CF
        have hAd : A + d ≤ X.size := by omega
        have hlen : (X.data.toList.take (A + d)).length = A + d := by rw [List.length_take, size_list]; omega
        clear TX hy b3 hR
        go_wp2_with fail
        with_reducible refine CF.mono ?_
        rintro e w4 ⟨ans, rfl, RN4, b4⟩
        have HR4 : Hid (Rn w2.heap.size w4 g F two_.data.toList (X.data.toList.take (A + d)) (E ++ ans)) := RN4
        have HB4 : Hid (Below w2.heap.size w2 w4) := HB3.out.trans b4
        have hE2 := RN4.len
        have hE3 : (E ++ ans).length = E.length + ans.length := List.length_append
        have hcat : ba E ++ ba ans = ba (E ++ ans) := ba_cat' E ans
        have hz1 := ba_size E
        have hz2 := ba_size ans
        have hz3 := ba_size (E ++ ans)
        have hno : ¬ 9223372036854775807 < (ba E).size + (ba ans).size := by omega
        have hng : ¬ ((A : Int) + (d : Int) < ((E ++ ans).length : Int)) := by omega
        have CT := staken_any g _ w4 HR4.out.cell
        rw [hlen] at CT hE2
        clear CF CV RN4 b4 HB3 hE3
        generalize E ++ ans = E2 at *
        go_wp2_with fail
        with_reducible refine CT.mono ?_
        rintro e w5 ⟨rfl, rfl⟩
        clear CT hno hz1 hz2
        go_wp2
        go_roundg (gk - 1)
        case measure => omega
        case rel => exact ⟨k + 1, A + d, E2, by omega, by go_num, by go_num, rfl, hAd, HR4, HB4⟩
      · by_cases hz1 : (X.size : Int) - (A : Int) < z
        · obtain ⟨d, hd'⟩ : ∃ d : Nat, (X.size : Int) - (A : Int) = (d : Int) := ⟨X.size - A, by omega⟩
          obtain ⟨y, w3, CV, TX, b3, hy⟩ := conv_str wr (X.extract A (A + d))
          have hSl : Hid ((X.extract A (A + d)).data.toList = (X.data.toList.take (A + d)).drop A) := by unfold Hid; rw [← ByteArray.toList_eq, ext_tk]
          have HB3 : Hid (Below w2.heap.size w2 w3) := hB.out.trans (b3.mono hB.out.size)
          have CF := (hR.out.below b3).feed HB3.out.size y _ TX (fun a l c e he => by have := hy a l c e; have := hR.out.lt; omega) (by
            rw [hSl.out, List.length_drop, List.length_take, List.length_take, size_list]; omega)
          rw [hSl.out, tk_cut _ _ _ (Nat.le_add_right A d)] at CF
          have hAd : A + d ≤ X.size := by omega
          have hlen : (X.data.toList.take (A + d)).length = A + d := by rw [List.length_take, size_list]; omega
          clear TX hy b3 hR
          go_wp2_with fail
          with_reducible refine CF.mono ?_
          rintro e w4 ⟨ans, rfl, RN4, b4⟩
          have HR4 : Hid (Rn w2.heap.size w4 g F two_.data.toList (X.data.toList.take (A + d)) (E ++ ans)) := RN4
          have HB4 : Hid (Below w2.heap.size w2 w4) := HB3.out.trans b4
          have hE2 := RN4.len
          have hE3 : (E ++ ans).length = E.length + ans.length := List.length_append
          have hcat : ba E ++ ba ans = ba (E ++ ans) := ba_cat' E ans
          have hz1 := ba_size E
          have hz2 := ba_size ans
          have hz3 := ba_size (E ++ ans)
          have hno : ¬ 9223372036854775807 < (ba E).size + (ba ans).size := by omega
          have hng : ¬ ((A : Int) + (d : Int) < ((E ++ ans).length : Int)) := by omega
          have CT := staken_any g _ w4 HR4.out.cell
          rw [hlen] at CT hE2
          clear CF CV RN4 b4 HB3 hE3
          generalize E ++ ans = E2 at *
          go_wp2_with fail
          with_reducible refine CT.mono ?_
          rintro e w5 ⟨rfl, rfl⟩
          clear CT hno hz1 hz2
          go_wp2
          go_roundg (gk - 1)
          case measure => omega
          case rel => exact ⟨k + 1, A + d, E2, by omega, by go_num, by go_num, rfl, hAd, HR4, HB4⟩
        · obtain ⟨d, rfl⟩ : ∃ d : Nat, z = (d : Int) := ⟨z.toNat, by omega⟩
          obtain ⟨y, w3, CV, TX, b3, hy⟩ := conv_str wr (X.extract A (A + d))
          have hSl : Hid ((X.extract A (A + d)).data.toList = (X.data.toList.take (A + d)).drop A) := by unfold Hid; rw [← ByteArray.toList_eq, ext_tk]
          have HB3 : Hid (Below w2.heap.size w2 w3) := hB.out.trans (b3.mono hB.out.size)
          have CF := (hR.out.below b3).feed HB3.out.size y _ TX (fun a l c e he => by have := hy a l c e; have := hR.out.lt; omega) (by
            rw [hSl.out, List.length_drop, List.length_take, List.length_take, size_list]; omega)
          rw [hSl.out, tk_cut _ _ _ (Nat.le_add_right A d)] at CF
          have hAd : A + d ≤ X.size := by omega
          have hlen : (X.data.toList.take (A + d)).length = A + d := by rw [List.length_take, size_list]; omega
          clear TX hy b3 hR
          go_wp2_with fail
          with_reducible refine CF.mono ?_
          rintro e w4 ⟨ans, rfl, RN4, b4⟩
          have HR4 : Hid (Rn w2.heap.size w4 g F two_.data.toList (X.data.toList.take (A + d)) (E ++ ans)) := RN4
          have HB4 : Hid (Below w2.heap.size w2 w4) := HB3.out.trans b4
          have hE2 := RN4.len
          have hE3 : (E ++ ans).length = E.length + ans.length := List.length_append
          have hcat : ba E ++ ba ans = ba (E ++ ans) := ba_cat' E ans
          have hz1 := ba_size E
          have hz2 := ba_size ans
          have hz3 := ba_size (E ++ ans)
          have hno : ¬ 9223372036854775807 < (ba E).size + (ba ans).size := by omega
          have hng : ¬ ((A : Int) + (d : Int) < ((E ++ ans).length : Int)) := by omega
          have CT := staken_any g _ w4 HR4.out.cell
          rw [hlen] at CT hE2
          clear CF CV RN4 b4 HB3 hE3
          generalize E ++ ans = E2 at *
          go_wp2_with fail
          with_reducible refine CT.mono ?_
          rintro e w5 ⟨rfl, rfl⟩
          clear CT hno hz1 hz2
          go_wp2
          go_roundg (gk - 1)
          case measure => omega
          case rel => exact ⟨k + 1, A + d, E2, by omega, by go_num, by go_num, rfl, hAd, HR4, HB4⟩
    · obtain ⟨y, w3', CV, TX, b3, hy⟩ := conv_str wr (X.extract A X.size)
      have hSl : Hid ((X.extract A X.size).data.toList = (X.data.toList.take X.size).drop A) := by unfold Hid; rw [← ByteArray.toList_eq, ext_tk]
      have HB3' : Hid (Below w2.heap.size w2 w3') := hB.out.trans (b3.mono hB.out.size)
      have CF := (hR.out.below b3).feed HB3'.out.size y _ TX (fun a l c e he => by have := hy a l c e; have := hR.out.lt; omega) (by
        rw [hSl.out, List.length_drop, List.length_take, List.length_take, size_list]; omega)
      rw [hSl.out, tk_cut _ _ _ hA, List.take_of_length_le (by rw [size_list]; exact Nat.le_refl _)] at CF
      have hEl := hR.out.len
      rw [List.length_take, size_list] at hEl
      clear TX hy b3 hR
      go_wp2_with fail
      with_reducible refine CF.mono ?_
      rintro e w4 ⟨ans, rfl, RN4, b4⟩
      have HR4 : Hid (Rn w2.heap.size w4 g F two_.data.toList X.data.toList (E ++ ans)) := RN4
      have HB4 : Hid (Below w2.heap.size w2 w4) := HB3'.out.trans b4
      have hE2 := RN4.len
      have hE3 : (E ++ ans).length = E.length + ans.length := List.length_append
      rw [size_list] at hE2
      have hcat : ba E ++ ba ans = ba (E ++ ans) := ba_cat' E ans
      have hz1 := ba_size E
      have hz2 := ba_size ans
      have hno : ¬ 9223372036854775807 < (ba E).size + (ba ans).size := by omega
      clear CF CV RN4 b4 HB3' hE3
      generalize E ++ ans = E2 at *
      have CC := HR4.out.close HB4.out.size
      go_wp2_with fail
      with_reducible refine CC.mono ?_
      rintro e w5 ⟨ans2, rfl, hall, RC5, b5⟩
      have HC5 : Hid (Rc w2.heap.size w5 g F two_.data.toList X.data.toList) := RC5
      have HB5 : Hid (Below w2.heap.size w2 w5) := HB4.out.trans b5
      have hE3 : (E2 ++ ans2).length = E2.length + ans2.length := List.length_append
      have hrl : (rw' F two_.data.toList X.data.toList).length = X.size := by rw [rw_len (isH_of h_two).len, size_list]
      rw [hall] at hE3
      have hcat2 : ba E2 ++ ba ans2 = ba (rw' F two_.data.toList X.data.toList) := by rw [ba_cat', hall]
      have hz3 := ba_size E2
      have hz4 := ba_size ans2
      have hno2 : ¬ 9223372036854775807 < (ba E2).size + (ba ans2).size := by omega
      have HALL : Hid (E2 ++ ans2 = rw' F two_.data.toList X.data.toList) := hall
      clear CC RC5 b5 HB4 HR4 hall hcat hno hz1 hz2
      have hcs : ∀ C : Array Value, (convert 30 30 (.slice (some ⟨w5.heap.size, 0, none⟩) 32 32)).run Try.prog (w5.alloc (.cells C 5)) = .ok (.slice (some ⟨w5.heap.size, 0, none⟩) 32 32) ((w5.alloc (.cells C 5)).freeze ⟨w5.heap.size, C.size, none⟩ 1) := fun C => conv_mark _ _ _ _ _ 5 (by unfold World.shape?; rw [heap_alloc_new])
      have bF : ∀ C : Array Value, Hid (Below w5.heap.size w5 ((w5.alloc (.cells C 5)).freeze ⟨w5.heap.size, C.size, none⟩ 1)) := fun C => Lib.below_freeze ((Below.refl _ _).alloc (Nat.le_refl _) _) (Nat.le_refl _) 1
      have bF1 : Below w5.heap.size w5 ((w5.alloc (.cells (bv one_.data.toList).toArray 5)).freeze ⟨w5.heap.size, 32, none⟩ 1) := (bF _).out
      have HC6 : Hid (Rc w2.heap.size ((w5.alloc (.cells (bv one_.data.toList).toArray 5)).freeze ⟨w5.heap.size, 32, none⟩ 1) g F two_.data.toList X.data.toList) := HC5.out.below bF1
      have HB6 : Hid (Below w2.heap.size w2 ((w5.alloc (.cells (bv one_.data.toList).toArray 5)).freeze ⟨w5.heap.size, 32, none⟩ 1)) := HB5.out.trans (bF1.mono HB5.out.size)
      clear bF bF1
      go_wp2_with fail
      refine (show Calls Try.prog 20 #[.pointer (some ⟨g, 0, none⟩), .slice (some ⟨w5.heap.size, 0, none⟩) 32 32] ((w5.alloc (.cells (bv one_.data.toList).toArray 5)).freeze ⟨w5.heap.size, 32, none⟩ 1) _ from (HC6.out.feed _).mono ?_)
      rintro e w7 ⟨rfl, RC7, b7⟩
      have HC7 : Hid (Rc w2.heap.size w7 g F two_.data.toList X.data.toList) := RC7
      have HB7 : Hid (Below w2.heap.size w2 w7) := HB6.out.trans (b7.mono HB6.out.size)
      clear hcs HC6 HB6 RC7 b7 HC5 HB5 hcat2 hno2
      have CC := HC7.out.close HB7.out.size
      go_wp2_with fail
      with_reducible refine CC.mono ?_
      rintro e w8 ⟨rfl, RC8, b8⟩
      have HC8 : Hid (Rc w2.heap.size w8 g F two_.data.toList X.data.toList) := RC8
      have HB8 : Hid (Below w2.heap.size w2 w8) := HB7.out.trans b8
      clear CC RC8 b8 HC7 HB7
      have CP := HC8.out.ps (by rw [size_list]; omega)
      have hst : ((ba (rw' F two_.data.toList X.data.toList)).toList == (ba (rw' F two_.data.toList X.data.toList)).toList) = true := by simp
      go_wp2_with fail
      with_reducible refine CP.mono ?_
      rintro e w9 ⟨v', rfl, ow, b9⟩
      have HB9 : Hid (Below w2.heap.size w2 w9) := HB8.out.trans (b9.mono HB8.out.size)
      have HC9 : Hid (Rc w2.heap.size w9 g F two_.data.toList X.data.toList) := HC8.out.below b9
      have hpz : (pl F 0 X.data.toList).length ≤ X.size := by rw [← size_list]; exact pl_len _ _ _
      have CI := ints_any _ _ v' v (pl F 0 X.data.toList) (pl F 0 X.data.toList) w9 (ri_own ow) (RI.below RI2.out HB9.out (Nat.le_refl _)) (by omega) (by omega)
      rw [decide_eq_true rfl] at CI
      clear CP ow b9 HB8 HC8 hpz
      go_wp2_with fail
      with_reducible refine CI.mono ?_
      rintro e w10 ⟨rfl, q, hq⟩
      have HB10 : Hid (Below w2.heap.size w2 w10) := by rw [hq]; exact bel_drewN HB9.out q
      have hcell : w10.cell? ⟨g, 0, none⟩ = some (.int .i64 (X.size : Int)) := by rw [hq, ← size_list]; exact HC9.out.cell
      have CT := staken_any g _ w10 hcell
      have hem : ((ByteArray.mk #[]) ++ ba []).toList.isEmpty = true := by decide +kernel
      clear CI hq HB9 HC9 hcell
      go_wp2_with fail
      with_reducible refine CT.mono ?_
      rintro e w11 ⟨rfl, rfl⟩
      clear CT
      go_wp2
      go_ret
      exact ⟨rfl, HB2.out.trans (HB10.out.mono HB2.out.size)⟩
end Sc
end Go.Proofs.Ytojefckhefanhaa
