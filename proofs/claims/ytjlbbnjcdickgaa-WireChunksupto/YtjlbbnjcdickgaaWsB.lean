/- The document's OneText. -/
import Derived.Test.YtjlbbnjcdickgaaWsA
import Derived.Lib.Strings
namespace Go.Proofs.Ytjlbbnjcdickgaa
open Go.RowKit

def oneV (s : List UInt8) (b c p t : Int) : Value := .tuple #[.string (ba s), .int .i64 b, .int .i64 c, .int .i64 p, .int .i64 t]
/-- What OneText answers: the rest r behind the length n. -/
def oneS (len at_ n : Nat) (r : List UInt8) : Value :=
  if zeros ((r.drop n).take (padN n)) < ((r.drop n).take (padN n)).length then oneV [] (-1) 7 ((at_ + 8 + n + zeros ((r.drop n).take (padN n)) : Nat) : Int) ((at_ + 8 + n + zeros ((r.drop n).take (padN n)) : Nat) : Int)
  else if r.length < n + padN n then oneV [] (-1) 0 0 (len : Int)
  else oneV (r.take n) ((at_ + 8 + n + padN n : Nat) : Int) 0 0 0
def oneR (tl : List UInt8) (at_ most : Nat) : Value :=
  if (tl.drop at_).length < 8 then oneV [] (-1) 0 0 (tl.length : Int)
  else if most < le ((tl.drop at_).take 8) then oneV [] (-1) 6 (at_ : Int) ((at_ + 7 : Nat) : Int)
  else oneS tl.length at_ (le ((tl.drop at_).take 8)) ((tl.drop at_).drop 8)

theorem zeros_eq (z : List UInt8) (q : Nat) (hq : q < z.length) (h0 : ∀ j, j < q → z.getD j 0 = 0) (h1 : z.getD q 0 ≠ 0) : zeros z = q := by
  induction z generalizing q with
  | nil => simp at hq
  | cons b z ih =>
    unfold zeros at ih ⊢
    rw [List.takeWhile_cons]
    cases q with
    | zero =>
      have hb : b ≠ 0 := h1
      rw [if_neg (by simpa using hb)]
      rfl
    | succ q =>
      have hb : b = 0 := h0 0 (by omega)
      rw [if_pos (by simpa using hb), List.length_cons, ih q (by simpa using hq) (fun j hj => h0 (j + 1) (by omega)) h1]
theorem zeros_full (z : List UInt8) (h0 : ∀ j, j < z.length → z.getD j 0 = 0) : zeros z = z.length := by
  induction z with
  | nil => rfl
  | cons b z ih =>
    unfold zeros at ih ⊢
    have hb : b = 0 := h0 0 (by simp)
    rw [List.takeWhile_cons, if_pos (by simpa using hb), List.length_cons, List.length_cons, ih (fun j hj => h0 (j + 1) (by simp; omega))]

theorem rl_len (tl : List UInt8) (at_ : Nat) : ((tl.drop at_).drop 8).length = tl.length - at_ - 8 := by rw [List.length_drop, List.length_drop]
theorem ext_mid (tl : List UInt8) (at_ n : Nat) (_ : at_ + 8 + n ≤ tl.length) : (ba tl).extract (at_ + 8) (at_ + 8 + n) = ba (((tl.drop at_).drop 8).take n) := by
  rw [Go.Lib.extract_eq]
  show ba ((tl.drop (at_ + 8)).take (at_ + 8 + n - (at_ + 8))) = _
  rw [List.drop_drop, Nat.add_sub_cancel_left]

set_option maxHeartbeats 4000000 in
theorem oneT_any (tl : List UInt8) (at_ most : Nat) (w : World) (hl : tl.length ≤ 1073741824) (ha : at_ ≤ tl.length) (hm : most ≤ 9223372036854775807) :
    Calls Try.prog 33 #[.string (ba tl), .int .i64 (at_ : Int), .int .i64 (most : Int)] w fun e w' => e = .returned (oneR tl at_ most) ∧ w' = w := by
  have hsz := ba_size tl
  have hld : (tl.drop at_).length = tl.length - at_ := List.length_drop
  by_cases h8 : (tl.drop at_).length < 8
  · have HE : Hid (oneR tl at_ most = oneV [] (-1) 0 0 (tl.length : Int)) := if_pos h8
    have g1 : (tl.length : Int) - 8 < (at_ : Int) := by omega
    clear h8 hld
    go_enter Try.func33, Try.ntmps33
    go_wp2
    exact bodyPost_ret (v := oneV [] (-1) 0 0 (tl.length : Int)) (by simp [results, Try.results33, go_sem, oneV]; rfl) rfl ⟨by rw [HE.out], rfl⟩
  have ha8 : at_ + 8 ≤ tl.length := by omega
  have g1 : ¬ ((tl.length : Int) - 8 < (at_ : Int)) := by omega
  have NC := num_any tl at_ w hl ha8
  have hn64 := le8_lt ((tl.drop at_).take 8) (by rw [List.length_take]; omega)
  by_cases hmn : most < le ((tl.drop at_).take 8)
  · have HE : Hid (oneR tl at_ most = oneV [] (-1) 6 (at_ : Int) ((at_ + 7 : Nat) : Int)) := by unfold Hid oneR; rw [if_neg h8, if_pos hmn]
    clear h8 hld
    generalize le ((tl.drop at_).take 8) = n at NC hmn hn64
    go_enter Try.func33, Try.ntmps33
    go_wp2_with fail
    refine NC.mono ?_
    rintro e w1 ⟨rfl, rfl⟩
    clear NC
    go_wp2
    exact bodyPost_ret (v := oneV [] (-1) 6 (at_ : Int) ((at_ + 7 : Nat) : Int)) (by simp [results, Try.results33, go_sem, oneV]; rfl) rfl ⟨by rw [HE.out], rfl⟩
  have HE : Hid (oneR tl at_ most = oneS tl.length at_ (le ((tl.drop at_).take 8)) ((tl.drop at_).drop 8)) := by unfold Hid oneR; rw [if_neg h8, if_neg hmn]
  have hrl := rl_len tl at_
  have HX : Hid (∀ n, at_ + 8 + n ≤ tl.length → (ba tl).extract (at_ + 8) (at_ + 8 + n) = ba (((tl.drop at_).drop 8).take n)) := ext_mid tl at_
  have HB : Hid (∀ (k : Nat), k < ((tl.drop at_).drop 8).length → bt (ba tl) (at_ + 8 + k) = ((((tl.drop at_).drop 8).getD k 0).toNat : Int)) := fun k h => by
    have h' : k < ((tl.drop at_).drop 8).length := h
    rw [List.getD_eq_getElem?_getD, List.getElem?_eq_getElem h', bt_ba _ _ (by omega), List.getElem_drop, List.getElem_drop]
    simp [Nat.add_assoc]
  generalize (tl.drop at_).drop 8 = r at HE hrl HX HB
  generalize le ((tl.drop at_).take 8) = n at NC hmn hn64 HE
  clear h8 hld
  have hnm : n ≤ most := by omega
  have hp8 := padN_lt n
  have hR : (tl.length : Int) - (at_ : Int) - 8 = (r.length : Int) := by omega
  have hR2 : (tl.length : Nat) = at_ + 8 + r.length := by omega
  have HPD : (8 - (n : Int) % 8) % 8 = (padN n : Int) := by unfold padN; omega
  have hmod : 0 ≤ (n : Int) % 8 ∧ (n : Int) % 8 < 8 := by omega
  have HR2 : Hid ((tl.length : Nat) = at_ + 8 + r.length) := hR2
  have hrb : r.length ≤ 1073741824 := by omega
  have hab : at_ ≤ 1073741824 := by omega
  have hg : ∀ (n : Nat) (h : n < (ba tl).size), (((ba tl)[n]'h).toNat : Int) = bt (ba tl) n := get_bt (ba tl)
  clear hrl hR2
  by_cases hnr : n ≤ r.length
  · obtain ⟨zs, hzs⟩ : ∃ zs, (r.drop n).take (padN n) = zs := ⟨_, rfl⟩
    have hzl : zs.length = min (padN n) (r.length - n) := by rw [← hzs, List.length_take, List.length_drop]
    have HZ : Hid (∀ q, q < zs.length → bt (ba tl) (at_ + 8 + (n + q)) = ((zs.getD q 0).toNat : Int)) := fun q hq => by
      have hq2 : q < padN n ∧ q < r.length - n := by rw [hzl] at hq; omega
      rw [HB.out (n + q) (by omega), ← hzs, List.getD_eq_getElem?_getD, List.getD_eq_getElem?_getD, List.getElem?_take, if_pos hq2.1, List.getElem?_drop]
    have HS1 : Hid (zeros zs < zs.length → oneS tl.length at_ n r = oneV [] (-1) 7 ((at_ + 8 + n + zeros zs : Nat) : Int) ((at_ + 8 + n + zeros zs : Nat) : Int)) := fun h => by unfold oneS; rw [hzs, if_pos h]
    have HS2 : Hid (¬ zeros zs < zs.length → r.length < n + padN n → oneS tl.length at_ n r = oneV [] (-1) 0 0 (tl.length : Int)) := fun h h2 => by unfold oneS; rw [hzs, if_neg h, if_pos h2]
    have HS3 : Hid (¬ zeros zs < zs.length → ¬ r.length < n + padN n → oneS tl.length at_ n r = oneV (r.take n) ((at_ + 8 + n + padN n : Nat) : Int) 0 0 0) := fun h h2 => by unfold oneS; rw [hzs, if_neg h, if_neg h2]
    have hxt := HX.out n (by have := HR2.out; omega)
    have hfit : at_ + 8 + n ≤ tl.length := by have := HR2.out; omega
    have hfi : ∀ q, n + q < r.length → at_ + 8 + (n + q) < tl.length := fun q h => by have := HR2.out; omega
    have HFI : Hid (∀ q, n + q < r.length → at_ + 8 + (n + q) < tl.length) := hfi
    have HZL : Hid (zs.length = min (padN n) (r.length - n)) := hzl
    clear hzs hzl HX HB hfi
    generalize padN n = p at HPD hp8 HS2 HS3 HZL
    go_enter Try.func33, Try.ntmps33
    go_wp2_with fail
    refine NC.mono ?_
    rintro e w1 ⟨rfl, rfl⟩
    clear NC
    go_wp2
    go_loop [14] (fun i => ∃ q : Nat, q ≤ p ∧ i = .int .i64 ((n + q : Nat) : Int) ∧ Hid (∀ j, j < q → j < zs.length → zs.getD j 0 = 0)) (fun i => n + p - (intOf i).toNat)
    case atStart => exact ⟨0, Nat.zero_le _, rfl, fun j h => absurd h (by omega)⟩
    case round =>
      obtain ⟨q, hq, rfl, h0⟩ := hrel
      by_cases hlt : q < p
      · by_cases hin : n + q < r.length
        · have hqz : q < zs.length := by have := HZL.out; omega
          have HQ : Hid (q < zs.length) := hqz
          have hb := HZ.out q hqz
          have hi := HFI.out q hin
          clear hqz
          by_cases hz : zs.getD q 0 = 0
          · have HZ0 : Hid (zs.getD q 0 = 0) := hz
            rw [hz] at hb
            have hb' : bt (ba tl) (at_ + 8 + (n + q)) = 0 := hb
            clear hb hz
            go_wp2
            go_round
            case rel => exact ⟨q + 1, by omega, by go_num, fun j hj hjl => if e : j = q then by subst e; exact HZ0.out else h0.out j (by omega) hjl⟩
            case measure => simp [intOf]; omega
          · have hne : bt (ba tl) (at_ + 8 + (n + q)) ≠ 0 := by
              rw [hb]
              intro h
              exact hz (UInt8.toNat_inj.1 (by have : (zs.getD q 0).toNat = 0 := by omega
                                              rw [this]; rfl))
            have hne2 : (bt (ba tl) (at_ + 8 + (n + q)) != 0) = true := by simpa using hne
            have hne3 : (bt (ba tl) (at_ + 8 + (n + q)) == 0) = false := by simpa using hne
            have HQE : Hid (zeros zs = q) := zeros_eq zs q HQ.out (fun j hj => h0.out j hj (by have := HQ.out; omega)) hz
            clear hb hz
            go_wp2
            refine bodyPost_ret (v := oneV [] (-1) 7 ((at_ + 8 + n + q : Nat) : Int) ((at_ + 8 + n + q : Nat) : Int)) (by simp [results, Try.results33, go_sem, oneV, Int.add_assoc]; rfl) rfl ⟨by rw [HE.out, HS1.out (by rw [HQE.out]; exact HQ.out), HQE.out], rfl⟩
        · go_wp2
          go_round
          case rel => exact ⟨q + 1, by omega, by go_num, fun j hj hjl => h0.out j (by have := HZL.out; omega) hjl⟩
          case measure => simp [intOf]; omega
      · obtain rfl : q = p := by omega
        have HF : Hid (¬ zeros zs < zs.length) := by
          have h1 := zeros_full zs (fun j hj => h0.out j (by have := HZL.out; omega) hj)
          unfold Hid
          omega
        by_cases hsh : r.length < n + q
        · go_wp2
          exact bodyPost_ret (v := oneV [] (-1) 0 0 (tl.length : Int)) (by simp [results, Try.results33, go_sem, oneV]; rfl) rfl ⟨by rw [HE.out, HS2.out HF.out hsh], rfl⟩
        · go_wp2
          refine bodyPost_ret (v := oneV (r.take n) ((at_ + 8 + n + q : Nat) : Int) 0 0 0) (by simp [results, Try.results33, go_sem, oneV]) rfl ⟨by rw [HE.out, HS3.out HF.out hsh], rfl⟩
  · have HS : Hid (oneS tl.length at_ n r = oneV [] (-1) 0 0 (tl.length : Int)) := by
      unfold Hid oneS
      rw [List.drop_of_length_le (by omega), List.take_nil, if_neg (by unfold zeros; simp), if_pos (by omega)]
    generalize padN n = p at HPD hp8
    by_cases ov : n + p ≤ 9223372036854775807
    · go_enter Try.func33, Try.ntmps33
      go_wp2_with fail
      refine NC.mono ?_
      rintro e w1 ⟨rfl, rfl⟩
      clear NC
      go_wp2
      go_loop [14] (fun i => ∃ q : Nat, q ≤ p ∧ i = .int .i64 ((n + q : Nat) : Int)) (fun i => n + p - (intOf i).toNat)
      case atStart => exact ⟨0, Nat.zero_le _, rfl⟩
      case round =>
        obtain ⟨q, hq, rfl⟩ := hrel
        by_cases hlt : q < p
        · go_wp2
          go_round
          case rel => exact ⟨q + 1, by omega, by go_num⟩
          case measure => simp [intOf]; omega
        · obtain rfl : q = p := by omega
          go_wp2
          exact bodyPost_ret (v := oneV [] (-1) 0 0 (tl.length : Int)) (by simp [results, Try.results33, go_sem, oneV]; rfl) rfl ⟨by rw [HE.out, HS.out], rfl⟩
    · have hwr : wrap64 ((n : Int) + (p : Int)) = (n : Int) + (p : Int) - 18446744073709551616 := by unfold wrap64; omega
      go_enter Try.func33, Try.ntmps33
      go_wp2_with fail
      refine NC.mono ?_
      rintro e w1 ⟨rfl, rfl⟩
      clear NC
      go_wp2
      go_loop [14] (fun i => i = .int .i64 (n : Int)) (fun _ => 0)
      case atStart => rfl
      case round =>
        subst hrel
        go_wp2
        exact bodyPost_ret (v := oneV [] (-1) 0 0 (tl.length : Int)) (by simp [results, Try.results33, go_sem, oneV]; rfl) rfl ⟨by rw [HE.out, HS.out], rfl⟩

end Go.Proofs.Ytjlbbnjcdickgaa
