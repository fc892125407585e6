/- Root of the reference, walked. -/
import Derived.Test.YtholbaefmncphaaDoorRtC
namespace Go.Proofs.YtholbaefmncphaaDoor
open Go.RowKit
theorem and32 (x : Nat) (h : x < 18446744073709551616) : bits .and .u64 (x : Int) 4294967295 = ((x % 4294967296 : Nat) : Int) := by
  have := u64_and (x : Int) 4294967295 (by omega) (by omega) (by omega) (by omega)
  rw [this]
  have h2 := Nat.and_two_pow_sub_one_eq_mod x 32
  simp at h2 ⊢
  omega
theorem or_bit (x n : Nat) (hx : x < 274877906944) (hn : n < 38) : bits .or .u64 (x : Int) (IntKind.u64.wrap (2 ^ n)) = ((x ||| 2 ^ n : Nat) : Int) ∧ (x ||| 2 ^ n) < 274877906944 := by
  have hp : 2 ^ n < 274877906944 := Nat.lt_of_lt_of_le (Nat.pow_lt_pow_right (by omega) hn) (by decide)
  have hw : IntKind.u64.wrap (2 ^ n) = ((2 ^ n : Nat) : Int) := by
    have e : ((2 : Int) ^ n) = ((2 ^ n : Nat) : Int) := by simp
    rw [IntKind.wrap_u64, e]
    generalize 2 ^ n = q at hp
    omega
  refine ⟨?_, Nat.or_lt_two_pow (n := 38) hx hp⟩
  rw [hw]
  exact u64_or_nat x (2 ^ n) (by omega) (by omega)
theorem LR.one (w : World) (a : Nat) : LR (w.alloc (.cells #[.int .u64 (a : Int)] 49)) (.slice (some ⟨w.heap.size, 0, none⟩) 1 1) [a] :=
  ⟨w.heap.size, 1, rfl, Nat.le_refl _, ⟨fun j hj => by
    have : j = 0 := by simp at hj; omega
    subst this
    rw [World.cell?_alloc_new]; rfl, fun j _ => World.frozen?_alloc_new w _ _ _⟩, by rw [World.size_alloc]; omega⟩
theorem LR.three (w : World) (a b c : Nat) : LR (w.alloc (.cells #[.int .u64 (a : Int), .int .u64 (b : Int), .int .u64 (c : Int)] 49)) (.slice (some ⟨w.heap.size, 0, none⟩) 3 3) [a, b, c] :=
  ⟨w.heap.size, 3, rfl, Nat.le_refl _, ⟨fun j hj => by
    rcases (show j = 0 ∨ j = 1 ∨ j = 2 from by simp at hj; omega) with rfl | rfl | rfl <;> (rw [World.cell?_alloc_new]; rfl), fun j _ => World.frozen?_alloc_new w _ _ _⟩, by rw [World.size_alloc]; omega⟩
theorem below_n {w0 w w' : World} (b : Below w0.heap.size w0 w) (c : Below w.heap.size w w') : Below w0.heap.size w0 w' := b.trans (c.mono b.size)

set_option maxHeartbeats 4000000 in
theorem root_any (p k r : Nat) (w : World) (hp : p ≤ 400) (hk1 : 1 ≤ k) (hk : k ≤ 3) (hr : rootT p k = some r) :
    Calls Tryd.prog 30 #[.int .i64 (p : Int), .int .i64 (k : Int)] w fun e w' => e = .returned (.int .u32 ((r % 4294967296 : Nat) : Int)) ∧ Below w.heap.size w w' := by
  obtain ⟨b, hb, hbits⟩ := Option.bind_eq_some_iff.1 hr
  have HB : Hid (powT [0, 0, 1] k [p] = some b) := hb
  have HT : Hid (bitsT b k 38 0 = some r) := hbits
  clear hr hb hbits
  go_enter Tryd.func30, Tryd.ntmps30
  go_wp2_with fail
  have L1 : Hid (LR (w.alloc (.cells #[.int .u64 (p : Int)] 49)) (.slice (some ⟨w.heap.size, 0, none⟩) 1 1) [p]) := LR.one w p
  have B1 : Hid (Below w.heap.size w (w.alloc (.cells #[.int .u64 (p : Int)] 49))) := (Below.refl _ _).alloc (Nat.le_refl _) _
  generalize w.alloc (.cells #[.int .u64 (p : Int)] 49) = w1 at *
  go_loopg [5, 6] k (fun n xs xi wr => ∃ (i : Nat) (P : List Nat), i + n = k ∧ xi = .int .i64 (i : Int) ∧ P.length = 3 * i + 1 ∧ Hid (powT [0, 0, 1] n P = some b) ∧ Hid (LR wr xs P) ∧ Hid (Below w.heap.size w wr))
  case atStart => exact ⟨0, [p], by omega, rfl, rfl, HB, L1, B1⟩
  case round =>
    obtain ⟨i, P, hin, rfl, hPl, HP, LP, BP⟩ := hrel
    clear L1 B1 HB
    cases gk with
    | succ n =>
      obtain ⟨P', ht, hp2⟩ := Option.bind_eq_some_iff.1 (show (timesT P [0, 0, 1]).bind (fun P' => powT [0, 0, 1] n P') = some b from HP.out)
      have HTi : Hid (timesT P [0, 0, 1] = some P') := ht
      have HP2 : Hid (powT [0, 0, 1] n P' = some b) := hp2
      clear HP ht hp2
      have hik : i < k := by omega
      go_wp2_with fail
      have L3 : LR (wr.alloc (.cells #[.int .u64 ((0 : Nat) : Int), .int .u64 ((0 : Nat) : Int), .int .u64 ((1 : Nat) : Int)] 49)) (.slice (some ⟨wr.heap.size, 0, none⟩) 3 3) [0, 0, 1] := LR.three wr 0 0 1
      have b3 : Below wr.heap.size wr (wr.alloc (.cells #[.int .u64 ((0 : Nat) : Int), .int .u64 ((0 : Nat) : Int), .int .u64 ((1 : Nat) : Int)] 49)) := (Below.refl _ _).alloc (Nat.le_refl _) _
      refine (times_any P [0, 0, 1] P' _ _ _ (LP.out.below b3) L3 (by omega) (by simp) HTi.out).mono ?_
      rintro e w3 ⟨v, rfl, L4, b4⟩
      have B4 : Hid (Below w.heap.size w w3) := below_n (below_n BP.out b3) b4
      have HL4 : Hid (LR w3 v P') := L4
      have hl : P'.length = 3 * (i + 1) + 1 := by have := timesT_length HTi.out; simp at this; omega
      clear L3 b3 LP BP L4 b4
      go_wp2
      go_roundg n
      case measure => omega
      case rel => exact ⟨i + 1, P', by omega, by simp, hl, HP2, HL4, B4⟩
    | zero =>
      obtain rfl : P = b := Option.some.inj HP.out
      clear HP
      have hik : i = k := by omega
      subst hik
      go_wp2_with fail
      go_loopg [7, 8] 38 (fun n x7 x8 wr' => ∃ x : Nat, x7 = .int .u64 (x : Int) ∧ x8 = .int .i64 ((n : Int) - 1) ∧ n ≤ 38 ∧ x < 274877906944 ∧ Hid (bitsT P i n x = some r) ∧ Hid (LR wr' u5 P) ∧ Hid (Below w.heap.size w wr'))
      case atStart => exact ⟨0, rfl, rfl, by omega, by decide, HT, LP, BP⟩
      case round =>
        obtain ⟨x, rfl, rfl, hn38, hx38, HBi, LP2, BP2⟩ := hrel
        clear HT LP BP
        cases gk with
        | zero =>
          have hxr : x = r := Option.some.inj HBi.out
          have e1 := and32 x (by omega)
          obtain ⟨z, hz⟩ : ∃ z, x % 4294967296 = z := ⟨_, rfl⟩
          rw [hz] at e1
          have hz2 : z < 4294967296 := by rw [← hz]; exact Nat.mod_lt _ (by decide)
          have HZ : Hid (r % 4294967296 = z) := by unfold Hid; rw [← hxr]; exact hz
          clear hz hxr
          go_wp2
          go_ret
          exact ⟨by rw [HZ.out]; rfl, BP2.out⟩
        | succ n =>
          have en : (((n + 1 : Nat) : Int) - 1) = (n : Int) := by omega
          rw [en]
          obtain ⟨PF, hpf, hbt⟩ := Option.bind_eq_some_iff.1 (show (powT (digT (x ||| 2 ^ n)) (i - 1) (digT (x ||| 2 ^ n))).bind (fun Q => bitsT P i n (takeT Q P x (x ||| 2 ^ n))) = some r from HBi.out)
          have ho := or_bit x n hx38 (by omega)
          obtain ⟨y, hy⟩ : ∃ y, x ||| 2 ^ n = y := ⟨_, rfl⟩
          rw [hy] at ho
          obtain ⟨ey, hy38⟩ := ho
          rw [hy] at hpf hbt
          have HPF : Hid (powT (digT y) (i - 1) (digT y) = some PF) := hpf
          have HBT : Hid (bitsT P i n (takeT PF P x y) = some r) := hbt
          clear HBi hpf hbt en
          have hn : n < 38 := by omega
          obtain ⟨y0, h0⟩ : ∃ m, y % 65536 = m := ⟨_, rfl⟩
          obtain ⟨y1, h1⟩ : ∃ m, y / 65536 % 65536 = m := ⟨_, rfl⟩
          obtain ⟨y2, h2⟩ : ∃ m, y / 4294967296 % 65536 = m := ⟨_, rfl⟩
          have d0 : bits .and .u64 (y : Int) 65535 = (y0 : Int) := by rw [← h0]; exact and65535 y (by omega)
          have d1 : bits .and .u64 ((y : Int) / 65536) 65535 = (y1 : Int) := by rw [← h1]; exact and65535 (y / 65536) (by omega)
          have d2 : bits .and .u64 ((y : Int) / 4294967296) 65535 = (y2 : Int) := by rw [← h2]; exact and65535 (y / 4294967296) (by omega)
          have HD : Hid (digT y = [y0, y1, y2]) := by unfold Hid digT; rw [h0, h1, h2]
          rw [HD.out] at HPF
          clear h0 h1 h2 hy
          go_wp2_with fail
          have LD : Hid (LR (wr.alloc (.cells #[.int .u64 (y0 : Int), .int .u64 (y1 : Int), .int .u64 (y2 : Int)] 49)) (.slice (some ⟨wr.heap.size, 0, none⟩) 3 3) [y0, y1, y2]) := LR.three wr y0 y1 y2
          have b3 : Below wr.heap.size wr (wr.alloc (.cells #[.int .u64 (y0 : Int), .int .u64 (y1 : Int), .int .u64 (y2 : Int)] 49)) := (Below.refl _ _).alloc (Nat.le_refl _) _
          have LP3 : Hid (LR (wr.alloc (.cells #[.int .u64 (y0 : Int), .int .u64 (y1 : Int), .int .u64 (y2 : Int)] 49)) u5 P) := LP2.out.below b3
          have BP3 : Hid (Below w.heap.size w (wr.alloc (.cells #[.int .u64 (y0 : Int), .int .u64 (y1 : Int), .int .u64 (y2 : Int)] 49))) := below_n BP2.out b3
          clear b3 LP2 BP2 d0 d1 d2 ey
          obtain ⟨gd, hgd⟩ : ∃ gd, wr.heap.size = gd := ⟨_, rfl⟩
          rw [hgd] at LD ⊢
          clear hgd
          generalize wr.alloc (.cells #[.int .u64 (y0 : Int), .int .u64 (y1 : Int), .int .u64 (y2 : Int)] 49) = w5 at *
          go_loopg [11, 12] (i - 1) (fun m xv xj wr' => ∃ (j : Nat) (S : List Nat), j + m = i ∧ 1 ≤ j ∧ xj = .int .i64 (j : Int) ∧ S.length = 3 * j ∧ Hid (powT [y0, y1, y2] m S = some PF) ∧ Hid (LR wr' xv S) ∧ Hid (LR wr' (.slice (some ⟨gd, 0, none⟩) 3 3) [y0, y1, y2]) ∧ Hid (LR wr' u5 P) ∧ Hid (Below w.heap.size w wr'))
          case atStart => exact ⟨1, [y0, y1, y2], by omega, Nat.le_refl _, rfl, rfl, HPF, LD, LD, LP3, BP3⟩
          case round =>
            obtain ⟨j, S, hjm, hj1, rfl, hSl, HPS, LS, LD2, LP4, BP4⟩ := hrel
            clear LD LP3 BP3 HPF
            cases gk with
            | succ m =>
              obtain ⟨S', ht, hp2⟩ := Option.bind_eq_some_iff.1 (show (timesT S [y0, y1, y2]).bind (fun P' => powT [y0, y1, y2] m P') = some PF from HPS.out)
              have HTi : Hid (timesT S [y0, y1, y2] = some S') := ht
              have HP2 : Hid (powT [y0, y1, y2] m S' = some PF) := hp2
              clear HPS ht hp2
              have hji : j < i := by omega
              go_wp2_with fail
              refine (times_any S [y0, y1, y2] S' _ _ _ LS.out LD2.out (by omega) (by simp) HTi.out).mono ?_
              rintro e w6 ⟨v, rfl, L6, b6⟩
              have B6 : Hid (Below w.heap.size w w6) := below_n BP4.out b6
              have HL6 : Hid (LR w6 v S') := L6
              have LD6 : Hid (LR w6 (.slice (some ⟨gd, 0, none⟩) 3 3) [y0, y1, y2]) := LD2.out.below b6
              have LP6 : Hid (LR w6 u5 P) := LP4.out.below b6
              have hl : S'.length = 3 * (j + 1) := by have := timesT_length HTi.out; simp at this; omega
              clear LS LD2 LP4 BP4 L6 b6
              go_wp2
              go_roundg m
              case measure => omega
              case rel => exact ⟨j + 1, S', by omega, by omega, by simp, hl, HP2, HL6, LD6, LP6, B6⟩
            | zero =>
              obtain rfl : S = PF := Option.some.inj HPS.out
              have hji : ¬ j < i := by omega
              go_wp2_with fail
              refine (above_any S P _ _ _ LS.out LP4.out (by omega) (by omega)).mono ?_
              rintro e w7 ⟨rfl, rfl⟩
              obtain ⟨ab, hab⟩ : ∃ ab, aboveT S P (S.length + P.length + 1) = ab := ⟨_, rfl⟩
              rw [hab]
              have HTk : Hid (takeT S P x y = if ab = true then x else y) := by unfold Hid takeT; rw [hab]
              clear hab
              cases ab with
              | true =>
                have HB2 : Hid (bitsT P i n x = some r) := by have := HBT.out; rw [HTk.out, if_pos rfl] at this; exact this
                go_wp2
                go_roundg n
                case measure => omega
                case rel => exact ⟨x, rfl, by simp, by omega, hx38, HB2, LP4, BP4⟩
              | false =>
                have HB2 : Hid (bitsT P i n y = some r) := by have := HBT.out; rw [HTk.out, if_neg (by decide)] at this; exact this
                go_wp2
                go_roundg n
                case measure => omega
                case rel => exact ⟨y, rfl, by simp, by omega, hy38, HB2, LP4, BP4⟩
#print axioms root_any
end Go.Proofs.YtholbaefmncphaaDoor
