/- next and above of the reference, walked. -/
import Derived.Test.YtholbaefmncphaaDoorRtA
import Derived.Deep.LoopGhost
namespace Go.Proofs.YtholbaefmncphaaDoor
open Go.RowKit
theorem tmod_nat (q d : Nat) : Int.tmod (q : Int) (d : Int) = ((q % d : Nat) : Int) := by
  rw [Int.tmod_eq_emod_of_nonneg (by omega)]
  rfl

set_option maxHeartbeats 1000000 in
theorem next_any (p r : Nat) (w : World) (hp0 : 1 ≤ p) (hp : p ≤ 400) (hr : nxT 100 (p + 1) = some r) : Calls Tryd.prog 29 #[.int .i64 (p : Int)] w fun e w' => e = .returned (.int .i64 (r : Int)) ∧ w' = w := by
  have HR : Hid (nxT 100 (p + 1) = some r) := hr
  clear hr
  go_enter Tryd.func29, Tryd.ntmps29
  go_wp2
  go_loopg [3] 100 (fun f x wr => ∃ q : Nat, x = .int .i64 (q : Int) ∧ 2 ≤ q ∧ q + f ≤ 600 ∧ Hid (nxT f q = some r) ∧ wr = w)
  case atStart => exact ⟨p + 1, by simp, by omega, by omega, HR, rfl⟩
  case round =>
    obtain ⟨q, rfl, hq2, hqf, HN, rfl⟩ := hrel
    cases gk with
    | zero => exact absurd HN.out (by simp [nxT])
    | succ f =>
      obtain ⟨pb, hpb, hN2⟩ := Option.bind_eq_some_iff.1 (show (prT q 400 2 true).bind (fun b => if b = true then some q else nxT f (q + 1)) = some r from HN.out)
      have HP : Hid (prT q 400 2 true = some pb) := hpb
      have H2 : Hid ((if pb = true then some q else nxT f (q + 1)) = some r) := hN2
      clear hpb hN2 HN HR
      go_wp2
      go_loopg [4, 5] 400 (fun f2 xb xd wr' => ∃ (b : Bool) (d : Nat), xb = .bool b ∧ xd = .int .i64 (d : Int) ∧ 2 ≤ d ∧ d ≤ q + 1 ∧ Hid (prT q f2 d b = some pb) ∧ wr' = wr)
      case atStart => exact ⟨true, 2, rfl, rfl, by omega, by omega, HP, rfl⟩
      case round =>
        obtain ⟨b, d, rfl, rfl, hd2, hdq, HPr, rfl⟩ := hrel
        clear HP
        cases gk with
        | zero => exact absurd HPr.out (by simp [prT])
        | succ f2 =>
          have hdd : d * d ≤ 601 * 601 := Nat.mul_le_mul (by omega) (by omega)
          have e1 : (d : Int) * (d : Int) = ((d * d : Nat) : Int) := by simp
          by_cases hc : d * d ≤ q
          · have hP' : Hid (prT q f2 (d + 1) (if q % d = 0 then false else b) = some pb) := by have := HPr.out; rw [prT, if_pos hc] at this; exact this
            have hmt := tmod_nat q d
            have hdl : d ≤ q := Nat.le_trans (Nat.le_mul_of_pos_left d (by omega)) hc
            clear HPr
            generalize d * d = s at e1 hc hdd
            by_cases hm : q % d = 0
            · rw [if_pos hm] at hP'
              rw [hm] at hmt
              go_wp2
              go_roundg f2
              case measure => omega
              case rel => exact ⟨false, d + 1, rfl, by simp, by omega, by omega, hP', rfl⟩
            · rw [if_neg hm] at hP'
              go_wp2
              go_roundg f2
              case measure => omega
              case rel => exact ⟨b, d + 1, rfl, by simp, by omega, by omega, hP', rfl⟩
          · have hP' : b = pb := by have := HPr.out; rw [prT, if_neg hc] at this; exact Option.some.inj this
            subst hP'
            generalize d * d = s at e1 hc hdd
            cases b with
            | true =>
              have h2 : q = r := by have := H2.out; rw [if_pos rfl] at this; exact Option.some.inj this
              go_wp2
              go_ret
              exact ⟨rfl, rfl⟩
            | false =>
              go_wp2
              go_roundg f
              case measure => omega
              case rel => exact ⟨q + 1, by simp, by omega, by omega, H2.out, rfl⟩

/-- A slice of numbers below 2^64, in a block of its own. -/
def LR (w : World) (v : Value) (A : List Nat) : Prop := ∃ g c, v = .slice (some ⟨g, 0, none⟩) A.length c ∧ A.length ≤ c ∧ Row .u64 w g A.length (fun j => ((A.getD j 0 : Nat) : Int)) ∧ g < w.heap.size
theorem LR.below {w w' : World} {v : Value} {A : List Nat} (h : LR w v A) (b : Below w.heap.size w w') : LR w' v A := by
  obtain ⟨g, c, h1, h2, R, hg⟩ := h
  exact ⟨g, c, h1, h2, R.below b hg, Nat.lt_of_lt_of_le hg b.size⟩
theorem getD_out (A : List Nat) (n : Nat) (h : ¬ n < A.length) : A.getD n 0 = 0 := by
  rw [List.getD_eq_getElem?_getD, List.getElem?_eq_none (by omega)]
  rfl

set_option maxHeartbeats 4000000 in
theorem above_any (A B : List Nat) (va vb : Value) (w : World) (hA : LR w va A) (hB : LR w vb B) (la : A.length ≤ 1000) (lb : B.length ≤ 1000) : Calls Tryd.prog 37 #[va, vb] w fun e w' => e = .returned (.bool (aboveT A B (A.length + B.length + 1))) ∧ w' = w := by
  obtain ⟨ga, ca, rfl, ha, RA, hga⟩ := hA
  obtain ⟨gb, cb, rfl, hb, RB, hgb⟩ := hB
  have HRA : Hid (Row .u64 w ga A.length (fun j => ((A.getD j 0 : Nat) : Int))) := RA
  have HRB : Hid (Row .u64 w gb B.length (fun j => ((B.getD j 0 : Nat) : Int))) := RB
  clear RA RB
  go_enter Tryd.func37, Tryd.ntmps37
  go_wp2
  go_loopw [5] (fun xi wr => ∃ k : Nat, k ≤ A.length + B.length + 1 ∧ xi = .int .i64 ((k : Int) - 1) ∧ Hid (aboveT A B (A.length + B.length + 1) = aboveT A B k) ∧ wr = w) (fun xi _ => (intOf xi + 1).toNat)
  case atStart => exact ⟨A.length + B.length + 1, Nat.le_refl _, by simp, rfl, rfl⟩
  case round =>
    obtain ⟨k, hk, rfl, HE, rfl⟩ := hrel
    cases k with
    | zero =>
      go_wp2
      go_ret
      exact ⟨by rw [HE.out]; rfl, rfl⟩
    | succ n =>
      have en : (((n + 1 : Nat) : Int) - 1) = (n : Int) := by omega
      rw [en]
      obtain ⟨x, hx⟩ : ∃ x, A.getD n 0 = x := ⟨_, rfl⟩
      obtain ⟨y, hy⟩ : ∃ y, B.getD n 0 = y := ⟨_, rfl⟩
      have ca1 : n < A.length → wr.cell? ⟨ga, n, none⟩ = some (.int .u64 (x : Int)) := fun h => by rw [← hx]; exact HRA.out.cell n h
      have cb1 : n < B.length → wr.cell? ⟨gb, n, none⟩ = some (.int .u64 (y : Int)) := fun h => by rw [← hy]; exact HRB.out.cell n h
      have cx : ¬ n < A.length → x = 0 := fun h => by rw [← hx]; exact getD_out A n h
      have cy : ¬ n < B.length → y = 0 := fun h => by rw [← hy]; exact getD_out B n h
      have HU : Hid (aboveT A B (A.length + B.length + 1) = if x = y then aboveT A B n else decide (y < x)) := by
        unfold Hid
        rw [HE.out, aboveT, hx, hy]
      clear HE hx hy en
      by_cases h1 : n < A.length
      · have c1 := ca1 h1
        by_cases h2 : n < B.length
        · have c2 := cb1 h2
          clear ca1 cb1 cx cy
          by_cases e : x = y
          · subst e
            have q : (((x : Nat) : Int) != (x : Int)) = false := by simp
            go_wp2
            go_roundw
            case rel => exact ⟨n, by omega, rfl, by rw [if_pos rfl] at HU; exact HU, by simp⟩
            case measure => simp only [intOf]; omega
          · have q : (((x : Nat) : Int) != (y : Int)) = true := by simp; omega
            go_wp2
            go_ret
            exact ⟨by rw [HU.out, if_neg e]; simp, rfl⟩
        · obtain rfl := cy h2
          clear ca1 cb1 cx cy
          by_cases e : x = 0
          · subst e
            go_wp2
            go_roundw
            case rel => exact ⟨n, by omega, rfl, by rw [if_pos rfl] at HU; exact HU, by simp⟩
            case measure => simp only [intOf]; omega
          · have q : (((x : Nat) : Int) != 0) = true := by simp; omega
            go_wp2
            go_ret
            exact ⟨by rw [HU.out, if_neg e]; simp, rfl⟩
      · obtain rfl := cx h1
        by_cases h2 : n < B.length
        · have c2 := cb1 h2
          clear ca1 cb1 cx cy
          by_cases e : 0 = y
          · subst e
            go_wp2
            go_roundw
            case rel => exact ⟨n, by omega, rfl, by rw [if_pos rfl] at HU; exact HU, by simp⟩
            case measure => simp only [intOf]; omega
          · have q : ((0 : Int) != (y : Int)) = true := by simp; omega
            go_wp2
            go_ret
            exact ⟨by rw [HU.out, if_neg e]; simp, rfl⟩
        · obtain rfl := cy h2
          clear ca1 cb1 cx cy
          go_wp2
          go_roundw
          case rel => exact ⟨n, by omega, rfl, by rw [if_pos rfl] at HU; exact HU, by simp⟩
          case measure => simp only [intOf]; omega
end Go.Proofs.YtholbaefmncphaaDoor
