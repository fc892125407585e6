/- A table's nodes (string keys): rank, at, between; walked. -/
import Derived.Test.YtbdnniaajiiimaaTbS
namespace Go.Proofs.Ytbdnniaajiiimaa
namespace TS
open Go.RowKit

theorem rnk_le (k : ByteArray) (t : BT ByteArray) (h : t.Ok) : BT.rnk ltK k t ≤ t.cnt := by
  induction t with
  | E => exact Nat.le_refl _
  | N nk nv s l r il ir =>
    obtain ⟨h1, h2, h3⟩ := h
    have a := il h2
    have b := ir h3
    unfold BT.rnk
    show _ ≤ s
    split <;> omega

set_option maxHeartbeats 1000000 in
theorem rank_any (t : BT ByteArray) (p : Option Addr) (k : ByteArray) (w : World) (h : Tr w t p) (ho : t.Ok) (hc : t.cnt ≤ 1152921504606846976) :
    Calls Try.prog 30 #[.pointer p, Value.string k] w fun e w' => e = .returned (.int .i64 (BT.rnk ltK k t : Int)) ∧ w' = w := by
  have H : Hid (Tr w t p) := h
  clear h
  go_enter Try.func30, Try.ntmps30
  go_wp2
  go_loopg [0, 5] t.ht (fun m x a wr => ∃ (u : BT ByteArray) (q : Option Addr) (n : Nat), x = .pointer q ∧ a = .int .i64 (n : Int) ∧ Hid (Tr w u q) ∧ Hid (n + BT.rnk ltK k u = BT.rnk ltK k t) ∧ u.ht ≤ m ∧ u.Ok ∧ n + u.cnt ≤ 1152921504606846976 ∧ wr = w)
  case atStart => exact ⟨t, p, 0, rfl, rfl, H, by unfold Hid; omega, Nat.le_refl _, ho, by omega, rfl⟩
  case round =>
    obtain ⟨u, q, n, rfl, rfl, HU, HE, hm, huo, huc, rfl⟩ := hrel
    cases u with
    | E =>
      obtain rfl : q = none := HU.out
      have hn : Hid (BT.rnk ltK k t = n) := by have := HE.out; unfold Hid; rw [← this]; rfl
      go_wp2
      go_ret
      exact ⟨by rw [hn.out]; rfl, rfl⟩
    | N nk nv s l r =>
      obtain ⟨g, pl, pr, rfl, c0, c1, c2, c3, c4, hl, hr⟩ := HU.out
      have HL : Hid (Tr wr l pl) := hl
      have HR : Hid (Tr wr r pr) := hr
      obtain ⟨hs, hlo, hro⟩ := huo
      have hsc : n + s ≤ 1152921504606846976 := huc
      have hhl : l.ht < gk := by have : max l.ht r.ht + 1 ≤ gk := hm; omega
      have hhr : r.ht < gk := by have : max l.ht r.ht + 1 ≤ gk := hm; omega
      clear hl hr hm HU c1 c2 huc
      cases hlt : ltK nk k
      · have HF : Hid (n + BT.rnk ltK k l = BT.rnk ltK k t) := by
          rw [← HE.out]; unfold Hid; conv => rhs; unfold BT.rnk
          rw [hlt, if_neg (by decide)]
        have L1 : Op.bytesLess nk.toList k.toList = false := hlt
        skip
        clear hlt HE
        go_wp2
        go_roundg (gk - 1)
        case measure => omega
        case rel => exact ⟨l, pl, n, rfl, rfl, HL, HF, by omega, hlo, by omega, rfl⟩
      · have HF : Hid ((n + (l.cnt + 1)) + BT.rnk ltK k r = BT.rnk ltK k t) := by
          rw [← HE.out]; unfold Hid; conv => rhs; unfold BT.rnk
          rw [if_pos hlt]; omega
        have L1 : Op.bytesLess nk.toList k.toList = true := hlt
        skip
        have hcl : l.cnt ≤ 1152921504606846976 := by omega
        have hcn : n + l.cnt + 1 ≤ 1152921504606846976 := by omega
        clear hlt HE
        go_wp2_with fail
        refine (count_any l pl _ HL.out).mono ?_
        rintro e w1 ⟨rfl, rfl⟩
        go_wp2
        go_roundg (gk - 1)
        case measure => omega
        case rel => exact ⟨r, pr, n + (l.cnt + 1), rfl, by go_num, HR, HF, by omega, hro, by omega, rfl⟩

set_option maxHeartbeats 1000000 in
theorem at_any (t : BT ByteArray) (p : Option Addr) (i : Nat) (w : World) (h : Tr w t p) (ho : t.Ok) (hi : i < t.cnt) (hc : t.cnt ≤ 1152921504606846976) :
    Calls Try.prog 29 #[.pointer p, .int .i64 (i : Int)] w fun e w' => (∃ q, e = .returned (.pointer q) ∧ Tr w (BT.atT i t) q) ∧ w' = w := by
  have H : Hid (Tr w t p) := h
  clear h
  go_enter Try.func29, Try.ntmps29
  go_wp2
  go_loopg [0, 1] t.ht (fun m x a wr => ∃ (u : BT ByteArray) (q : Option Addr) (n : Nat), x = .pointer q ∧ a = .int .i64 (n : Int) ∧ Hid (Tr w u q) ∧ Hid (BT.atT n u = BT.atT i t) ∧ u.ht ≤ m ∧ u.Ok ∧ n < u.cnt ∧ u.cnt ≤ 1152921504606846976 ∧ wr = w)
  case atStart => exact ⟨t, p, i, rfl, rfl, H, rfl, Nat.le_refl _, ho, hi, hc, rfl⟩
  case round =>
    obtain ⟨u, q, n, rfl, rfl, HU, HE, hm, huo, hun, huc, rfl⟩ := hrel
    cases u with
    | E => exact absurd hun (Nat.not_lt_zero _)
    | N nk nv s l r =>
      obtain ⟨g, pl, pr, rfl, c0, c1, c2, c3, c4, hl, hr⟩ := HU.out
      have HL : Hid (Tr wr l pl) := hl
      have HR : Hid (Tr wr r pr) := hr
      obtain ⟨hs, hlo, hro⟩ := huo
      have hsc : s ≤ 1152921504606846976 := huc
      have hns : n < s := hun
      have hhl : l.ht < gk := by have : max l.ht r.ht + 1 ≤ gk := hm; omega
      have hhr : r.ht < gk := by have : max l.ht r.ht + 1 ≤ gk := hm; omega
      clear hl hr hm c0 c1 c2 huc hun
      by_cases e1 : n < l.cnt
      · have HF : Hid (BT.atT n l = BT.atT i t) := by
          rw [← HE.out]; unfold Hid; conv => rhs; unfold BT.atT
          rw [if_pos e1]
        have N1 : ((n : Int) == (l.cnt : Int)) = false := by rw [beq_eq_false_iff_ne]; omega
        have N2 : ((n : Int) != (l.cnt : Int)) = true := by simp only [bne, N1]; rfl
        clear HE HU
        go_wp2_with fail
        refine (count_any l pl _ HL.out).mono ?_
        rintro e w1 ⟨rfl, rfl⟩
        go_wp2_with fail
        refine (count_any l pl _ HL.out).mono ?_
        rintro e w1 ⟨rfl, rfl⟩
        go_wp2
        go_roundg (gk - 1)
        case measure => omega
        case rel => exact ⟨l, pl, n, rfl, rfl, HL, HF, by omega, hlo, e1, by omega, rfl⟩
      · by_cases e2 : l.cnt < n
        · have HF : Hid (BT.atT (n - (l.cnt + 1)) r = BT.atT i t) := by
            rw [← HE.out]; unfold Hid; conv => rhs; unfold BT.atT
            rw [if_neg e1, if_pos e2]
          have N1 : ((n : Int) == (l.cnt : Int)) = false := by rw [beq_eq_false_iff_ne]; omega
          have N2 : ((n : Int) != (l.cnt : Int)) = true := by simp only [bne, N1]; rfl
          have hsub : (n : Int) - ((l.cnt : Int) + 1) = ((n - (l.cnt + 1) : Nat) : Int) := by omega
          clear HE HU
          go_wp2_with fail
          refine (count_any l pl _ HL.out).mono ?_
          rintro e w1 ⟨rfl, rfl⟩
          go_wp2_with fail
          refine (count_any l pl _ HL.out).mono ?_
          rintro e w1 ⟨rfl, rfl⟩
          go_wp2_with fail
          refine (count_any l pl _ HL.out).mono ?_
          rintro e w1 ⟨rfl, rfl⟩
          go_wp2
          go_roundg (gk - 1)
          case measure => omega
          case rel => exact ⟨r, pr, n - (l.cnt + 1), rfl, by first | rfl | (rw [← hsub]; go_num) | go_num, HR, HF, by omega, hro, by omega, by omega, rfl⟩
        · have en : n = l.cnt := by omega
          have HF : Hid (BT.atT n (.N nk nv s l r) = .N nk nv s l r) := by
            unfold Hid BT.atT; rw [if_neg e1, if_neg e2]
          have N1 : ((n : Int) == (l.cnt : Int)) = true := by rw [en]; simp
          have N2 : ((n : Int) != (l.cnt : Int)) = false := by simp only [bne, N1]; rfl
          clear en
          go_wp2_with fail
          refine (count_any l pl _ HL.out).mono ?_
          rintro e w1 ⟨rfl, rfl⟩
          go_wp2
          go_ret
          exact ⟨⟨_, rfl, by rw [← HE.out, HF.out]; exact HU.out⟩, rfl⟩

end TS
end Go.Proofs.Ytbdnniaajiiimaa
