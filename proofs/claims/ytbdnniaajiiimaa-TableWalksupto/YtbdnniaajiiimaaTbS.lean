/- A table's nodes in memory (string keys): count, weight, find, rank, at, between; walked. -/
import Derived.Test.YtbdnniaajiiimaaTbP
import Derived.Test.YtbdnniaajiiimaaRows
import Derived.Below
import Derived.WalkMore
import Derived.Deep.QuietTactic
import Derived.BigQuiet
import Derived.Deep.RegionWith
import Derived.Deep.RegionHeld3
import Derived.Deep.LoopGhost
import Derived.Lib.Strings
namespace Go.Proofs.Ytbdnniaajiiimaa
namespace TS
open Go.RowKit

theorem of_toList (s t : ByteArray) (h : s.toList = t.toList) : s = t := by
  rw [Lib.toList_data, Lib.toList_data] at h
  rw [← Lib.mk_data s, ← Lib.mk_data t, h]

/-- p is the tree t in memory. -/
def Tr (w : World) : BT ByteArray → Option Addr → Prop
  | .E, p => p = none
  | .N k v s l r, p => ∃ g pl pr, p = some ⟨g, 0, none⟩ ∧ w.cell? ⟨g, 0, none⟩ = some (Value.string k) ∧ w.cell? ⟨g, 1, none⟩ = some (.int .i64 v) ∧ w.cell? ⟨g, 2, none⟩ = some (.int .i64 s) ∧ w.cell? ⟨g, 3, none⟩ = some (.pointer pl) ∧ w.cell? ⟨g, 4, none⟩ = some (.pointer pr) ∧ Tr w l pl ∧ Tr w r pr
theorem Tr.below {w w' : World} {t : BT ByteArray} {p : Option Addr} {B : Nat} (h : Tr w t p) (b : Below B w w') (hB : w.heap.size ≤ B) : Tr w' t p := by
  induction t generalizing p with
  | E => exact h
  | N k v s l r il ir =>
    obtain ⟨g, pl, pr, e, c0, c1, c2, c3, c4, hl, hr⟩ := h
    have hg : g < B := Nat.lt_of_lt_of_le (World.block_lt_of_cell? _ _ c0) hB
    exact ⟨g, pl, pr, e, (b.cell (p := ⟨g, 0, none⟩) hg).trans c0, (b.cell (p := ⟨g, 1, none⟩) hg).trans c1, (b.cell (p := ⟨g, 2, none⟩) hg).trans c2, (b.cell (p := ⟨g, 3, none⟩) hg).trans c3, (b.cell (p := ⟨g, 4, none⟩) hg).trans c4, il hl, ir hr⟩
theorem Tr.nil {w : World} {t : BT ByteArray} (h : Tr w t none) : t = .E := by
  cases t with
  | E => rfl
  | N k v s l r => obtain ⟨g, pl, pr, e, _⟩ := h; cases e
theorem Tr.isN {w : World} {t : BT ByteArray} {g : Addr} (h : Tr w t (some g)) : ∃ k v s l r, t = .N k v s l r := by
  cases t with
  | E => cases h
  | N k v s l r => exact ⟨k, v, s, l, r, rfl⟩

set_option maxHeartbeats 400000 in
theorem count_any (t : BT ByteArray) (p : Option Addr) (w : World) (h : Tr w t p) :
    Calls Try.prog 19 #[.pointer p] w fun e w' => e = .returned (.int .i64 (t.cnt : Int)) ∧ w' = w := by
  cases t with
  | E =>
    obtain rfl : p = none := h
    go_enter Try.func19, Try.ntmps19
    go_wp2
    go_ret
    exact ⟨rfl, rfl⟩
  | N k v s l r =>
    obtain ⟨g, pl, pr, rfl, c0, c1, c2, c3, c4, hl, hr⟩ := h
    clear c0 c1 c3 c4 hl hr
    go_enter Try.func19, Try.ntmps19
    go_wp2
    go_ret
    exact ⟨rfl, rfl⟩

set_option maxHeartbeats 400000 in
theorem weight_any (t : BT ByteArray) (p : Option Addr) (w : World) (h : Tr w t p) (hc : t.cnt ≤ 1152921504606846976) :
    Calls Try.prog 33 #[.pointer p] w fun e w' => e = .returned (.int .i64 ((t.cnt : Int) + 1)) ∧ w' = w := by
  go_enter Try.func33, Try.ntmps33
  go_wp2_with fail
  refine (count_any t p w h).mono ?_
  rintro e w1 ⟨rfl, rfl⟩
  go_wp2
  go_ret
  exact ⟨rfl, rfl⟩

def ltK (a b : ByteArray) : Bool := Op.bytesLess a.toList b.toList

set_option maxHeartbeats 1000000 in
theorem find_any (t : BT ByteArray) (p : Option Addr) (k : ByteArray) (w : World) (h : Tr w t p) :
    Calls Try.prog 25 #[.pointer p, Value.string k] w fun e w' => (∃ q, e = .returned (.pointer q) ∧ Tr w (BT.fnd ltK k t) q) ∧ w' = w := by
  have H : Hid (Tr w t p) := h
  clear h
  go_enter Try.func25, Try.ntmps25
  go_wp2
  go_loopg [0] t.ht (fun m x wr => ∃ (u : BT ByteArray) (q : Option Addr), x = .pointer q ∧ Hid (Tr w u q) ∧ Hid (BT.fnd ltK k u = BT.fnd ltK k t) ∧ u.ht ≤ m ∧ wr = w)
  case atStart => exact ⟨t, p, rfl, H, rfl, Nat.le_refl _, rfl⟩
  case round =>
    obtain ⟨u, q, rfl, HU, HE, hm, rfl⟩ := hrel
    cases u with
    | E =>
      obtain rfl : q = none := HU.out
      go_wp2
      go_ret
      exact ⟨⟨_, rfl, by rw [← HE.out]; rfl⟩, rfl⟩
    | N nk nv s l r =>
      obtain ⟨g, pl, pr, rfl, c0, c1, c2, c3, c4, hl, hr⟩ := HU.out
      have HL : Hid (Tr wr l pl) := hl
      have HR : Hid (Tr wr r pr) := hr
      clear hl hr
      by_cases e : nk = k
      · have E1 : (nk.toList == k.toList) = true := by subst e; simp
        have E2 : (nk.toList != k.toList) = false := by subst e; simp
        have HF : Hid (BT.fnd ltK k (.N nk nv s l r) = .N nk nv s l r) := by unfold Hid BT.fnd; rw [if_pos e]
        clear e
        go_wp2
        go_ret
        exact ⟨⟨_, rfl, by rw [← HE.out, HF.out]; exact HU.out⟩, rfl⟩
      · have E1 : (nk.toList == k.toList) = false := by rw [beq_eq_false_iff_ne]; exact fun h => e (of_toList _ _ h)
        have E2 : (nk.toList != k.toList) = true := by simp only [bne, E1]; rfl
        have hhl : l.ht < gk := by have : max l.ht r.ht + 1 ≤ gk := hm; omega
        have hhr : r.ht < gk := by have : max l.ht r.ht + 1 ≤ gk := hm; omega
        have NE : Hid (nk ≠ k) := e
        clear e hm HU c1 c2
        cases hlt : ltK k nk
        · have HF : Hid (BT.fnd ltK k r = BT.fnd ltK k t) := by
            rw [← HE.out]; unfold Hid; conv => rhs; unfold BT.fnd
            rw [if_neg NE.out, hlt, if_neg (by decide)]
          have L1 : Op.bytesLess k.toList nk.toList = false := hlt
          skip
          clear hlt HE
          go_wp2
          go_roundg (gk - 1)
          case measure => omega
          case rel => exact ⟨r, pr, rfl, HR, HF, by omega, rfl⟩
        · have HF : Hid (BT.fnd ltK k l = BT.fnd ltK k t) := by
            rw [← HE.out]; unfold Hid; conv => rhs; unfold BT.fnd
            rw [if_neg NE.out, if_pos hlt]
          have L1 : Op.bytesLess k.toList nk.toList = true := hlt
          skip
          clear hlt HE
          go_wp2
          go_roundg (gk - 1)
          case measure => omega
          case rel => exact ⟨l, pl, rfl, HL, HF, by omega, rfl⟩

end TS
end Go.Proofs.Ytbdnniaajiiimaa
