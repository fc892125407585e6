/- name.Compare and the document's Compare, walked. -/
import Derived.Test.YthlioedahoiahaaRows
import Derived.Test.YthlioedahoiahaaMem
import Derived.Below
import Derived.Lib.Strings
import Derived.Lib.Bytealg
import Derived.Deep.QuietTactic
import Derived.BigQuiet
namespace Go.Proofs.Ythlioedahoiahaa
open Go.RowKit

/-- The order of two texts. -/
def cmpB (a b : ByteArray) : Int := Lib.compareBytes a.data.toList b.data.toList

theorem compareBytes_bd (a b : List UInt8) : -1 ≤ Lib.compareBytes a b ∧ Lib.compareBytes a b ≤ 1 := by
  induction a generalizing b with
  | nil => cases b <;> simp [Lib.compareBytes]
  | cons x a ih =>
    cases b with
    | nil => simp [Lib.compareBytes]
    | cons y b =>
      unfold Lib.compareBytes
      split
      · omega
      · split
        · omega
        · exact ih b
theorem cmpB_bd (a b : ByteArray) : -1 ≤ cmpB a b ∧ cmpB a b ≤ 1 := compareBytes_bd _ _

set_option maxHeartbeats 400000 in
theorem compare_any (a b : ByteArray) (w : World) :
    Calls Try.prog 65 #[.string a, .string b] w fun e w' => e = .returned (.int .i64 (cmpB a b)) ∧ w' = w := by
  have h : ∀ w, (callFunc 82 #[.string a, .string b]).run Try.prog w = .ok (.value (.int .i64 (cmpB a b))) w := fun w => by
    rw [run_callFunc_extern Try.func82 (by kernel_rfl) (by kernel_rfl) (by kernel_rfl) (e := Extern.BytealgCompare.compare) (by kernel_rfl), Lib.run_compareString]
    rfl
  go_enter Try.func65, Try.ntmps65
  go_wp2
  go_ret
  exact ⟨rfl, rfl⟩

theorem drop_bt (a : ByteArray) (k : Nat) (h : k < a.size) : ∃ x : UInt8, (x.toNat : Int) = bt a k ∧ a.data.toList.drop k = x :: a.data.toList.drop (k + 1) := by
  have h' : k < a.data.toList.length := by rw [← Lib.size_eq]; exact h
  refine ⟨a.data.toList[k], ?_, List.drop_eq_getElem_cons h'⟩
  rw [← get_bt a k h]; rfl
theorem drop_end (a : ByteArray) (k : Nat) (h : a.size ≤ k) : a.data.toList.drop k = [] := List.drop_of_length_le (by rw [← Lib.size_eq]; exact h)

set_option maxHeartbeats 1000000 in
theorem rcompare_quiet (a b : ByteArray) (w : World) (ha : a.size ≤ 140737488351232) :
    Calls Try.prog 46 #[.string a, .string b] w fun e w' => e = .returned (.int .i64 (cmpB a b)) ∧ ∃ q, w' = w.drewN q := by
  go_enter Try.func46, Try.ntmps46
  go_wp2
  go_loopw [5] (fun i wr => ∃ k : Nat, k ≤ a.size ∧ k ≤ b.size ∧ i = .int .i64 k ∧ Hid (cmpB a b = Lib.compareBytes (a.data.toList.drop k) (b.data.toList.drop k)) ∧ Hid (∃ q, wr = w.drewN q)) (fun i _ => a.size - (intOf i).toNat)
  case atStart => exact ⟨0, Nat.zero_le _, Nat.zero_le _, rfl, rfl, 0, rfl⟩
  case round =>
    obtain ⟨k, hk1, hk2, rfl, hrel, B⟩ := hrel
    by_cases h1 : k < a.size
    · have E1 : ((k : Int) == (a.size : Int)) = false := by simp; omega
      obtain ⟨x, hx, dx⟩ := drop_bt a k h1
      by_cases h2 : k < b.size
      · have E2 : ((k : Int) == (b.size : Int)) = false := by simp; omega
        obtain ⟨y, hy, dy⟩ := drop_bt b k h2
        have ga := get_bt a
        have gb := get_bt b
        have hr := hrel.out
        rw [dx, dy] at hr
        unfold Lib.compareBytes at hr
        by_cases g1 : bt b k < bt a k
        · have hh : Hid (cmpB a b = 1) := by
            rw [if_neg (by rw [UInt8.lt_iff_toNat_lt]; omega), if_pos (by rw [UInt8.lt_iff_toNat_lt]; omega)] at hr; exact hr
          clear hr dx dy hx hy
          go_wp2
          go_quiet (fail)
          go_wp2
          go_ret
          exact ⟨by rw [hh.out]; rfl, by obtain ⟨q, hw⟩ := B.out; exact ⟨_, by rw [hw, World.drewN_drewN]⟩⟩
        · by_cases g2 : bt a k < bt b k
          · have hh : Hid (cmpB a b = -1) := by
              rw [if_pos (by rw [UInt8.lt_iff_toNat_lt]; omega)] at hr; exact hr
            clear hr dx dy hx hy
            go_wp2
            go_quiet (fail)
            go_wp2
            go_quiet (fail)
            go_wp2
            go_ret
            exact ⟨by rw [hh.out]; rfl, by obtain ⟨q, hw⟩ := B.out; exact ⟨_, by rw [hw, World.drewN_drewN, World.drewN_drewN]⟩⟩
          · have hh : Hid (cmpB a b = Lib.compareBytes (a.data.toList.drop (k + 1)) (b.data.toList.drop (k + 1))) := by
              rw [if_neg (by rw [UInt8.lt_iff_toNat_lt]; omega), if_neg (by rw [UInt8.lt_iff_toNat_lt]; omega)] at hr; exact hr
            clear hr dx dy hx hy
            go_wp2
            go_quiet (fail)
            go_wp2
            go_quiet (fail)
            go_wp2
            go_roundw
            case rel => exact ⟨k + 1, by omega, by omega, by go_num, hh, by obtain ⟨q, hw⟩ := B.out; exact ⟨_, by rw [hw, World.drewN_drewN]⟩⟩
            case measure => simp [intOf]; omega
      · have E2 : ((k : Int) == (b.size : Int)) = true := by simp; omega
        have hh : Hid (cmpB a b = 1) := by
          have hr := hrel.out
          rw [dx, drop_end b k (by omega)] at hr
          exact hr
        clear dx hx
        go_wp2
        go_quiet (fail)
        go_wp2
        go_ret
        exact ⟨by rw [hh.out]; rfl, by obtain ⟨q, hw⟩ := B.out; exact ⟨_, by rw [hw, World.drewN_drewN]⟩⟩
    · have E1 : ((k : Int) == (a.size : Int)) = true := by simp; omega
      by_cases h2 : k < b.size
      · obtain ⟨y, hy, dy⟩ := drop_bt b k h2
        have hh : Hid (cmpB a b = -1) := by
          have hr := hrel.out
          rw [dy, drop_end a k (by omega)] at hr
          exact hr
        clear dy hy
        go_wp2
        go_ret
        exact ⟨by rw [hh.out]; rfl, B.out⟩
      · have hh : Hid (cmpB a b = 0) := by
          have hr := hrel.out
          rw [drop_end a k (by omega), drop_end b k (by omega)] at hr
          exact hr
        go_wp2
        go_ret
        exact ⟨by rw [hh.out]; rfl, B.out⟩

theorem rcompare_any (a b : ByteArray) (w : World) (ha : a.size ≤ 140737488351232) (_hb : b.size ≤ 140737488351232) :
    Calls Try.prog 46 #[.string a, .string b] w fun e w' => e = .returned (.int .i64 (cmpB a b)) ∧ Below w.heap.size w w' :=
  (rcompare_quiet a b w ha).mono fun _ _ ⟨he, n, hn⟩ => ⟨he, hn ▸ bel_drewN (Below.refl _ _) n⟩

end Go.Proofs.Ythlioedahoiahaa
