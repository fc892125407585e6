/- strings.Cut at one byte; info.digestOf, SplitSign, CheckSign. -/
import Derived.Test.YtjhbfkckkinfjaaDoorInP
import Derived.Test.YtjhbfkckkinfjaaDoorShaM
import Derived.Lib.LazyBuf
namespace Go.Proofs.YtjhbfkckkinfjaaDoor
open Go.RowKit

theorem bytes_toList_inj {a b : ByteArray} (h : a.toList = b.toList) : a = b := by
  rw [Lib.toList_data, Lib.toList_data] at h
  apply ByteArray.ext; exact Array.toList_inj.1 h
theorem size5 : (Tryd.prog.info? 5).map (·.size) = some 1 := by kernel_rfl
theorem szD32 : (Tryd.prog.info? 23).map (·.size) = some 32 := by kernel_rfl

set_option maxHeartbeats 400000 in
theorem sib_any (s : ByteArray) (c : Int) (w : World) :
    Calls Tryd.prog 60 #[.string s, .int .u8 c] w fun e w' => e = .returned (.int .i64 (Lib.indexByte s.data.toList c.toNat.toUInt8)) ∧ w' = w := by
  have h : ∀ w, (callFunc 73 #[.string s, .int .u8 c]).run Tryd.prog w = .ok (.value (.int .i64 (Lib.indexByte s.data.toList c.toNat.toUInt8))) w := fun w => by
    rw [run_callFunc_extern Tryd.func73 (by kernel_rfl) (by kernel_rfl) (by kernel_rfl) (e := Extern.BytealgIndexByte.indexByte) (by kernel_rfl), Lib.run_indexByteString]
    rfl
  go_enter Tryd.func60, Tryd.ntmps60
  go_wp2
  go_ret
  exact ⟨rfl, rfl⟩

set_option maxHeartbeats 1000000 in
set_option maxRecDepth 100000 in
theorem sidx_any (s q : ByteArray) (c : Int) (w : World) (hq : q.size = 1) (hc : bt q 0 = c) :
    Calls Tryd.prog 47 #[.string s, .string q] w fun e w' => e = .returned (.int .i64 (ixI s c)) ∧ w' = w := by
  have hb := get_bt q
  have hbd := bt_bd q 0
  rw [hc] at hbd
  have HC : Hid (bt q 0 = c) := hc
  cases he : (q.toList == s.toList)
  · have hI : Hid (ixI s c = Lib.indexByte s.data.toList c.toNat.toUInt8) := (ib_fst s c hbd.1 hbd.2).symm
    clear hbd
    go_enter Tryd.func47, Tryd.ntmps47
    go_wp2_with fail
    refine (sib_any _ _ _).mono ?_
    rintro e w1 ⟨rfl, rfl⟩
    go_wp2
    try rw [Exit.noGoto_ret]
    go_ret
    exact ⟨by rw [hI.out]; try rfl, rfl⟩
  · have e1 : q = s := by
      have := eq_of_beq he
      exact bytes_toList_inj this
    have hI : Hid (ixI s c = 0) := by
      unfold Hid
      have h0 : fst s c = 0 := fst_uniq (Nat.zero_le _) (fun j hj => absurd hj (by omega)) (Or.inr (by rw [← e1]; exact hc))
      rw [ixI_yes (by rw [h0, ← e1, hq]; omega), h0]
      rfl
    clear hbd e1
    go_enter Tryd.func47, Tryd.ntmps47
    go_wp2
    try rw [Exit.noGoto_ret]
    go_ret
    exact ⟨by rw [hI.out]; try rfl, rfl⟩

/-- What strings.Cut answers. -/
def ctA (s : ByteArray) (c : Int) : ByteArray := if fst s c < s.size then s.extract 0 (fst s c) else s
def ctB (s : ByteArray) (c : Int) : ByteArray := if fst s c < s.size then s.extract (fst s c + 1) s.size else ⟨#[]⟩
def ctF (s : ByteArray) (c : Int) : Bool := decide (fst s c < s.size)

set_option maxHeartbeats 1000000 in
theorem scut_any (s q : ByteArray) (c : Int) (w : World) (hq : q.size = 1) (hc : bt q 0 = c) (hs : s.size ≤ 140737488351232) :
    Calls Tryd.prog 33 #[.string s, .string q] w fun e w' => e = .returned (.tuple #[.string (ctA s c), .string (ctB s c), .bool (ctF s c)]) ∧ Below w.heap.size w w' := by
  have C := sidx_any s q c w hq hc
  unfold ctA ctB ctF
  by_cases h : fst s c < s.size
  · rw [ixI_yes h] at C
    rw [if_pos h, if_pos h, decide_eq_true h]
    generalize fst s c = m at C h
    clear hc
    have k1 : m ≤ s.size := by omega
    have k2 : m + 1 ≤ s.size := by omega
    have k3 : (m : Int) + 1 ≤ (s.size : Int) := by omega
    have k4 : ¬ (m : Int) + 1 < 0 := by omega
    have k5 : ((m : Int) + 1).toNat = m + 1 := by omega
    have k6 : IntKind.i64.wrap ((m : Int) + 1) = (m : Int) + 1 := by rw [IntKind.wrap_i64]; omega
    have k7 : (0 : Int) ≤ (m : Int) + 1 := by omega
    go_enter Tryd.func33, Tryd.ntmps33
    go_wp2_with fail
    refine C.mono ?_
    rintro e w1 ⟨rfl, rfl⟩
    go_wp2
    go_region
    go_wp2
    go_ret3
    exact ⟨rfl, (Below.refl _ _).drew⟩
  · rw [ixI_no h] at C
    rw [if_neg h, if_neg h, decide_eq_false h]
    clear hc h
    go_enter Tryd.func33, Tryd.ntmps33
    go_wp2_with fail
    refine C.mono ?_
    rintro e w1 ⟨rfl, rfl⟩
    go_wp2
    go_ret3
    exact ⟨rfl, Below.refl _ _⟩

set_option maxHeartbeats 400000 in
theorem cut_any (s q : ByteArray) (c : Int) (w : World) (hq : q.size = 1) (hc : bt q 0 = c) (hs : s.size ≤ 140737488351232) :
    Calls Tryd.prog 21 #[.string s, .string q] w fun e w' => e = .returned (.tuple #[.string (ctA s c), .string (ctB s c), .bool (ctF s c)]) ∧ Below w.heap.size w w' := by
  have C := scut_any s q c w hq hc hs
  generalize ctA s c = a at C
  generalize ctB s c = b at C
  generalize ctF s c = f at C
  clear hc hq
  go_enter Tryd.func21, Tryd.ntmps21
  go_wp2_with fail
  refine C.mono ?_
  rintro e w1 ⟨rfl, B⟩
  go_wp2
  go_ret3
  exact ⟨rfl, B⟩

end Go.Proofs.YtjhbfkckkinfjaaDoor
