/- strings.Index and strings.Contains at one byte, name.Check: walked. -/
import Derived.Test.YtljcbibcdajhiaaRows
import Derived.Test.YtljcbibcdajhiaaMem
import Derived.Below
import Derived.Lib.Strings
import Derived.Lib.Bytealg
namespace Go.Proofs.Ytljcbibcdajhiaa
open Go.RowKit

set_option maxHeartbeats 400000 in
theorem sidx_one (s : ByteArray) (c : UInt8) (w : World) :
    Calls Try.prog 73 #[.string s, .string ⟨#[c]⟩] w fun e w' => e = .returned (.int .i64 (Lib.indexByte s.data.toList c)) ∧ w' = w := by
  have h : ∀ w, (callFunc 79 #[.string s, .int .u8 (c.toNat : Int)]).run Try.prog w = .ok (.value (.int .i64 (Lib.indexByte s.data.toList c))) w := fun w => by
    rw [run_callFunc_extern Try.func79 (by kernel_rfl) (by kernel_rfl) (by kernel_rfl) (e := Extern.BytealgIndexByte.indexByte) (by kernel_rfl), Lib.run_indexByteString]
    rw [Int.toNat_natCast, show c.toNat.toUInt8 = c from UInt8.ofNat_toNat]
    rfl
  have hz : 0 < (ByteArray.mk #[c]).size := by show 0 < 1; decide
  have h' : ∀ w, (callFunc 79 #[.string s, .int .u8 (((ByteArray.mk #[c])[0]'hz).toNat : Int)]).run Try.prog w = .ok (.value (.int .i64 (Lib.indexByte s.data.toList c))) w := h
  clear h
  cases h2 : ([c] == s.toList)
  · go_enter Try.func73, Try.ntmps73
    go_wp2
    go_ret
    exact ⟨rfl, rfl⟩
  · have hh : Hid (Lib.indexByte s.data.toList c = 0) := by
      unfold Hid
      rw [beq_iff_eq, Lib.toList_data] at h2
      rw [← h2]; simp [Lib.indexByte]
    go_enter Try.func73, Try.ntmps73
    go_wp2
    go_ret
    exact ⟨by rw [hh.out]; rfl, rfl⟩

set_option maxHeartbeats 400000 in
theorem idx_one (s : ByteArray) (c : UInt8) (w : World) :
    Calls Try.prog 70 #[.string s, .string ⟨#[c]⟩] w fun e w' => e = .returned (.int .i64 (Lib.indexByte s.data.toList c)) ∧ w' = w := by
  go_enter Try.func70, Try.ntmps70
  go_wp2_with fail
  refine (sidx_one _ _ _).mono ?_
  rintro e w1 ⟨rfl, rfl⟩
  go_wp2
  go_ret
  exact ⟨rfl, rfl⟩

/-- Does the byte stand in the text? -/
def hasB (s : ByteArray) (c : UInt8) : Bool := decide (0 ≤ Lib.indexByte s.data.toList c)

set_option maxHeartbeats 400000 in
theorem contains_one (s : ByteArray) (c : UInt8) (w : World) :
    Calls Try.prog 64 #[.string s, .string ⟨#[c]⟩] w fun e w' => e = .returned (.bool (hasB s c)) ∧ w' = w := by
  have hh : Hid (hasB s c = decide (0 ≤ Lib.indexByte s.data.toList c)) := rfl
  go_enter Try.func64, Try.ntmps64
  go_wp2_with fail
  refine (idx_one _ _ _).mono ?_
  rintro e w1 ⟨rfl, rfl⟩
  go_wp2
  go_ret
  exact ⟨by rw [hh.out]; rfl, rfl⟩

theorem indexByte_mem (l : List UInt8) (c : UInt8) : 0 ≤ Lib.indexByte l c ↔ c ∈ l := by
  induction l with
  | nil => simp [Lib.indexByte]
  | cons b l ih =>
    have h1 := Lib.indexByte_ge l c
    unfold Lib.indexByte
    by_cases e : b = c
    · simp [e]
    · have e' : ¬ c = b := fun h => e h.symm
      rw [if_neg (by simpa using e)]
      by_cases h : Lib.indexByte l c = -1
      · rw [if_pos (by simpa using h)]
        have : ¬ c ∈ l := fun g => by have := ih.2 g; omega
        simp [e', this]
      · rw [if_neg (by simpa using h)]
        have : c ∈ l := ih.1 (by omega)
        simp [this]; omega

theorem hasB_iff (s : ByteArray) (c : UInt8) : hasB s c = true ↔ ∃ k, k < s.size ∧ bt s k = (c.toNat : Int) := by
  unfold hasB
  rw [decide_eq_true_iff, indexByte_mem, List.mem_iff_getElem]
  constructor
  · rintro ⟨k, hk, e⟩
    rw [← Lib.size_eq] at hk
    refine ⟨k, hk, ?_⟩
    rw [← get_bt s k hk, ← e]; rfl
  · rintro ⟨k, hk, e⟩
    refine ⟨k, by rw [← Lib.size_eq]; exact hk, ?_⟩
    rw [← get_bt s k hk] at e
    have : (s[k]'hk).toNat = c.toNat := by omega
    exact UInt8.toNat_inj.1 this

/-- What name.Check says of a text. -/
def chk (s : ByteArray) : Int :=
  if s.toList.isEmpty = true then 50 else if 255 < s.size then 6 else if (hasB s 47 || hasB s 0) = true then 51 else if (s.toList == [46] || s.toList == [46, 46]) = true then 52 else 0

theorem chk_vals (s : ByteArray) : 0 ≤ chk s ∧ chk s ≤ 52 := by
  unfold chk
  repeat' split
  all_goals omega

set_option maxHeartbeats 400000 in
theorem check_any (s : ByteArray) (w : World) :
    Calls Try.prog 57 #[.string s] w fun e w' => e = .returned (.int .i64 (chk s)) ∧ w' = w := by
  have t0 : ByteArray.toList ⟨#[46]⟩ = [46] := by decide +kernel
  have t1 : ByteArray.toList ⟨#[46, 46]⟩ = [46, 46] := by decide +kernel
  cases h1 : s.toList.isEmpty
  · by_cases h2 : 255 < s.size
    · have hh : Hid (chk s = 6) := by unfold Hid chk; rw [h1, if_neg (by decide), if_pos h2]
      go_enter Try.func57, Try.ntmps57
      go_wp2
      go_ret
      exact ⟨by rw [hh.out]; rfl, rfl⟩
    · cases h3 : hasB s 47
      · cases h4 : hasB s 0
        · have hh : Hid (chk s = if (s.toList == [46] || s.toList == [46, 46]) = true then 52 else 0) := by unfold Hid chk; rw [h1, if_neg (by decide), if_neg h2, h3, h4, if_neg (by decide)]
          have H3 : Hid (hasB s 47 = false) := h3
          have H4 : Hid (hasB s 0 = false) := h4
          clear h3 h4
          cases h5 : (s.toList == [46])
          · cases h6 : (s.toList == [46, 46])
            · rw [h5, h6] at hh
              go_enter Try.func57, Try.ntmps57
              go_wp2_with fail
              refine (contains_one _ _ _).mono ?_
              rintro e w1 ⟨rfl, rfl⟩
              rw [H3.out]
              go_wp2_with fail
              refine (contains_one _ _ _).mono ?_
              rintro e w1 ⟨rfl, rfl⟩
              rw [H4.out]
              go_wp2
              go_ret
              exact ⟨by rw [hh.out]; rfl, rfl⟩
            · rw [h5, h6] at hh
              go_enter Try.func57, Try.ntmps57
              go_wp2_with fail
              refine (contains_one _ _ _).mono ?_
              rintro e w1 ⟨rfl, rfl⟩
              rw [H3.out]
              go_wp2_with fail
              refine (contains_one _ _ _).mono ?_
              rintro e w1 ⟨rfl, rfl⟩
              rw [H4.out]
              go_wp2
              go_ret
              exact ⟨by rw [hh.out]; rfl, rfl⟩
          · rw [h5] at hh
            go_enter Try.func57, Try.ntmps57
            go_wp2_with fail
            refine (contains_one _ _ _).mono ?_
            rintro e w1 ⟨rfl, rfl⟩
            rw [H3.out]
            go_wp2_with fail
            refine (contains_one _ _ _).mono ?_
            rintro e w1 ⟨rfl, rfl⟩
            rw [H4.out]
            go_wp2
            go_ret
            exact ⟨by rw [hh.out]; rfl, rfl⟩
        · have hh : Hid (chk s = 51) := by unfold Hid chk; rw [h1, if_neg (by decide), if_neg h2, h3, h4, if_pos (show (false || true) = true from rfl)]
          have H3 : Hid (hasB s 47 = false) := h3
          have H4 : Hid (hasB s 0 = true) := h4
          clear h3 h4
          go_enter Try.func57, Try.ntmps57
          go_wp2_with fail
          refine (contains_one _ _ _).mono ?_
          rintro e w1 ⟨rfl, rfl⟩
          rw [H3.out]
          go_wp2_with fail
          refine (contains_one _ _ _).mono ?_
          rintro e w1 ⟨rfl, rfl⟩
          rw [H4.out]
          go_wp2
          go_ret
          exact ⟨by rw [hh.out]; rfl, rfl⟩
      · have hh : Hid (chk s = 51) := by unfold Hid chk; rw [h1, if_neg (by decide), if_neg h2, h3, if_pos (show (true || hasB s 0) = true from rfl)]
        have H3 : Hid (hasB s 47 = true) := h3
        clear h3
        go_enter Try.func57, Try.ntmps57
        go_wp2_with fail
        refine (contains_one _ _ _).mono ?_
        rintro e w1 ⟨rfl, rfl⟩
        rw [H3.out]
        go_wp2
        go_ret
        exact ⟨by rw [hh.out]; rfl, rfl⟩
  · have hh : Hid (chk s = 50) := by unfold Hid chk; rw [h1, if_pos rfl]
    go_enter Try.func57, Try.ntmps57
    go_wp2
    go_ret
    exact ⟨by rw [hh.out]; rfl, rfl⟩

end Go.Proofs.Ytljcbibcdajhiaa
