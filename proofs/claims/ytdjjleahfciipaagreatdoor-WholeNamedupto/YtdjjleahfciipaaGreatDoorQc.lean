/- Gathered: CkA TcA CkB. -/
import Derived.Test.YtdjjleahfciipaaGreatDoorRows
import Derived.Below
import Derived.Lib.Strings
import Derived.Lib.Bytealg
import Derived.Test.YtdjjleahfciipaaGreatDoorQa
import Derived.Test.YtdjjleahfciipaaGreatDoorQb
/- strings.Index and strings.Contains at one byte, name.Check: walked. -/
namespace Go.Proofs.YtdjjleahfciipaaGreatDoor
open Go.RowKit

set_option maxHeartbeats 400000 in
theorem sidx_one (s : ByteArray) (c : UInt8) (w : World) :
    Calls Tryz.prog 143 #[.string s, .string ⟨#[c]⟩] w fun e w' => e = .returned (.int .i64 (Lib.indexByte s.data.toList c)) ∧ w' = w := by
  have h : ∀ w, (callFunc 131 #[.string s, .int .u8 (c.toNat : Int)]).run Tryz.prog w = .ok (.value (.int .i64 (Lib.indexByte s.data.toList c))) w := fun w => by
    rw [run_callFunc_extern Tryz.func131 (by kernel_rfl) (by kernel_rfl) (by kernel_rfl) (e := Extern.BytealgIndexByte.indexByte) (by kernel_rfl), Lib.run_indexByteString]
    rw [Int.toNat_natCast, show c.toNat.toUInt8 = c from UInt8.ofNat_toNat]
    rfl
  have hz : 0 < (ByteArray.mk #[c]).size := by show 0 < 1; decide
  have h' : ∀ w, (callFunc 131 #[.string s, .int .u8 (((ByteArray.mk #[c])[0]'hz).toNat : Int)]).run Tryz.prog w = .ok (.value (.int .i64 (Lib.indexByte s.data.toList c))) w := h
  clear h
  cases h2 : ([c] == s.toList)
  · go_enter Tryz.func143, Tryz.ntmps143
    go_wp2
    go_ret
    exact ⟨rfl, rfl⟩
  · have hh : Hid (Lib.indexByte s.data.toList c = 0) := by
      unfold Hid
      rw [beq_iff_eq, Lib.toList_data] at h2
      rw [← h2]; simp [Lib.indexByte]
    go_enter Tryz.func143, Tryz.ntmps143
    go_wp2
    go_ret
    exact ⟨by rw [hh.out]; rfl, rfl⟩

set_option maxHeartbeats 400000 in
theorem idx_one (s : ByteArray) (c : UInt8) (w : World) :
    Calls Tryz.prog 137 #[.string s, .string ⟨#[c]⟩] w fun e w' => e = .returned (.int .i64 (Lib.indexByte s.data.toList c)) ∧ w' = w := by
  go_enter Tryz.func137, Tryz.ntmps137
  go_wp2_with fail
  refine (sidx_one _ _ _).mono ?_
  rintro e w1 ⟨rfl, rfl⟩
  go_wp2
  go_ret
  exact ⟨rfl, rfl⟩

/-- Does the byte stand in the text? -/
def hasB (s : ByteArray) (c : UInt8) : Bool := decide (0 ≤ Lib.indexByte s.data.toList c)

set_option maxHeartbeats 400000 in
theorem contains_one (s : ByteArray) (c : UInt8) (w : World) :
    Calls Tryz.prog 121 #[.string s, .string ⟨#[c]⟩] w fun e w' => e = .returned (.bool (hasB s c)) ∧ w' = w := by
  have hh : Hid (hasB s c = decide (0 ≤ Lib.indexByte s.data.toList c)) := rfl
  go_enter Tryz.func121, Tryz.ntmps121
  go_wp2_with fail
  refine (idx_one _ _ _).mono ?_
  rintro e w1 ⟨rfl, rfl⟩
  go_wp2
  go_ret
  exact ⟨by rw [hh.out]; rfl, rfl⟩

theorem indexByte_mem (l : List UInt8) (c : UInt8) : 0 ≤ Lib.indexByte l c ↔ c ∈ l := by
  induction l with
  | nil => simp [Lib.indexByte]
  | cons b l ih =>
    have h1 := Lib.indexByte_ge l c
    unfold Lib.indexByte
    by_cases e : b = c
    · simp [e]
    · have e' : ¬ c = b := fun h => e h.symm
      rw [if_neg (by simpa using e)]
      by_cases h : Lib.indexByte l c = -1
      · rw [if_pos (by simpa using h)]
        have : ¬ c ∈ l := fun g => by have := ih.2 g; omega
        simp [e', this]
      · rw [if_neg (by simpa using h)]
        have : c ∈ l := ih.1 (by omega)
        simp [this]; omega

theorem hasB_iff (s : ByteArray) (c : UInt8) : hasB s c = true ↔ ∃ k, k < s.size ∧ bt s k = (c.toNat : Int) := by
  unfold hasB
  rw [decide_eq_true_iff, indexByte_mem, List.mem_iff_getElem]
  constructor
  · rintro ⟨k, hk, e⟩
    rw [← Lib.size_eq] at hk
    refine ⟨k, hk, ?_⟩
    rw [← get_bt s k hk, ← e]; rfl
  · rintro ⟨k, hk, e⟩
    refine ⟨k, by rw [← Lib.size_eq]; exact hk, ?_⟩
    rw [← get_bt s k hk] at e
    have : (s[k]'hk).toNat = c.toNat := by omega
    exact UInt8.toNat_inj.1 this

/-- What name.Check says of a text. -/
def chk (s : ByteArray) : Int :=
  if s.toList.isEmpty = true then 50 else if 255 < s.size then 6 else if (hasB s 47 || hasB s 0) = true then 51 else if (s.toList == [46] || s.toList == [46, 46]) = true then 52 else 0

theorem chk_vals (s : ByteArray) : 0 ≤ chk s ∧ chk s ≤ 52 := by
  unfold chk
  repeat' split
  all_goals omega

set_option maxHeartbeats 400000 in
theorem check_any (s : ByteArray) (w : World) :
    Calls Tryz.prog 96 #[.string s] w fun e w' => e = .returned (.int .i64 (chk s)) ∧ w' = w := by
  have t0 : ByteArray.toList ⟨#[46]⟩ = [46] := by decide +kernel
  have t1 : ByteArray.toList ⟨#[46, 46]⟩ = [46, 46] := by decide +kernel
  cases h1 : s.toList.isEmpty
  · by_cases h2 : 255 < s.size
    · have hh : Hid (chk s = 6) := by unfold Hid chk; rw [h1, if_neg (by decide), if_pos h2]
      go_enter Tryz.func96, Tryz.ntmps96
      go_wp2
      go_ret
      exact ⟨by rw [hh.out]; rfl, rfl⟩
    · cases h3 : hasB s 47
      · cases h4 : hasB s 0
        · have hh : Hid (chk s = if (s.toList == [46] || s.toList == [46, 46]) = true then 52 else 0) := by unfold Hid chk; rw [h1, if_neg (by decide), if_neg h2, h3, h4, if_neg (by decide)]
          have H3 : Hid (hasB s 47 = false) := h3
          have H4 : Hid (hasB s 0 = false) := h4
          clear h3 h4
          cases h5 : (s.toList == [46])
          · cases h6 : (s.toList == [46, 46])
            · rw [h5, h6] at hh
              go_enter Tryz.func96, Tryz.ntmps96
              go_wp2_with fail
              refine (contains_one _ _ _).mono ?_
              rintro e w1 ⟨rfl, rfl⟩
              rw [H3.out]
              go_wp2_with fail
              refine (contains_one _ _ _).mono ?_
              rintro e w1 ⟨rfl, rfl⟩
              rw [H4.out]
              go_wp2
              go_ret
              exact ⟨by rw [hh.out]; rfl, rfl⟩
            · rw [h5, h6] at hh
              go_enter Tryz.func96, Tryz.ntmps96
              go_wp2_with fail
              refine (contains_one _ _ _).mono ?_
              rintro e w1 ⟨rfl, rfl⟩
              rw [H3.out]
              go_wp2_with fail
              refine (contains_one _ _ _).mono ?_
              rintro e w1 ⟨rfl, rfl⟩
              rw [H4.out]
              go_wp2
              go_ret
              exact ⟨by rw [hh.out]; rfl, rfl⟩
          · rw [h5] at hh
            go_enter Tryz.func96, Tryz.ntmps96
            go_wp2_with fail
            refine (contains_one _ _ _).mono ?_
            rintro e w1 ⟨rfl, rfl⟩
            rw [H3.out]
            go_wp2_with fail
            refine (contains_one _ _ _).mono ?_
            rintro e w1 ⟨rfl, rfl⟩
            rw [H4.out]
            go_wp2
            go_ret
            exact ⟨by rw [hh.out]; rfl, rfl⟩
        · have hh : Hid (chk s = 51) := by unfold Hid chk; rw [h1, if_neg (by decide), if_neg h2, h3, h4, if_pos (show (false || true) = true from rfl)]
          have H3 : Hid (hasB s 47 = false) := h3
          have H4 : Hid (hasB s 0 = true) := h4
          clear h3 h4
          go_enter Tryz.func96, Tryz.ntmps96
          go_wp2_with fail
          refine (contains_one _ _ _).mono ?_
          rintro e w1 ⟨rfl, rfl⟩
          rw [H3.out]
          go_wp2_with fail
          refine (contains_one _ _ _).mono ?_
          rintro e w1 ⟨rfl, rfl⟩
          rw [H4.out]
          go_wp2
          go_ret
          exact ⟨by rw [hh.out]; rfl, rfl⟩
      · have hh : Hid (chk s = 51) := by unfold Hid chk; rw [h1, if_neg (by decide), if_neg h2, h3, if_pos (show (true || hasB s 0) = true from rfl)]
        have H3 : Hid (hasB s 47 = true) := h3
        clear h3
        go_enter Tryz.func96, Tryz.ntmps96
        go_wp2_with fail
        refine (contains_one _ _ _).mono ?_
        rintro e w1 ⟨rfl, rfl⟩
        rw [H3.out]
        go_wp2
        go_ret
        exact ⟨by rw [hh.out]; rfl, rfl⟩
  · have hh : Hid (chk s = 50) := by unfold Hid chk; rw [h1, if_pos rfl]
    go_enter Tryz.func96, Tryz.ntmps96
    go_wp2
    go_ret
    exact ⟨by rw [hh.out]; rfl, rfl⟩

end Go.Proofs.YtdjjleahfciipaaGreatDoor
/- The bytes of framed words, on both sides. -/
namespace Go.Proofs.YtdjjleahfciipaaGreatDoor
open Go.RowKit

theorem fr_bd (n : Nat) : 0 ≤ fr n ∧ fr n ≤ 1099511627792 := by
  unfold fr
  split
  · omega
  · have : padN (n : Int).toNat < 8 := by unfold padN; omega
    omega
/-- The bytes of words that are framed one behind the other. -/
def frS : List ByteArray → Int
  | [] => 0
  | s :: l => fr s.size + frS l
theorem frS_bd (l : List ByteArray) : 0 ≤ frS l ∧ frS l ≤ 1099511627792 * l.length := by
  induction l with
  | nil => exact ⟨Int.le_refl _, Int.le_refl _⟩
  | cons s l ih =>
    have := fr_bd s.size
    rw [frS, List.length_cons]
    push_cast
    omega
theorem frS_snoc (l : List ByteArray) (s : ByteArray) : frS (l ++ [s]) = frS l + fr s.size := by
  induction l with
  | nil => show fr s.size + 0 = 0 + fr s.size; omega
  | cons a l ih => rw [List.cons_append, frS, frS, ih]; omega
/-- Texts in a row. -/
def StrL (w : World) (x : Option Addr) (l : List ByteArray) : Prop := ∀ k (h : k < l.length), ∃ g o, x = some ⟨g, o, none⟩ ∧ g < w.heap.size ∧ w.cell? ⟨g, o + k, none⟩ = some (.string l[k])
theorem StrL.lit (w : World) (C : Array Value) (T : TypeId) (l : List ByteArray) (h : C.toList = l.map Value.string) : StrL (w.alloc (.cells C T)) (some ⟨w.heap.size, 0, none⟩) l := fun k hk => by
  refine ⟨w.heap.size, 0, rfl, by rw [World.size_alloc]; omega, ?_⟩
  rw [Nat.zero_add, World.cell?_alloc_new, ← Array.getElem?_toList, h, List.getElem?_map, List.getElem?_eq_getElem hk]
  rfl

set_option maxHeartbeats 800000 in
theorem tframed_any (x : Option Addr) (c : Nat) (l : List ByteArray) (w : World) (hX : StrL w x l) (hl : l.length ≤ 8) (hs : ∀ s ∈ l, s.size ≤ 140737488351232) :
    Calls Tryz.prog 42 #[.slice x l.length c] w fun e w' => e = .returned (.int .i64 (frS l)) ∧ w' = w := by
  have HX : Hid (StrL w x l) := hX
  have HS : Hid (∀ s ∈ l, s.size ≤ 140737488351232) := hs
  clear hX hs
  go_enter Tryz.func42, Tryz.ntmps42
  go_wp2
  go_loopw [3, 5, 8] (fun v3 _ ix wr => ∃ k : Nat, k ≤ l.length ∧ ix = .int .i64 k ∧ v3 = .int .i64 (frS (l.take k)) ∧ wr = w) (fun _ _ i _ => l.length - (intOf i).toNat)
  case atStart => exact ⟨0, Nat.zero_le _, rfl, rfl, rfl⟩
  case round =>
    obtain ⟨k, hk, rfl, rfl, rfl⟩ := hrel
    by_cases hlt : k < l.length
    · obtain ⟨g, o, rfl, hg, c0⟩ := HX.out k hlt
      have hsz := HS.out _ (List.getElem_mem hlt)
      have HT : Hid (frS (l.take (k + 1)) = frS (l.take k) + fr (l[k]).size) := by unfold Hid; rw [List.take_succ_eq_append_getElem hlt, frS_snoc]
      have hb := frS_bd (l.take k)
      rw [List.length_take] at hb
      have hb2 := fr_bd (l[k]).size
      generalize frS (l.take k) = S at *
      generalize l[k] = s at *
      have FC := fun w => framed_any (s.size : Int) w (by omega) (by omega)
      generalize fr (s.size : Int) = F at *
      go_wp2_with fail
      refine (FC _).mono ?_
      rintro e w1 ⟨rfl, rfl⟩
      clear FC
      have hSF : S + F ≤ 9223372036854775807 := by omega
      go_wp2
      go_roundw
      case rel => exact ⟨k + 1, by omega, by go_num, by rw [HT.out], by first | rfl | trivial⟩
      case measure => simp [intOf]; omega
    · obtain rfl : k = l.length := by omega
      rw [List.take_length]
      go_wp2
      go_ret
      exact ⟨rfl, rfl⟩

end Go.Proofs.YtdjjleahfciipaaGreatDoor
/- The document's Check, walked. -/
namespace Go.Proofs.YtdjjleahfciipaaGreatDoor
open Go.RowKit

/-- How many of the first bytes are dots. -/
def dots (s : ByteArray) : Nat → Nat
  | 0 => 0
  | k + 1 => dots s k + (if bt s k = 46 then 1 else 0)
theorem dots_le (s : ByteArray) (k : Nat) : dots s k ≤ k := by
  induction k with
  | zero => exact Nat.le_refl _
  | succ k ih => unfold dots; split <;> omega
theorem dots_all (s : ByteArray) (k : Nat) (h : dots s k = k) : ∀ j, j < k → bt s j = 46 := by
  induction k with
  | zero => intro j hj; omega
  | succ k ih =>
    unfold dots at h
    have := dots_le s k
    split at h
    · rename_i e
      intro j hj
      by_cases hjk : j = k
      · rw [hjk]; exact e
      · exact ih (by omega) j (by omega)
    · omega
theorem toList_dot : ByteArray.toList ⟨#[46]⟩ = [46] := by decide +kernel
theorem toList_dots : ByteArray.toList ⟨#[46, 46]⟩ = [46, 46] := by decide +kernel
theorem dots_ex1 : dots ⟨#[46]⟩ 1 = 1 := by decide +kernel
theorem dots_ex2 : dots ⟨#[46, 46]⟩ 2 = 2 := by decide +kernel
theorem bt_ex1 : bt ⟨#[46]⟩ 0 = 46 := by decide +kernel
theorem bt_ex2 : bt ⟨#[46, 46]⟩ 0 = 46 ∧ bt ⟨#[46, 46]⟩ 1 = 46 := by decide +kernel
theorem of_toList (s t : ByteArray) (h : s.toList = t.toList) : s = t := by
  rw [Lib.toList_data, Lib.toList_data] at h
  rw [← Lib.mk_data s, ← Lib.mk_data t, h]
theorem dots_is (s : ByteArray) (h0 : s.size ≠ 0) : (s.toList == [46] || s.toList == [46, 46]) = decide (dots s s.size = s.size ∧ dots s s.size ≤ 2) := by
  rw [Bool.eq_iff_iff, Bool.or_eq_true, beq_iff_eq, beq_iff_eq, decide_eq_true_iff]
  constructor
  · rintro (h | h)
    · rw [← toList_dot] at h
      obtain rfl := of_toList _ _ h
      exact ⟨dots_ex1, by show dots ⟨#[46]⟩ 1 ≤ 2; rw [dots_ex1]; decide⟩
    · rw [← toList_dots] at h
      obtain rfl := of_toList _ _ h
      exact ⟨dots_ex2, by show dots ⟨#[46, 46]⟩ 2 ≤ 2; rw [dots_ex2]; decide⟩
  · rintro ⟨h1, h2⟩
    have ha := dots_all s s.size h1
    rw [h1] at h2
    by_cases h : s.size = 1
    · left
      rw [← toList_dot]
      congr 1
      apply bytes_ext
      · exact h
      · intro k hk
        obtain rfl : k = 0 := by omega
        rw [ha 0 (by omega), bt_ex1]
    · right
      have h : s.size = 2 := by omega
      rw [← toList_dots]
      congr 1
      apply bytes_ext
      · exact h
      · intro k hk
        rw [ha k hk]
        have : k = 0 ∨ k = 1 := by omega
        rcases this with rfl | rfl
        · exact bt_ex2.1.symm
        · exact bt_ex2.2.symm

theorem data_nil (s : ByteArray) (h : s.size = 0) : s.data.toList = [] := List.eq_nil_of_length_eq_zero (by rw [← Lib.size_eq]; exact h)
theorem empty_size (s : ByteArray) (h : s.toList.isEmpty = false) : s.size ≠ 0 := by
  intro e
  rw [Lib.toList_data, data_nil s e] at h
  cases h
theorem size_empty (s : ByteArray) (h : s.size ≠ 0) : s.toList.isEmpty = false := by
  rw [Lib.toList_data]
  cases e : s.data.toList with
  | nil => rw [Lib.size_eq, e] at h; simp at h
  | cons _ _ => rfl

end Go.Proofs.YtdjjleahfciipaaGreatDoor
